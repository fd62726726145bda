import Derived.Test.YtekkkoipcghlmaaGreatDoorJ04
import Derived.Test.YtekkkoipcghlmaaGreatDoorJ12
import Derived.Test.YtekkkoipcghlmaaGreatDoorJ01
import Derived.Lib.Bytealg
import Derived.RangeFuncNested
import Derived.RangeFuncWrites
namespace Go.Proofs.YtekkkoipcghlmaaGreatDoor
open Go.RowKit

theorem lies_made {w : World} {vs : List Value} {t : TypeId} {cap : Nat} (h : 0 < vs.length) : Lies (w.alloc (.cells vs.toArray t)) (.slice (some ⟨w.heap.size, 0, none⟩) vs.length cap) vs := by
  refine .inr ⟨w.heap.size, 0, cap, h, rfl, by simp, fun k x hx => ?_⟩
  rw [Nat.zero_add, World.cell?_alloc_at _ _ _ _ rfl]
  simpa using hx

/-- A line's text: its inner part, and the newline if it is ended. -/
def lineOf (x : List UInt8) (e : Bool) : List UInt8 := if e then x ++ [10] else x

theorem line_cut (x : List UInt8) (e : Bool) (h : e = false → x.getLast? ≠ some 10) : Lib.trimSuffix (lineOf x e) [10] = x ∧ Lib.hasSuffix (lineOf x e) [10] = e := by
  have hs : Lib.hasSuffix (lineOf x e) [10] = e := by
    unfold Lib.hasSuffix lineOf
    cases e
    · rw [if_neg (by simp)]
      rw [Bool.eq_false_iff]
      intro hh
      rw [List.isSuffixOf_iff_suffix] at hh
      obtain ⟨t, ht⟩ := hh
      apply h rfl
      rw [← ht]; simp
    · rw [if_pos rfl, List.isSuffixOf_iff_suffix]
      exact ⟨x, rfl⟩
  refine ⟨?_, hs⟩
  unfold Lib.trimSuffix
  rw [hs]
  cases e
  · simp [lineOf]
  · simp [lineOf]

set_option maxRecDepth 100000 in
set_option maxHeartbeats 400000 in
theorem wordsGo_any (x : List UInt8) (en : Bool) (w : World) (hx : x.length ≤ 6000) (h : en = false → x.getLast? ≠ some 10) (he : Env w) :
    Calls Tryz.prog 134 #[.string (bs (lineOf x en))] w fun e w' => ∃ v, e = .returned (.tuple #[v, .bool en]) ∧ Lies w' v (strs (Sp.words x)) ∧ Below w.heap.size w w' := by
  have hll : (lineOf x en).length ≤ 6001 := by unfold lineOf; cases en <;> simp <;> omega
  have HC := hide (Tryz.strings_CutSuffix (bs (lineOf x en)) ⟨#[10]⟩ w (by rw [bs_size]; omega))
  have hd : (bs (lineOf x en)).data.toList = lineOf x en := bs_data _
  have hcut := line_cut x en h
  rw [hd] at HC
  have e1 : (ByteArray.mk #[10]).data.toList = [10] := rfl
  rw [e1, hcut.1, hcut.2] at HC
  clear e1 hcut hd
  have HC : Hid (Calls Tryz.prog 174 #[.string (bs (lineOf x en)), .string ⟨#[10]⟩] w fun e w' => e = .returned (.tuple #[.string (bs x), .bool en]) ∧ w' = w) := HC
  obtain ⟨m, hm⟩ := he.len.2
  generalize bs (lineOf x en) = line at *
  by_cases hne : x = []
  · have hemp : (bs x).toList.isEmpty = true := by rw [bs_toList, hne]; rfl
    have HN := hide hne
    clear hne
    go_enter Tryz.func134, Tryz.ntmps134
    go_wp2_with fail
    refine (unhide HC).mono ?_
    rintro e w1 ⟨rfl, rfl⟩
    go_wp2
    go_ret2
    exact ⟨_, rfl, by rw [unhide HN]; exact Lies.nil _, Below.refl _ _⟩
  · have hemp : (bs x).toList.isEmpty = false := bs_nonempty hne
    have HN := hide hne
    clear hne
    have HS := hide (Tryz.strings_Split (bs x) ⟨#[32]⟩ m w (by rw [bs_size]; omega) hm (by decide))
    go_enter Tryz.func134, Tryz.ntmps134
    go_wp2_with fail
    refine (unhide HC).mono ?_
    rintro e w1 ⟨rfl, rfl⟩
    go_wp2_with fail
    refine (unhide HS).mono ?_
    rintro e w2 ⟨rfl, rfl⟩
    go_wp2
    go_ret2
    have hsp : Lib.splitB ⟨#[32]⟩ 0 (Lib.countB (bs x) ⟨#[32]⟩) (bs x) = (Sp.wordsAux [] x).map bs := split_bs x.length x (Nat.le_refl _)
    have hln := Lib.splitB_all (bs [32]) (by rw [bs_size]; simp) 0 (Lib.countB (bs x) (bs [32])) (bs x) rfl
    have hw : Sp.words x = Sp.wordsAux [] x := by unfold Sp.words; rw [if_neg (unhide HN)]
    refine ⟨_, rfl, ?_, (Below.refl _ _).alloc (Nat.le_refl _) _⟩
    rw [hsp, hw]
    have hc : Lib.countB (bs x) (bs [32]) + 1 = (strs (Sp.wordsAux [] x)).length := by
      have := hln.symm
      rw [split_bs x.length x (Nat.le_refl _)] at this
      simpa [strs] using this
    rw [List.map_map]
    show Lies _ (.slice (some ⟨_, 0, none⟩) (Lib.countB (bs x) (bs [32]) + 1) _) _
    rw [hc]
    exact lies_made (vs := strs (Sp.wordsAux [] x)) (by omega)

end Go.Proofs.YtekkkoipcghlmaaGreatDoor

namespace Go.Proofs.YtekkkoipcghlmaaGreatDoor.Sp

/-- The lines of a text, each with whether it is ended. -/
def segsAux (cur : List UInt8) : List UInt8 → List (List UInt8 × Bool)
  | [] => if cur = [] then [] else [(cur, false)]
  | c :: r => if c = 10 then (cur, true) :: segsAux [] r else segsAux (cur ++ [c]) r
def segs (s : List UInt8) : List (List UInt8 × Bool) := segsAux [] s

def scanSegs : Nat → List (List UInt8 × Bool) → Option Nat
  | _, [] => none
  | n, x :: r => if !okLine x.1 || !x.2 then some (n + 1) else scanSegs (n + 1) r

theorem segsAux_lines (r : List UInt8) : ∀ cur, (segsAux cur r).map Prod.fst = linesAux cur r := by
  induction r with
  | nil => intro cur; unfold segsAux linesAux; split <;> rfl
  | cons c r ih =>
    intro cur
    unfold segsAux linesAux
    split
    · rw [List.map_cons, ih]
    · exact ih _

theorem lines_nil (r : List UInt8) : ∀ cur, linesAux cur r = [] → endAux cur r = true := by
  induction r with
  | nil => intro cur h; unfold linesAux at h; split at h
           · rename_i hc; subst hc; rfl
           · cases h
  | cons c r ih =>
    intro cur h
    unfold linesAux at h
    unfold endAux
    split at h
    · cases h
    · rename_i hc; rw [if_neg hc]; exact ih _ h

theorem scan_segs (r : List UInt8) : ∀ (cur : List UInt8) (n : Nat), scanSegs n (segsAux cur r) = scan (endAux cur r) n (linesAux cur r) := by
  induction r with
  | nil =>
    intro cur n
    unfold segsAux linesAux endAux
    by_cases hc : cur = []
    · simp [hc, scanSegs, scan]
    · have : cur.isEmpty = false := by simpa using hc
      simp [hc, scanSegs, scan, this]
  | cons c r ih =>
    intro cur n
    unfold segsAux linesAux endAux
    by_cases hc : c = 10
    · rw [if_pos hc, if_pos hc, if_pos hc]
      unfold scanSegs scan
      rw [ih]
      have : (!endAux [] r && (linesAux [] r).isEmpty) = false := by
        cases he : (linesAux [] r).isEmpty
        · simp
        · rw [lines_nil r [] (by simpa using he)]; rfl
      rw [this]
      simp
    · rw [if_neg hc, if_neg hc, if_neg hc]; exact ih _ n

theorem segsAux_no (r : List UInt8) : ∀ cur, (10 : UInt8) ∉ cur → ∀ x, x ∈ segsAux cur r → (10 : UInt8) ∉ x.1 := by
  induction r with
  | nil =>
    intro cur h x hx
    unfold segsAux at hx
    split at hx
    · cases hx
    · simp at hx; subst hx; exact h
  | cons c r ih =>
    intro cur h x hx
    unfold segsAux at hx
    split at hx
    · rcases List.mem_cons.1 hx with rfl | hx
      · exact h
      · exact ih [] (by simp) x hx
    · rename_i hc
      exact ih _ (by simp [h]; exact fun h' => hc h'.symm) x hx

theorem segsAux_len (r : List UInt8) : ∀ cur x, x ∈ segsAux cur r → x.1.length ≤ cur.length + r.length := by
  induction r with
  | nil =>
    intro cur x hx
    unfold segsAux at hx
    split at hx
    · cases hx
    · simp at hx; subst hx; simp
  | cons c r ih =>
    intro cur x hx
    unfold segsAux at hx
    split at hx
    · rcases List.mem_cons.1 hx with rfl | hx
      · simp
      · have := ih [] x hx; simp at this ⊢; omega
    · have := ih _ x hx; simp at this ⊢; omega
theorem segsAux_count (r : List UInt8) : ∀ cur, (segsAux cur r).length ≤ r.length + 1 := by
  induction r with
  | nil => intro cur; unfold segsAux; split <;> simp
  | cons c r ih =>
    intro cur
    unfold segsAux
    split
    · have := ih []; simp; omega
    · have := ih (cur ++ [c]); simp; omega

/-- How the next line is found. -/
theorem segs_index (x : List UInt8) : (Lib.indexByte x 10 = -1 ∧ ∀ cur, cur ++ x ≠ [] → segsAux cur x = [(cur ++ x, false)]) ∨
    ∃ i : Nat, Lib.indexByte x 10 = i ∧ i < x.length ∧ x.take (i + 1) = x.take i ++ [10] ∧ ∀ cur, segsAux cur x = (cur ++ x.take i, true) :: segsAux [] (x.drop (i + 1)) := by
  induction x with
  | nil => exact .inl ⟨rfl, fun cur h => by simp at h; simp [segsAux, h]⟩
  | cons b l ih =>
    by_cases hb : b = 10
    · subst hb
      exact .inr ⟨0, by simp [Lib.indexByte], by simp, by simp, fun cur => by simp [segsAux]⟩
    · have hp : (b == 10) = false := by simpa using hb
      rcases ih with ⟨h1, h2⟩ | ⟨i, h1, h2, h4, h3⟩
      · refine .inl ⟨by unfold Lib.indexByte; rw [hp, h1]; rfl, fun cur _ => ?_⟩
        unfold segsAux
        rw [if_neg hb, h2 _ (by simp)]
        simp
      · refine .inr ⟨i + 1, ?_, by simp; omega, by simp [h4], fun cur => ?_⟩
        · unfold Lib.indexByte
          rw [hp, h1]
          have : ((i : Int) == -1) = false := by rw [beq_eq_false_iff_ne]; omega
          simp [this]
        · conv => lhs; unfold segsAux
          rw [if_neg hb, h3]
          simp

end Go.Proofs.YtekkkoipcghlmaaGreatDoor.Sp

namespace Go.Proofs.YtekkkoipcghlmaaGreatDoor
open Go.RowKit
variable {F : Fence} {n : Nat} {P : Program}

/-- A loop over an iterator that keeps its place in a box of its own (block Bs, laid ahead of the loop): between two rounds it stores into that box, and draws. G: what is known of what comes. -/
theorem range_boxed {α : Type} {g : Operand} {ps : Array Tmp} {assign body : Code} {Q : Exit → Act → World → Prop} {a : Act} {w : World}
    (hro : F.round = none) (h1 : 1 ≤ n) {gf : Nat} {lb : Array Value} (hg : a.eval g = .func (.func gf) #[] lb) (hFg : F.fn gf) (eg : ∀ args w, (callFunc gf args).run P w = .ok (.enter gf args) w)
    {encs : α → Array Value} (Bs : Nat) (hBs : Bs < w.heap.size) {S : List α → Prop} {G : List α → α → Prop}
    (hseq : ∀ (l : Nat) (J Jx : List α → World → Prop) (W : World), W.heap[Bs]? = w.heap[Bs]? → (∀ s A v, J s A → J s (A.setCell ⟨Bs, 0, none⟩ v)) → (∀ s A, J s A → J s A.drew) →
      (∀ pre x W1, J pre W1 → G pre x → YieldAt F (n - 1 - 1) P l (encs x) W1 fun e W' =>
        (e = .returned (.bool true) ∧ J (pre ++ [x]) W' ∧ W'.heap[Bs]? = W1.heap[Bs]?) ∨ (e = .returned (.bool false) ∧ Jx (pre ++ [x]) W')) →
      J [] W →
      CallsIn F (n - 1) P gf (#[.func (.yield l) #[] #[]] ++ lb) W fun e W' => (∃ v, e = .returned v) ∧ ((∃ xs, S xs ∧ J xs W') ∨ (∃ pre, Jx pre W')))
    (hps : ∀ x, (encs x).size = ps.size)
    (I : List α → World → Prop) (Ix : List α → World → Prop) (hI : OwnFrom w.heap.size I) (hIx : OwnFrom w.heap.size Ix)
    (hIs : ∀ s A v, I s A → I s (A.setCell ⟨Bs, 0, none⟩ v)) (hId : ∀ s A, I s A → I s A.drew) (h0 : I [] w) (a₁ : α → Act)
    (hassign : ∀ (l : Nat) (x : α) (W : World) (K : Act → World → Prop), K (a₁ x) W →
      assign.wpIn (F.inRound l) (n - 1 - 1) P (Exit.then K (fun _ _ _ => False)) { tmps := (ps.zip (encs x)).foldl (fun t (p, v) => t.setIfInBounds p v) a.tmps, defers := [] } W)
    (hbody : ∀ (l : Nat) (pre : List α) (x : α) (W : World), I pre W → G pre x →
      body.wpIn (F.inRound l) (n - 1 - 1) P (ownPostG w.heap.size (fun A B => B.heap[Bs]? = A.heap[Bs]?) I (fun c xs W' => c = .ret ∧ Ix xs W') (pre ++ [x]) W) (a₁ x) W)
    (hdone : ∀ (D : Nat) (xs : List α) (W : World), w.heap.size ≤ D → S xs → I xs W → W.heap[D]? = some (.deferred (some [])) → Q .normal { a with defers := { target := .collected D, args := #[] } :: a.defers } W)
    (hstop : ∀ (D : Nat) (pre : List α) (W : World), w.heap.size ≤ D → Ix pre W → W.heap[D]? = some (.deferred (some [])) → Code.ret.wpIn F n P Q { a with defers := { target := .collected D, args := #[] } :: a.defers } W) :
    (Code.rangeFunc g ps assign body).wpIn F n P Q a w := by
  refine wpIn_rangeFunc fun fn hfn => ?_
  rw [hro]
  -- the loop's record, and the block of the rounds' deferred calls
  obtain ⟨R, hR⟩ : ∃ R : LoopState → Option Code → Loop, R = fun st pe => { state := st, pending := pe, fn, tmps := a.tmps, params := ps, assign, body, defers := w.heap.size } := ⟨_, rfl⟩
  obtain ⟨V, hV⟩ : ∃ V, (w.alloc (.deferred (some []))).alloc (.loop (R .ready none)) = V := ⟨_, rfl⟩
  have vL : V.heap[w.heap.size + 1]? = some (.loop (R .ready none)) := by
    rw [← hV]; have := World.alloc_heap_new (w.alloc (.deferred (some []))) (.loop (R .ready none)); rwa [World.size_alloc] at this
  have vD : V.heap[w.heap.size]? = some (.deferred (some [])) := by
    rw [← hV]; exact (Below.heap_alloc _ _ _ (by simp)).trans (World.alloc_heap_new w _)
  have vB : V.heap[Bs]? = w.heap[Bs]? := by
    rw [← hV]; exact (Below.heap_alloc _ _ _ (by simp; omega)).trans (Below.heap_alloc _ _ _ hBs)
  have vI : I [] V := by rw [← hV]; exact hI.alloc _ (hI.alloc _ h0)
  refine ⟨w.heap.size + 1, [{ target := .collected w.heap.size, args := #[] }], V, { target := .fn (.func gf) lb, args := #[.func (.yield (w.heap.size + 1)) #[] #[]] }, V, gf,
    #[.func (.yield (w.heap.size + 1)) #[] #[]] ++ lb, V, ?_, ?_, ?_, ?_, fun _ => h1, ?_⟩
  · rw [← hV, hR]; exact run_enterLoop_outer _ _ _ _ _
  · simp only [resolve, hg]
    simp [go_sem]
  · intro f' hf'; simp [Target.leads] at hf'; subst hf'; exact hFg
  · simp [invoke, go_sem, eg]
  · refine (hseq (w.heap.size + 1)
      (fun pre W => I pre W ∧ W.heap[w.heap.size + 1]? = some (.loop (R .ready none)) ∧ W.heap[w.heap.size]? = some (.deferred (some [])))
      (fun pre W => Ix pre W ∧ W.heap[w.heap.size + 1]? = some (.loop (R .done (some .ret))) ∧ W.heap[w.heap.size]? = some (.deferred (some [])))
      V vB
      (fun s A v hs => ⟨hIs s A v hs.1, (Below.heap_setCell A _ _ _ (by simp; omega)).trans hs.2.1, (Below.heap_setCell A _ _ _ (by simp; omega)).trans hs.2.2⟩)
      (fun s A hs => ⟨hId s A hs.1, hs.2.1, hs.2.2⟩)
      ?_ ⟨vI, vL, vD⟩).mono ?_
    · rintro pre x W ⟨hi, hl, hk⟩ hgx
      have hlt : w.heap.size + 1 < W.heap.size := (Array.getElem?_eq_some_iff.1 hl).1
      have hy := run_yield (P := P) (args := encs x) hl (by rw [hR]; exact hps x)
      rw [hR] at hy
      refine ⟨fn, _, assign, body, hy, roundIn_of_wpIn hfn (hassign _ x W _ ⟨_, run_beginRound hl (by rw [hR]), ?_⟩)⟩
      obtain ⟨X, hX⟩ : ∃ X, W.putObj (w.heap.size + 1) (.loop { R .ready none with state := .busy }) = X := ⟨_, rfl⟩
      have xL : X.heap[w.heap.size + 1]? = some (.loop { R .ready none with state := .busy }) := by rw [← hX]; exact World.putObj_heap_same hlt
      have xD : X.heap[w.heap.size]? = some (.deferred (some [])) := by rw [← hX]; exact (World.putObj_heap_other (by omega)).trans hk
      have xB : X.heap[Bs]? = W.heap[Bs]? := by rw [← hX]; exact World.putObj_heap_other (by omega)
      have xI : I pre X := by rw [← hX]; exact hI.putObj _ hi (by omega) hl rfl
      rw [hX]
      refine wpIn_mono (hbody _ pre x X xI hgx) ?_
      have fin : ∀ (jump : Option Code) (Y : World), KeepsFrom w.heap.size X Y →
          (Instr.endRound (w.heap.size + 1) jump).run P Y = .ok (.bool jump.isNone) (Y.putObj (w.heap.size + 1) (.loop (R (if jump.isNone then .ready else .done) jump))) ∧
          Y.heap[w.heap.size + 1]? = some (.loop { R .ready none with state := .busy }) ∧
          (Y.putObj (w.heap.size + 1) (.loop (R (if jump.isNone then .ready else .done) jump))).heap[w.heap.size + 1]? = some (.loop (R (if jump.isNone then .ready else .done) jump)) ∧
          (Y.putObj (w.heap.size + 1) (.loop (R (if jump.isNone then .ready else .done) jump))).heap[w.heap.size]? = some (.deferred (some [])) := fun jump Y hkY => by
        have yL := hkY.same _ _ (by omega) xL rfl
        have := run_endRound (P := P) jump yL
        rw [hR] at this ⊢
        exact ⟨this, by rw [hR] at yL; exact yL, World.putObj_heap_same (Array.getElem?_eq_some_iff.1 yL).1, (World.putObj_heap_other (by omega)).trans (hkY.same _ _ (Nat.le_refl _) xD rfl)⟩
      rintro e a3 Y hp
      cases e with
      | normal =>
        obtain ⟨k3, b3, i3⟩ := hp
        obtain ⟨hr, l3, l4, k4⟩ := fin none Y k3
        exact ⟨_, _, hr, .inl ⟨rfl, ⟨hI.putObj _ i3 (by omega) l3 rfl, l4, k4⟩, ((World.putObj_heap_other (by omega)).trans b3).trans xB⟩⟩
      | ret =>
        obtain ⟨k3, _, i3⟩ := hp
        obtain ⟨hr, l3, l4, k4⟩ := fin (some .ret) Y k3
        exact ⟨_, _, hr, .inr ⟨rfl, hIx.putObj _ i3 (by omega) l3 rfl, l4, k4⟩⟩
      | exit id => obtain ⟨_, hc, _⟩ := hp; cases hc
      | goto t => obtain ⟨_, hc, _⟩ := hp; cases hc
      | panic ch => exact hp.elim
      | outgrown => exact hp.elim
    · rintro e Y ⟨⟨v, rfl⟩, (⟨xs, hS, hi, hl, hk⟩ | ⟨pre, hi, hl, hk⟩)⟩
      · exact ⟨none, _, by have := run_endLoop (P := P) hl (by rw [hR]; simp); rw [hR] at this; exact this, hdone _ xs _ (Nat.le_refl _) hS (hI.putObj _ hi (by omega) hl rfl) ((World.putObj_heap_other (by omega)).trans hk)⟩
      · exact ⟨some .ret, _, by have := run_endLoop (P := P) hl (by rw [hR]; simp); rw [hR] at this; exact this, hstop _ pre _ (Nat.le_refl _) (hIx.putObj _ hi (by omega) hl rfl) ((World.putObj_heap_other (by omega)).trans hk)⟩

end Go.Proofs.YtekkkoipcghlmaaGreatDoor
