import Derived.Test.YtekkkoipcghlmabDoorSC02
import Derived.RangeFuncNested
import Derived.RangeFuncWrites
import Derived.RangeFuncBound
import Derived.RangeFuncCalls
import Derived.RangeFuncLeaves
import Derived.Shelf.Abstract
import Derived.Shelf.RegionOpen
import Derived.OwnWalkIn
import Derived.TacticsInMore
import Derived.LoopNIn
import Derived.LoopIn
import Derived.RangeFuncBox
import Derived.Test.YtekkkoipcghlmabDoorSC01
set_option linter.all false
namespace Go.Proofs.YtekkkoipcghlmabDoor
open Go.RowKit

theorem lies_made {w : World} {vs : List Value} {t : TypeId} {cap : Nat} (h : 0 < vs.length) : Lies (w.alloc (.cells vs.toArray t)) (.slice (some ⟨w.heap.size, 0, none⟩) vs.length cap) vs := by
  refine .inr ⟨w.heap.size, 0, cap, h, rfl, by simp, fun k x hx => ?_⟩
  rw [Nat.zero_add, World.cell?_alloc_at _ _ _ _ rfl]
  simpa using hx

/-- A line's text: its inner part, and the newline if it is ended. -/
def lineOf (x : List UInt8) (e : Bool) : List UInt8 := if e then x ++ [10] else x

theorem line_cut (x : List UInt8) (e : Bool) (h : e = false → x.getLast? ≠ some 10) : Lib.trimSuffix (lineOf x e) [10] = x ∧ Lib.hasSuffix (lineOf x e) [10] = e := by
  have hs : Lib.hasSuffix (lineOf x e) [10] = e := by
    unfold Lib.hasSuffix lineOf
    cases e
    · rw [if_neg (by simp)]
      rw [Bool.eq_false_iff]
      intro hh
      rw [List.isSuffixOf_iff_suffix] at hh
      obtain ⟨t, ht⟩ := hh
      apply h rfl
      rw [← ht]; simp
    · rw [if_pos rfl, List.isSuffixOf_iff_suffix]
      exact ⟨x, rfl⟩
  refine ⟨?_, hs⟩
  unfold Lib.trimSuffix
  rw [hs]
  cases e
  · simp [lineOf]
  · simp [lineOf]

set_option maxRecDepth 100000 in
set_option maxHeartbeats 400000 in
theorem wordsGo_any (x : List UInt8) (en : Bool) (w : World) (hx : x.length ≤ 6000) (h : en = false → x.getLast? ≠ some 10) (he : Env w) :
    Calls Tryd.prog 18 #[.string (bs (lineOf x en))] w fun e w' => ∃ v, e = .returned (.tuple #[v, .bool en]) ∧ Lies w' v (strs (Sp.words x)) ∧ Below w.heap.size w w' := by
  have hll : (lineOf x en).length ≤ 6001 := by unfold lineOf; cases en <;> simp <;> omega
  have HC := hide (Tryd.strings_CutSuffix (bs (lineOf x en)) ⟨#[10]⟩ w (by rw [bs_size]; omega))
  have hd : (bs (lineOf x en)).data.toList = lineOf x en := bs_data _
  have hcut := line_cut x en h
  rw [hd] at HC
  have e1 : (ByteArray.mk #[10]).data.toList = [10] := rfl
  rw [e1, hcut.1, hcut.2] at HC
  clear e1 hcut hd
  have HC : Hid (Calls Tryd.prog 27 #[.string (bs (lineOf x en)), .string ⟨#[10]⟩] w fun e w' => e = .returned (.tuple #[.string (bs x), .bool en]) ∧ w' = w) := HC
  obtain ⟨m, hm⟩ := he.len.2
  generalize bs (lineOf x en) = line at *
  by_cases hne : x = []
  · have hemp : (bs x).toList.isEmpty = true := by rw [bs_toList, hne]; rfl
    have HN := hide hne
    clear hne
    go_enter Tryd.func18, Tryd.ntmps18
    go_wp2_with fail
    refine (unhide HC).mono ?_
    rintro e w1 ⟨rfl, rfl⟩
    go_wp2
    go_ret2
    exact ⟨_, rfl, by rw [unhide HN]; exact Lies.nil _, Below.refl _ _⟩
  · have hemp : (bs x).toList.isEmpty = false := bs_nonempty hne
    have HN := hide hne
    clear hne
    have HS := hide (Tryd.strings_Split (bs x) ⟨#[32]⟩ m w (by rw [bs_size]; omega) hm (by decide))
    go_enter Tryd.func18, Tryd.ntmps18
    go_wp2_with fail
    refine (unhide HC).mono ?_
    rintro e w1 ⟨rfl, rfl⟩
    go_wp2_with fail
    refine (unhide HS).mono ?_
    rintro e w2 ⟨rfl, rfl⟩
    go_wp2
    go_ret2
    have hsp : Lib.splitB ⟨#[32]⟩ 0 (Lib.countB (bs x) ⟨#[32]⟩) (bs x) = (Sp.wordsAux [] x).map bs := split_bs x.length x (Nat.le_refl _)
    have hln := Lib.splitB_all (bs [32]) (by rw [bs_size]; simp) 0 (Lib.countB (bs x) (bs [32])) (bs x) rfl
    have hw : Sp.words x = Sp.wordsAux [] x := by unfold Sp.words; rw [if_neg (unhide HN)]
    refine ⟨_, rfl, ?_, (Below.refl _ _).alloc (Nat.le_refl _) _⟩
    rw [hsp, hw]
    have hc : Lib.countB (bs x) (bs [32]) + 1 = (strs (Sp.wordsAux [] x)).length := by
      have := hln.symm
      rw [split_bs x.length x (Nat.le_refl _)] at this
      simpa [strs] using this
    rw [List.map_map]
    show Lies _ (.slice (some ⟨_, 0, none⟩) (Lib.countB (bs x) (bs [32]) + 1) _) _
    rw [hc]
    exact lies_made (vs := strs (Sp.wordsAux [] x)) (by omega)

end Go.Proofs.YtekkkoipcghlmabDoor

namespace Go.Proofs.YtekkkoipcghlmabDoor
open Go.RowKit
variable {F : Fence} {n : Nat} {P : Program}

/-- A loop over an iterator that keeps its place in a box of its own (block Bs, laid ahead of the loop): between two rounds it stores into that box, and draws. G: what is known of what comes. -/
theorem range_boxed {α : Type} {g : Operand} {ps : Array Tmp} {assign body : Code} {Q : Exit → Act → World → Prop} {a : Act} {w : World}
    (hro : F.round = none) (h1 : 1 ≤ n) {gf : Nat} {lb : Array Value} (hg : a.eval g = .func (.func gf) #[] lb) (hFg : F.fn gf) (eg : ∀ args w, (callFunc gf args).run P w = .ok (.enter gf args) w)
    {encs : α → Array Value} (Bs : Nat) (hBs : Bs < w.heap.size) {S : List α → Prop} {G : List α → α → Prop}
    (hseq : ∀ (l : Nat) (J Jx : List α → World → Prop) (W : World), W.heap[Bs]? = w.heap[Bs]? → (∀ s A v, J s A → J s (A.setCell ⟨Bs, 0, none⟩ v)) → (∀ s A, J s A → J s A.drew) →
      (∀ pre x W1, J pre W1 → G pre x → YieldAt F (n - 1 - 1) P l (encs x) W1 fun e W' =>
        (e = .returned (.bool true) ∧ J (pre ++ [x]) W' ∧ W'.heap[Bs]? = W1.heap[Bs]?) ∨ (e = .returned (.bool false) ∧ Jx (pre ++ [x]) W')) →
      J [] W →
      CallsIn F (n - 1) P gf (#[.func (.yield l) #[] #[]] ++ lb) W fun e W' => (∃ v, e = .returned v) ∧ ((∃ xs, S xs ∧ J xs W') ∨ (∃ pre, Jx pre W')))
    (hps : ∀ x, (encs x).size = ps.size)
    (I : List α → World → Prop) (Ix : List α → World → Prop) (hI : OwnFrom w.heap.size I) (hIx : OwnFrom w.heap.size Ix)
    (hIs : ∀ s A v, I s A → I s (A.setCell ⟨Bs, 0, none⟩ v)) (hId : ∀ s A, I s A → I s A.drew) (h0 : I [] w) (a₁ : α → Act)
    (hassign : ∀ (l : Nat) (x : α) (W : World) (K : Act → World → Prop), K (a₁ x) W →
      assign.wpIn (F.inRound l) (n - 1 - 1) P (Exit.then K (fun _ _ _ => False)) { tmps := (ps.zip (encs x)).foldl (fun t (p, v) => t.setIfInBounds p v) a.tmps, defers := [] } W)
    (hbody : ∀ (l : Nat) (pre : List α) (x : α) (W : World), I pre W → G pre x →
      body.wpIn (F.inRound l) (n - 1 - 1) P (ownPostG w.heap.size (fun A B => B.heap[Bs]? = A.heap[Bs]?) I (fun c xs W' => c = .ret ∧ Ix xs W') (pre ++ [x]) W) (a₁ x) W)
    (hdone : ∀ (D : Nat) (xs : List α) (W : World), w.heap.size ≤ D → S xs → I xs W → W.heap[D]? = some (.deferred (some [])) → Q .normal { a with defers := { target := .collected D, args := #[] } :: a.defers } W)
    (hstop : ∀ (D : Nat) (pre : List α) (W : World), w.heap.size ≤ D → Ix pre W → W.heap[D]? = some (.deferred (some [])) → Code.ret.wpIn F n P Q { a with defers := { target := .collected D, args := #[] } :: a.defers } W) :
    (Code.rangeFunc g ps assign body).wpIn F n P Q a w := by
  refine wpIn_rangeFunc fun fn hfn => ?_
  rw [hro]
  -- the loop's record, and the block of the rounds' deferred calls
  obtain ⟨R, hR⟩ : ∃ R : LoopState → Option Code → Loop, R = fun st pe => { state := st, pending := pe, fn, tmps := a.tmps, params := ps, assign, body, defers := w.heap.size } := ⟨_, rfl⟩
  obtain ⟨V, hV⟩ : ∃ V, (w.alloc (.deferred (some []))).alloc (.loop (R .ready none)) = V := ⟨_, rfl⟩
  have vL : V.heap[w.heap.size + 1]? = some (.loop (R .ready none)) := by
    rw [← hV]; have := World.alloc_heap_new (w.alloc (.deferred (some []))) (.loop (R .ready none)); rwa [World.size_alloc] at this
  have vD : V.heap[w.heap.size]? = some (.deferred (some [])) := by
    rw [← hV]; exact (Below.heap_alloc _ _ _ (by simp)).trans (World.alloc_heap_new w _)
  have vB : V.heap[Bs]? = w.heap[Bs]? := by
    rw [← hV]; exact (Below.heap_alloc _ _ _ (by simp; omega)).trans (Below.heap_alloc _ _ _ hBs)
  have vI : I [] V := by rw [← hV]; exact hI.alloc _ (hI.alloc _ h0)
  refine ⟨w.heap.size + 1, [{ target := .collected w.heap.size, args := #[] }], V, { target := .fn (.func gf) lb, args := #[.func (.yield (w.heap.size + 1)) #[] #[]] }, V, gf,
    #[.func (.yield (w.heap.size + 1)) #[] #[]] ++ lb, V, ?_, ?_, ?_, ?_, fun _ => h1, ?_⟩
  · rw [← hV, hR]; exact run_enterLoop_outer _ _ _ _ _
  · simp only [resolve, hg]
    simp [go_sem]
  · intro f' hf'; simp [Target.leads] at hf'; subst hf'; exact hFg
  · simp [invoke, go_sem, eg]
  · refine (hseq (w.heap.size + 1)
      (fun pre W => I pre W ∧ W.heap[w.heap.size + 1]? = some (.loop (R .ready none)) ∧ W.heap[w.heap.size]? = some (.deferred (some [])))
      (fun pre W => Ix pre W ∧ W.heap[w.heap.size + 1]? = some (.loop (R .done (some .ret))) ∧ W.heap[w.heap.size]? = some (.deferred (some [])))
      V vB
      (fun s A v hs => ⟨hIs s A v hs.1, (Below.heap_setCell A _ _ _ (by simp; omega)).trans hs.2.1, (Below.heap_setCell A _ _ _ (by simp; omega)).trans hs.2.2⟩)
      (fun s A hs => ⟨hId s A hs.1, hs.2.1, hs.2.2⟩)
      ?_ ⟨vI, vL, vD⟩).mono ?_
    · rintro pre x W ⟨hi, hl, hk⟩ hgx
      have hlt : w.heap.size + 1 < W.heap.size := (Array.getElem?_eq_some_iff.1 hl).1
      have hy := run_yield (P := P) (args := encs x) hl (by rw [hR]; exact hps x)
      rw [hR] at hy
      refine ⟨fn, _, assign, body, hy, roundIn_of_wpIn hfn (hassign _ x W _ ⟨_, run_beginRound hl (by rw [hR]), ?_⟩)⟩
      obtain ⟨X, hX⟩ : ∃ X, W.putObj (w.heap.size + 1) (.loop { R .ready none with state := .busy }) = X := ⟨_, rfl⟩
      have xL : X.heap[w.heap.size + 1]? = some (.loop { R .ready none with state := .busy }) := by rw [← hX]; exact World.putObj_heap_same hlt
      have xD : X.heap[w.heap.size]? = some (.deferred (some [])) := by rw [← hX]; exact (World.putObj_heap_other (by omega)).trans hk
      have xB : X.heap[Bs]? = W.heap[Bs]? := by rw [← hX]; exact World.putObj_heap_other (by omega)
      have xI : I pre X := by rw [← hX]; exact hI.putObj _ hi (by omega) hl rfl
      rw [hX]
      refine wpIn_mono (hbody _ pre x X xI hgx) ?_
      have fin : ∀ (jump : Option Code) (Y : World), KeepsFrom w.heap.size X Y →
          (Instr.endRound (w.heap.size + 1) jump).run P Y = .ok (.bool jump.isNone) (Y.putObj (w.heap.size + 1) (.loop (R (if jump.isNone then .ready else .done) jump))) ∧
          Y.heap[w.heap.size + 1]? = some (.loop { R .ready none with state := .busy }) ∧
          (Y.putObj (w.heap.size + 1) (.loop (R (if jump.isNone then .ready else .done) jump))).heap[w.heap.size + 1]? = some (.loop (R (if jump.isNone then .ready else .done) jump)) ∧
          (Y.putObj (w.heap.size + 1) (.loop (R (if jump.isNone then .ready else .done) jump))).heap[w.heap.size]? = some (.deferred (some [])) := fun jump Y hkY => by
        have yL := hkY.same _ _ (by omega) xL rfl
        have := run_endRound (P := P) jump yL
        rw [hR] at this ⊢
        exact ⟨this, by rw [hR] at yL; exact yL, World.putObj_heap_same (Array.getElem?_eq_some_iff.1 yL).1, (World.putObj_heap_other (by omega)).trans (hkY.same _ _ (Nat.le_refl _) xD rfl)⟩
      rintro e a3 Y hp
      cases e with
      | normal =>
        obtain ⟨k3, b3, i3⟩ := hp
        obtain ⟨hr, l3, l4, k4⟩ := fin none Y k3
        exact ⟨_, _, hr, .inl ⟨rfl, ⟨hI.putObj _ i3 (by omega) l3 rfl, l4, k4⟩, ((World.putObj_heap_other (by omega)).trans b3).trans xB⟩⟩
      | ret =>
        obtain ⟨k3, _, i3⟩ := hp
        obtain ⟨hr, l3, l4, k4⟩ := fin (some .ret) Y k3
        exact ⟨_, _, hr, .inr ⟨rfl, hIx.putObj _ i3 (by omega) l3 rfl, l4, k4⟩⟩
      | exit id => obtain ⟨_, hc, _⟩ := hp; cases hc
      | goto t => obtain ⟨_, hc, _⟩ := hp; cases hc
      | panic ch => exact hp.elim
      | outgrown => exact hp.elim
    · rintro e Y ⟨⟨v, rfl⟩, (⟨xs, hS, hi, hl, hk⟩ | ⟨pre, hi, hl, hk⟩)⟩
      · exact ⟨none, _, by have := run_endLoop (P := P) hl (by rw [hR]; simp); rw [hR] at this; exact this, hdone _ xs _ (Nat.le_refl _) hS (hI.putObj _ hi (by omega) hl rfl) ((World.putObj_heap_other (by omega)).trans hk)⟩
      · exact ⟨some .ret, _, by have := run_endLoop (P := P) hl (by rw [hR]; simp); rw [hR] at this; exact this, hstop _ pre _ (Nat.le_refl _) (hIx.putObj _ hi (by omega) hl rfl) ((World.putObj_heap_other (by omega)).trans hk)⟩

end Go.Proofs.YtekkkoipcghlmabDoor

namespace Go.Proofs.YtekkkoipcghlmabDoor
open Go.RowKit Go.Shelf
attribute [local go_sem] Oper.semAt_some

/-- How long is the text in a box. -/
def boxLen (w : World) (B : Nat) : Nat :=
  match w.cell? ⟨B, 0, none⟩ with
  | some (.string b) => b.size
  | _ => 0
theorem boxLen_of {w : World} {B : Nat} {b : ByteArray} (h : w.cell? ⟨B, 0, none⟩ = some (.string b)) : boxLen w B = b.size := by
  unfold boxLen; rw [h]

theorem slice_to_bs {P : Program} (t : TypeId) (hu : P.underlying t = some .string) (l : List UInt8) (j : Int) (b : Nat) (hj : j = b) (h2 : b ≤ l.length) (wx : World) :
    (Instr.slice t (.string (bs l)) none (some (.int .i64 j)) none).run P wx = .ok (.string (bs (l.take b))) wx := by
  subst hj
  rw [run_slice_string_to_if wx t (bs l) .i64 b hu, if_pos (by rw [bs_size]; omega)]
  simp only [Int.toNat_natCast, bs_extract]
  simp

set_option maxRecDepth 100000 in
set_option maxHeartbeats 10000000 in
theorem lines1_in (n l Bs : Nat) (s : List UInt8) (hs : s.length ≤ 6000) (J Jx : List (List UInt8 × Bool) → World → Prop)
    (hJs : ∀ p A v, J p A → J p (A.setCell ⟨Bs, 0, none⟩ v)) (hJd : ∀ p A, J p A → J p A.drew)
    (hY : ∀ pre x W, J pre W → pre ++ [x] <+: Sp.segs s → YieldAt Fence.wide (n - 1) Tryd.prog l #[.string (bs (lineOf x.1 x.2))] W fun e W' =>
      (e = .returned (.bool true) ∧ J (pre ++ [x]) W' ∧ W'.heap[Bs]? = W.heap[Bs]?) ∨ (e = .returned (.bool false) ∧ Jx (pre ++ [x]) W'))
    (W : World) (hc : W.cell? ⟨Bs, 0, none⟩ = some (.string (bs s))) (hf : W.frozen? ⟨Bs, 0, none⟩ = false) (h0 : J [] W) :
    CallsIn Fence.wide n Tryd.prog 21 #[.func (.yield l) #[] #[], .pointer (some ⟨Bs, 0, none⟩)] W fun e W' => (∃ v, e = .returned v) ∧
      (J (Sp.segs s) W' ∨ (∃ pre, Jx pre W')) := by
  refine callsIn_of_wp Tryd.func21 rfl trivial ?_ rfl
  simp only [Tryd.ntmps21, List.size_toArray, List.length_cons, List.length_nil, Nat.reduceAdd, Nat.reduceSub, Array.replicate_succ, Array.replicate_zero, List.push_toArray, List.append_toArray, List.nil_append, List.cons_append]
  gi_wp2
  gi_loopw [3] (fun _ wr => ∃ (pre : List (List UInt8 × Bool)) (rest : List UInt8), Hid (pre ++ Sp.segs rest = Sp.segs s) ∧ rest.length ≤ s.length ∧ wr.cell? ⟨Bs, 0, none⟩ = some (.string (bs rest)) ∧ wr.frozen? ⟨Bs, 0, none⟩ = false ∧ Hid (J pre wr))
    (fun _ wr => boxLen wr Bs)
  case atStart =>
    exact ⟨[], s, rfl, Nat.le_refl _, hc, hf, h0⟩
  case round =>
    obtain ⟨pre, rest, HX, hrl, hcell, hfr, HJ⟩ := hrel
    have hsz := bs_size rest
    by_cases hne : rest = []
    · have hz : ¬ (0 : Int) < (rest.length : Int) := by rw [hne]; simp
      have HN := hide hne
      clear hne
      gi_wp2
      go_end0
      refine ⟨⟨_, rfl⟩, .inl ?_⟩
      have hx := unhide HX
      rw [unhide HN] at hx
      rw [← hx]
      simpa [Sp.segs, Sp.segsAux] using unhide HJ
    · have hz : (0 : Int) < (rest.length : Int) := by have := List.length_pos_iff.2 hne; omega
      have HIB := hide (Tryd.strings_IndexByte (bs rest) 10 wr)
      rw [bs_data] at HIB
      rcases Sp.segs_index rest with ⟨hi, hseg⟩ | ⟨i, hi, hil, htk, hseg⟩
      · rw [show (10 : Int).toNat.toUInt8 = 10 from rfl, hi] at HIB
        have HSEG := hide (hseg [] (by simpa using hne))
        have HNE := hide hne
        clear hi hseg hne
        have hJ2 := hide (hJs _ _ (.string ⟨#[]⟩) (unhide HJ))
        have hY1 := hY pre (rest, false) _ (unhide hJ2) (by rw [← unhide HX]; show _ <+: pre ++ Sp.segsAux [] rest; rw [unhide HSEG]; exact ⟨[], by simp⟩)
        obtain ⟨fn, tmps, assign, body, hy, hR⟩ := hY1
        have HR := hide hR
        clear hR hJ2
        simp only [lineOf, Bool.false_eq_true, if_false] at hy
        gi_wp2_with fail
        refine ⟨trivial, fun h => (by cases h), ?_⟩
        refine (callsIn_wide.2 (unhide HIB)).mono ?_
        rintro e w' ⟨rfl, rfl⟩
        gi_wp2
        refine ⟨fun h => (by cases h), ?_⟩
        refine (unhide HR).mono ?_
        rintro e W3 (⟨rfl, hJ3, hk3⟩ | ⟨rfl, hJx3⟩)
        · have hc1 : (w'.setCell ⟨Bs, 0, none⟩ (.string ⟨#[]⟩)).cell? ⟨Bs, 0, none⟩ = some (.string (bs [])) := World.cell?_setCell_same' _ _ _ (by rw [hcell]; rfl)
          have hc3 : W3.cell? ⟨Bs, 0, none⟩ = some (.string (bs [])) := (World.cell?_of_block (a := ⟨Bs, 0, none⟩) hk3).trans hc1
          have hf3 : W3.frozen? ⟨Bs, 0, none⟩ = false := (World.frozen?_of_block (a := ⟨Bs, 0, none⟩) hk3).trans ((World.frozen?_setCell _ _ _ _).trans hfr)
          have HJ3 := hide hJ3
          clear hJ3 hk3 hc1
          gi_wp2
          go_roundw
          case rel => exact ⟨pre ++ [(rest, false)], [], hide (by rw [← unhide HX]; show _ = pre ++ Sp.segsAux [] rest; rw [unhide HSEG]; simp [Sp.segs, Sp.segsAux]), by simp, hc3, hf3, HJ3⟩
          case measure => rw [boxLen_of hc3, boxLen_of hcell, bs_size, bs_size]; simp; omega
        · have HJ3 := hide hJx3
          clear hJx3
          gi_wp2
          refine bodyPost_ret (results_none rfl _ _ _) rfl ?_
          exact ⟨⟨_, rfl⟩, .inr ⟨_, unhide HJ3⟩⟩
      · rw [show (10 : Int).toNat.toUInt8 = 10 from rfl, hi] at HIB
        have HSEG := hide (hseg [])
        clear hi hseg hne
        have hsl1 := fun wx => slice_to_bs (P := Tryd.prog) 9 Tryd.underlying9 rest ((i : Int) + 1) (i + 1) (by omega) (by omega) wx
        have hsl2 := fun wx => slice_from_bs (P := Tryd.prog) 9 Tryd.underlying9 rest ((i : Int) + 1) (i + 1) (by omega) (by omega) wx
        rw [htk] at hsl1
        have hJ2 := hide (hJd _ _ (hJs _ _ (.string (bs (rest.drop (i + 1)))) (unhide HJ)))
        have hY1 := hY pre (rest.take i, true) _ (unhide hJ2) (by rw [← unhide HX]; show _ <+: pre ++ Sp.segsAux [] rest; rw [unhide HSEG]; exact ⟨Sp.segsAux [] (rest.drop (i + 1)), by simp⟩)
        obtain ⟨fn, tmps, assign, body, hy, hR⟩ := hY1
        have HR := hide hR
        clear hR hJ2
        simp only [lineOf, if_true] at hy
        gi_wp2_with fail
        refine ⟨trivial, fun h => (by cases h), ?_⟩
        refine (callsIn_wide.2 (unhide HIB)).mono ?_
        rintro e w' ⟨rfl, rfl⟩
        gi_wp2
        gi_region
        gi_wp2
        refine ⟨fun h => (by cases h), ?_⟩
        refine (unhide HR).mono ?_
        rintro e W3 (⟨rfl, hJ3, hk3⟩ | ⟨rfl, hJx3⟩)
        · have hc1 : (w'.setCell ⟨Bs, 0, none⟩ (.string (bs (rest.drop (i + 1))))).cell? ⟨Bs, 0, none⟩ = some (.string (bs (rest.drop (i + 1)))) := World.cell?_setCell_same' _ _ _ (by rw [hcell]; rfl)
          have hc3 : W3.cell? ⟨Bs, 0, none⟩ = some (.string (bs (rest.drop (i + 1)))) := (World.cell?_of_block (a := ⟨Bs, 0, none⟩) hk3).trans hc1
          have hf3 : W3.frozen? ⟨Bs, 0, none⟩ = false := (World.frozen?_of_block (a := ⟨Bs, 0, none⟩) hk3).trans ((World.frozen?_setCell _ _ _ _).trans hfr)
          have HJ3 := hide hJ3
          clear hJ3 hk3 hc1
          gi_wp2
          go_roundw
          case rel => exact ⟨pre ++ [(rest.take i, true)], (rest.drop (i + 1)), hide (by rw [← unhide HX]; show _ = pre ++ Sp.segsAux [] rest; rw [unhide HSEG]; simp [Sp.segs]), by simp; omega, hc3, hf3, HJ3⟩
          case measure => rw [boxLen_of hc3, boxLen_of hcell, bs_size, bs_size]; simp; omega
        · have HJ3 := hide hJx3
          clear hJx3
          gi_wp2
          refine bodyPost_ret (results_none rfl _ _ _) rfl ?_
          exact ⟨⟨_, rfl⟩, .inr ⟨_, unhide HJ3⟩⟩

end Go.Proofs.YtekkkoipcghlmabDoor

namespace Go.Proofs.YtekkkoipcghlmabDoor
open Go.RowKit

theorem IsBuilder.below {T e : TypeId} {B b : Nat} {cs : List Value} {w w' : World} (h : Lib.IsBuilder T e B b cs w) (hb : Below w.heap.size w w') : Lib.IsBuilder T e B b cs w' := by
  have key : ∀ p, Lib.BuilderAt T e B b p cs w → Lib.BuilderAt T e B b p cs w' := by
    rintro p ⟨h1, v, h2, h3, h4⟩
    have hlt := (Array.getElem?_eq_some_iff.1 h2).1
    exact ⟨h1, v, (hb.block b hlt).trans h2, owns_below h3 hb, h4⟩
  rcases h with h | h
  · exact .inl (key _ h)
  · exact .inr (key _ h)

end Go.Proofs.YtekkkoipcghlmabDoor
