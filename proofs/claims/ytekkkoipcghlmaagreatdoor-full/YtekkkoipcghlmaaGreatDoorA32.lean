import Derived.RangeFuncNested
import Derived.RangeFuncWrites
import Derived.Test.YtekkkoipcghlmaaGreatDoorA29
import Derived.RangeFuncBound
import Derived.RangeFuncCalls
import Derived.RangeFuncLeaves
import Derived.OwnWalkIn
import Derived.TacticsInMore
import Derived.LoopNIn
import Derived.LoopIn
import Derived.RangeFuncBox
import Derived.Shelf.Abstract
import Derived.Shelf.RegionOpen
import Derived.Stop.RegionWithIn
set_option linter.all false
namespace Go.Proofs.YtekkkoipcghlmaaGreatDoor
open Go.RowKit
variable {F : Fence} {n : Nat} {P : Program}

/-- A loop over an iterator that reads some blocks (Bk, laid ahead of the loop), which the body leaves; between two rounds it draws. G: what is known of what comes. -/
theorem range_kept {α : Type} {g : Operand} {ps : Array Tmp} {assign body : Code} {Q : Exit → Act → World → Prop} {a : Act} {w : World}
    (hro : F.round = none) (h1 : 1 ≤ n) {gf : Nat} {lb : Array Value} (hg : a.eval g = .func (.func gf) #[] lb) (hFg : F.fn gf) (eg : ∀ args w, (callFunc gf args).run P w = .ok (.enter gf args) w)
    {encs : α → Array Value} (Bk : Nat → Prop) (hBs : ∀ b, Bk b → b < w.heap.size) {S : List α → Prop} {G : List α → α → Prop}
    (hseq : ∀ (l : Nat) (J Jx : List α → World → Prop) (W : World), (∀ b, Bk b → W.heap[b]? = w.heap[b]?) → (∀ s A, J s A → J s A.drew) →
      (∀ pre x W1, J pre W1 → G pre x → YieldAt F (n - 1 - 1) P l (encs x) W1 fun e W' =>
        (e = .returned (.bool true) ∧ J (pre ++ [x]) W' ∧ ∀ b, Bk b → W'.heap[b]? = W1.heap[b]?) ∨ (e = .returned (.bool false) ∧ Jx (pre ++ [x]) W')) →
      J [] W →
      CallsIn F (n - 1) P gf (#[.func (.yield l) #[] #[]] ++ lb) W fun e W' => (∃ v, e = .returned v) ∧ ((∃ xs, S xs ∧ J xs W') ∨ (∃ pre, Jx pre W')))
    (hps : ∀ x, (encs x).size = ps.size)
    (I : List α → World → Prop) (Ix : List α → World → Prop) (hI : OwnFrom w.heap.size I) (hIx : OwnFrom w.heap.size Ix)
    (hId : ∀ s A, I s A → I s A.drew) (h0 : I [] w) (a₁ : α → Act)
    (hassign : ∀ (l : Nat) (x : α) (W : World) (K : Act → World → Prop), K (a₁ x) W →
      assign.wpIn (F.inRound l) (n - 1 - 1) P (Exit.then K (fun _ _ _ => False)) { tmps := (ps.zip (encs x)).foldl (fun t (p, v) => t.setIfInBounds p v) a.tmps, defers := [] } W)
    (hbody : ∀ (l : Nat) (pre : List α) (x : α) (W : World), I pre W → G pre x →
      body.wpIn (F.inRound l) (n - 1 - 1) P (ownPostG w.heap.size (fun A B => ∀ b, Bk b → B.heap[b]? = A.heap[b]?) I (fun c xs W' => c = .ret ∧ Ix xs W') (pre ++ [x]) W) (a₁ x) W)
    (hdone : ∀ (D : Nat) (xs : List α) (W : World), w.heap.size ≤ D → S xs → I xs W → W.heap[D]? = some (.deferred (some [])) → Q .normal { a with defers := { target := .collected D, args := #[] } :: a.defers } W)
    (hstop : ∀ (D : Nat) (pre : List α) (W : World), w.heap.size ≤ D → Ix pre W → W.heap[D]? = some (.deferred (some [])) → Code.ret.wpIn F n P Q { a with defers := { target := .collected D, args := #[] } :: a.defers } W) :
    (Code.rangeFunc g ps assign body).wpIn F n P Q a w := by
  refine wpIn_rangeFunc fun fn hfn => ?_
  rw [hro]
  -- the loop's record, and the block of the rounds' deferred calls
  obtain ⟨R, hR⟩ : ∃ R : LoopState → Option Code → Loop, R = fun st pe => { state := st, pending := pe, fn, tmps := a.tmps, params := ps, assign, body, defers := w.heap.size } := ⟨_, rfl⟩
  obtain ⟨V, hV⟩ : ∃ V, (w.alloc (.deferred (some []))).alloc (.loop (R .ready none)) = V := ⟨_, rfl⟩
  have vL : V.heap[w.heap.size + 1]? = some (.loop (R .ready none)) := by
    rw [← hV]; have := World.alloc_heap_new (w.alloc (.deferred (some []))) (.loop (R .ready none)); rwa [World.size_alloc] at this
  have vD : V.heap[w.heap.size]? = some (.deferred (some [])) := by
    rw [← hV]; exact (Below.heap_alloc _ _ _ (by simp)).trans (World.alloc_heap_new w _)
  have vB : ∀ b, Bk b → V.heap[b]? = w.heap[b]? := by
    intro b hb
    have := hBs b hb
    rw [← hV]; exact (Below.heap_alloc _ _ _ (by simp; omega)).trans (Below.heap_alloc _ _ _ this)
  have vI : I [] V := by rw [← hV]; exact hI.alloc _ (hI.alloc _ h0)
  refine ⟨w.heap.size + 1, [{ target := .collected w.heap.size, args := #[] }], V, { target := .fn (.func gf) lb, args := #[.func (.yield (w.heap.size + 1)) #[] #[]] }, V, gf,
    #[.func (.yield (w.heap.size + 1)) #[] #[]] ++ lb, V, ?_, ?_, ?_, ?_, fun _ => h1, ?_⟩
  · rw [← hV, hR]; exact run_enterLoop_outer _ _ _ _ _
  · simp only [resolve, hg]
    simp [go_sem]
  · intro f' hf'; simp [Target.leads] at hf'; subst hf'; exact hFg
  · simp [invoke, go_sem, eg]
  · refine (hseq (w.heap.size + 1)
      (fun pre W => I pre W ∧ W.heap[w.heap.size + 1]? = some (.loop (R .ready none)) ∧ W.heap[w.heap.size]? = some (.deferred (some [])))
      (fun pre W => Ix pre W ∧ W.heap[w.heap.size + 1]? = some (.loop (R .done (some .ret))) ∧ W.heap[w.heap.size]? = some (.deferred (some [])))
      V vB
      (fun s A hs => ⟨hId s A hs.1, hs.2.1, hs.2.2⟩)
      ?_ ⟨vI, vL, vD⟩).mono ?_
    · rintro pre x W ⟨hi, hl, hk⟩ hgx
      have hlt : w.heap.size + 1 < W.heap.size := (Array.getElem?_eq_some_iff.1 hl).1
      have hy := run_yield (P := P) (args := encs x) hl (by rw [hR]; exact hps x)
      rw [hR] at hy
      refine ⟨fn, _, assign, body, hy, roundIn_of_wpIn hfn (hassign _ x W _ ⟨_, run_beginRound hl (by rw [hR]), ?_⟩)⟩
      obtain ⟨X, hX⟩ : ∃ X, W.putObj (w.heap.size + 1) (.loop { R .ready none with state := .busy }) = X := ⟨_, rfl⟩
      have xL : X.heap[w.heap.size + 1]? = some (.loop { R .ready none with state := .busy }) := by rw [← hX]; exact World.putObj_heap_same hlt
      have xD : X.heap[w.heap.size]? = some (.deferred (some [])) := by rw [← hX]; exact (World.putObj_heap_other (by omega)).trans hk
      have xB : ∀ b, Bk b → X.heap[b]? = W.heap[b]? := fun b hb => by have := hBs b hb; rw [← hX]; exact World.putObj_heap_other (by omega)
      have xI : I pre X := by rw [← hX]; exact hI.putObj _ hi (by omega) hl rfl
      rw [hX]
      refine wpIn_mono (hbody _ pre x X xI hgx) ?_
      have fin : ∀ (jump : Option Code) (Y : World), KeepsFrom w.heap.size X Y →
          (Instr.endRound (w.heap.size + 1) jump).run P Y = .ok (.bool jump.isNone) (Y.putObj (w.heap.size + 1) (.loop (R (if jump.isNone then .ready else .done) jump))) ∧
          Y.heap[w.heap.size + 1]? = some (.loop { R .ready none with state := .busy }) ∧
          (Y.putObj (w.heap.size + 1) (.loop (R (if jump.isNone then .ready else .done) jump))).heap[w.heap.size + 1]? = some (.loop (R (if jump.isNone then .ready else .done) jump)) ∧
          (Y.putObj (w.heap.size + 1) (.loop (R (if jump.isNone then .ready else .done) jump))).heap[w.heap.size]? = some (.deferred (some [])) := fun jump Y hkY => by
        have yL := hkY.same _ _ (by omega) xL rfl
        have := run_endRound (P := P) jump yL
        rw [hR] at this ⊢
        exact ⟨this, by rw [hR] at yL; exact yL, World.putObj_heap_same (Array.getElem?_eq_some_iff.1 yL).1, (World.putObj_heap_other (by omega)).trans (hkY.same _ _ (Nat.le_refl _) xD rfl)⟩
      rintro e a3 Y hp
      cases e with
      | normal =>
        obtain ⟨k3, b3, i3⟩ := hp
        obtain ⟨hr, l3, l4, k4⟩ := fin none Y k3
        exact ⟨_, _, hr, .inl ⟨rfl, ⟨hI.putObj _ i3 (by omega) l3 rfl, l4, k4⟩, fun b hb => ((World.putObj_heap_other (by have := hBs b hb; omega)).trans (b3 b hb)).trans (xB b hb)⟩⟩
      | ret =>
        obtain ⟨k3, _, i3⟩ := hp
        obtain ⟨hr, l3, l4, k4⟩ := fin (some .ret) Y k3
        exact ⟨_, _, hr, .inr ⟨rfl, hIx.putObj _ i3 (by omega) l3 rfl, l4, k4⟩⟩
      | exit id => obtain ⟨_, hc, _⟩ := hp; cases hc
      | goto t => obtain ⟨_, hc, _⟩ := hp; cases hc
      | panic ch => exact hp.elim
      | outgrown => exact hp.elim
    · rintro e Y ⟨⟨v, rfl⟩, (⟨xs, hS, hi, hl, hk⟩ | ⟨pre, hi, hl, hk⟩)⟩
      · exact ⟨none, _, by have := run_endLoop (P := P) hl (by rw [hR]; simp); rw [hR] at this; exact this, hdone _ xs _ (Nat.le_refl _) hS (hI.putObj _ hi (by omega) hl rfl) ((World.putObj_heap_other (by omega)).trans hk)⟩
      · exact ⟨some .ret, _, by have := run_endLoop (P := P) hl (by rw [hR]; simp); rw [hR] at this; exact this, hstop _ pre _ (Nat.le_refl _) (hIx.putObj _ hi (by omega) hl rfl) ((World.putObj_heap_other (by omega)).trans hk)⟩

end Go.Proofs.YtekkkoipcghlmaaGreatDoor

namespace Go.Proofs.YtekkkoipcghlmaaGreatDoor
open Go.RowKit Go.Shelf
attribute [local go_sem] Oper.semAt_some

/-- What comes next, the last one first. -/
def BackG (xs : List Int) (pre : List (Nat × Int)) (x : Nat × Int) : Prop := x.1 + pre.length + 1 = xs.length ∧ xs[x.1]? = some x.2

set_option maxRecDepth 100000 in
set_option maxHeartbeats 10000000 in
theorem backward1_in (n l Bs g cap : Nat) (xs : List Int) (hl : xs.length ≤ 1000) (J Jx : List (Nat × Int) → World → Prop) (hJd : ∀ p A, J p A → J p A.drew)
    (hY : ∀ pre x W, J pre W → BackG xs pre x → YieldAt Fence.wide (n - 1) Tryz.prog l #[.int .i64 (x.1 : Int), .int .i64 x.2] W fun e W' =>
      (e = .returned (.bool true) ∧ J (pre ++ [x]) W' ∧ ∀ b, (b = Bs ∨ b = g) → W'.heap[b]? = W.heap[b]?) ∨ (e = .returned (.bool false) ∧ Jx (pre ++ [x]) W'))
    (W : World) (hc : W.cell? ⟨Bs, 0, none⟩ = some (.slice (some ⟨g, 0, none⟩) xs.length cap)) (hx : ∀ j x, xs[j]? = some x → W.cell? ⟨g, j, none⟩ = some (.int .i64 x)) (h0 : J [] W) :
    CallsIn Fence.wide n Tryz.prog 170 #[.func (.yield l) #[] #[], .pointer (some ⟨Bs, 0, none⟩)] W fun e W' => (∃ v, e = .returned v) ∧
      ((∃ ys, ys.length = xs.length ∧ J ys W') ∨ (∃ pre, Jx pre W')) := by
  refine callsIn_of_wp Tryz.func170 rfl trivial ?_ rfl
  simp only [Tryz.ntmps170, List.size_toArray, List.length_cons, List.length_nil, Nat.reduceAdd, Nat.reduceSub, Array.replicate_succ, Array.replicate_zero, List.push_toArray, List.append_toArray, List.nil_append, List.cons_append]
  have H0 := hide h0
  have HX := hide hx
  clear h0 hx
  generalize hN : xs.length = N at *
  gi_wp2
  gi_loopw [3] (fun v3 wr => ∃ (pre : List (Nat × Int)) (k : Nat) (z : Int), k + pre.length = N ∧ v3 = .int .i64 z ∧ z = (k : Int) - 1 ∧ wr.cell? ⟨Bs, 0, none⟩ = some (.slice (some ⟨g, 0, none⟩) N cap) ∧ Hid (∀ j x, xs[j]? = some x → wr.cell? ⟨g, j, none⟩ = some (.int .i64 x)) ∧ Hid (J pre wr)) (fun v3 _ => (intOf v3 + 1).toNat)
  case atStart => exact ⟨[], N, (N : Int) - 1, by simp, rfl, rfl, hc, HX, H0⟩
  case round =>
    obtain ⟨pre, k, z, hk, rfl, hz, hcell, HXr, HJ⟩ := hrel
    by_cases hk0 : k = 0
    · subst hk0
      have hz0 : ¬ (0 : Int) ≤ z := by omega
      clear hz
      gi_wp2
      go_end0
      exact ⟨⟨_, rfl⟩, .inl ⟨pre, by omega, unhide HJ⟩⟩
    · obtain ⟨q, rfl⟩ : ∃ q, k = q + 1 := ⟨k - 1, by omega⟩
      have hzq : z = (q : Int) := by omega
      subst hzq
      clear hz
      have hqN : q < xs.length := by omega
      have hgx : xs[q]? = some xs[q] := List.getElem?_eq_getElem hqN
      have hcx := unhide HXr q _ hgx
      have hY1 := hY pre (q, xs[q]) wr (unhide HJ) ⟨by simp only; omega, hgx⟩
      obtain ⟨fn, tmps, assign, body, hy, hR⟩ := hY1
      have HR := hide hR
      clear hR
      simp only at hy
      generalize xs[q] = x at *
      have hqn2 : (q : Int) < (N : Int) := by omega
      gi_wp2_with fail
      refine ⟨fun h => (by cases h), ?_⟩
      refine (unhide HR).mono ?_
      rintro e W3 (⟨rfl, hJ3, hk3⟩ | ⟨rfl, hJx3⟩)
      · have hc3 : W3.cell? ⟨Bs, 0, none⟩ = some (.slice (some ⟨g, 0, none⟩) N cap) := (World.cell?_of_block (a := ⟨Bs, 0, none⟩) (hk3 Bs (.inl rfl))).trans hcell
        have HX3 : Hid (∀ j x, xs[j]? = some x → W3.cell? ⟨g, j, none⟩ = some (.int .i64 x)) := hide (fun j x hj => (World.cell?_of_block (a := ⟨g, j, none⟩) (hk3 g (.inr rfl))).trans (unhide HXr j x hj))
        have HJ3 := hide hJ3
        clear hJ3 hk3
        gi_wp2
        go_roundw
        case rel => exact ⟨pre ++ [(q, x)], q, (q : Int) - 1, by simp; omega, rfl, rfl, hc3, HX3, HJ3⟩
        case measure => simp only [intOf]; omega
      · have HJ3 := hide hJx3
        clear hJx3
        gi_wp2
        refine bodyPost_ret (results_none rfl _ _ _) rfl ?_
        exact ⟨⟨_, rfl⟩, .inr ⟨_, unhide HJ3⟩⟩

end Go.Proofs.YtekkkoipcghlmaaGreatDoor

namespace Go.Proofs.YtekkkoipcghlmaaGreatDoor
open Go.RowKit

/-- Whom to blame, as far as the trail was gone back. -/
structure CP (cls : List Cl) (tr : Tr) (u : Int) (met : List Bool) (blamed : List Int) (i : Nat) : Prop where
  len : met.length = 13
  mu : marked met u.natAbs = true
  ub : u ∈ blamed
  bd : blamed.length + i ≤ tr.length + 1
  done : ∀ (j : Nat) (e : Int × Int), i ≤ j → tr[j]? = some e → marked met e.1.natAbs = true → (dec e = true ∧ e.1 ∈ blamed) ∨ (dec e = false ∧ ∀ (c : Nat) cl, cls[c]? = some cl → e.2 = (pos cls c : Int) → ∀ y, y ∈ cl.lits → marked met y.natAbs = true)
section
variable {cls : List Cl} {tr : Tr} {u : Int} {met : List Bool} {blamed : List Int} {i : Nat} {e : Int × Int}
theorem CP.begin (cls : List Cl) (tr : Tr) {u : Int} (hu : u.natAbs < 13) : CP cls tr u ((List.replicate 13 false).set u.natAbs true) [u] tr.length := by
  refine ⟨by simp, ?_, by simp, by simp; omega, fun j e hj he => ?_⟩
  · rw [marked_set _ _ _ (by simpa using hu)]; simp
  · have := (List.getElem?_eq_some_iff.1 he).1; omega
theorem CP.skip (h : CP cls tr u met blamed (i + 1)) (hi : tr[i]? = some e) (hm : marked met e.1.natAbs = false) : CP cls tr u met blamed i := by
  refine ⟨h.len, h.mu, h.ub, by have := h.bd; omega, fun j f hj hf hmf => ?_⟩
  by_cases hji : j = i
  · subst hji
    rw [hi] at hf
    cases hf
    rw [hm] at hmf; cases hmf
  · exact h.done j f (by omega) hf hmf
theorem CP.dec (h : CP cls tr u met blamed (i + 1)) (hi : tr[i]? = some e) (hd : Go.Proofs.YtekkkoipcghlmaaGreatDoor.dec e = true) : CP cls tr u met (blamed ++ [e.1]) i := by
  refine ⟨h.len, h.mu, List.mem_append_left _ h.ub, by have := h.bd; rw [List.length_append]; simp; omega, fun j f hj hf hmf => ?_⟩
  by_cases hji : j = i
  · subst hji
    rw [hi] at hf
    cases hf
    exact .inl ⟨hd, by simp⟩
  · exact (h.done j f (by omega) hf hmf).imp (fun h => ⟨h.1, List.mem_append_left _ h.2⟩) id
theorem CP.reason (h : CP cls tr u met blamed (i + 1)) (hT : TrOK cls tr) (hwf : ∀ (c : Nat) cl, cls[c]? = some cl → wfLits cl.lits) (hi : tr[i]? = some e) (hd : Go.Proofs.YtekkkoipcghlmaaGreatDoor.dec e = false) {c : Nat} {cl : Cl} (hc : cls[c]? = some cl) (hp : e.2 = (pos cls c : Int)) : CP cls tr u (marks met (cl.lits.map Int.natAbs)) blamed i := by
  obtain ⟨c', cl', rest, g1, g2, g3, g4⟩ := hT.reason i e hi hd
  have hcc : c' = c := pos_inj cls (List.getElem?_eq_some_iff.1 g1).1 (List.getElem?_eq_some_iff.1 hc).1 (by omega)
  subst hcc
  rw [hc] at g1
  cases g1
  have hb : ∀ v, v ∈ cl.lits.map Int.natAbs → v < met.length := fun v hv => by
    obtain ⟨y, hy, rfl⟩ := List.mem_map.1 hv
    have := (hwf c' cl hc).2 y hy
    rw [h.len]; omega
  have get := fun v => marks_get (cl.lits.map Int.natAbs) met hb v
  refine ⟨by rw [marks_len]; exact h.len, by rw [get, h.mu]; rfl, h.ub, by have := h.bd; omega, fun j f hj hf hmf => ?_⟩
  by_cases hji : j = i
  · subst hji
    rw [hi] at hf
    cases hf
    refine .inr ⟨hd, fun c2 cl2 hc2 hp2 y hy => ?_⟩
    have hcc : c2 = c' := pos_inj cls (List.getElem?_eq_some_iff.1 hc2).1 (List.getElem?_eq_some_iff.1 hc).1 (by omega)
    subst hcc
    rw [hc] at hc2
    cases hc2
    rw [get, Bool.or_eq_true]
    exact .inr (decide_eq_true (List.mem_map.2 ⟨y, hy, rfl⟩))
  · have hold : marked met f.1.natAbs = true := by
      rw [get, Bool.or_eq_true] at hmf
      rcases hmf with hmf | hmf
      · exact hmf
      · obtain ⟨y, hy, hyv⟩ := List.mem_map.1 (of_decide_eq_true hmf)
        rw [g3] at hy
        rcases List.mem_cons.1 hy with rfl | hy
        · exact absurd (hT.one hf hi hyv.symm) hji
        · obtain ⟨q, r, hq, hqr⟩ := g4 y hy
          have := hT.one hf hqr (by simpa using hyv.symm)
          omega
    rcases h.done j f (by omega) hf hold with h1 | ⟨h1, h2⟩
    · exact .inl h1
    · exact .inr ⟨h1, fun c2 cl2 a b y hy => by rw [get, h2 c2 cl2 a b y hy]; rfl⟩
end

/-- The rows of core's variables: 0 to 2 boxes (the search, the blamed, the met), 3 the blamed, 4 the met. -/
def coreRows (b0 b2 b4 s : Nat) (bv mv : Value) (blamed : List Int) (met : List Bool) : List Row :=
  [structRow 72 b0 [.pointer (some ⟨s, 0, none⟩)], structRow 25 b2 [bv], structRow 172 b4 [mv], intRow bv blamed, boolRow mv met]
structure CAt (w : World) (b0 b2 b4 s Bs : Nat) (W : World) (blamed : List Int) (met : List Bool) : Prop where
  bel : Below w.heap.size w W
  ge : w.heap.size ≤ Bs
  lt : Bs < W.heap.size
  rows : ∃ bv mv, Pack w.heap.size W (coreRows b0 b2 b4 s bv mv blamed met) ∧ ¬ foot (coreRows b0 b2 b4 s bv mv blamed met) Bs
/-- What a round may do. -/
structure CNxt (w : World) (b0 b2 b4 s Bs : Nat) (W W' : World) (blamed : List Int) (met : List Bool) : Prop where
  at_ : CAt w b0 b2 b4 s Bs W' blamed met
  keep : KeepsOthers W W'
  same : ∀ b, (b = Bs ∨ b < w.heap.size) → W'.heap[b]? = W.heap[b]?
section
variable {w W W' W2 : World} {b0 b2 b4 s Bs : Nat} {blamed blamed' : List Int} {met met' : List Bool}
theorem foot_cells {base : Nat} {L : List Row} (h : Pack base W L) {k : Nat} (hk : foot L k) : ∃ o : Obj, W.heap[k]? = some o ∧ o.isCells = true := by
  obtain ⟨i, r, hi, hr⟩ := hk
  have := h.rows i r hi
  unfold Row.ok at this
  rcases this.2 with ⟨h0, _⟩ | ⟨g, cap, cur, hv, _, hh, _⟩
  · rw [h0] at hr; cases hr
  · rw [hv] at hr
    simp only [Value.ownBlock, Option.some.injEq] at hr
    subst hr
    exact ⟨_, hh, rfl⟩
theorem PMut.keeps {base : Nat} {L L' : List Row} (hp : Pack base W L) (h : PMut base W L W' L') : KeepsOthers W W' :=
  ⟨h.only.size, fun k o hk ho => (h.only.block k (Array.getElem?_eq_some_iff.1 hk).1 (fun hf => by
    obtain ⟨o', ho', hc⟩ := foot_cells hp hf
    rw [hk] at ho'; cases ho'; rw [ho] at hc; cases hc)).trans hk⟩
theorem CNxt.refl (h : CAt w b0 b2 b4 s Bs W blamed met) : CNxt w b0 b2 b4 s Bs W W blamed met := ⟨h, KeepsOthers.refl _, fun _ _ => rfl⟩
theorem CNxt.trans (h : CNxt w b0 b2 b4 s Bs W W' blamed met) (h' : CNxt w b0 b2 b4 s Bs W' W2 blamed' met') : CNxt w b0 b2 b4 s Bs W W2 blamed' met' :=
  ⟨h'.at_, h.keep.trans h'.keep, fun b hb => (h'.same b hb).trans (h.same b hb)⟩
theorem CAt.step {bv mv bv' mv' : Value} (h : CAt w b0 b2 b4 s Bs W blamed met) (hp : Pack w.heap.size W (coreRows b0 b2 b4 s bv mv blamed met)) (hn : ¬ foot (coreRows b0 b2 b4 s bv mv blamed met) Bs) (hm : PMut w.heap.size W (coreRows b0 b2 b4 s bv mv blamed met) W' (coreRows b0 b2 b4 s bv' mv' blamed' met')) : CNxt w b0 b2 b4 s Bs W W' blamed' met' := by
  have hlt := h.lt
  have hsz := h.bel.size
  refine ⟨⟨h.bel.trans (hm.toBelow hp (Nat.le_refl _) hsz), h.ge, Nat.lt_of_lt_of_le hlt hm.only.size, bv', mv', hm.pack, fun hf => ?_⟩, PMut.keeps hp hm, fun b hb => ?_⟩
  · rcases hm.grows Bs hf with h1 | h1
    · exact hn h1
    · omega
  · rcases hb with rfl | hb
    · exact hm.only.block _ hlt hn
    · exact hm.only.block _ (by omega) (fun hf => by have := (hp.lt hf).1; omega)
theorem CAt.below (h : CAt w b0 b2 b4 s Bs W blamed met) (hb : Below W.heap.size W W') : CNxt w b0 b2 b4 s Bs W W' blamed met := by
  obtain ⟨bv, mv, hp, hn⟩ := h.rows
  exact h.step hp hn (PMut.below hp hb)
theorem CAt.own (B : Nat) (hB : w.heap.size ≤ B) (h : CAt w b0 b2 b4 s Bs W blamed met) {row : Option Nat} (hg : W.grownBy W' row) (hr : ∀ r, row = some r → B ≤ r ∧ ∃ o : Obj, W.heap[r]? = some o ∧ o.isCells = false) : CAt w b0 b2 b4 s Bs W' blamed met := by
  obtain ⟨bv, mv, hp, hn⟩ := h.rows
  refine ⟨h.bel.grown hg h.bel.size (fun k e => by have := (hr k e).1; omega), h.ge, Nat.lt_of_lt_of_le h.lt hg.size, bv, mv, hp.keep (fun k hk => hg.block k (hp.lt hk).2 (fun e => ?_)), hn⟩
  obtain ⟨_, o, ho, hc⟩ := hr k e.symm
  obtain ⟨o', ho', hc'⟩ := foot_cells hp hk
  rw [ho] at ho'; cases ho'; rw [hc] at hc'; cases hc'
/-- What can be read, and the two ways to go on. -/
theorem CAt.cells (h : CAt w b0 b2 b4 s Bs W blamed met) (hl : met.length = 13) : ∃ bv g3 cap3 ao cp, bv = .slice ao blamed.length cp ∧ W.cell? ⟨b0, 0, none⟩ = some (.pointer (some ⟨s, 0, none⟩)) ∧ W.cell? ⟨b2, 0, none⟩ = some bv ∧ W.frozen? ⟨b2, 0, none⟩ = false ∧ W.cell? ⟨b4, 0, none⟩ = some (.slice (some ⟨g3, 0, none⟩) 13 cap3) ∧ g3 < W.heap.size ∧
    (∀ j x, met[j]? = some x → W.cell? ⟨g3, j, none⟩ = some (.bool x)) ∧ (∀ j, W.frozen? ⟨g3, j, none⟩ = false) ∧ W.ownsRow w.heap.size 3 1 bv blamed.length (ints blamed) ∧
    (∀ j, CNxt w b0 b2 b4 s Bs W (W.setCell ⟨g3, j, none⟩ (.bool true)) blamed (met.set j true)) ∧
    (∀ (g' cap' : Nat) (w4 : World) (x : Int) (tt : TypeId), w4.ownsRow w.heap.size 3 1 (.slice (some ⟨g', 0, none⟩) (blamed.length + 1) cap') (blamed.length + 1) (ints blamed ++ [.int .i64 x]) → (W.alloc (.cells #[.int .i64 x] tt)).grownBy w4 bv.ownBlock → (bv.ownBlock = some g' ∨ g' = (W.alloc (.cells #[.int .i64 x] tt)).heap.size) →
      w4.cell? ⟨b2, 0, none⟩ = some bv ∧ w4.frozen? ⟨b2, 0, none⟩ = false ∧ CNxt w b0 b2 b4 s Bs W (w4.setCell ⟨b2, 0, none⟩ (.slice (some ⟨g', 0, none⟩) (blamed.length + 1) cap')) (blamed ++ [x]) met) := by
  obtain ⟨bv, mv, hp, hn⟩ := h.rows
  have r0 := hp.rows 0 _ rfl
  have r1 := hp.rows 1 _ rfl
  have r2 := hp.rows 2 _ rfl
  have r3 : W.ownsRow w.heap.size 3 1 bv blamed.length (ints blamed) := hp.rows 3 _ rfl
  have r4 : W.ownsRow w.heap.size 4 1 mv met.length (bools met) := hp.rows 4 _ rfl
  obtain ⟨g3, cap3, hmv, -, hg3⟩ := World.ownsRow.form r4 (by omega)
  obtain ⟨ao, cp, hbv⟩ := owns_shape r3
  rw [hl] at hmv
  refine ⟨bv, g3, cap3, ao, cp, hbv, World.ownsRow.cellAt r0 0 (by simp [structRow]), World.ownsRow.cellAt r1 0 (by simp [structRow]), World.ownsRow.frozenAt r1 0, ?_, hg3, fun j x hj => ?_, fun j => ?_, r3, fun j => ?_, fun g' cap' w4 x tt h1 h2 h3 => ?_⟩
  · rw [World.ownsRow.cellAt r2 0 (by simp [structRow]), ← hmv]; rfl
  · rw [hmv, hl] at r4
    have hj' := (List.getElem?_eq_some_iff.1 hj).1
    rw [r4.cellAt j (by omega)]
    unfold bools
    rw [List.getElem?_map, hj]
    rfl
  · rw [hmv, hl] at r4
    exact r4.frozenAt j
  · have hs := PMut.store hp (i := 4) (r := boolRow mv met) rfl (g := g3) (cap := cap3) (by show mv = _; rw [hmv, ← hl]; rfl) j (.bool true)
    have e : (coreRows b0 b2 b4 s bv mv blamed met).set 4 ⟨4, 1, mv, met.length, (bools met).set j (.bool true)⟩ = coreRows b0 b2 b4 s bv mv blamed (met.set j true) := by
      unfold coreRows boolRow
      rw [bools_set, List.length_set]
      rfl
    exact h.step hp hn (by rw [← e]; exact hs)
  · have hA : PMut w.heap.size W (coreRows b0 b2 b4 s bv mv blamed met) (W.alloc (.cells #[.int .i64 x] tt)) (coreRows b0 b2 b4 s bv mv blamed met) := PMut.below hp ((Below.refl _ _).alloc (Nat.le_refl _) _)
    have hR := PMut.row hA.pack (i := 3) (r' := intRow (.slice (some ⟨g', 0, none⟩) (blamed.length + 1) cap') (blamed ++ [x])) rfl (by
      unfold Row.ok intRow
      simp only [List.length_append, List.length_cons, List.length_nil, ints_snoc]
      exact h1) h2 (by
      rcases h3 with h3 | h3
      · exact .inr (.inl h3.symm)
      · exact .inr (.inr ⟨g', rfl, by omega⟩))
    have q1 := hR.pack.rows 1 _ rfl
    have hS := PMut.store hR.pack (i := 1) rfl (g := b2) (cap := 1) rfl 0 (.slice (some ⟨g', 0, none⟩) (blamed.length + 1) cap')
    refine ⟨World.ownsRow.cellAt q1 0 (by simp [structRow]), World.ownsRow.frozenAt q1 0, h.step hp hn (hA.trans (hR.trans hS))⟩
end

/-- Behind the loop: the core grows beside. -/
structure FAt (w : World) (b0 b2 b4 s D : Nat) (bv mv : Value) (bl : List Int) (mt : List Bool) (wr : World) (v : Value) (core : List Int) : Prop where
  bel : Below w.heap.size w wr
  pack : Pack w.heap.size wr (coreRows b0 b2 b4 s bv mv bl mt ++ [intRow v core])
  rec_ : wr.heap[D]? = some (.deferred (some []))
section
variable {w wr : World} {b0 b2 b4 s D : Nat} {bv mv v : Value} {bl core : List Int} {mt : List Bool}
theorem FAt.begin (hb : Below w.heap.size w wr) (hp : Pack w.heap.size wr (coreRows b0 b2 b4 s bv mv bl mt)) (hD : wr.heap[D]? = some (.deferred (some []))) : FAt w b0 b2 b4 s D bv mv bl mt wr (.slice none 0 0) [] :=
  ⟨hb, hp.add (r := intRow (.slice none 0 0) []) (owns_nil _ _ _) (Below.refl _ _) (fun g hg => by cases hg), hD⟩
theorem FAt.read (h : FAt w b0 b2 b4 s D bv mv bl mt wr v core) : wr.cell? ⟨b0, 0, none⟩ = some (.pointer (some ⟨s, 0, none⟩)) ∧ wr.cell? ⟨b2, 0, none⟩ = some bv ∧ Lies wr bv (ints bl) ∧ wr.ownsRow w.heap.size 3 1 v core.length (ints core) := by
  have r0 := h.pack.rows 0 _ rfl
  have r1 := h.pack.rows 1 _ rfl
  have r3 : wr.ownsRow w.heap.size 3 1 bv bl.length (ints bl) := h.pack.rows 3 _ rfl
  exact ⟨World.ownsRow.cellAt r0 0 (by simp [structRow]), World.ownsRow.cellAt r1 0 (by simp [structRow]), lies_of_owns r3 (ints_len _), h.pack.rows 5 _ rfl⟩
theorem FAt.app (h : FAt w b0 b2 b4 s D bv mv bl mt wr v core) {g' cap' : Nat} {w4 : World} {x : Int} {tt : TypeId} (h1 : w4.ownsRow w.heap.size 3 1 (.slice (some ⟨g', 0, none⟩) (core.length + 1) cap') (core.length + 1) (ints core ++ [.int .i64 x])) (h2 : (wr.alloc (.cells #[.int .i64 x] tt)).grownBy w4 v.ownBlock) (h3 : v.ownBlock = some g' ∨ g' = (wr.alloc (.cells #[.int .i64 x] tt)).heap.size) :
    FAt w b0 b2 b4 s D bv mv bl mt w4 (.slice (some ⟨g', 0, none⟩) (core.length + 1) cap') (core ++ [x]) := by
  have hA := PMut.below h.pack (w' := wr.alloc (.cells #[.int .i64 x] tt)) ((Below.refl _ _).alloc (Nat.le_refl _) _)
  have hR := PMut.row hA.pack (i := 5) (r' := intRow (.slice (some ⟨g', 0, none⟩) (core.length + 1) cap') (core ++ [x])) rfl (by
    unfold Row.ok intRow
    simp only [List.length_append, List.length_cons, List.length_nil, ints_snoc]
    exact h1) h2 (by
    rcases h3 with h3 | h3
    · exact .inr (.inl h3.symm)
    · exact .inr (.inr ⟨g', rfl, by omega⟩))
  have hm := hA.trans hR
  have hDl := (Array.getElem?_eq_some_iff.1 h.rec_).1
  refine ⟨h.bel.trans (hm.toBelow h.pack (Nat.le_refl _) h.bel.size), hR.pack, (hm.only.block D hDl (fun hf => ?_)).trans h.rec_⟩
  obtain ⟨o, ho, hc⟩ := foot_cells h.pack hf
  rw [h.rec_] at ho
  cases ho
  cases hc
end
/-- 'x = append(x, a)' inside a fence. -/
theorem append_cellIn {F : Fence} {nn : Nat} {P : Program} {ops : Array Oper} {rest : List Oper} {o : Oper} {a : Act} {Q : Exit → Act → World → Prop} {w1 : World} {base n bytes : Nat} {v val z : Value} {xs : List Value} {tt : TypeId}
    (hgd : o.guard = none) (s x : Operand) (t e : TypeId) (ho : o.op = .call { callee := .builtin .append, args := #[s, x], argTypes := #[t, t] })
    (ht : P.underlying t = some (.slice e)) (hinfo : (P.info? e).map (fun i => (i.zero, i.size, i.bytes)) = some (some z, 1, bytes)) (hzs : z.cells.size = 1) (hby : bytes ≤ 24)
    (hown : w1.ownsRow base e 1 v n xs) (hs : a.eval s = v) (hx : a.eval x = .slice (some ⟨w1.heap.size, 0, none⟩) 1 1) (h1 : val.oneCell' = true) (hn : n ≤ 20000000) (hbase : base ≤ w1.heap.size)
    (h : ∀ (g cap : Nat) (w' : World), w'.ownsRow base e 1 (.slice (some ⟨g, 0, none⟩) (n + 1) cap) (n + 1) (xs ++ [val]) → (w1.alloc (.cells #[val] tt)).grownBy w' v.ownBlock → (v.ownBlock = some g ∨ g = (w1.alloc (.cells #[val] tt)).heap.size) → wpListIn F nn P ops Q rest (a.put o.dst (.slice (some ⟨g, 0, none⟩) (n + 1) cap)) w') :
    wpListIn F nn P ops Q (o :: rest) a (w1.alloc (.cells #[val] tt)) := by
  obtain ⟨i0, hi0, hz0, hz1, hz2⟩ := info_parts hinfo
  have hnb : (n + 1) * bytes ≤ 140737488355328 := Nat.le_trans (Nat.mul_le_mul (Nat.add_le_add_right hn 1) hby) (by omega)
  refine wpListIn_plain hgd fun K hK' => ?_
  obtain ⟨g, cap, w', hrun, r1, r2, r3, r4⟩ := run_append_lies (P := P) (w1.alloc (.cells #[val] tt)) t o.type base e i0 z 1 bytes ht hi0 hz0 hz1 hz2 hzs (by decide) v n xs (hown.alloc _) ⟨w1.heap.size, 0, none⟩ 1 1 [val] rfl (cell_one_new _ _ _) (by intro u hu; simp at hu; subst hu; exact h1) (by decide) (by unfold maxLen; omega) hnb (by simp; omega) _ rfl
  unfold Oper.wpIn
  refine ⟨?_, ?_⟩
  · simp [Oper.about, ho, resolve, Target.leads, Sem.run_pure]
  · rw [Oper.semAt_plain F _ _ (by rw [ho]; intro c hc'; cases hc')]
    simp [execOp, ho, resolve, invoke, builtin, hs, hx, hrun, Result.andThen]
    exact hK' _ _ (h g cap w' r1 r2 r3)

end Go.Proofs.YtekkkoipcghlmaaGreatDoor
