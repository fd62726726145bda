import Derived.Test.YtekkkoipcghlmaaGreatDoorC43
set_option linter.all false
namespace Go.Proofs.YtekkkoipcghlmaaGreatDoor
open Go.RowKit

/-- The clauses that are kept say what these clauses say. -/
structure KeepsL (ms : List Nat) (L : List (List Int)) : Prop where
  ok : KeptOK ms
  same : ∀ b, (∀ g, g ∈ ms → holdsB b g) ↔ ∀ c, c ∈ L → holdsOf b c = true
theorem KeepsL.of {L : List (List Int)} (hL : ∀ c, c ∈ L → Lits c ∧ c.length ≤ 3) (hl : L.length ≤ 100) : KeepsL (keptTo L L.length) L := ⟨kept_fine hL hl, kept_same hL hl⟩
theorem KeepsL.add {ms : List Nat} {L : List (List Int)} (h : KeepsL ms L) {c : List Int} (hc : Lits c) (hs : sizes ms + c.length ≤ 400) (hn : ms.length ≤ 2000000) (ha : alwaysMask (Sp.maskOf c) = false) : addTo ms c = (0, ms ++ [Sp.maskOf c]) ∧ KeepsL (ms ++ [Sp.maskOf c]) (L ++ [c]) := by
  have hall : allInt c = true := by
    rw [allInt, List.all_eq_true]
    exact fun x hx => isLit_iff.2 (hc x hx)
  have hl := litsMask_len c
  have hm : Sp.maskOf c < 2 ^ 24 := Sp.maskOf_lt _ (fun y hy => (hc y hy).2)
  refine ⟨?_, ⟨fun m hm' => ?_, by rw [sizes_snoc]; omega, by rw [List.length_append, List.length_singleton]; omega⟩, fun b => ?_⟩
  · unfold addTo
    rw [if_neg (by rw [hall]; simp), if_neg (by rw [ha]; simp), if_neg (by omega)]
  · rcases List.mem_append.1 hm' with h1 | h1
    · exact h.ok.1 m h1
    · rw [List.mem_singleton.1 h1]; exact ⟨hm, ha⟩
  · constructor
    · intro hb c' hc'
      rcases List.mem_append.1 hc' with h1 | h1
      · exact (h.same b).1 (fun g hg => hb g (List.mem_append_left _ hg)) c' h1
      · rw [List.mem_singleton.1 h1]
        exact (holdsB_mask (fun x hx => (hc x hx).1)).1 (hb _ (List.mem_append_right _ (List.mem_singleton.2 rfl)))
    · intro hb g hg
      rcases List.mem_append.1 hg with h1 | h1
      · exact (h.same b).2 (fun c' hc' => hb c' (List.mem_append_left _ hc')) g h1
      · rw [List.mem_singleton.1 h1]
        exact (holdsB_mask (fun x hx => (hc x hx).1)).2 (hb _ (List.mem_append_right _ (List.mem_singleton.2 rfl)))
theorem maskText_sizes : ∀ ms : List Nat, (maskText ms).length ≤ 4 * sizes ms + ms.length := by
  intro ms
  induction ms with
  | nil => simp [maskText, sizes]
  | cons m r ih =>
    have e1 : maskText (m :: r) = Sp.told (Sp.litsOf m) ++ maskText r := rfl
    have e2 : sizes (m :: r) = (Sp.litsOf m).length + sizes r := by simp [sizes]
    have := toldBody_len (Sp.litsOf m)
    rw [e1, e2, List.length_append, List.length_cons]
    unfold Sp.told
    simp only [List.length_append, List.length_cons, List.length_nil]
    omega

/-- A literal of a model, and its opposite. -/
def litB (b i : Nat) : Int := if b.testBit i then ((i : Int) + 1) else -((i : Int) + 1)
/-- The first four literals of a model, i of them turned. -/
def turned (b i : Nat) : List Int := (List.range 4).map (fun j => if j < i then -litB b j else litB b j)
theorem turned_zero (b : Nat) : turned b 0 = (modelOf b).take 4 := by
  unfold turned modelOf litB
  rw [← List.map_take]
  rfl
theorem turned_get (b i j : Nat) (h : j < 4) : (turned b i)[j]? = some (if j < i then -litB b j else litB b j) := by
  unfold turned; simp [h]
theorem turned_len (b i : Nat) : (turned b i).length = 4 := by simp [turned]
theorem turned_set (b i : Nat) (h : i < 4) : (turned b i).set i (-litB b i) = turned b (i + 1) := by
  apply List.ext_getElem?
  intro j
  rw [List.getElem?_set]
  by_cases hj : j < 4
  · rw [turned_get b (i + 1) j hj]
    by_cases e : i = j
    · subst e
      rw [if_pos rfl, if_pos (by rw [turned_len]; exact h), if_pos (by omega)]
    · rw [if_neg e, turned_get b i j hj]
      by_cases h1 : j < i
      · rw [if_pos h1, if_pos (by omega)]
      · rw [if_neg h1, if_neg (by omega)]
  · have h1 : (turned b (i + 1))[j]? = none := List.getElem?_eq_none (by rw [turned_len]; omega)
    have h2 : (turned b i)[j]? = none := List.getElem?_eq_none (by rw [turned_len]; omega)
    rw [h1, if_neg (by omega), h2]
theorem litB_mod (b i : Nat) (h : i < 4) : litB (b % 16) i = litB b i := by
  unfold litB
  rw [show (16 : Nat) = 2 ^ 4 from rfl, Nat.testBit_mod_two_pow, decide_eq_true h, Bool.true_and]
theorem turned_mod (b : Nat) : turned (b % 16) 4 = turned b 4 := by
  unfold turned
  apply List.map_congr_left
  intro j hj
  rw [List.mem_range] at hj
  rw [litB_mod b j hj]
theorem turned_holds (b b' : Nat) (h : b' < 16) : holdsOf b' (turned b 4) = (b' != b % 16) := by
  have key : ∀ x y : Fin 16, holdsOf y.val (turned x.val 4) = (y.val != x.val) := by decide +kernel
  rw [← turned_mod b]
  exact key ⟨b % 16, Nat.mod_lt _ (by decide)⟩ ⟨b', h⟩
theorem turned_in (b : Nat) : In 4 (turned b 4) ∧ alwaysMask (Sp.maskOf (turned b 4)) = false := by
  have key : ∀ x : Fin 16, (∀ y, y ∈ turned x.val 4 → y ≠ 0 ∧ -4 ≤ y ∧ y ≤ 4) ∧ alwaysMask (Sp.maskOf (turned x.val 4)) = false := by decide +kernel
  rw [← turned_mod b]
  exact key ⟨b % 16, Nat.mod_lt _ (by decide)⟩
theorem filter_less {α : Type} [DecidableEq α] (p : α → Bool) (a : α) (hp : p a = true) : ∀ l : List α, l.Nodup → a ∈ l → (l.filter (fun x => p x && x != a)).length + 1 = (l.filter p).length := by
  intro l
  induction l with
  | nil => intro _ h; cases h
  | cons x l ih =>
    intro hn hm
    rw [List.nodup_cons] at hn
    by_cases e : x = a
    · subst e
      have hs : l.filter (fun y => p y && y != x) = l.filter p := List.filter_congr (fun y hy => by
        have : (y != x) = true := by simpa using fun e : y = x => hn.1 (e ▸ hy)
        rw [this, Bool.and_true])
      rw [List.filter_cons, List.filter_cons, hs]
      simp [hp]
    · have hm' : a ∈ l := by
        rcases List.mem_cons.1 hm with h | h
        · exact absurd h.symm e
        · exact h
      have := ih hn.2 hm'
      have hx : (x != a) = true := by simpa using e
      rw [List.filter_cons, List.filter_cons, hx, Bool.and_true]
      cases p x
      · simpa using this
      · simp only [if_true, List.length_cons]; omega
/-- A model is forbidden: one less. -/
theorem count_less {L : List (List Int)} {b : Nat} (hL : ∀ c, c ∈ L → In 4 c) (hb : ∀ c, c ∈ L → holdsOf b c = true) : modelsTo (L ++ [turned b 4]) 16 + 1 = modelsTo L 16 := by
  unfold modelsTo
  have e : (List.range 16).filter (fun x => (L ++ [turned b 4]).all (holdsOf x)) = (List.range 16).filter (fun x => L.all (holdsOf x) && x != b % 16) := List.filter_congr (fun x hx => by
    rw [List.all_append, List.all_cons, List.all_nil, Bool.and_true, turned_holds b x (List.mem_range.1 hx)])
  rw [e]
  refine filter_less (fun x => L.all (holdsOf x)) (b % 16) ?_ (List.range 16) List.nodup_range (List.mem_range.2 (Nat.mod_lt _ (by decide)))
  show L.all (holdsOf (b % 16)) = true
  rw [List.all_eq_true]
  intro c hc
  have := holds_mod (b := b) (hL c hc)
  rw [show (2 : Nat) ^ 4 = 16 from rfl] at this
  rw [this]
  exact hb c hc

/-- A number in a row of one's own is written over. -/
theorem owns_set {w : World} {base g cap n i : Nat} {xs : List Int} (h : w.ownsRow base 3 1 (.slice (some ⟨g, 0, none⟩) n cap) n (ints xs)) (hi : i < n) (x : Int) : (w.setCell ⟨g, i, none⟩ (.int .i64 x)).ownsRow base 3 1 (.slice (some ⟨g, 0, none⟩) n cap) n (ints (xs.set i x)) := by
  have hl : xs.length = n := by have := h.1; simpa [ints] using this
  refine ⟨by simp [ints, hl], ?_⟩
  rcases h.2 with ⟨hv, _⟩ | ⟨g', cap', cur, hv, a1, a2, a3, a4, a5, a6⟩
  · cases hv
  · cases hv
    refine .inr ⟨g, cap, _, rfl, a1, heap_setCell_same w g i _ _ _ a2, a3, a4, by simpa using a5, ?_⟩
    have e : ints (xs.set i x) = (ints xs).set i (.int .i64 x) := by simp [ints, List.map_set]
    rw [e, ← a6]
    simp [List.take_set]

end Go.Proofs.YtekkkoipcghlmaaGreatDoor

namespace Go.Proofs.YtekkkoipcghlmaaGreatDoor
open Go.RowKit

/-- What Counted has behind k models. -/
structure CInv (w1 wr : World) (base x m0 k : Nat) (lv : Value) (us : List Value) (L : List (List Int)) (ms : List Nat) (kv pv : Value) (pb : List UInt8) : Prop where
  below : Below w1.heap.size w1 wr
  le : w1.heap.size ≤ base
  row : wr.ownsRow w1.heap.size 25 1 lv L.length us
  rows : ∀ (i : Nat) (y : Value) (c : List Int), us[i]? = some y → L[i]? = some c → RowT wr y c
  solver : XAt base wr x kv ms pv pb
  acc : Accepted ms pb
  small : pb.length ≤ 1000000000 * k
  keeps : KeepsL ms L
  size : sizes ms ≤ 36 + 4 * k
  len : ms.length ≤ 12 + k
  many : L.length ≤ 12 + k
  lits : ∀ c, c ∈ L → In 4 c ∧ c.length ≤ 4
  count : modelsTo L 16 + k = m0

section
variable {w1 wr w' : World} {base x m0 k : Nat} {lv kv pv : Value} {us : List Value} {L : List (List Int)} {ms : List Nat} {pb : List UInt8}
theorem CInv.units (h : CInv w1 wr base x m0 k lv us L ms kv pv pb) : UnitsT wr lv L := by
  have hl : us.length = L.length := by have := h.row.1; simpa using this
  exact ⟨us, lies_of_owns h.row hl, TypedAt.of_owns h.row, hl, h.rows⟩
theorem CInv.model (h : CInv w1 wr base x m0 k lv us L ms kv pv pb) (hk : k < m0) : ∃ b, ∀ g, g ∈ ms → holdsB b g := by
  have hc := h.count
  have hne : modelsTo L 16 ≠ 0 := by omega
  rcases Classical.em (∃ b, ∀ g, g ∈ ms → holdsB b g) with h1 | h1
  · exact h1
  · refine absurd ((models_any (n := 4) (fun c hc => (h.lits c hc).1)).2 (fun b hb => ?_)) hne
    exact h1 ⟨b, (h.keeps.same b).2 hb⟩
/-- Behind a question. -/
structure CMid (w1 wr w' : World) (base x m0 k : Nat) (lv : Value) (us : List Value) (L : List (List Int)) (ms : List Nat) (kv pv : Value) (pb : List UInt8) (vm : Value) (b : Nat) : Prop where
  below : Below w1.heap.size w1 w'
  le : w1.heap.size ≤ base
  row : w'.ownsRow w1.heap.size 25 1 lv L.length us
  rows : ∀ (i : Nat) (y : Value) (c : List Int), us[i]? = some y → L[i]? = some c → RowT w' y c
  solver : XAt base w' x kv ms pv pb
  acc : Accepted ms pb
  small : pb.length ≤ 1000000000 * (k + 1)
  model : RowT w' vm (modelOf b)
  shape : ∃ g cap, vm = .slice (some ⟨g, 0, none⟩) 12 cap ∧ 12 ≤ cap
  holds : ∀ c, c ∈ L → holdsOf b c = true
  lt : b < 4096
theorem CMid.below' {vm : Value} {b : Nat} {w2 : World} (h : CMid w1 wr w' base x m0 k lv us L ms kv pv pb vm b) (hb : Below w'.heap.size w' w2) : CMid w1 wr w2 base x m0 k lv us L ms kv pv pb vm b :=
  ⟨h.below.trans (hb.mono h.below.size), h.le, owns_below h.row hb, fun i y c hy hc => (h.rows i y c hy hc).below hb, h.solver.below hb, h.acc, h.small, h.model.below hb, h.shape, h.holds, h.lt⟩
theorem CInv.ask (h : CInv w1 wr base x m0 k lv us L ms kv pv pb) (hk : k < m0) (hm : m0 ≤ 16) (he : EnvFrom base wr) :
    Calls Tryz.prog 18 #[.pointer (some ⟨x, 0, none⟩), .slice none 0 0, .int .i64 0] wr fun e w' => ∃ g cap ao2 k2 c2 cf b, e = .returned (.tuple #[.agg #[.int .i64 1, .slice (some ⟨g, 0, none⟩) 12 cap, .slice ao2 k2 c2, .int .i64 cf], .int .i64 0]) ∧ 12 ≤ cap ∧ Hid (∃ pv' pb', CMid w1 wr w' base x m0 k lv us L ms kv pv' pb' (.slice (some ⟨g, 0, none⟩) 12 cap) b) := by
  have hsm := h.small
  refine (askK (A := []) h.solver h.keeps.ok he (fun y hy => by cases hy) (by simp) (Lies.nil _) (by omega)).mono ?_
  rintro e w' ⟨kind, ao, kk, c, ao2, k2, c2, cf, rfl, hres⟩
  obtain ⟨a1, a2, -⟩ := hres.out h.solver
  obtain ⟨pv', S, b1, b2, b3, -⟩ := h.acc.solve hres (fun y hy => by cases hy)
  rcases hres.verdict (fun y hy => by cases hy) with ⟨rfl, d2, b, d3, d4, d5, d6⟩ | ⟨rfl, d2, d3⟩
  · rcases d6.2 with ⟨hv, h0⟩ | ⟨g, cap, cur, hv, e1, e2, e3, e4⟩
    · omega
    · cases hv
      exact ⟨g, c, ao2, k2, c2, cf, b, rfl, e3, hide ⟨pv', _, h.below.trans (a2.mono h.le), h.le, owns_kept h.row a1 ⟨by decide, by decide⟩, fun i y c hy hc => (h.rows i y c hy hc).kept a1 ⟨by decide, by decide⟩, b1, b3, by rw [List.length_append]; omega, RowT.of_owns d6 (by simp [modelOf]), ⟨g, c, rfl, e3⟩, (h.keeps.same b).1 d5, d3⟩⟩
  · obtain ⟨b, hb⟩ := h.model hk
    exact absurd (fun y hy => by cases hy) (d3 b hb)
end

end Go.Proofs.YtekkkoipcghlmaaGreatDoor

namespace Go.Proofs.YtekkkoipcghlmaaGreatDoor
open Go.RowKit

/-- Behind the Add of a model's opposite. -/
structure CAdd (w1 w' : World) (base x : Nat) (lv cv : Value) (us : List Value) (L : List (List Int)) (ms : List Nat) (kv pv : Value) (pb : List UInt8) (b : Nat) : Prop where
  inv : UInv w1.heap.size w' w' lv us L
  row : RowT w' cv (turned b 4)
  solver : XAt base w' x kv (ms ++ [Sp.maskOf (turned b 4)]) pv pb
  below : Below w1.heap.size w1 w'

section
variable {w1 wr wz wi w' : World} {base x m0 k b : Nat} {lv kv pv vm cv : Value} {us : List Value} {L : List (List Int)} {ms : List Nat} {pb : List UInt8}
theorem CMid.add {g cc : Nat} (h : CMid w1 wr wz base x m0 k lv us L ms kv pv pb vm b) (hk : KeepsL ms L) (hs : sizes ms ≤ 36 + 4 * k) (hn : ms.length ≤ 12 + k) (hk16 : k < 16) (hb : Below wz.heap.size wz wi) (hc : wi.ownsRow wz.heap.size 3 1 (.slice (some ⟨g, 0, none⟩) 4 cc) 4 (ints (turned b 4))) :
    Calls Tryz.prog 24 #[.pointer (some ⟨x, 0, none⟩), .slice (some ⟨g, 0, none⟩) 4 cc] wi fun e w' => e = .returned (.int .i64 0) ∧ Hid (∃ kv', CAdd w1 w' base x lv (.slice (some ⟨g, 0, none⟩) 4 cc) us L ms kv' pv pb b) := by
  have hlits : Lits (turned b 4) := (turned_in b).1.lits (by decide)
  obtain ⟨hadd, -⟩ := hk.add hlits (by rw [turned_len]; omega) (by omega) (turned_in b).2
  have hX := h.solver.below hb
  have hrow : RowT wi (.slice (some ⟨g, 0, none⟩) 4 cc) (turned b 4) := RowT.of_owns hc (turned_len b 4)
  refine (addX_any base x kv _ ms (turned b 4) wi pv pb hX (by omega) (by rw [turned_len]; omega) hrow.1).mono ?_
  rintro e w' ⟨rfl, kv', a1, a2, -⟩
  rw [hadd] at a1 ⊢
  have hkt := KeptT.add hX a2
  have hbl := Only.added hX a2
  refine ⟨rfl, hide ⟨kv', ⟨owns_kept (owns_below h.row hb) hkt ⟨by decide, by decide⟩, fun i y c hy hcc => ((h.rows i y c hy hcc).below hb).kept hkt ⟨by decide, by decide⟩, Below.refl _ _, KeptT.refl _ _⟩, hrow.kept hkt ⟨by decide, by decide⟩, a1, ?_⟩⟩
  exact (h.below.trans (hb.mono h.below.size)).trans (hbl.mono h.le)
/-- The next round. -/
theorem CInv.next {lv' : Value} {us' : List Value} (hi : CInv w1 wr base x m0 k lv us L ms kv pv pb) {kv' pv' : Value} {pb' : List UInt8} {wa : World} (hm : CMid w1 wr wz base x m0 k lv us L ms kv pv' pb' vm b) (ha : CAdd w1 wa base x lv cv us L ms kv' pv' pb' b) (hu : UInv w1.heap.size wa w' lv' us' (L ++ [turned b 4])) (hk16 : k < 16) : CInv w1 w' base x m0 (k + 1) lv' us' (L ++ [turned b 4]) (ms ++ [Sp.maskOf (turned b 4)]) kv' pv' pb' := by
  have hlits : Lits (turned b 4) := (turned_in b).1.lits (by decide)
  have hs := hi.size
  have hn := hi.len
  have hmn := hi.many
  have hll := litsMask_len (turned b 4)
  rw [turned_len] at hll
  obtain ⟨hadd, hke⟩ := hi.keeps.add hlits (by rw [turned_len]; omega) (by omega) (turned_in b).2
  have hacc : Accepted (ms ++ [Sp.maskOf (turned b 4)]) pb' := hm.acc.add _
  have hcl := count_less (fun c hc => (hi.lits c hc).1) hm.holds
  have hct := hi.count
  refine ⟨ha.below.trans hu.below, hi.le, hu.row, hu.rows, ha.solver.kept hu.kept (by decide) (by decide) (by decide), hacc, hm.small, hke, by rw [sizes_snoc]; omega, by rw [List.length_append, List.length_singleton]; omega, by rw [List.length_append, List.length_singleton]; omega, fun c hc => ?_, by omega⟩
  rcases List.mem_append.1 hc with h1 | h1
  · exact hi.lits c h1
  · rw [List.mem_singleton.1 h1]; exact ⟨(turned_in b).1, by rw [turned_len]; omega⟩
theorem litB_bd (b i : Nat) (h : i < 4) : -12 ≤ litB b i ∧ litB b i ≤ 12 := by
  unfold litB
  split <;> omega
end

set_option maxRecDepth 100000 in
set_option maxHeartbeats 6400000 in
theorem counted_walk (v1 : Value) (zs : List Int) (w : World) (hl1 : zs.length ≤ 9223372036854775807) (hf1 : Fits zs) (hv1 : Lies w v1 (ints zs)) (he : Env w) :
    Calls Tryz.prog 12 #[v1] w fun e w' => e = .returned (.bool true) ∧ Below w.heap.size w w' := by
  have HC : Hid (Calls Tryz.prog 15 #[v1, .int .i64 4, .int .i64 12] w fun e w' => ∃ ov vs l, e = .returned ov ∧ w'.ownsRow w.heap.size 25 1 ov l.length vs ∧ RowsAt w' w.heap.size vs l ∧ l.length ≤ 12 ∧ (∀ c, c ∈ l → In 4 c ∧ c.length ≤ 3) ∧ Below w.heap.size w w') := hide (clausesK_any v1 zs 4 12 w hl1 hf1 (by decide) (by decide) (by decide) hv1)
  obtain ⟨a1, n1, c1, rfl⟩ : ∃ a n c, v1 = .slice a n c := by
    obtain ⟨a, c, h⟩ := lies_shape hv1; exact ⟨a, _, c, h⟩
  clear hv1 hf1
  go_enter Tryz.func12, Tryz.ntmps12
  go_wp2_with fail
  refine (unhide HC).mono ?_
  rintro e w2 ⟨ov, vs, l, rfl, hrow, hrows, hlen, hall, hb2⟩
  have HL : Hid (∀ c, c ∈ l → Lits c ∧ c.length ≤ 3) := hide (fun c hc => ⟨((hall c hc).1).lits (by omega), (hall c hc).2⟩)
  have HUN : Hid (UnitsT w2 ov l) := hide (UnitsT.of_rows hrow hrows)
  have HSV := hide (solverK_any ov l w2 (by omega) (fun c hc => by have := (unhide HL c hc).2; omega) (unhide HUN).rows (kept_adds (unhide HL) (by omega)))
  obtain ⟨oo, oc, hsh⟩ := owns_shape hrow
  have HROW := hide hrow
  have HROWS := hide hrows
  have HALL := hide hall
  have hs2 := hb2.size
  subst hsh
  clear hrow hrows hall HC
  go_wp2_with fail
  refine (unhide HSV).mono ?_
  rintro e w3 ⟨kv, rfl, hX, hb3⟩
  have hb03 : Below w.heap.size w w3 := hb2.trans (hb3.mono hb2.size)
  have HMO : Hid (Calls Tryz.prog 20 #[.slice oo l.length oc, .int .i64 4] w3 fun e w' => e = .returned (.int .i64 (modelsTo l 16 : Nat)) ∧ ∃ q, w' = w3.drewN q) := hide (modelsK_any _ l 4 w3 (by omega) (by omega) (fun c hc => ⟨(unhide HL c hc).1, by have := (unhide HL c hc).2; omega⟩) ((unhide HUN).below hb3).rows)
  have HI0 : Hid (∀ q, CInv w (w3.drewN q) w2.heap.size w2.heap.size (modelsTo l 16) 0 (.slice oo l.length oc) vs l (keptTo l l.length) kv (.slice none 0 0) []) := hide (fun q => by
    have hq : Below w3.heap.size w3 (w3.drewN q) := belowDrew (Below.refl _ _) q
    have h3 := hb3.trans (hq.mono hb3.size)
    exact ⟨hb03.trans (hq.mono hb03.size), hs2, owns_below (unhide HROW) h3, fun i y c hy hc => (RowT.of_owns ((unhide HROWS).2 i y c hy hc) rfl).below h3, hX.below hq, Accepted.nil _, by simp, KeepsL.of (unhide HL) (by omega), by have := kept_small (unhide HL) l.length (Nat.le_refl _); omega, by have := keptTo_len l l.length; omega, by omega, fun c hc => ⟨(unhide HALL c hc).1, by have := (unhide HALL c hc).2; omega⟩, by omega⟩)
  have HENV : Hid (∀ wx, Below w.heap.size w wx → EnvFrom w2.heap.size wx ∧ Env wx) := hide (fun wx hb => ⟨⟨w, he.toEnvT, hs2, hb⟩, he.below hb⟩)
  have hm16 : modelsTo l 16 ≤ 16 := modelsTo_le l 16
  clear HSV hX HUN HROW HROWS he
  go_wp2_with fail
  refine (unhide HMO).mono ?_
  rintro e w4 ⟨rfl, q0, rfl⟩
  have HI := hide (unhide HI0 q0)
  clear HI0 HMO
  generalize w3.drewN q0 = w4 at *
  generalize modelsTo l 16 = m0 at *
  go_wp2_with fail
  go_loopw [3, 7, 8, 9, 10, 11, 12, 13, 14, 15] (fun lv i _ _ _ _ _ _ _ _ wr => ∃ (k : Nat) (us : List Value) (lo : Option Addr) (lc : Nat) (L : List (List Int)) (ms : List Nat) (kv pv : Value) (pb : List UInt8), k ≤ m0 ∧ i = .int .i64 k ∧ lv = .slice lo L.length lc ∧ Hid (CInv w wr w2.heap.size w2.heap.size m0 k (.slice lo L.length lc) us L ms kv pv pb)) (fun _ i _ _ _ _ _ _ _ _ _ => m0 - (intOf i).toNat)
  case atStart => exact ⟨0, vs, oo, oc, l, _, kv, _, _, Nat.zero_le _, rfl, rfl, HI⟩
  case round =>
    obtain ⟨k, us, lo, lc, L, ms, kv', pv, pb, hk, rfl, rfl, HV⟩ := hrel
    have hbr := (unhide HV).below
    by_cases hlt : k < m0
    · have HAS := hide ((unhide HV).ask hlt hm16 (unhide HENV wr hbr).1)
      have hmany := (unhide HV).many
      have HLL : Hid (∀ c, c ∈ L → Lits c ∧ c.length ≤ 10000000) := hide (fun c hc => ⟨((unhide HV).lits c hc).1.lits (by omega), by have := ((unhide HV).lits c hc).2; omega⟩)
      have hdk : decide ((k : Int) < (m0 : Int)) = true := decide_eq_true (by omega)
      clear HI
      go_wp2_with fail
      refine (unhide HAS).mono ?_
      rintro e w5 ⟨g, cap, ao2, k2, c2, cf, b, rfl, hcap, HM⟩
      obtain ⟨pv5, pb5, hM5⟩ := unhide HM
      obtain ⟨w6, hw6⟩ : ∃ w6, w5.alloc (.cells #[.int .i64 1, .slice (some ⟨g, 0, none⟩) 12 cap, .slice ao2 k2 c2, .int .i64 cf] 34) = w6 := ⟨_, rfl⟩
      have hb6 : Below w5.heap.size w5 w6 := by rw [← hw6]; exact below_new w5 _
      have hbox6 : w6.heap[w5.heap.size]? = some (.cells #[.int .i64 1, .slice (some ⟨g, 0, none⟩) 12 cap, .slice ao2 k2 c2, .int .i64 cf] 34) := by rw [← hw6]; exact heap_alloc_new w5 _
      have p0 : w6.cell? ⟨w5.heap.size, 0, none⟩ = some (.int .i64 1) := by simp [World.cell?, hbox6]
      have p1 : w6.cell? ⟨w5.heap.size, 1, none⟩ = some (.slice (some ⟨g, 0, none⟩) 12 cap) := by simp [World.cell?, hbox6]
      have HM6 := hide (hM5.below' hb6)
      have hlt6 : w5.heap.size < w6.heap.size := lt_of_block hbox6
      have HBI : Hid (Calls Tryz.prog 21 #[.slice (some ⟨g, 0, none⟩) 12 cap] w6 fun e w' => e = .returned (.tuple #[.int .i64 b, .bool true]) ∧ ∃ q, w' = w6.drewN q) := hide (bitsK_any _ b w6 (unhide HM6).lt (unhide HM6).model.1)
      have HAL : Hid (∀ q, Calls Tryz.prog 22 #[.slice lo L.length lc, .int .i64 (b : Nat)] (w6.drewN q) fun e w' => e = .returned (.bool true) ∧ ∃ q2, w' = (w6.drewN q).drewN q2) := hide (fun q => by
        have hu : UnitsT (w6.drewN q) (.slice lo L.length lc) L := by
          have hl : us.length = L.length := by have := (unhide HM6).row.1; simpa using this
          have : UnitsT w6 (.slice lo L.length lc) L := ⟨us, lies_of_owns (unhide HM6).row hl, TypedAt.of_owns (unhide HM6).row, hl, (unhide HM6).rows⟩
          exact this.below (belowDrew (Below.refl _ _) q)
        have := allK_any _ L b (w6.drewN q) (by omega) (unhide HM6).lt (unhide HLL) hu.rows
        rw [show L.all (holdsOf b) = true from by rw [List.all_eq_true]; exact (unhide HM6).holds] at this
        exact this)
      have hb4096 := (unhide HM6).lt
      clear HAS HM hM5 hbox6 hb6 HLL
      go_wp2_with fail
      refine (unhide HBI).mono ?_
      rintro e w7 ⟨rfl, q7, rfl⟩
      go_wp2_with fail
      refine (unhide HAL q7).mono ?_
      rintro e w8 ⟨rfl, q8, rfl⟩
      rw [World.drewN_drewN]
      have hq8 : Below w6.heap.size w6 (w6.drewN (q7 + q8)) := belowDrew (Below.refl _ _) _
      have HM8 := hide ((unhide HM6).below' hq8)
      have p1 : (w6.drewN (q7 + q8)).cell? ⟨w5.heap.size, 1, none⟩ = some (.slice (some ⟨g, 0, none⟩) 12 cap) := p1
      clear HBI HAL HM6 hq8 hw6
      generalize w6.drewN (q7 + q8) = wz at *
      have HCP : Hid (Calls Tryz.prog 19 #[.slice (some ⟨g, 0, none⟩) 4 cap] wz fun e w' => ∃ gc cc, e = .returned (.slice (some ⟨gc, 0, none⟩) 4 cc) ∧ Hid (w'.ownsRow wz.heap.size 3 1 (.slice (some ⟨gc, 0, none⟩) 4 cc) 4 (ints (turned b 0))) ∧ Hid (Below wz.heap.size wz w')) := hide (by
        have hl4 : Lies wz (.slice (some ⟨g, 0, none⟩) 4 cap) (ints (turned b 0)) := by
          rw [turned_zero]
          rcases (unhide HM8).model.1 with ⟨h0, _⟩ | ⟨bb, off, cap', hp, hv, hb, hc⟩
          · exfalso; have := congrArg List.length h0; simp [ints, modelOf] at this
          · simp only [Value.slice.injEq, Option.some.injEq, Addr.mk.injEq] at hv
            obtain ⟨⟨rfl, rfl, -⟩, -, rfl⟩ := hv
            refine .inr ⟨g, 0, cap, by simp [ints, modelOf], by simp [ints, modelOf], hb, fun j y hy => hc j y ?_⟩
            have hj : j < 4 := by have := (List.getElem?_eq_some_iff.1 hy).1; simp [ints, modelOf] at this; exact this
            rw [← hy]
            simp [ints, List.getElem?_take, hj]
        refine (copiedK_any _ (turned b 0) wz (by rw [turned_len]; omega) hl4).mono ?_
        rintro e w' ⟨v', rfl, h2, h3⟩
        rw [turned_len] at h2
        rcases h2.2 with ⟨hv, h0⟩ | ⟨gc, cc, cur, hv, -⟩
        · omega
        · subst hv
          exact ⟨gc, cc, rfl, hide h2, hide h3⟩)
      go_wp2_with fail
      refine (unhide HCP).mono ?_
      rintro e w9 ⟨gc, cc, rfl, HC9, HB9⟩
      clear HCP p1
      go_wp2_with fail
      go_loopw [14] (fun i wi => ∃ j : Nat, j ≤ 4 ∧ i = .int .i64 j ∧ Hid (wi.ownsRow wz.heap.size 3 1 (.slice (some ⟨gc, 0, none⟩) 4 cc) 4 (ints (turned b j))) ∧ Hid (Below wz.heap.size wz wi)) (fun i _ => 4 - (intOf i).toNat)
      case atStart => exact ⟨0, by omega, rfl, HC9, HB9⟩
      case round =>
        obtain ⟨j, hj, rfl, HCJ, HBJ⟩ := hrel
        by_cases hj4 : j < 4
        · have hlt9 := ((unhide HCJ).lt gc rfl)
          have hcell : wr.cell? ⟨gc, j, none⟩ = some (.int .i64 (litB b j)) := by
            have := (unhide HCJ).cells (g := gc) rfl j (.int .i64 (litB b j)) (by simp only [ints, List.getElem?_map, turned_get b j j hj4, if_neg (Nat.lt_irrefl j)]; rfl)
            rw [Addr.add_lit, Nat.zero_add] at this
            exact this
          have hfz : wr.frozen? ⟨gc, j, none⟩ = false := by
            rcases (unhide HCJ).2 with ⟨hv, _⟩ | ⟨g', cap', cur, hv, _, hg, _⟩
            · cases hv
            · cases hv; exact frozen_of_row wr _ _ _ _ hg
          have hcc4 : 4 ≤ cc := by
            rcases (unhide HCJ).2 with ⟨hv, _⟩ | ⟨g', cap', cur, hv, _, hg, h4, _⟩
            · cases hv
            · cases hv; exact h4
          have HNX : Hid ((wr.setCell ⟨gc, j, none⟩ (.int .i64 (-litB b j))).ownsRow wz.heap.size 3 1 (.slice (some ⟨gc, 0, none⟩) 4 cc) 4 (ints (turned b (j + 1)))) := hide (by
            rw [← turned_set b j hj4]
            exact owns_set (unhide HCJ) hj4 _)
          have HNB : Hid (Below wz.heap.size wz (wr.setCell ⟨gc, j, none⟩ (.int .i64 (-litB b j)))) := hide ((unhide HBJ).setCell (p := ⟨gc, j, none⟩) hlt9.1 _)
          have hbd := litB_bd b j hj4
          generalize litB b j = y at *
          clear HCJ HBJ HC9 HB9 HM8
          go_wp2
          go_roundw
          case rel => exact ⟨j + 1, by omega, by go_num, HNX, HNB⟩
          case measure => simp [intOf]; omega
        · have hj4' : j = 4 := by omega
          subst hj4'
          have HAD := hide ((unhide HM8).add (unhide HV).keeps (unhide HV).size (unhide HV).len (by omega) (unhide HBJ) (unhide HCJ))
          clear HC9 HB9 HCJ HBJ
          go_wp2_with fail
          refine (unhide HAD).mono ?_
          rintro e w10 ⟨rfl, HA10⟩
          obtain ⟨kv10, hA10⟩ := unhide HA10
          have HA := hide hA10
          have hsz10 : w.heap.size ≤ w10.heap.size := hA10.below.size
          clear HAD HA10 hA10
          go_wp2_with (at_builtin; refine append_cellS (base := w.heap.size) rfl _ _ 27 25 rfl Tryz.underlying27 Tryz.infoInts rfl (by decide) (unhide HA).inv.row rfl rfl rfl (by omega) (by omega) ?_; intro g2 cap2 w11 hown11 hgr11 hloc11; have HP11 := hide ((unhide HA).inv.push rfl hown11 hgr11 (unhide HA).row (by omega)); clear hown11 hgr11 hloc11)
          go_roundw
          case rel => exact ⟨k + 1, _, _, _, L ++ [turned b 4], _, kv10, pv5, pb5, by omega, by go_num, by rw [List.length_append, List.length_singleton], hide (by rw [List.length_append, List.length_singleton]; exact (unhide HV).next (unhide HM8) (unhide HA) (unhide HP11) (by omega))⟩
          case measure => simp [intOf]; omega
    · have hkm : k = m0 := by omega
      subst hkm
      have hsm := (unhide HV).small
      have hct := (unhide HV).count
      have hsz := (unhide HV).size
      have hln := (unhide HV).len
      have HVD : Hid (Calls Tryz.prog 25 #[.pointer (some ⟨w2.heap.size, 0, none⟩), .slice none 0 0] wr fun e w' => e = .returned (.int .i64 2) ∧ Hid (∃ pv' pb', XAt w2.heap.size w' w2.heap.size kv' ms pv' pb' ∧ Accepted ms pb' ∧ pb'.length ≤ 100000000000 ∧ ∃ U, pb' = linesText U ++ [10]) ∧ Hid (Below w.heap.size w w')) := hide (by
        refine (verdictK (A := []) (unhide HV).solver (unhide HV).keeps.ok (unhide HENV wr hbr).1 (fun y hy => by cases hy) (by simp) (Lies.nil _) (by omega)).mono ?_
        rintro e w' ⟨kind, vm, vc, cf, rfl, hres⟩
        obtain ⟨b1, b2, -⟩ := hres.out (unhide HV).solver
        obtain ⟨pv', S, d1, d2, d3, d4⟩ := (unhide HV).acc.solve hres (fun y hy => by cases hy)
        have hk2 : kind = 2 := by
          rcases hres.verdict (fun y hy => by cases hy) with ⟨-, -, b, -, -, h5, -⟩ | ⟨h1, -⟩
          · exfalso
            have hz : modelsTo L 16 = 0 := by omega
            exact (models_any (n := 4) (fun c hc => ((unhide HV).lits c hc).1)).1 hz b (((unhide HV).keeps.same b).1 h5)
          · exact h1
        subst hk2
        obtain ⟨core, U, ⟨p, hp⟩, -, hU⟩ := d4 rfl
        have hcore : core = [] := by rw [hp]; rfl
        subst hcore
        exact ⟨rfl, hide ⟨pv', _, d1, d3, by rw [List.length_append]; omega, U, by rw [hU]; rfl⟩, hide (hbr.trans (b2.mono (unhide HV).le))⟩)
      have HTX : Hid ((maskText ms).length ≤ 6000) := hide (by have := maskText_sizes ms; omega)
      have HKO := hide (unhide HV).keeps.ok
      clear HV
      go_wp2_with fail
      refine (unhide HVD).mono ?_
      rintro e w5 ⟨rfl, HX5, HB5⟩
      obtain ⟨pv5, pb5, hX5, hA5, hp5, hU5⟩ := unhide HX5
      have HFO := hide (followedK hX5 (unhide HKO) (unhide HTX) hA5 (by omega) hU5 (unhide HENV w5 (unhide HB5)).2)
      clear hX5 hA5 HX5 HVD hU5
      go_wp2_with fail
      refine (unhide HFO).mono ?_
      rintro e w6 ⟨rfl, hb6⟩
      go_wp2
      go_ret
      exact ⟨rfl, (unhide HB5).trans (hb6.mono (unhide HB5).size)⟩

theorem counted_all (v0 : Value) (z0 : List Int) (w : World) (a0 : ArgL w v0 z0) (he : Env w) :
    Calls Tryz.prog 12 #[v0] w fun e w' => e = .returned (.bool true) ∧ Below w.heap.size w w' :=
  counted_walk v0 z0 w a0.len a0.fits a0.lies he

end Go.Proofs.YtekkkoipcghlmaaGreatDoor

namespace Go.Proofs.YtekkkoipcghlmaaGreatDoor
open Go.ChangeShapes Go.WideShapes Go.ChangeAt Go.RowKit Go.Deep

set_option maxRecDepth 100000 in
theorem counted_contract (H : Type) (enc : TypeId × Value → H) (W : World) (base : Nat) (args : Array Value) (ds gs : List (DataW H)) (before : List MemPlace)
    (hval : ∀ (j : Nat) t v, Tryz.f12.params[j]? = some t → args[j]? = some v → Value.okWide Tryz.prog W .any base t v)
    (hW : DataW.Whole enc Tryz.prog Tryz.f12.params.toList Rows.countedSpec.vars false W args.toList ds gs before) (hL : laidMetH Tryz.prog Rows.countedRow.laid W) (hS : W.ShapedOpen Tryz.prog) :
    Calls Tryz.prog 12 args W fun e W' => ∃ v, e = .returned v ∧ Rows.countedSpec.post enc Tryz.prog Tryz.f12 false true false false W args v W' := by
  have he := env_of hL hS
  have hW' := hW
  obtain ⟨p, q, hA0, hV, rfl, hfz, hnd⟩ := hW
  have hA : DataW.TrodAll enc Tryz.prog W 0 (fun _ => true) true Tryz.f12.params.toList args.toList ds p := hA0
  rw [Tryz.params12] at hA hval
  obtain ⟨v0, vs0, d0, ds0, p0, q0, hargs, rfl, rfl, t0, r0⟩ := trodAll_cons hA
  obtain ⟨rfl, rfl, rfl⟩ := trodAll_nil r0
  obtain rfl : args = #[v0] := by cases args; simp_all
  obtain ⟨rfl, rfl⟩ := trodVars_none hV
  obtain ⟨a0, l0, c0, rfl⟩ := okWide_slice Tryz.underlying25 (hval 0 25 v0 rfl rfl)
  clear hA0
  simp only [List.append_nil, List.nil_append] at hW'
  have hlt : ∀ x ∈ p0, x.block < W.heap.size := fun x hx => by simpa using hW'.lt x hx
  have hlt0 : ∀ x ∈ p0, x.block < W.heap.size := fun x hx => hlt x hx
  have k0 := fun (W' : World) (hn : Below W.heap.size W W') => Below.trod Tryz.laidOutS (by kernel_rfl) (of_decide_eq_true (by kernel_rfl)) t0 hn hlt0
  obtain ⟨f0, hf0⟩ := t0
  obtain ⟨z0, hz0⟩ := arg_read hf0
  refine (counted_all _ z0 W hz0 he).mono fun e W' ⟨hr, hb'⟩ => ?_
  subst hr
  exact ⟨_, rfl, _, _, _, [], p0 ++ ([]), [], hW', trodAll_mk1 (shut_bool Tryz.underlying4 _), trodAll_cons_mk (k0 W' hb') (trodAll_mk0), rfl, hb'.frame _, fun h => by cases h⟩

theorem counted_start_met (os : Os) : laidMet Tryz.prog Rows.countedRow.laid ((World.laidAll Tryz.prog os Rows.countedRow.laid).forCall (fun _ _ => 0) ⟨#[], #[.slice none 0 0], []⟩).memory :=
  laidMet_laidAll _ (by kernel_rfl) (by kernel_rfl)
theorem counted_start_reads (os : Os) {H : Type} (enc : TypeId × Value → H) : ∃ places, DataW.whole enc Tryz.prog ((World.laidAll Tryz.prog os Rows.countedRow.laid).forCall (fun _ _ => 0) ⟨#[], #[.slice none 0 0], []⟩).memory Tryz.f12.params.toList Rows.countedSpec.vars false #[Value.slice none 0 0].toList 8 = some ([.nil], [], places) :=
  ⟨[], by kernel_rfl⟩

set_option maxRecDepth 100000 in
theorem counted_lifted (os : Os) (started : os.Started) (H : Type) (enc : TypeId × Value → H) (F : Stop.Interp) :
    ReturnsInHanded {} Tryz.checked os 12 .any ((OpenSpec.ofChange Rows.countedSpec).preRow enc Tryz.prog Tryz.f12 Rows.countedRow.domain false Rows.countedRow.laid) (((OpenSpec.ofChange Rows.countedSpec).at F).post enc Tryz.prog Tryz.f12 false true false false) := by
  obtain ⟨places, hx⟩ := counted_start_reads os enc
  refine returnsInHanded_of_row (C := Tryz.checked) (s := OpenSpec.ofChange Rows.countedSpec) Tryz.ownKnob started (by kernel_rfl) Tryz.func12
    ⟨World.laidAll Tryz.prog os Rows.countedRow.laid, fun _ _ => 0, ⟨#[], #[.slice none 0 0], []⟩, World.laidAll_os _ _ _, World.shaped_of_ZipB (by kernel_rfl) (by kernel_rfl), rfl, (Input.okWide_of_okWideB (by kernel_rfl)).2,
      OpenSpec.preRow_of_cond 8 hx (by kernel_rfl) (fun k hk => by cases hk) (by kernel_rfl) (counted_start_met os), by simp [Assume.holds]⟩ ?_
  intro W base args ds gs before hval hW _ _ _ hL hS _
  exact counted_contract H enc W base args ds gs before hval hW hL hS

theorem counted_said : Rows.CountedSaid :=
  OpenClaim.holds_of_cond 12 Tryz.f12 rfl rfl rfl rfl rfl rfl rfl ⟨rfl, rfl, rfl, rfl, rfl⟩ rfl rfl rfl rfl rfl (by kernel_rfl) Tryz.func12 (by kernel_rfl)
    (of_decide_eq_true (by kernel_rfl)) (by unfold Func.isWrapper; first | (rw [if_pos (by decide +kernel)]; kernel_rfl) | (rw [if_neg (by decide +kernel)]; exact ⟨rfl, rfl⟩))
    (fun os started H enc _ F => by rw [OpenClaim.pre_eq_preRow]; exact counted_lifted os started H enc F)

theorem counted_plain (f : FuncId) (fn : Func) (hf : Tryz.pinned.checked.prog.funcNamed "knots/knotskeep.Counted" = some f) (hfn : Tryz.pinned.checked.prog.funcs[f]? = some fn) :
    true = Tryz.pinned.checked.prog.looks [] ∧ ∀ (j : Nat) t, fn.params[j]? = some t → Tryz.pinned.checked.prog.wantsStandIn t = false := by
  obtain rfl : f = 12 := Option.some.inj ((show Tryz.prog.funcNamed "knots/knotskeep.Counted" = some 12 by kernel_rfl).symm.trans hf) |>.symm
  obtain rfl : fn = Tryz.f12 := (Option.some.inj (Tryz.func12.symm.trans hfn)).symm
  refine ⟨by kernel_rfl, fun j t ht => ?_⟩
  rw [Tryz.params12] at ht
  have hm : t = 25 ∨ t = 3 := by
    have := Array.mem_of_getElem? ht
    simp at this
    first | omega | exact .inl this | exact .inr this | exact .inl this.symm | exact .inr this.symm
  rcases hm with rfl | rfl
  · exact (show Tryz.prog.wantsStandIn 25 = false by kernel_rfl)
  · exact (show Tryz.prog.wantsStandIn 3 = false by kernel_rfl)

theorem counted_card : Rows.CountedCardSaid :=
  Claim7.holds_tied_plain_at .later [] _ _ _ _ counted_said (fun _ h => by cases h) (by kernel_rfl) (fun _ h => by cases h) counted_row_tie rfl ⟨rfl, rfl⟩ (by kernel_rfl) rfl counted_plain (by kernel_rfl)
#print axioms counted_card

end Go.Proofs.YtekkkoipcghlmaaGreatDoor
