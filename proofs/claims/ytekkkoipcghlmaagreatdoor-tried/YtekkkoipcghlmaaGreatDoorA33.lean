import Derived.Test.YtekkkoipcghlmaaGreatDoorA24
set_option linter.all false
namespace Go.Proofs.YtekkkoipcghlmaaGreatDoor
open Go.RowKit

def litAtTr (tr : Tr) (i : Nat) : Int := ((tr[i]?).getD (0, 0)).1
theorem litAtTr_get {tr : Tr} {i : Nat} {e : Int × Int} (h : tr[i]? = some e) : litAtTr tr i = e.1 := by unfold litAtTr; rw [h]; rfl
/-- A clause that is false without a decision. -/
theorem zero_fol {cls : List Cl} {tr : Tr} (hT : TrOK cls tr) (h0 : levels tr = 0) {c : Nat} {cl : Cl} (hc : cls[c]? = some cl) (hf : ∀ y, y ∈ cl.lits → Tru tr (-y)) : FolI (dbOf cls) [] := by
  refine lesson_fol (T := litAtTr tr) (S := fun i => i < tr.length) (D := fun _ => False) (fun i hi _ => ?_) (db_mem hc) (fun y hy => ?_) (fun i _ h => h.elim)
  · have hg : tr[i]? = some tr[i] := List.getElem?_eq_getElem hi
    obtain ⟨c', cl', rest, g1, g2, g3, g4⟩ := hT.reason i _ hg (level0 h0 hg)
    refine ⟨cl'.lits, db_mem g1, fun y hy => ?_⟩
    rw [g3] at hy
    rcases List.mem_cons.1 hy with rfl | hy
    · exact .inl (litAtTr_get hg).symm
    · obtain ⟨j, r, hj, hjr⟩ := g4 y hy
      exact .inr ⟨j, hj, by omega, litAtTr_get hjr⟩
  · obtain ⟨j, r, hj⟩ := hf y hy
    exact ⟨j, (List.getElem?_eq_some_iff.1 hj).1, litAtTr_get hj⟩
/-- Whom a false assumed literal is to be blamed on. -/
theorem core_pure {cls : List Cl} {tr : Tr} (hT : TrOK cls tr) {A blamed : List Int} {u r0 : Int} {k : Nat} {met : Nat → Bool} (hk : tr[k]? = some (-u, r0)) (hm : met u.natAbs = true) (hub : u ∈ blamed) (huA : u ∈ A)
    (hdone : ∀ (j : Nat) (e : Int × Int), tr[j]? = some e → met e.1.natAbs = true → (dec e = true ∧ e.1 ∈ blamed) ∨ (dec e = false ∧ ∀ (c : Nat) cl, cls[c]? = some cl → e.2 = (pos cls c : Int) → ∀ y, y ∈ cl.lits → met y.natAbs = true))
    (hA : ∀ (j : Nat) (e : Int × Int), tr[j]? = some e → dec e = true → e.1 ∈ A) {core : List Int} (hcore : ∀ x, x ∈ A → x ∈ blamed → x ∈ core) :
    FolI (dbOf cls) (core.map (fun x => -x)) ∨ ∃ x, x ∈ core ∧ -x ∈ core := by
  have hu : u ∈ core := hcore u huA hub
  by_cases hd : dec (-u, r0) = true
  · refine .inr ⟨u, hu, ?_⟩
    rcases hdone k _ hk (by simpa using hm) with ⟨-, h2⟩ | ⟨h1, -⟩
    · exact hcore _ (hA k _ hk hd) h2
    · rw [hd] at h1; cases h1
  · have hd' : dec (-u, r0) = false := by simpa using hd
    refine .inl (core_fol (T := litAtTr tr) (S := fun i => ∃ e, tr[i]? = some e ∧ met e.1.natAbs = true) (D := fun i => ∃ e, tr[i]? = some e ∧ dec e = true) ?_ (k := k) ⟨_, hk, by simpa using hm⟩ ?_ ?_ ?_)
    · rintro i ⟨e, he, hme⟩ hnd
      have hde : dec e = false := by
        cases h : dec e
        · rfl
        · exact absurd ⟨e, he, h⟩ hnd
      obtain ⟨c, cl, rest, g1, g2, g3, g4⟩ := hT.reason i e he hde
      refine ⟨cl.lits, db_mem g1, by rw [litAtTr_get he, g3]; simp, fun y hy => ?_⟩
      have hmy : met y.natAbs = true := by
        rcases hdone i e he hme with ⟨h1, -⟩ | ⟨-, h2⟩
        · rw [hde] at h1; cases h1
        · exact h2 c cl g1 g2 y hy
      rw [g3] at hy
      rcases List.mem_cons.1 hy with rfl | hy
      · exact .inl (litAtTr_get he).symm
      · obtain ⟨j, r, hj, hjr⟩ := g4 y hy
        exact .inr ⟨j, hj, ⟨_, hjr, by simpa using hmy⟩, litAtTr_get hjr⟩
    · rw [litAtTr_get hk]
      exact List.mem_map.2 ⟨u, hu, rfl⟩
    · rintro i ⟨e, he, hme⟩ ⟨e', he', hde⟩
      rw [he] at he'
      cases he'
      rw [litAtTr_get he]
      refine List.mem_map.2 ⟨e.1, hcore _ (hA i e he hde) ?_, rfl⟩
      rcases hdone i e he hme with ⟨-, h2⟩ | ⟨h1, -⟩
      · exact h2
      · rw [hde] at h1; cases h1
    · rintro ⟨e, he, hde⟩
      rw [hk] at he
      cases he
      rw [hd'] at hde; cases hde
/-- Only what is assumed is decided, till all that is assumed is true. -/
def DecI (A : List Int) (tr : Tr) : Prop := ∀ (i : Nat) (e : Int × Int), tr[i]? = some e → dec e = true → e.1 ∈ A ∨ ∀ a, a ∈ A → Tru (tr.take i) a
section
variable {A : List Int} {tr : Tr}
theorem DecI.nil : DecI A [] := fun i e h => by simp at h
theorem DecI.of_zero (h : ∀ (i : Nat) (e : Int × Int), tr[i]? = some e → dec e = false) : DecI A tr := fun i e hi hd => by rw [h i e hi] at hd; cases hd
theorem DecI.cut (h : DecI A tr) (n : Nat) : DecI A (tr.take n) := by
  intro i e hi hd
  have hl := (List.getElem?_eq_some_iff.1 hi).1
  rw [List.length_take] at hl
  rw [List.getElem?_take_of_lt (by omega)] at hi
  rw [List.take_take, Nat.min_eq_left (by omega)]
  exact h i e hi hd
theorem DecI.append (h : DecI A tr) {t : Tr} (ht : ∀ e, e ∈ t → dec e = false) : DecI A (tr ++ t) := by
  intro i e hi hd
  by_cases hl : i < tr.length
  · rw [List.getElem?_append_left hl] at hi
    rw [List.take_append_of_le_length (by omega)]
    exact h i e hi hd
  · rw [List.getElem?_append_right (by omega)] at hi
    have := ht e (List.mem_of_getElem? hi)
    rw [this] at hd; cases hd
theorem DecI.decide (h : DecI A tr) {x : Int} (hx : x ∈ A ∨ ∀ a, a ∈ A → Tru tr a) : DecI A (tr ++ [(x, -1)]) := by
  intro i e hi hd
  rcases get_snoc hi with ⟨hl, hi⟩ | ⟨rfl, rfl⟩
  · rw [List.take_append_of_le_length (by omega)]
    exact h i e hi hd
  · rw [List.take_append_of_le_length (Nat.le_refl _), List.take_length]
    exact hx
theorem DecI.assumed {cls : List Cl} (h : DecI A tr) (hT : TrOK cls tr) {u : Int} (hu : u ∈ A) (hf : Tru tr (-u)) : ∀ (j : Nat) (e : Int × Int), tr[j]? = some e → dec e = true → e.1 ∈ A := by
  intro j e hj hd
  rcases h j e hj hd with h | h
  · exact h
  · obtain ⟨i, r, hi⟩ := h u hu
    have hl := (List.getElem?_eq_some_iff.1 hi).1
    rw [List.length_take] at hl
    rw [List.getElem?_take_of_lt (by omega)] at hi
    exact (hT.not_both ⟨i, r, hi⟩ hf).elim
end

end Go.Proofs.YtekkkoipcghlmaaGreatDoor

namespace Go.Proofs.YtekkkoipcghlmaaGreatDoor
open Go.RowKit

def bitsN (f : Nat → Bool) : Nat → Nat
  | 0 => 0
  | n + 1 => bitsN f n + if f n = true then 2 ^ n else 0
theorem bitsN_lt (f : Nat → Bool) : ∀ n, bitsN f n < 2 ^ n
  | 0 => by simp [bitsN]
  | n + 1 => by
    have := bitsN_lt f n
    rw [bitsN, Nat.pow_succ]
    split <;> omega
theorem bitsN_test (f : Nat → Bool) : ∀ n i, i < n → (bitsN f n).testBit i = f i
  | 0, i, h => by omega
  | n + 1, i, h => by
    have hlt := bitsN_lt f n
    rw [bitsN]
    by_cases e : i = n
    · subst e
      by_cases hf : f i = true
      · rw [if_pos hf, Nat.add_comm, Nat.testBit_two_pow_add_eq, Nat.testBit_lt_two_pow hlt, hf]; rfl
      · rw [if_neg hf, Nat.add_zero, Nat.testBit_lt_two_pow hlt]
        simpa using hf
    · by_cases hf : f n = true
      · rw [if_pos hf, Nat.add_comm, Nat.testBit_two_pow_add_gt (by omega)]
        exact bitsN_test f n i (by omega)
      · rw [if_neg hf, Nat.add_zero]
        exact bitsN_test f n i (by omega)
/-- The model that a trail tells, if it has all variables. -/
theorem trail_model {cls : List Cl} {tr : Tr} (hT : TrOK cls tr) (hall : ∀ v : Nat, 0 < v → v ≤ 12 → Tru tr (v : Int) ∨ Tru tr (-(v : Int))) : ∃ b, b < 4096 ∧ ∀ x : Int, x ≠ 0 → -12 ≤ x → x ≤ 12 → (tru b x = true ↔ Tru tr x) := by
  classical
  refine ⟨bitsN (fun i => decide (Tru tr ((i : Int) + 1))) 12, bitsN_lt _ 12, fun x h0 h1 h2 => ?_⟩
  have key : ∀ v : Nat, 0 < v → v ≤ 12 → ((bitsN (fun i => decide (Tru tr ((i : Int) + 1))) 12).testBit (v - 1) = decide (Tru tr (v : Int))) := fun v a b => by
    rw [bitsN_test _ 12 (v - 1) (by omega)]
    have : ((v - 1 : Nat) : Int) + 1 = (v : Int) := by omega
    rw [this]
  have hk := key x.natAbs (by omega) (by omega)
  unfold tru
  rw [hk]
  rcases Int.lt_or_lt_of_ne h0 with hn | hp
  · have e : (x.natAbs : Int) = -x := by omega
    rw [e, decide_eq_false (show ¬ 0 < x by omega)]
    constructor
    · intro h
      have h' : ¬ Tru tr (-x) := by simpa using h
      rcases hall x.natAbs (by omega) (by omega) with h3 | h3
      · rw [e] at h3; exact absurd h3 h'
      · rw [e, Int.neg_neg] at h3; exact h3
    · intro h
      have : ¬ Tru tr (-x) := fun h' => hT.not_both h h'
      simpa using this
  · have e : (x.natAbs : Int) = x := by omega
    rw [e, decide_eq_true hp]
    simp
theorem sat_pure {cls : List Cl} {wat : Int → List Int} {tr : Tr} (h : Rest tr.length cls wat tr) (hall : ∀ v : Nat, 0 < v → v ≤ 12 → Tru tr (v : Int) ∨ Tru tr (-(v : Int))) : ∃ b, b < 4096 ∧ (∀ x : Int, x ≠ 0 → -12 ≤ x → x ≤ 12 → (tru b x = true ↔ Tru tr x)) ∧ ∀ d, d ∈ dbOf cls → holdsOf b d = true := by
  obtain ⟨b, hb, hx⟩ := trail_model h.trok hall
  refine ⟨b, hb, hx, fun d hd => ?_⟩
  obtain ⟨cl, hcl, rfl⟩ := List.mem_map.1 hd
  obtain ⟨c, hc⟩ := List.getElem?_of_mem hcl
  have hwf := h.wf c cl hc
  have lit : ∀ x, x ∈ cl.lits → Tru tr x → holdsOf b cl.lits = true := fun x hm ht => by
    obtain ⟨h0, h1, h2⟩ := hwf.2 x hm
    exact holds_iff.2 ⟨x, hm, (hx x h0 h1 h2).2 ht⟩
  rcases h.ok c cl hc with ⟨x, he, j, r, hj, -⟩ | ⟨a, q, r, he, w1, -⟩
  · exact lit x (by rw [he]; simp) ⟨j, r, hj⟩
  · obtain ⟨h0, h1, h2⟩ := hwf.2 a (by rw [he]; simp)
    have hor : Tru tr a ∨ Tru tr (-a) := by
      rcases hall a.natAbs (by omega) (by omega) with h3 | h3
      · rcases Int.lt_or_lt_of_ne h0 with hn | hp
        · rw [show (a.natAbs : Int) = -a by omega] at h3; exact .inr h3
        · rw [show (a.natAbs : Int) = a by omega] at h3; exact .inl h3
      · rcases Int.lt_or_lt_of_ne h0 with hn | hp
        · rw [show (a.natAbs : Int) = -a by omega, Int.neg_neg] at h3; exact .inl h3
        · rw [show (a.natAbs : Int) = a by omega] at h3; exact .inr h3
    rcases hor with ht | ⟨i, s, hi⟩
    · exact lit a (by rw [he]; simp) ht
    · obtain ⟨j, t, hj, -⟩ := w1 i s (List.getElem?_eq_some_iff.1 hi).1 hi
      exact lit q (by rw [he]; simp) ⟨j, t, hj⟩

end Go.Proofs.YtekkkoipcghlmaaGreatDoor
