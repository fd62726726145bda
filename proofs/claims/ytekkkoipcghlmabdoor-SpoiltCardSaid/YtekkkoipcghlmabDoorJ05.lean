import Derived.Test.YtekkkoipcghlmabDoorJ04
namespace Go.Proofs.YtekkkoipcghlmabDoor.Sp

/-- The opposite literal's place. -/
def opp (i : Nat) : Nat := if i % 2 = 0 then i + 1 else i - 1
theorem opp_opp (i : Nat) : opp (opp i) = i := by unfold opp; split <;> split <;> omega
theorem opp_ne (i : Nat) : opp i ≠ i := by unfold opp; split <;> omega
theorem opp_lt {i : Nat} (h : i < 24) : opp i < 24 := by unfold opp; split <;> omega
theorem litAt_opp (i : Nat) : litAt (opp i) = - litAt i := by
  unfold litAt opp
  by_cases h : i % 2 = 0
  · rw [if_pos h, if_neg (by omega), if_pos h, show (i + 1) / 2 = i / 2 from by omega]
  · rw [if_neg h, if_pos (by omega), if_neg h, show (i - 1) / 2 = i / 2 from by omega, Int.neg_neg]
theorem litAt_inj {i j : Nat} (h : litAt i = litAt j) : i = j := by
  unfold litAt at h
  split at h <;> split at h <;> omega

/-- Sets of literals, by their places: U is closed under what comes of the clauses L, and there is no conflict. -/
def Stable (L : List Nat) (U : Nat → Prop) : Prop :=
  ∀ c, c ∈ L → (∃ i, c.testBit i = true ∧ ¬ U i) ∧ ∀ i, c.testBit i = true → ¬ U i → (∀ j, c.testBit j = true → j ≠ i → U j) → U (opp i)

/-- A clause m follows from the clauses L. -/
def Fol (L : List Nat) (m : Nat) : Prop :=
  (∃ i, m.testBit i = true ∧ m.testBit (opp i) = true) ∨ ∀ U : Nat → Prop, (∀ i, m.testBit i = true → U i) → ¬ Stable L U

theorem Stable.perm {L L' : List Nat} {U : Nat → Prop} (h : ∀ c, c ∈ L ↔ c ∈ L') (hs : Stable L U) : Stable L' U := fun c hc => hs c ((h c).2 hc)
theorem Fol.perm {L L' : List Nat} {m : Nat} (h : ∀ c, c ∈ L ↔ c ∈ L') (hf : Fol L m) : Fol L' m := by
  rcases hf with hf | hf
  · exact .inl hf
  · exact .inr fun U hU hs => hf U hU (hs.perm fun c => (h c).symm)

theorem mem_litsOf (m : Nat) (i : Nat) (hi : i < 24) : litAt i ∈ litsOf m ↔ m.testBit i = true := by
  unfold litsOf
  rw [List.mem_map]
  constructor
  · rintro ⟨j, hj, hl⟩
    have := litAt_inj hl
    subst this
    exact (List.mem_filter.1 hj).2
  · intro h
    exact ⟨i, List.mem_filter.2 ⟨List.mem_range.2 hi, h⟩, rfl⟩
theorem litsOf_mem {m : Nat} {x : Int} (h : x ∈ litsOf m) : ∃ i, i < 24 ∧ x = litAt i ∧ m.testBit i = true := by
  unfold litsOf at h
  obtain ⟨i, hi, rfl⟩ := List.mem_map.1 h
  have := List.mem_filter.1 hi
  exact ⟨i, List.mem_range.1 this.1, rfl, this.2⟩
theorem litsOf_inj {m m' : Nat} (h1 : m < 2 ^ 24) (h2 : m' < 2 ^ 24) (h : litsOf m = litsOf m') : m = m' := by
  apply Nat.eq_of_testBit_eq
  intro i
  by_cases hi : i < 24
  · rw [Bool.eq_iff_iff, ← mem_litsOf m i hi, ← mem_litsOf m' i hi, h]
  · rw [Nat.testBit_lt_two_pow (Nat.lt_of_lt_of_le h1 (Nat.pow_le_pow_right (by decide) (by omega))), Nat.testBit_lt_two_pow (Nat.lt_of_lt_of_le h2 (Nat.pow_le_pow_right (by decide) (by omega)))]

/-- The step of a line: does a clause go; its words. -/
def stepOf (y : List UInt8) : Bool × List (List UInt8) :=
  match words y with
  | w0 :: r => if w0 = [100] then (true, r) else (false, w0 :: r)
  | [] => (false, [])
def stepMask (y : List UInt8) : Nat := maskOf ((stepOf y).2.map lit)
def stepOk (x : List UInt8 × Bool) : Bool := ((stepOf x.1).2.all fun w => lit w != 0) && x.2

/-- What a proof comes to, step by step: the error, and the step's number. -/
def Outcome (L : List Nat) (n : Nat) : List (List UInt8 × Bool) → Int × Int → Prop
  | [], r => r = (0, 0)
  | x :: rest, r =>
    (stepOk x = false ∧ r = (6, (n : Int) + 1)) ∨
    (stepOk x = true ∧
      (((stepOf x.1).1 = true ∧ ((stepMask x.1 ∈ L ∧ Outcome (L.erase (stepMask x.1)) (n + 1) rest r) ∨ (stepMask x.1 ∉ L ∧ r = (7, (n : Int) + 1)))) ∨
       ((stepOf x.1).1 = false ∧ ((Fol L (stepMask x.1) ∧ Outcome (L ++ [stepMask x.1]) (n + 1) rest r) ∨ (¬ Fol L (stepMask x.1) ∧ r = (8, (n : Int) + 1))))))

theorem Outcome.unique (xs : List (List UInt8 × Bool)) : ∀ (L : List Nat) (n : Nat) (r r' : Int × Int), Outcome L n xs r → Outcome L n xs r' → r = r' := by
  induction xs with
  | nil => intro L n r r' h h'; unfold Outcome at h h'; rw [h, h']
  | cons x rest ih =>
    intro L n r r' h h'
    unfold Outcome at h h'
    rcases h with ⟨h1, h2⟩ | ⟨h1, h2⟩ <;> rcases h' with ⟨g1, g2⟩ | ⟨g1, g2⟩
    · rw [h2, g2]
    · rw [h1] at g1; cases g1
    · rw [h1] at g1; cases g1
    · rcases h2 with ⟨h3, h4⟩ | ⟨h3, h4⟩ <;> rcases g2 with ⟨g3, g4⟩ | ⟨g3, g4⟩
      · rcases h4 with ⟨h5, h6⟩ | ⟨h5, h6⟩ <;> rcases g4 with ⟨g5, g6⟩ | ⟨g5, g6⟩
        · exact ih _ _ _ _ h6 g6
        · exact absurd h5 g5
        · exact absurd g5 h5
        · rw [h6, g6]
      · rw [h3] at g3; cases g3
      · rw [h3] at g3; cases g3
      · rcases h4 with ⟨h5, h6⟩ | ⟨h5, h6⟩ <;> rcases g4 with ⟨g5, g6⟩ | ⟨g5, g6⟩
        · exact ih _ _ _ _ h6 g6
        · exact absurd h5 g5
        · exact absurd g5 h5
        · rw [h6, g6]

end Go.Proofs.YtekkkoipcghlmabDoor.Sp

namespace Go.Proofs.YtekkkoipcghlmabDoor
open Go.RowKit

/-- Two opposite numbers in a list; are two lists one. -/
def alwaysOf (xs : List Int) : Bool := xs.any fun x => xs.contains (-x)
def sameOf (xs ys : List Int) : Bool := decide (xs = ys)

end Go.Proofs.YtekkkoipcghlmabDoor

namespace Go.Proofs.YtekkkoipcghlmabDoor
open Go.RowKit

/-- A list of clauses in memory, as the document's program keeps it; L: their masks. -/
def RowsIn (w : World) (vs : List Value) (L : List Nat) : Prop := vs.length = L.length ∧ ∀ (i : Nat) (x : Value) (m : Nat), vs[i]? = some x → L[i]? = some m → Lies w x (ints (Sp.litsOf m))
def RowsOf (w : World) (v : Value) (L : List Nat) : Prop := ∃ vs, Lies w v vs ∧ RowsIn w vs L

theorem RowsIn.below {w w' : World} {vs : List Value} {L : List Nat} (h : RowsIn w vs L) (hb : Below w.heap.size w w') : RowsIn w' vs L := ⟨h.1, fun i x m hx hm => (h.2 i x m hx hm).below hb⟩
theorem RowsOf.below {w w' : World} {v : Value} {L : List Nat} (h : RowsOf w v L) (hb : Below w.heap.size w w') : RowsOf w' v L := by
  obtain ⟨vs, h1, h2⟩ := h
  exact ⟨vs, h1.below hb, h2.below hb⟩
theorem RowsIn.nil (w : World) : RowsIn w [] [] := ⟨rfl, fun i x m hx _ => by simp at hx⟩
theorem RowsIn.snoc {w : World} {vs : List Value} {L : List Nat} {x : Value} {m : Nat} (h : RowsIn w vs L) (hx : Lies w x (ints (Sp.litsOf m))) : RowsIn w (vs ++ [x]) (L ++ [m]) := by
  refine ⟨by simp [h.1], fun i y d hy hd => ?_⟩
  by_cases hi : i < vs.length
  · rw [List.getElem?_append_left hi] at hy
    rw [List.getElem?_append_left (by rw [← h.1]; exact hi)] at hd
    exact h.2 i y d hy hd
  · have hi' : i = vs.length := by
      rcases Nat.lt_or_ge vs.length i with hh | hh
      · rw [List.getElem?_eq_none (by simp; omega)] at hy; cases hy
      · omega
    subst hi'
    rw [List.getElem?_append_right (Nat.le_refl _)] at hy
    rw [h.1, List.getElem?_append_right (Nat.le_refl _)] at hd
    simp at hy hd
    subst hy hd
    exact hx

theorem lies_shape {w : World} {v : Value} {vs : List Value} (h : Lies w v vs) : ∃ ao cap, v = .slice ao vs.length cap := by
  rcases h with ⟨h0, ao, cap, rfl⟩ | ⟨b, off, cap, hp, rfl, hb, hc⟩
  · subst h0; exact ⟨_, _, rfl⟩
  · exact ⟨_, _, rfl⟩

theorem same_masks {m m' : Nat} (h1 : m < 2 ^ 24) (h2 : m' < 2 ^ 24) : sameOf (Sp.litsOf m) (Sp.litsOf m') = decide (m = m') := by
  unfold sameOf
  rw [Bool.eq_iff_iff, decide_eq_true_iff, decide_eq_true_iff]
  exact ⟨fun h => Sp.litsOf_inj h1 h2 h, fun h => by rw [h]⟩

theorem erase_snoc (l : List Nat) (x m : Nat) : (l ++ [x]).erase m = if m ∈ l then l.erase m ++ [x] else if x = m then l else l ++ [x] := by
  rw [List.erase_append]
  by_cases h : m ∈ l
  · rw [if_pos h, if_pos h]
  · rw [if_neg h, if_neg h]
    by_cases hx : x = m
    · rw [if_pos hx, hx]; simp
    · rw [if_neg hx]
      congr 1
      simp [hx]
theorem litsOf_len24 (m : Nat) : (Sp.litsOf m).length ≤ 24 := by
  unfold Sp.litsOf
  rw [List.length_map]
  exact Nat.le_trans (List.length_filter_le _ _) (by simp)

end Go.Proofs.YtekkkoipcghlmabDoor
