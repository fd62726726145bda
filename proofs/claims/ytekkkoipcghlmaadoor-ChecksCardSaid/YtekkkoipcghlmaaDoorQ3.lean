import Derived.Test.YtekkkoipcghlmaaDoorQ2
import Derived.Test.YtekkkoipcghlmaaDoorR5
namespace Go.Proofs.YtekkkoipcghlmaaDoor.Sp

/-- What the program has taken to be false, as a mask. -/
structure Untrue (L : List Nat) (m u : Nat) : Prop where
  lt : u < 2 ^ 24
  has : ∀ i, m.testBit i = true → u.testBit i = true
  least : ∀ U : Nat → Prop, (∀ i, m.testBit i = true → U i) → Stable L U → ∀ i, u.testBit i = true → U i

/-- Of this clause nothing more comes. -/
def Quiet (u c : Nat) : Prop := leftMask c u ≠ 0 ∧ (oneBit (leftMask c u) = true → u ||| oppMask (leftMask c u) = u)

theorem Untrue.start {L : List Nat} {m : Nat} (hm : m < 2 ^ 24) : Untrue L m m := ⟨hm, fun _ h => h, fun _ h _ => h⟩

section
variable {L : List Nat} {m u c : Nat}

theorem one_left (hc : c < 2 ^ 24) (h1 : oneBit (leftMask c u) = true) : ∃ k, k < 24 ∧ leftMask c u = 2 ^ k ∧ oppMask (leftMask c u) = 2 ^ opp k := by
  have : onesOf (leftMask c u) = 1 := by unfold oneBit at h1; simpa using h1
  obtain ⟨k, hk, he⟩ := (ones_one (leftMask_lt u hc)).1 this
  exact ⟨k, hk, he, by rw [he]; exact opp_single hk⟩

theorem left_bits {k : Nat} (he : leftMask c u = 2 ^ k) : c.testBit k = true ∧ u.testBit k = false ∧ ∀ j, c.testBit j = true → j ≠ k → u.testBit j = true := by
  have hb := fun i => leftMask_bit c u i
  rw [he] at hb
  have hk := hb k
  rw [Nat.testBit_two_pow_self] at hk
  have hk' := hk.symm
  rw [Bool.and_eq_true] at hk'
  refine ⟨hk'.1, by simpa using hk'.2, fun j hj hne => ?_⟩
  have := hb j
  rw [Nat.testBit_two_pow_of_ne (fun e => hne e.symm), hj] at this
  simpa using this

theorem Untrue.more (h : Untrue L m u) (hcL : c ∈ L) (hc : c < 2 ^ 24) (h1 : oneBit (leftMask c u) = true) : Untrue L m (u ||| oppMask (leftMask c u)) := by
  obtain ⟨k, hk, he, ho⟩ := one_left hc h1
  obtain ⟨hck, huk, hoth⟩ := left_bits he
  refine ⟨Nat.or_lt_two_pow h.lt (oppMask_lt (leftMask_lt u hc)), fun i hi => ?_, fun U hU hs i hi => ?_⟩
  · rw [Nat.testBit_or, h.has i hi]; rfl
  · rw [Nat.testBit_or, Bool.or_eq_true] at hi
    rcases hi with hi | hi
    · exact h.least U hU hs i hi
    · rw [ho] at hi
      have hik : i = opp k := by
        by_cases e : opp k = i
        · exact e.symm
        · rw [Nat.testBit_two_pow_of_ne e] at hi; cases hi
      subst hik
      obtain ⟨⟨j, hj, hjn⟩, hun⟩ := hs c hcL
      have hoth' : ∀ j, c.testBit j = true → j ≠ k → U j := fun j hj hne => h.least U hU hs j (hoth j hj hne)
      have hjk : j = k := by
        by_cases e : j = k
        · exact e
        · exact absurd (hoth' j hj e) hjn
      subst hjk
      exact hun j hj hjn hoth'

theorem Untrue.conflict (h : Untrue L m u) (hcL : c ∈ L) (h0 : leftMask c u = 0) : Fol L m := by
  refine .inr fun U hU hs => ?_
  obtain ⟨⟨j, hj, hjn⟩, _⟩ := hs c hcL
  have := leftMask_bit c u j
  rw [h0, hj] at this
  simp at this
  exact hjn (h.least U hU hs j this)

theorem Untrue.fixed (h : Untrue L m u) (hm : m < 2 ^ 24) (hL : ∀ c, c ∈ L → c < 2 ^ 24) (hno : alwaysMask m = false) (hq : ∀ c, c ∈ L → Quiet u c) : ¬ Fol L m := by
  rintro (hx | hx)
  · rw [(alwaysMask_iff hm).2 hx] at hno; cases hno
  · refine hx (fun i => u.testBit i = true) h.has fun c hc => ?_
    obtain ⟨h0, h1⟩ := hq c hc
    obtain ⟨i, hi⟩ := Nat.exists_testBit_of_ne_zero h0
    rw [leftMask_bit, Bool.and_eq_true] at hi
    refine ⟨⟨i, hi.1, by simpa using hi.2⟩, fun k hk hkn hoth => ?_⟩
    have hk24 : k < 24 := by
      rcases Nat.lt_or_ge k 24 with h | h
      · exact h
      · rw [Nat.testBit_lt_two_pow (Nat.lt_of_lt_of_le (hL c hc) (Nat.pow_le_pow_right (by decide) h))] at hk; cases hk
    have hkf : u.testBit k = false := by simpa using hkn
    have he : leftMask c u = 2 ^ k := by
      apply Nat.eq_of_testBit_eq
      intro j
      rw [leftMask_bit]
      by_cases e : j = k
      · subst e; rw [hk, hkf, Nat.testBit_two_pow_self]; rfl
      · rw [Nat.testBit_two_pow_of_ne (fun e' => e e'.symm)]
        by_cases hcj : c.testBit j = true
        · rw [hoth j hcj e]; simp
        · rw [show c.testBit j = false from by simpa using hcj]; rfl
    have hone : oneBit (leftMask c u) = true := by
      unfold oneBit; rw [he, (ones_one (Nat.pow_lt_pow_right (by decide) hk24)).2 ⟨k, hk24, rfl⟩]; rfl
    have := h1 hone
    rw [he, opp_single hk24] at this
    show u.testBit (opp k) = true
    rw [← this, Nat.testBit_or, Nat.testBit_two_pow_self]; simp

theorem or_grows {a b c : Nat} (h : a ||| b = b) : a ||| (b ||| c) = b ||| c := by rw [← Nat.or_assoc, h]
theorem or_le {a b : Nat} (h : a ||| b = b) : a ≤ b := by rw [← h]; exact Nat.left_le_or
theorem or_back {a b c : Nat} (h : a ||| b = b) (he : b ||| c = a) : b = a := by
  have h1 : b ≤ a := by rw [← he]; exact Nat.left_le_or
  have h2 := or_le h
  omega
end

end Go.Proofs.YtekkkoipcghlmaaDoor.Sp
