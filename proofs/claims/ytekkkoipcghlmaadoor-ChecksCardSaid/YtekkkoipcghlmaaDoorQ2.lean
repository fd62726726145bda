import Derived.Test.YtekkkoipcghlmaaDoorQ1
namespace Go.Proofs.YtekkkoipcghlmaaDoor
open Go.RowKit

theorem byte_zero (a : Nat) (h : a < 256) : Lib.onesCount a = 0 → a = 0 := by
  have : ∀ k : Fin 256, Lib.onesCount k.val = 0 → k.val = 0 := by decide +kernel
  exact this ⟨a, h⟩
theorem byte_one (a : Nat) (h : a < 256) : Lib.onesCount a = 1 → ∃ j : Fin 8, a = 2 ^ j.val := by
  have : ∀ k : Fin 256, Lib.onesCount k.val = 1 → ∃ j : Fin 8, k.val = 2 ^ j.val := by decide +kernel
  exact this ⟨a, h⟩
theorem ones_one {m : Nat} (hm : m < 2 ^ 24) : onesOf m = 1 ↔ ∃ k, k < 24 ∧ m = 2 ^ k := by
  constructor
  · intro h
    unfold onesOf at h
    have l16 : m / 65536 % 256 < 256 := by omega
    have l8 : m / 256 % 256 < 256 := by omega
    have l0 : m % 256 < 256 := by omega
    have hd : m = m / 65536 % 256 * 65536 + m / 256 % 256 * 256 + m % 256 := by omega
    generalize m / 65536 % 256 = a at *
    generalize m / 256 % 256 = b at *
    generalize m % 256 = c at *
    have hz := byte_zero a l16; have hz2 := byte_zero b l8; have hz3 := byte_zero c l0
    rcases Nat.eq_zero_or_pos (Lib.onesCount a) with ha | ha
    · rcases Nat.eq_zero_or_pos (Lib.onesCount b) with hb | hb
      · obtain ⟨j, hj⟩ := byte_one c l0 (by omega)
        refine ⟨j.val, by omega, ?_⟩
        rw [hd, hz ha, hz2 hb, hj]; simp
      · obtain ⟨j, hj⟩ := byte_one b l8 (by omega)
        refine ⟨j.val + 8, by omega, ?_⟩
        rw [hd, hz ha, hz3 (by omega), hj, Nat.pow_add]; simp
    · obtain ⟨j, hj⟩ := byte_one a l16 (by omega)
      refine ⟨j.val + 16, by omega, ?_⟩
      rw [hd, hz2 (by omega), hz3 (by omega), hj, Nat.pow_add]; simp
  · rintro ⟨k, hk, rfl⟩
    have : ∀ k : Fin 24, onesOf (2 ^ k.val) = 1 := by decide +kernel
    exact this ⟨k, hk⟩

def oneBit (m : Nat) : Bool := onesOf m == 1
def alwaysMask (m : Nat) : Bool := m &&& oppMask m != 0

theorem ret_bool {a b : Bool} (h : a = b) : Ending.returned (.bool a) = .returned (.bool b) := by rw [h]

set_option maxRecDepth 100000 in
theorem size_any (m : Nat) (w : World) (hm : m < 2 ^ 24) :
    Calls Tryd.prog 87 #[.int .u32 m] w fun e w' => e = .returned (.int .i64 (onesOf m)) ∧ ∃ q, w' = w.drewN q := by
  have hmod : (m : Int) % 4294967296 = m := by omega
  have HO := hide (fun wx => ones_any m wx hm)
  generalize onesOf m = on at *
  go_enter Tryd.func87, Tryd.ntmps87
  go_wp2_with fail
  refine (unhide HO _).mono ?_
  rintro e w1 ⟨rfl, q, rfl⟩
  go_wp2
  go_ret
  exact ⟨rfl, q, rfl⟩

set_option maxRecDepth 100000 in
theorem single_any (m : Nat) (w : World) (hm : m < 2 ^ 24) :
    Calls Tryd.prog 72 #[.int .u32 m] w fun e w' => e = .returned (.bool (oneBit m)) ∧ ∃ q, w' = w.drewN q := by
  have HO := hide (fun wx => size_any m wx hm)
  have HB : Hid (((onesOf m : Int) == 1) = oneBit m) := hide (by
    unfold oneBit
    by_cases h : onesOf m = 1
    · rw [h]; rfl
    · have h1 : ((onesOf m : Int) == 1) = false := by rw [beq_eq_false_iff_ne]; omega
      have h2 : (onesOf m == 1) = false := by rw [beq_eq_false_iff_ne]; exact h
      rw [h1, h2])
  generalize oneBit m = ob at *
  generalize onesOf m = on at *
  go_enter Tryd.func72, Tryd.ntmps72
  go_wp2_with fail
  refine (unhide HO _).mono ?_
  rintro e w1 ⟨rfl, q, rfl⟩
  go_wp2
  go_ret
  exact ⟨ret_bool (unhide HB), q, rfl⟩

set_option maxRecDepth 100000 in
theorem alwaysTrue_any (m : Nat) (w : World) (hm : m < 2 ^ 24) :
    Calls Tryd.prog 59 #[.int .u32 m] w fun e w' => e = .returned (.bool (alwaysMask m)) ∧ ∃ q, w' = w.drewN q := by
  have hol := oppMask_lt hm
  have HO := hide (fun wx => opposites_any m wx hm)
  have e1 := bits_and_u32_nat m (oppMask m) (by omega) (by omega)
  have HB : Hid ((!((m &&& oppMask m : Nat) : Int) == 0) = alwaysMask m) := hide (by
    unfold alwaysMask
    by_cases h : m &&& oppMask m = 0
    · rw [h]; rfl
    · have h1 : (((m &&& oppMask m : Nat) : Int) == 0) = false := by rw [beq_eq_false_iff_ne]; omega
      have h2 : (m &&& oppMask m != 0) = true := by simpa using h
      rw [h1, h2]; rfl)
  generalize m &&& oppMask m = a at *
  generalize alwaysMask m = ob at *
  generalize oppMask m = on at *
  go_enter Tryd.func59, Tryd.ntmps59
  go_wp2_with fail
  refine (unhide HO _).mono ?_
  rintro e w1 ⟨rfl, rfl⟩
  go_wp2
  go_ret
  exact ⟨ret_bool (unhide HB), 0, rfl⟩

theorem alwaysMask_iff {m : Nat} (hm : m < 2 ^ 24) : alwaysMask m = true ↔ ∃ i, m.testBit i = true ∧ m.testBit (Sp.opp i) = true := by
  have h24 : ∀ i, m.testBit i = true → i < 24 := fun i hi => by
    rcases Nat.lt_or_ge i 24 with h | h
    · exact h
    · rw [Nat.testBit_lt_two_pow (Nat.lt_of_lt_of_le hm (Nat.pow_le_pow_right (by decide) h))] at hi; cases hi
  unfold alwaysMask
  constructor
  · intro h
    have hne : m &&& oppMask m ≠ 0 := by simpa using h
    obtain ⟨i, hi⟩ := Nat.exists_testBit_of_ne_zero hne
    rw [Nat.testBit_and, Bool.and_eq_true] at hi
    refine ⟨i, hi.1, ?_⟩
    rw [← oppMask_bit hm i (h24 i hi.1)]
    exact hi.2
  · rintro ⟨i, h1, h2⟩
    have hne : m &&& oppMask m ≠ 0 := by
      intro h0
      have : (m &&& oppMask m).testBit i = true := by rw [Nat.testBit_and, h1, oppMask_bit hm i (h24 i h1), h2]; rfl
      rw [h0] at this
      simp at this
    simpa using hne

/-- What is left of a clause. -/
def leftMask (c u : Nat) : Nat := c ^^^ (c &&& u)
theorem leftMask_bit (c u i : Nat) : (leftMask c u).testBit i = (c.testBit i && !u.testBit i) := by
  unfold leftMask
  rw [Nat.testBit_xor, Nat.testBit_and]
  cases c.testBit i <;> cases u.testBit i <;> rfl
theorem leftMask_lt {c : Nat} (u : Nat) (hc : c < 2 ^ 24) : leftMask c u < 2 ^ 24 := by
  unfold leftMask
  refine Nat.xor_lt_two_pow hc (Nat.lt_of_le_of_lt Nat.and_le_left hc)
theorem bits_left (c u : Nat) (hc : c < 4294967296) (hu : u < 4294967296) : bits .andNot .u32 (c : Int) (u : Int) = (leftMask c u : Nat) := by
  have h1 : (BitVec.ofInt 32 (c : Int)).toNat = c := by
    rw [BitVec.ofInt_natCast, BitVec.toNat_ofNat]; exact Nat.mod_eq_of_lt (by omega)
  have h2 : (BitVec.ofInt 32 (u : Int)).toNat = u := by
    rw [BitVec.ofInt_natCast, BitVec.toNat_ofNat]; exact Nat.mod_eq_of_lt (by omega)
  show IntKind.u32.wrap ((BitVec.ofInt 32 (c : Int) &&& ~~~ BitVec.ofInt 32 (u : Int)).toNat : Int) = _
  have h3 : (BitVec.ofInt 32 (c : Int) &&& ~~~ BitVec.ofInt 32 (u : Int)).toNat = leftMask c u := by
    apply Nat.eq_of_testBit_eq
    intro i
    rw [leftMask_bit, ← BitVec.getLsbD, BitVec.getLsbD_and, BitVec.getLsbD_not]
    unfold BitVec.getLsbD
    rw [h1, h2]
    by_cases hi : i < 32
    · simp [hi]
    · have : c.testBit i = false := Nat.testBit_lt_two_pow (Nat.lt_of_lt_of_le hc (by rw [show (4294967296 : Nat) = 2 ^ 32 from rfl]; exact Nat.pow_le_pow_right (by decide) (by omega)))
      rw [this]; simp
  rw [h3, wrap_u32']
  have : leftMask c u < 4294967296 := by
    unfold leftMask
    exact Nat.xor_lt_two_pow (n := 32) hc (Nat.lt_of_le_of_lt Nat.and_le_left hc)
  omega

end Go.Proofs.YtekkkoipcghlmaaDoor
