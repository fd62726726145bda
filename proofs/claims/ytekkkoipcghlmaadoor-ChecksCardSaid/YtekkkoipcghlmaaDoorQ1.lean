import Derived.Test.YtekkkoipcghlmaaDoorP3
import Derived.Test.YtekkkoipcghlmaaDoorFol
import Derived.Test.YtekkkoipcghlmaaDoorMask
import Derived.Lib.BitFns
namespace Go.Proofs.YtekkkoipcghlmaaDoor
open Go.RowKit

/-- How many bits, by the three bytes. -/
def onesOf (m : Nat) : Nat := Lib.onesCount (m / 65536 % 256) + Lib.onesCount (m / 256 % 256) + Lib.onesCount (m % 256)

theorem and_byte (x : Nat) (h : x < 4294967296) : bits .and .u32 (x : Int) 255 = ((x % 256 : Nat) : Int) := by
  have := bits_and_u32_nat x 255 h (by decide)
  rw [show ((255 : Nat) : Int) = 255 from rfl] at this
  rw [this, show (255 : Nat) = 2 ^ 8 - 1 from rfl, Nat.and_two_pow_sub_one_eq_mod]

theorem pop_byte (a : Nat) (h : a < 256) : ∃ p : Nat, Lib.pop8 (a : Int) = (p : Int) ∧ p ≤ 8 ∧ p = Lib.onesCount a :=
  ⟨Lib.onesCount a, Lib.pop8_eq ⟨a, h⟩, Lib.onesCount_le8 ⟨a, h⟩, rfl⟩

theorem ret_i64 {a b : Int} (h : a = b) : Ending.returned (.int .i64 a) = .returned (.int .i64 b) := by rw [h]

set_option maxRecDepth 100000 in
theorem ones_any (m : Nat) (w : World) (hm : m < 2 ^ 24) :
    Calls Tryd.prog 100 #[.int .u32 m] w fun e w' => e = .returned (.int .i64 (onesOf m : Nat)) ∧ ∃ q, w' = w.drewN q := by
  have h24 : (m : Int) / 16777216 = 0 := by omega
  have e16 : bits .and .u32 ((m : Int) / 65536) 255 = ((m / 65536 % 256 : Nat) : Int) := by
    have := and_byte (m / 65536) (by omega)
    rwa [Int.natCast_ediv] at this
  have e8 : bits .and .u32 ((m : Int) / 256) 255 = ((m / 256 % 256 : Nat) : Int) := by
    have := and_byte (m / 256) (by omega)
    rwa [Int.natCast_ediv] at this
  have e0 : bits .and .u32 (m : Int) 255 = ((m % 256 : Nat) : Int) := and_byte m (by omega)
  have HO : Hid (onesOf m = Lib.onesCount (m / 65536 % 256) + Lib.onesCount (m / 256 % 256) + Lib.onesCount (m % 256)) := rfl
  have l16 : m / 65536 % 256 < 256 := by omega
  have l8 : m / 256 % 256 < 256 := by omega
  have l0 : m % 256 < 256 := by omega
  generalize m / 65536 % 256 = a at *
  generalize m / 256 % 256 = b at *
  generalize m % 256 = c at *
  have p00 : Lib.pop8 0 = 0 := by decide
  obtain ⟨pa, ha, ha8, hae⟩ := pop_byte a l16
  obtain ⟨pb, hb, hb8, hbe⟩ := pop_byte b l8
  obtain ⟨pc, hc, hc8, hce⟩ := pop_byte c l0
  rw [← hae, ← hbe, ← hce] at HO
  have ia : (a : Int) ≤ 255 := by omega
  have ib : (b : Int) ≤ 255 := by omega
  have ic : (c : Int) ≤ 255 := by omega
  clear hae hbe hce
  go_enter Tryd.func100, Tryd.ntmps100
  go_wp2
  go_quiet (fail)
  go_wp2
  go_ret
  refine ⟨ret_i64 ?_, _, rfl⟩
  rw [unhide HO]
  omega

/-- The opposites. -/
def oppMask (m : Nat) : Nat := (m &&& 5592405) * 2 ||| (m / 2 &&& 5592405)
theorem third_bit (i : Nat) (h : i < 24) : (5592405 : Nat).testBit i = (i % 2 == 0) := by
  have : ∀ k : Fin 24, (5592405 : Nat).testBit k.val = (k.val % 2 == 0) := by decide
  exact this ⟨i, h⟩
theorem oppMask_lt {m : Nat} (_hm : m < 2 ^ 24) : oppMask m < 2 ^ 24 := by
  have h1 : m &&& 5592405 ≤ 5592405 := Nat.and_le_right
  have h2 : m / 2 &&& 5592405 ≤ 5592405 := Nat.and_le_right
  exact Nat.or_lt_two_pow (by omega) (by omega)
theorem oppMask_bit {m : Nat} (_hm : m < 2 ^ 24) (i : Nat) (hi : i < 24) : (oppMask m).testBit i = m.testBit (Sp.opp i) := by
  unfold oppMask
  have e1 : (m &&& 5592405) * 2 = (m &&& 5592405) <<< 1 := by rw [Nat.shiftLeft_eq]
  have e2 : m / 2 = m >>> 1 := by rw [Nat.shiftRight_eq_div_pow]
  rw [e1, e2, Nat.testBit_or, Nat.testBit_shiftLeft, Nat.testBit_and, Nat.testBit_and, Nat.testBit_shiftRight]
  unfold Sp.opp
  by_cases he : i % 2 = 0
  · rw [if_pos he, third_bit i hi]
    have : (decide (i ≥ 1) && (m.testBit (i - 1) && (5592405 : Nat).testBit (i - 1))) = false := by
      by_cases h0 : i = 0
      · subst h0; simp
      · rw [third_bit (i - 1) (by omega)]
        have : ((i - 1) % 2 == 0) = false := by rw [beq_eq_false_iff_ne]; omega
        rw [this]; simp
    rw [this]
    have he' : (i % 2 == 0) = true := by simpa using he
    rw [he', Nat.add_comm 1 i]; simp
  · rw [if_neg he, third_bit i hi, third_bit (i - 1) (by omega)]
    have h1 : (i % 2 == 0) = false := by simpa using he
    have h2 : ((i - 1) % 2 == 0) = true := by rw [beq_iff_eq]; omega
    rw [h1, h2]
    have h3 : decide (i ≥ 1) = true := decide_eq_true (by omega)
    rw [h3]; simp
theorem opp_single {i : Nat} (hi : i < 24) : oppMask (2 ^ i) = 2 ^ (Sp.opp i) := by
  have : ∀ k : Fin 24, oppMask (2 ^ k.val) = 2 ^ (Sp.opp k.val) := by decide
  exact this ⟨i, hi⟩

set_option maxRecDepth 100000 in
theorem opposites_any (m : Nat) (w : World) (hm : m < 2 ^ 24) :
    Calls Tryd.prog 71 #[.int .u32 m] w fun e w' => e = .returned (.int .u32 (oppMask m : Nat)) ∧ w' = w := by
  have h1 : m &&& 5592405 ≤ 5592405 := Nat.and_le_right
  have h2 : m / 2 &&& 5592405 ≤ 5592405 := Nat.and_le_right
  have e1 : bits .and .u32 (m : Int) 5592405 = ((m &&& 5592405 : Nat) : Int) := bits_and_u32_nat m 5592405 (by omega) (by decide)
  have e2 : bits .and .u32 ((m : Int) / 2) 5592405 = ((m / 2 &&& 5592405 : Nat) : Int) := by
    have := bits_and_u32_nat (m / 2) 5592405 (by omega) (by decide)
    rwa [Int.natCast_ediv] at this
  have e3 : ((m &&& 5592405 : Nat) : Int) * 2 % 4294967296 = (((m &&& 5592405) * 2 : Nat) : Int) := by omega
  have e4 : bits .or .u32 (((m &&& 5592405) * 2 : Nat) : Int) ((m / 2 &&& 5592405 : Nat) : Int) = (oppMask m : Nat) := bits_or_u32 _ _ (by omega) (by omega)
  go_enter Tryd.func71, Tryd.ntmps71
  go_wp2_with fail
  go_ret
  refine ⟨?_, rfl⟩
  show Ending.returned (.int .u32 _) = _
  rw [← e4, show (((m &&& 5592405) * 2 : Nat) : Int) = ((m &&& 5592405 : Nat) : Int) * 2 from by omega]

end Go.Proofs.YtekkkoipcghlmaaDoor
