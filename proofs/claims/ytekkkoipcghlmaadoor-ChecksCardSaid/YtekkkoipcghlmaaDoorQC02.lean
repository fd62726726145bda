import Derived.Test.YtekkkoipcghlmaaDoorQC01
import Derived.Lib.BitFns
import Derived.Test.YtekkkoipcghlmaaDoorProg
set_option linter.all false
namespace Go.Proofs.YtekkkoipcghlmaaDoor.Sp

/-- The opposite literal's place. -/
def opp (i : Nat) : Nat := if i % 2 = 0 then i + 1 else i - 1
theorem opp_lt {i : Nat} (h : i < 24) : opp i < 24 := by unfold opp; split <;> omega
theorem litAt_opp (i : Nat) : litAt (opp i) = - litAt i := by
  unfold litAt opp
  by_cases h : i % 2 = 0
  · rw [if_pos h, if_neg (by omega), if_pos h, show (i + 1) / 2 = i / 2 from by omega]
  · rw [if_neg h, if_pos (by omega), if_neg h, show (i - 1) / 2 = i / 2 from by omega, Int.neg_neg]
theorem litAt_inj {i j : Nat} (h : litAt i = litAt j) : i = j := by
  unfold litAt at h
  split at h <;> split at h <;> omega

/-- Sets of literals, by their places: U is closed under what comes of the clauses L, and there is no conflict. -/
def Stable (L : List Nat) (U : Nat → Prop) : Prop :=
  ∀ c, c ∈ L → (∃ i, c.testBit i = true ∧ ¬ U i) ∧ ∀ i, c.testBit i = true → ¬ U i → (∀ j, c.testBit j = true → j ≠ i → U j) → U (opp i)

/-- A clause m follows from the clauses L. -/
def Fol (L : List Nat) (m : Nat) : Prop :=
  (∃ i, m.testBit i = true ∧ m.testBit (opp i) = true) ∨ ∀ U : Nat → Prop, (∀ i, m.testBit i = true → U i) → ¬ Stable L U

theorem mem_litsOf (m : Nat) (i : Nat) (hi : i < 24) : litAt i ∈ litsOf m ↔ m.testBit i = true := by
  unfold litsOf
  rw [List.mem_map]
  constructor
  · rintro ⟨j, hj, hl⟩
    have := litAt_inj hl
    subst this
    exact (List.mem_filter.1 hj).2
  · intro h
    exact ⟨i, List.mem_filter.2 ⟨List.mem_range.2 hi, h⟩, rfl⟩
theorem litsOf_mem {m : Nat} {x : Int} (h : x ∈ litsOf m) : ∃ i, i < 24 ∧ x = litAt i ∧ m.testBit i = true := by
  unfold litsOf at h
  obtain ⟨i, hi, rfl⟩ := List.mem_map.1 h
  have := List.mem_filter.1 hi
  exact ⟨i, List.mem_range.1 this.1, rfl, this.2⟩
theorem litsOf_inj {m m' : Nat} (h1 : m < 2 ^ 24) (h2 : m' < 2 ^ 24) (h : litsOf m = litsOf m') : m = m' := by
  apply Nat.eq_of_testBit_eq
  intro i
  by_cases hi : i < 24
  · rw [Bool.eq_iff_iff, ← mem_litsOf m i hi, ← mem_litsOf m' i hi, h]
  · rw [Nat.testBit_lt_two_pow (Nat.lt_of_lt_of_le h1 (Nat.pow_le_pow_right (by decide) (by omega))), Nat.testBit_lt_two_pow (Nat.lt_of_lt_of_le h2 (Nat.pow_le_pow_right (by decide) (by omega)))]

/-- The step of a line: does a clause go; its words. -/
def stepOf (y : List UInt8) : Bool × List (List UInt8) :=
  match words y with
  | w0 :: r => if w0 = [100] then (true, r) else (false, w0 :: r)
  | [] => (false, [])
def stepMask (y : List UInt8) : Nat := maskOf ((stepOf y).2.map lit)
def stepOk (x : List UInt8 × Bool) : Bool := ((stepOf x.1).2.all fun w => lit w != 0) && x.2

/-- What a proof comes to, step by step: the error, and the step's number. -/
def Outcome (L : List Nat) (n : Nat) : List (List UInt8 × Bool) → Int × Int → Prop
  | [], r => r = (0, 0)
  | x :: rest, r =>
    (stepOk x = false ∧ r = (6, (n : Int) + 1)) ∨
    (stepOk x = true ∧
      (((stepOf x.1).1 = true ∧ ((stepMask x.1 ∈ L ∧ Outcome (L.erase (stepMask x.1)) (n + 1) rest r) ∨ (stepMask x.1 ∉ L ∧ r = (7, (n : Int) + 1)))) ∨
       ((stepOf x.1).1 = false ∧ ((Fol L (stepMask x.1) ∧ Outcome (L ++ [stepMask x.1]) (n + 1) rest r) ∨ (¬ Fol L (stepMask x.1) ∧ r = (8, (n : Int) + 1))))))

theorem Outcome.unique (xs : List (List UInt8 × Bool)) : ∀ (L : List Nat) (n : Nat) (r r' : Int × Int), Outcome L n xs r → Outcome L n xs r' → r = r' := by
  induction xs with
  | nil => intro L n r r' h h'; unfold Outcome at h h'; rw [h, h']
  | cons x rest ih =>
    intro L n r r' h h'
    unfold Outcome at h h'
    rcases h with ⟨h1, h2⟩ | ⟨h1, h2⟩ <;> rcases h' with ⟨g1, g2⟩ | ⟨g1, g2⟩
    · rw [h2, g2]
    · rw [h1] at g1; cases g1
    · rw [h1] at g1; cases g1
    · rcases h2 with ⟨h3, h4⟩ | ⟨h3, h4⟩ <;> rcases g2 with ⟨g3, g4⟩ | ⟨g3, g4⟩
      · rcases h4 with ⟨h5, h6⟩ | ⟨h5, h6⟩ <;> rcases g4 with ⟨g5, g6⟩ | ⟨g5, g6⟩
        · exact ih _ _ _ _ h6 g6
        · exact absurd h5 g5
        · exact absurd g5 h5
        · rw [h6, g6]
      · rw [h3] at g3; cases g3
      · rw [h3] at g3; cases g3
      · rcases h4 with ⟨h5, h6⟩ | ⟨h5, h6⟩ <;> rcases g4 with ⟨g5, g6⟩ | ⟨g5, g6⟩
        · exact ih _ _ _ _ h6 g6
        · exact absurd h5 g5
        · exact absurd g5 h5
        · rw [h6, g6]

end Go.Proofs.YtekkkoipcghlmaaDoor.Sp

namespace Go.Proofs.YtekkkoipcghlmaaDoor
open Go.RowKit

/-- How many bits, by the three bytes. -/
def onesOf (m : Nat) : Nat := Lib.onesCount (m / 65536 % 256) + Lib.onesCount (m / 256 % 256) + Lib.onesCount (m % 256)

theorem and_byte (x : Nat) (h : x < 4294967296) : bits .and .u32 (x : Int) 255 = ((x % 256 : Nat) : Int) := by
  have := bits_and_u32_nat x 255 h (by decide)
  rw [show ((255 : Nat) : Int) = 255 from rfl] at this
  rw [this, show (255 : Nat) = 2 ^ 8 - 1 from rfl, Nat.and_two_pow_sub_one_eq_mod]

theorem pop_byte (a : Nat) (h : a < 256) : ∃ p : Nat, Lib.pop8 (a : Int) = (p : Int) ∧ p ≤ 8 ∧ p = Lib.onesCount a :=
  ⟨Lib.onesCount a, Lib.pop8_eq ⟨a, h⟩, Lib.onesCount_le8 ⟨a, h⟩, rfl⟩

theorem ret_i64 {a b : Int} (h : a = b) : Ending.returned (.int .i64 a) = .returned (.int .i64 b) := by rw [h]

set_option maxRecDepth 100000 in
theorem ones_any (m : Nat) (w : World) (hm : m < 2 ^ 24) :
    Calls Tryd.prog 100 #[.int .u32 m] w fun e w' => e = .returned (.int .i64 (onesOf m : Nat)) ∧ ∃ q, w' = w.drewN q := by
  have h24 : (m : Int) / 16777216 = 0 := by omega
  have e16 : bits .and .u32 ((m : Int) / 65536) 255 = ((m / 65536 % 256 : Nat) : Int) := by
    have := and_byte (m / 65536) (by omega)
    rwa [Int.natCast_ediv] at this
  have e8 : bits .and .u32 ((m : Int) / 256) 255 = ((m / 256 % 256 : Nat) : Int) := by
    have := and_byte (m / 256) (by omega)
    rwa [Int.natCast_ediv] at this
  have e0 : bits .and .u32 (m : Int) 255 = ((m % 256 : Nat) : Int) := and_byte m (by omega)
  have HO : Hid (onesOf m = Lib.onesCount (m / 65536 % 256) + Lib.onesCount (m / 256 % 256) + Lib.onesCount (m % 256)) := rfl
  have l16 : m / 65536 % 256 < 256 := by omega
  have l8 : m / 256 % 256 < 256 := by omega
  have l0 : m % 256 < 256 := by omega
  generalize m / 65536 % 256 = a at *
  generalize m / 256 % 256 = b at *
  generalize m % 256 = c at *
  have p00 : Lib.pop8 0 = 0 := by decide
  obtain ⟨pa, ha, ha8, hae⟩ := pop_byte a l16
  obtain ⟨pb, hb, hb8, hbe⟩ := pop_byte b l8
  obtain ⟨pc, hc, hc8, hce⟩ := pop_byte c l0
  rw [← hae, ← hbe, ← hce] at HO
  have ia : (a : Int) ≤ 255 := by omega
  have ib : (b : Int) ≤ 255 := by omega
  have ic : (c : Int) ≤ 255 := by omega
  clear hae hbe hce
  go_enter Tryd.func100, Tryd.ntmps100
  go_wp2
  go_quiet (fail)
  go_wp2
  go_ret
  refine ⟨ret_i64 ?_, _, rfl⟩
  rw [unhide HO]
  omega

/-- The opposites. -/
def oppMask (m : Nat) : Nat := (m &&& 5592405) * 2 ||| (m / 2 &&& 5592405)
theorem third_bit (i : Nat) (h : i < 24) : (5592405 : Nat).testBit i = (i % 2 == 0) := by
  have : ∀ k : Fin 24, (5592405 : Nat).testBit k.val = (k.val % 2 == 0) := by decide
  exact this ⟨i, h⟩
theorem oppMask_lt {m : Nat} (_hm : m < 2 ^ 24) : oppMask m < 2 ^ 24 := by
  have h1 : m &&& 5592405 ≤ 5592405 := Nat.and_le_right
  have h2 : m / 2 &&& 5592405 ≤ 5592405 := Nat.and_le_right
  exact Nat.or_lt_two_pow (by omega) (by omega)
theorem oppMask_bit {m : Nat} (_hm : m < 2 ^ 24) (i : Nat) (hi : i < 24) : (oppMask m).testBit i = m.testBit (Sp.opp i) := by
  unfold oppMask
  have e1 : (m &&& 5592405) * 2 = (m &&& 5592405) <<< 1 := by rw [Nat.shiftLeft_eq]
  have e2 : m / 2 = m >>> 1 := by rw [Nat.shiftRight_eq_div_pow]
  rw [e1, e2, Nat.testBit_or, Nat.testBit_shiftLeft, Nat.testBit_and, Nat.testBit_and, Nat.testBit_shiftRight]
  unfold Sp.opp
  by_cases he : i % 2 = 0
  · rw [if_pos he, third_bit i hi]
    have : (decide (i ≥ 1) && (m.testBit (i - 1) && (5592405 : Nat).testBit (i - 1))) = false := by
      by_cases h0 : i = 0
      · subst h0; simp
      · rw [third_bit (i - 1) (by omega)]
        have : ((i - 1) % 2 == 0) = false := by rw [beq_eq_false_iff_ne]; omega
        rw [this]; simp
    rw [this]
    have he' : (i % 2 == 0) = true := by simpa using he
    rw [he', Nat.add_comm 1 i]; simp
  · rw [if_neg he, third_bit i hi, third_bit (i - 1) (by omega)]
    have h1 : (i % 2 == 0) = false := by simpa using he
    have h2 : ((i - 1) % 2 == 0) = true := by rw [beq_iff_eq]; omega
    rw [h1, h2]
    have h3 : decide (i ≥ 1) = true := decide_eq_true (by omega)
    rw [h3]; simp
theorem opp_single {i : Nat} (hi : i < 24) : oppMask (2 ^ i) = 2 ^ (Sp.opp i) := by
  have : ∀ k : Fin 24, oppMask (2 ^ k.val) = 2 ^ (Sp.opp k.val) := by decide
  exact this ⟨i, hi⟩

set_option maxRecDepth 100000 in
theorem opposites_any (m : Nat) (w : World) (hm : m < 2 ^ 24) :
    Calls Tryd.prog 71 #[.int .u32 m] w fun e w' => e = .returned (.int .u32 (oppMask m : Nat)) ∧ w' = w := by
  have h1 : m &&& 5592405 ≤ 5592405 := Nat.and_le_right
  have h2 : m / 2 &&& 5592405 ≤ 5592405 := Nat.and_le_right
  have e1 : bits .and .u32 (m : Int) 5592405 = ((m &&& 5592405 : Nat) : Int) := bits_and_u32_nat m 5592405 (by omega) (by decide)
  have e2 : bits .and .u32 ((m : Int) / 2) 5592405 = ((m / 2 &&& 5592405 : Nat) : Int) := by
    have := bits_and_u32_nat (m / 2) 5592405 (by omega) (by decide)
    rwa [Int.natCast_ediv] at this
  have e3 : ((m &&& 5592405 : Nat) : Int) * 2 % 4294967296 = (((m &&& 5592405) * 2 : Nat) : Int) := by omega
  have e4 : bits .or .u32 (((m &&& 5592405) * 2 : Nat) : Int) ((m / 2 &&& 5592405 : Nat) : Int) = (oppMask m : Nat) := bits_or_u32 _ _ (by omega) (by omega)
  go_enter Tryd.func71, Tryd.ntmps71
  go_wp2_with fail
  go_ret
  refine ⟨?_, rfl⟩
  show Ending.returned (.int .u32 _) = _
  rw [← e4, show (((m &&& 5592405) * 2 : Nat) : Int) = ((m &&& 5592405 : Nat) : Int) * 2 from by omega]

end Go.Proofs.YtekkkoipcghlmaaDoor

namespace Go.Proofs.YtekkkoipcghlmaaDoor
open Go.RowKit

theorem byte_zero (a : Nat) (h : a < 256) : Lib.onesCount a = 0 → a = 0 := by
  have : ∀ k : Fin 256, Lib.onesCount k.val = 0 → k.val = 0 := by decide +kernel
  exact this ⟨a, h⟩
theorem byte_one (a : Nat) (h : a < 256) : Lib.onesCount a = 1 → ∃ j : Fin 8, a = 2 ^ j.val := by
  have : ∀ k : Fin 256, Lib.onesCount k.val = 1 → ∃ j : Fin 8, k.val = 2 ^ j.val := by decide +kernel
  exact this ⟨a, h⟩
theorem ones_one {m : Nat} (hm : m < 2 ^ 24) : onesOf m = 1 ↔ ∃ k, k < 24 ∧ m = 2 ^ k := by
  constructor
  · intro h
    unfold onesOf at h
    have l16 : m / 65536 % 256 < 256 := by omega
    have l8 : m / 256 % 256 < 256 := by omega
    have l0 : m % 256 < 256 := by omega
    have hd : m = m / 65536 % 256 * 65536 + m / 256 % 256 * 256 + m % 256 := by omega
    generalize m / 65536 % 256 = a at *
    generalize m / 256 % 256 = b at *
    generalize m % 256 = c at *
    have hz := byte_zero a l16; have hz2 := byte_zero b l8; have hz3 := byte_zero c l0
    rcases Nat.eq_zero_or_pos (Lib.onesCount a) with ha | ha
    · rcases Nat.eq_zero_or_pos (Lib.onesCount b) with hb | hb
      · obtain ⟨j, hj⟩ := byte_one c l0 (by omega)
        refine ⟨j.val, by omega, ?_⟩
        rw [hd, hz ha, hz2 hb, hj]; simp
      · obtain ⟨j, hj⟩ := byte_one b l8 (by omega)
        refine ⟨j.val + 8, by omega, ?_⟩
        rw [hd, hz ha, hz3 (by omega), hj, Nat.pow_add]; simp
    · obtain ⟨j, hj⟩ := byte_one a l16 (by omega)
      refine ⟨j.val + 16, by omega, ?_⟩
      rw [hd, hz2 (by omega), hz3 (by omega), hj, Nat.pow_add]; simp
  · rintro ⟨k, hk, rfl⟩
    have : ∀ k : Fin 24, onesOf (2 ^ k.val) = 1 := by decide +kernel
    exact this ⟨k, hk⟩

def oneBit (m : Nat) : Bool := onesOf m == 1
def alwaysMask (m : Nat) : Bool := m &&& oppMask m != 0

theorem ret_bool {a b : Bool} (h : a = b) : Ending.returned (.bool a) = .returned (.bool b) := by rw [h]

set_option maxRecDepth 100000 in
theorem size_any (m : Nat) (w : World) (hm : m < 2 ^ 24) :
    Calls Tryd.prog 87 #[.int .u32 m] w fun e w' => e = .returned (.int .i64 (onesOf m)) ∧ ∃ q, w' = w.drewN q := by
  have hmod : (m : Int) % 4294967296 = m := by omega
  have HO := hide (fun wx => ones_any m wx hm)
  generalize onesOf m = on at *
  go_enter Tryd.func87, Tryd.ntmps87
  go_wp2_with fail
  refine (unhide HO _).mono ?_
  rintro e w1 ⟨rfl, q, rfl⟩
  go_wp2
  go_ret
  exact ⟨rfl, q, rfl⟩

set_option maxRecDepth 100000 in
theorem single_any (m : Nat) (w : World) (hm : m < 2 ^ 24) :
    Calls Tryd.prog 72 #[.int .u32 m] w fun e w' => e = .returned (.bool (oneBit m)) ∧ ∃ q, w' = w.drewN q := by
  have HO := hide (fun wx => size_any m wx hm)
  have HB : Hid (((onesOf m : Int) == 1) = oneBit m) := hide (by
    unfold oneBit
    by_cases h : onesOf m = 1
    · rw [h]; rfl
    · have h1 : ((onesOf m : Int) == 1) = false := by rw [beq_eq_false_iff_ne]; omega
      have h2 : (onesOf m == 1) = false := by rw [beq_eq_false_iff_ne]; exact h
      rw [h1, h2])
  generalize oneBit m = ob at *
  generalize onesOf m = on at *
  go_enter Tryd.func72, Tryd.ntmps72
  go_wp2_with fail
  refine (unhide HO _).mono ?_
  rintro e w1 ⟨rfl, q, rfl⟩
  go_wp2
  go_ret
  exact ⟨ret_bool (unhide HB), q, rfl⟩

set_option maxRecDepth 100000 in
theorem alwaysTrue_any (m : Nat) (w : World) (hm : m < 2 ^ 24) :
    Calls Tryd.prog 59 #[.int .u32 m] w fun e w' => e = .returned (.bool (alwaysMask m)) ∧ ∃ q, w' = w.drewN q := by
  have hol := oppMask_lt hm
  have HO := hide (fun wx => opposites_any m wx hm)
  have e1 := bits_and_u32_nat m (oppMask m) (by omega) (by omega)
  have HB : Hid ((!((m &&& oppMask m : Nat) : Int) == 0) = alwaysMask m) := hide (by
    unfold alwaysMask
    by_cases h : m &&& oppMask m = 0
    · rw [h]; rfl
    · have h1 : (((m &&& oppMask m : Nat) : Int) == 0) = false := by rw [beq_eq_false_iff_ne]; omega
      have h2 : (m &&& oppMask m != 0) = true := by simpa using h
      rw [h1, h2]; rfl)
  generalize m &&& oppMask m = a at *
  generalize alwaysMask m = ob at *
  generalize oppMask m = on at *
  go_enter Tryd.func59, Tryd.ntmps59
  go_wp2_with fail
  refine (unhide HO _).mono ?_
  rintro e w1 ⟨rfl, rfl⟩
  go_wp2
  go_ret
  exact ⟨ret_bool (unhide HB), 0, rfl⟩

theorem alwaysMask_iff {m : Nat} (hm : m < 2 ^ 24) : alwaysMask m = true ↔ ∃ i, m.testBit i = true ∧ m.testBit (Sp.opp i) = true := by
  have h24 : ∀ i, m.testBit i = true → i < 24 := fun i hi => by
    rcases Nat.lt_or_ge i 24 with h | h
    · exact h
    · rw [Nat.testBit_lt_two_pow (Nat.lt_of_lt_of_le hm (Nat.pow_le_pow_right (by decide) h))] at hi; cases hi
  unfold alwaysMask
  constructor
  · intro h
    have hne : m &&& oppMask m ≠ 0 := by simpa using h
    obtain ⟨i, hi⟩ := Nat.exists_testBit_of_ne_zero hne
    rw [Nat.testBit_and, Bool.and_eq_true] at hi
    refine ⟨i, hi.1, ?_⟩
    rw [← oppMask_bit hm i (h24 i hi.1)]
    exact hi.2
  · rintro ⟨i, h1, h2⟩
    have hne : m &&& oppMask m ≠ 0 := by
      intro h0
      have : (m &&& oppMask m).testBit i = true := by rw [Nat.testBit_and, h1, oppMask_bit hm i (h24 i h1), h2]; rfl
      rw [h0] at this
      simp at this
    simpa using hne

/-- What is left of a clause. -/
def leftMask (c u : Nat) : Nat := c ^^^ (c &&& u)
theorem leftMask_bit (c u i : Nat) : (leftMask c u).testBit i = (c.testBit i && !u.testBit i) := by
  unfold leftMask
  rw [Nat.testBit_xor, Nat.testBit_and]
  cases c.testBit i <;> cases u.testBit i <;> rfl
theorem leftMask_lt {c : Nat} (u : Nat) (hc : c < 2 ^ 24) : leftMask c u < 2 ^ 24 := by
  unfold leftMask
  refine Nat.xor_lt_two_pow hc (Nat.lt_of_le_of_lt Nat.and_le_left hc)
theorem bits_left (c u : Nat) (hc : c < 4294967296) (hu : u < 4294967296) : bits .andNot .u32 (c : Int) (u : Int) = (leftMask c u : Nat) := by
  have h1 : (BitVec.ofInt 32 (c : Int)).toNat = c := by
    rw [BitVec.ofInt_natCast, BitVec.toNat_ofNat]; exact Nat.mod_eq_of_lt (by omega)
  have h2 : (BitVec.ofInt 32 (u : Int)).toNat = u := by
    rw [BitVec.ofInt_natCast, BitVec.toNat_ofNat]; exact Nat.mod_eq_of_lt (by omega)
  show IntKind.u32.wrap ((BitVec.ofInt 32 (c : Int) &&& ~~~ BitVec.ofInt 32 (u : Int)).toNat : Int) = _
  have h3 : (BitVec.ofInt 32 (c : Int) &&& ~~~ BitVec.ofInt 32 (u : Int)).toNat = leftMask c u := by
    apply Nat.eq_of_testBit_eq
    intro i
    rw [leftMask_bit, ← BitVec.getLsbD, BitVec.getLsbD_and, BitVec.getLsbD_not]
    unfold BitVec.getLsbD
    rw [h1, h2]
    by_cases hi : i < 32
    · simp [hi]
    · have : c.testBit i = false := Nat.testBit_lt_two_pow (Nat.lt_of_lt_of_le hc (by rw [show (4294967296 : Nat) = 2 ^ 32 from rfl]; exact Nat.pow_le_pow_right (by decide) (by omega)))
      rw [this]; simp
  rw [h3, wrap_u32']
  have : leftMask c u < 4294967296 := by
    unfold leftMask
    exact Nat.xor_lt_two_pow (n := 32) hc (Nat.lt_of_le_of_lt Nat.and_le_left hc)
  omega

end Go.Proofs.YtekkkoipcghlmaaDoor

namespace Go.Proofs.YtekkkoipcghlmaaDoor
open Go.RowKit

theorem Tryd.infoStr : (Tryd.prog.info? 9).map (fun i => (i.zero, i.size, i.bytes)) = some (some (.string ⟨#[]⟩), 1, 16) := by kernel_rfl

set_option maxRecDepth 100000 in
set_option maxHeartbeats 400000 in
theorem words_any (s : List UInt8) (w : World) (hs : s.length ≤ 10000000) (hne : s ≠ []) :
    Calls Tryd.prog 25 #[.string (bs s)] w fun e w' => ∃ v, e = .returned v ∧ w'.ownsRow w.heap.size 9 1 v (Sp.words s).length (strs (Sp.words s)) ∧ Below w.heap.size w w' := by
  obtain ⟨i0, hi, hz0, hz1, hz2⟩ := info_parts Tryd.infoStr
  have hsz := bs_size s
  have hemp : (bs s).toList.isEmpty = false := bs_nonempty hne
  have HW : Hid (Sp.words s = Sp.wordsAux [] s) := hide (by simp [Sp.words, hne])
  go_enter Tryd.func25, Tryd.ntmps25
  go_wp2_with fail
  go_loopw [3, 4, 5] (fun v c i wr => ∃ (k : Nat) (O : List (List UInt8)) (cur : List UInt8), k ≤ s.length ∧ i = .int .i64 k ∧ c = .string (bs cur) ∧ wr.ownsRow w.heap.size 9 1 v O.length (strs O) ∧ Below w.heap.size w wr ∧ O.length ≤ k ∧ cur.length ≤ k ∧ Hid (O ++ Sp.wordsAux cur (s.drop k) = Sp.wordsAux [] s))
    (fun _ _ i _ => s.length - (intOf i).toNat)
  case atStart => exact ⟨0, [], [], Nat.zero_le _, rfl, rfl, World.ownsRow_nil _ _ _ _, Below.refl _ _, by simp, by simp, rfl⟩
  case round =>
    obtain ⟨k, O, cur, hk, rfl, rfl, hown, hbel, hO, hcur, HI⟩ := hrel
    by_cases hlt : k < s.length
    · have hlt' : k < (bs s).size := by omega
      have HD : Hid (s.drop k = s[k] :: s.drop (k + 1)) := hide (List.drop_eq_getElem_cons hlt)
      have HB : Hid ((bs s)[k] = s[k]) := hide (bs_get hlt)
      by_cases hc : s[k] = 32
      · have ht : (((bs s)[k].toNat : Int) == 32) = true := by rw [unhide HB, hc]; rfl
        have HC := hide hc
        clear hc
        go_wp2_with (at_builtin; refine append_one rfl _ _ 46 9 rfl Tryd.underlying46 Tryd.infoStr rfl (by decide) hown rfl rfl rfl (by omega) (Nat.le_refl _) hbel ?_; intro v' w1 hown' hbel' _)
        go_roundw
        case rel => exact ⟨k + 1, O ++ [cur], [], by omega, by go_num, rfl, by simpa [strs] using hown', hbel', by simp; omega, by simp, hide (by rw [← unhide HI, unhide HD, unhide HC]; simp [Sp.wordsAux])⟩
        case measure => simp [intOf]; omega
      · have ht : (((bs s)[k].toNat : Int) == 32) = false := by rw [unhide HB]; exact byte_ne (by decide) hc
        have HC := hide hc
        clear hc
        have hsl := fun wx => slice_bs (P := Tryd.prog) 9 Tryd.underlying9 s k (k + 1) k (k + 1) rfl rfl (by omega) (by omega) wx
        have e1 : (s.drop k).take (k + 1 - k) = [s[k]] := by rw [unhide HD]; simp
        rw [e1] at hsl
        clear e1
        have hadd := fun wx => add_bs (P := Tryd.prog) cur [s[k]] (by simp; omega) wx
        go_wp2
        go_roundw
        case rel => exact ⟨k + 1, O, cur ++ [s[k]], by omega, by go_num, rfl, hown, hbel, by omega, by simp; omega, hide (by rw [← unhide HI, unhide HD]; simp [Sp.wordsAux, unhide HC])⟩
        case measure => simp [intOf]; omega
    · have HE : Hid (s.drop k = []) := hide (List.drop_eq_nil_of_le (by omega))
      go_wp2_with (at_builtin; refine append_one rfl _ _ 46 9 rfl Tryd.underlying46 Tryd.infoStr rfl (by decide) hown rfl rfl rfl (by omega) (Nat.le_refl _) hbel ?_; intro v' w1 hown' hbel' _)
      go_ret
      have hfin : Sp.words s = O ++ [cur] := by rw [unhide HW, ← unhide HI, unhide HE]; rfl
      exact ⟨_, rfl, by rw [hfin]; simpa [strs] using hown', hbel'⟩

theorem words_nil (w : World) :
    Calls Tryd.prog 25 #[.string (bs [])] w fun e w' => e = .returned (.slice none 0 0) ∧ w' = w := by
  have hemp : (bs []).toList.isEmpty = true := by rw [bs_toList]; rfl
  go_enter Tryd.func25, Tryd.ntmps25
  go_wp2
  go_ret
  exact ⟨rfl, rfl⟩

end Go.Proofs.YtekkkoipcghlmaaDoor

namespace Go.Proofs.YtekkkoipcghlmaaDoor
open Go.RowKit

theorem seg_snoc (s : List UInt8) (f k : Nat) (hf : f ≤ k) (hk : k < s.length) : (s.drop f).take (k + 1 - f) = (s.drop f).take (k - f) ++ [s[k]] := by
  rw [show k + 1 - f = (k - f) + 1 from by omega, List.take_succ_eq_append_getElem (by simp; omega)]
  simp [show f + (k - f) = k from by omega]

set_option maxRecDepth 100000 in
set_option maxHeartbeats 400000 in
theorem lines_any (s : List UInt8) (w : World) (hs : s.length ≤ 10000000) :
    Calls Tryd.prog 23 #[.string (bs s)] w fun e w' => ∃ v, e = .returned (.tuple #[v, .bool (Sp.ended s)]) ∧ w'.ownsRow w.heap.size 9 1 v (Sp.lines s).length (strs (Sp.lines s)) ∧ Below w.heap.size w w' := by
  have hsz := bs_size s
  go_enter Tryd.func23, Tryd.ntmps23
  go_wp2_with fail
  go_loopw [4, 5, 6] (fun v fr i wr => ∃ (k f : Nat) (O : List (List UInt8)), f ≤ k ∧ k ≤ s.length ∧ i = .int .i64 k ∧ fr = .int .i64 f ∧ wr.ownsRow w.heap.size 9 1 v O.length (strs O) ∧ Below w.heap.size w wr ∧ O.length ≤ k ∧
      Hid (O ++ Sp.linesAux ((s.drop f).take (k - f)) (s.drop k) = Sp.lines s) ∧ Hid (Sp.endAux ((s.drop f).take (k - f)) (s.drop k) = Sp.ended s))
    (fun _ _ i _ => s.length - (intOf i).toNat)
  case atStart => exact ⟨0, 0, [], Nat.le_refl _, Nat.zero_le _, rfl, rfl, World.ownsRow_nil _ _ _ _, Below.refl _ _, by simp, rfl, rfl⟩
  case round =>
    obtain ⟨k, f, O, hf, hk, rfl, rfl, hown, hbel, hO, HI, HE⟩ := hrel
    by_cases hlt : k < s.length
    · have hlt' : k < (bs s).size := by omega
      have HD : Hid (s.drop k = s[k] :: s.drop (k + 1)) := hide (List.drop_eq_getElem_cons hlt)
      have HB : Hid ((bs s)[k] = s[k]) := hide (bs_get hlt)
      have HN := hide (seg_snoc s f k hf hlt)
      by_cases hc : s[k] = 10
      · have ht : (((bs s)[k].toNat : Int) == 10) = true := by rw [unhide HB, hc]; rfl
        have HC := hide hc
        clear hc
        have hsl := fun wx => slice_bs (P := Tryd.prog) 9 Tryd.underlying9 s f k f k rfl rfl hf (by omega) wx
        go_wp2_with (at_builtin; refine append_one rfl _ _ 46 9 rfl Tryd.underlying46 Tryd.infoStr rfl (by decide) hown rfl rfl rfl (by omega) (Nat.le_refl _) hbel ?_; intro v' w1 hown' hbel' _)
        go_roundw
        case rel => exact ⟨k + 1, k + 1, O ++ [(s.drop f).take (k - f)], Nat.le_refl _, by omega, by go_num, by go_num, by simpa [strs] using hown', hbel', by simp; omega, hide (by rw [← unhide HI, unhide HD, unhide HC]; simp [Sp.linesAux]), hide (by rw [← unhide HE, unhide HD, unhide HC]; simp [Sp.endAux])⟩
        case measure => simp [intOf]; omega
      · have ht : (((bs s)[k].toNat : Int) == 10) = false := by rw [unhide HB]; exact byte_ne (by decide) hc
        have HC := hide hc
        clear hc
        go_wp2
        go_roundw
        case rel => exact ⟨k + 1, f, O, by omega, by omega, by go_num, rfl, hown, hbel, by omega, hide (by rw [← unhide HI, unhide HD, unhide HN, Sp.linesAux, if_neg (unhide HC)]; rfl), hide (by rw [← unhide HE, unhide HD, unhide HN, Sp.endAux, if_neg (unhide HC)]; rfl)⟩
        case measure => simp [intOf]; omega
    · have HL : Hid (s.drop k = []) := hide (List.drop_eq_nil_of_le (by omega))
      have HF : Hid ((s.drop f).take (k - f) = s.drop f) := hide (List.take_of_length_le (by simp; omega))
      by_cases hfl : f < s.length
      · have HG : Hid (¬ s.drop f = []) := hide (by intro h; have := congrArg List.length h; simp at this; omega)
        have hsl := fun wx => slice_from_bs (P := Tryd.prog) 9 Tryd.underlying9 s f f rfl (by omega) wx
        go_wp2_with (at_builtin; refine append_one rfl _ _ 46 9 rfl Tryd.underlying46 Tryd.infoStr rfl (by decide) hown rfl rfl rfl (by omega) (Nat.le_refl _) hbel ?_; intro v' w1 hown' hbel' _)
        go_ret2
        have hfin : Sp.lines s = O ++ [s.drop f] := by rw [← unhide HI, unhide HL, unhide HF]; simp only [Sp.linesAux]; rw [if_neg (unhide HG)]
        have hend : Sp.ended s = false := by rw [← unhide HE, unhide HL, unhide HF]; simpa [Sp.endAux] using unhide HG
        exact ⟨_, by rw [hend]; rfl, by rw [hfin]; simpa [strs] using hown', hbel'⟩
      · have HG : Hid (s.drop f = []) := hide (List.drop_eq_nil_of_le (by omega))
        go_wp2
        go_ret2
        have hfin : Sp.lines s = O := by rw [← unhide HI, unhide HL, unhide HF, unhide HG]; simp [Sp.linesAux]
        have hend : Sp.ended s = true := by rw [← unhide HE, unhide HL, unhide HF, unhide HG]; simp [Sp.endAux]
        exact ⟨_, by rw [hend]; rfl, by rw [hfin]; exact hown, hbel⟩

end Go.Proofs.YtekkkoipcghlmaaDoor

namespace Go.Proofs.YtekkkoipcghlmaaDoor
open Go.RowKit

set_option maxHeartbeats 400000 in
theorem in_any (v : Value) (xs : List Int) (n : Int) (w : World) (hl : xs.length ≤ 10000000) (hv : Lies w v (ints xs)) :
    Calls Tryd.prog 49 #[v, .int .i64 n] w fun e w' => e = .returned (.bool (xs.contains n)) ∧ w' = w := by
  rcases hv with ⟨h0, ao, cap, rfl⟩ | ⟨b, off, cap, hp, rfl, hb, hc⟩
  · have hx : xs = [] := by simpa [ints] using h0
    subst hx
    go_enter Tryd.func49, Tryd.ntmps49
    go_wp2
    refine wp_loop_rounds 1 ?_
    rw [rounds_succ]
    go_wp2
    go_ret
    exact ⟨rfl, rfl⟩
  · have hlen : (ints xs).length = xs.length := by simp [ints]
    rw [hlen] at hp ⊢
    go_enter Tryd.func49, Tryd.ntmps49
    go_wp2
    go_loop [5] (fun i => ∃ k : Nat, k ≤ xs.length ∧ i = .int .i64 k ∧ n ∉ xs.take k) (fun i => xs.length - (intOf i).toNat)
    case atStart => exact ⟨0, Nat.zero_le _, rfl, by simp⟩
    case round =>
      obtain ⟨k, hk, rfl, hno⟩ := hrel
      by_cases hlt : k < xs.length
      · have hcell := hc k (.int .i64 xs[k]) (by simp [ints, hlt])
        have HM : Hid (xs[k] ∈ xs) := hide (List.getElem_mem hlt)
        have HS : Hid (xs.take (k + 1) = xs.take k ++ [xs[k]]) := hide (List.take_succ_eq_append_getElem hlt)
        generalize xs[k] = x at hcell HM HS
        clear hc
        by_cases hx : x = n
        · have hq : (x == n) = true := by simpa using hx
          have HX : Hid (x = n) := hide hx
          clear hx
          go_wp2
          go_ret
          exact ⟨by rw [← unhide HX]; simp [unhide HM], rfl⟩
        · have hq : (x == n) = false := by simpa using hx
          have HX : Hid (¬ x = n) := hide hx
          clear hx
          go_wp2
          go_round
          case rel => exact ⟨k + 1, by omega, by go_num, by rw [unhide HS]; simp [hno]; exact fun h => unhide HX h.symm⟩
          case measure => simp [intOf]; omega
      · go_wp2
        go_ret
        have : xs.take k = xs := List.take_of_length_le (by omega)
        rw [this] at hno
        exact ⟨by simp [hno], rfl⟩

end Go.Proofs.YtekkkoipcghlmaaDoor

namespace Go.Proofs.YtekkkoipcghlmaaDoor
open Go.RowKit

theorem Tryd.infoIntW : (Tryd.prog.info? 3).map (fun i => (i.zero, i.size, i.bytes)) = some (some (.int .i64 0), 1, 8) := by kernel_rfl

set_option maxRecDepth 100000 in
set_option maxHeartbeats 800000 in
theorem sorted_any (v : Value) (xs : List Int) (w : World) (hl : xs.length ≤ 10000000) (hv : Lies w v (ints xs)) :
    Calls Tryd.prog 42 #[v] w fun e w' => ∃ v', e = .returned v' ∧ w'.ownsRow w.heap.size 3 1 v' (Sp.sorted xs).length (ints (Sp.sorted xs)) ∧ Below w.heap.size w w' := by
  go_enter Tryd.func42, Tryd.ntmps42
  go_wp2_with fail
  go_loopw [3, 4] (fun o i wr => ∃ (k : Nat), k ≤ 12 ∧ i = .int .i64 (k + 1) ∧ wr.ownsRow w.heap.size 3 1 o (Sp.sortedTo xs k).length (ints (Sp.sortedTo xs k)) ∧ Below w.heap.size w wr)
    (fun _ i _ => 13 - (intOf i).toNat)
  case atStart => exact ⟨0, by omega, rfl, World.ownsRow_nil _ _ _ _, Below.refl _ _⟩
  case round =>
    obtain ⟨k, hk, rfl, hown, hbel⟩ := hrel
    have hv' := hv.below hbel
    have hlen := Sp.sortedTo_len xs k
    by_cases hlt : k < 12
    · have HT := hide (Sp.sortedTo_succ xs k)
      have hlt2 : (k : Int) + 1 ≤ 12 := by omega
      have h1 := in_any v xs ((k : Int) + 1) wr hl hv'
      have h2 := in_any v xs (-((k : Int) + 1)) wr hl hv'
      have HA : Hid (Sp.sortedAt xs k = (if xs.contains ((k : Int) + 1) then [(k : Int) + 1] else []) ++ (if xs.contains (-((k : Int) + 1)) then [-((k : Int) + 1)] else [])) := rfl
      have H1 := hide h1
      have H2 := hide h2
      clear h1 h2
      cases hc1 : xs.contains ((k : Int) + 1) <;> cases hc2 : xs.contains (-((k : Int) + 1))
      all_goals rw [hc1] at H1 HA
      all_goals rw [hc2] at H2 HA
      all_goals clear hc1 hc2
      · go_wp2_with fail
        refine (unhide H1).mono ?_
        rintro e w1 ⟨rfl, rfl⟩
        go_wp2_with fail
        refine (unhide H2).mono ?_
        rintro e w1 ⟨rfl, rfl⟩
        go_wp2
        go_roundw
        case rel => exact ⟨k + 1, by omega, by go_num, by rw [unhide HT, unhide HA]; simpa using hown, hbel⟩
        case measure => simp [intOf]; omega
      · go_wp2_with fail
        refine (unhide H1).mono ?_
        rintro e w1 ⟨rfl, rfl⟩
        go_wp2_with fail
        refine (unhide H2).mono ?_
        rintro e w1 ⟨rfl, rfl⟩
        go_wp2_with (at_builtin; refine append_one rfl _ _ 24 3 rfl Tryd.underlying24 Tryd.infoIntW rfl (by decide) hown rfl rfl rfl (by omega) (Nat.le_refl _) hbel ?_; intro v1 w1 hown1 hbel1 _)
        go_roundw
        case rel => exact ⟨k + 1, by omega, by go_num, by rw [unhide HT, unhide HA]; simpa [ints] using hown1, hbel1⟩
        case measure => simp [intOf]; omega
      · go_wp2_with fail
        refine (unhide H1).mono ?_
        rintro e w1 ⟨rfl, rfl⟩
        go_wp2_with fail
        refine (unhide H2).mono ?_
        rintro e w1 ⟨rfl, rfl⟩
        go_wp2_with (at_builtin; refine append_one rfl _ _ 24 3 rfl Tryd.underlying24 Tryd.infoIntW rfl (by decide) hown rfl rfl rfl (by omega) (Nat.le_refl _) hbel ?_; intro v1 w1 hown1 hbel1 _)
        go_roundw
        case rel => exact ⟨k + 1, by omega, by go_num, by rw [unhide HT, unhide HA]; simpa [ints] using hown1, hbel1⟩
        case measure => simp [intOf]; omega
      · go_wp2_with fail
        refine (unhide H1).mono ?_
        rintro e w1 ⟨rfl, rfl⟩
        go_wp2_with fail
        refine (unhide H2).mono ?_
        rintro e w1 ⟨rfl, rfl⟩
        go_wp2_with (first | (at_builtin; refine append_one rfl (.tmp 19) (.tmp 21) 24 3 rfl Tryd.underlying24 Tryd.infoIntW rfl (by decide) hown rfl rfl rfl (by omega) (Nat.le_refl _) hbel ?_; intro v1 w1 hown1 hbel1 _) | (at_builtin; refine append_one rfl (.tmp 24) (.tmp 27) 24 3 rfl Tryd.underlying24 Tryd.infoIntW rfl (by decide) hown1 rfl rfl rfl (by omega) (Nat.le_refl _) hbel1 ?_; intro v2 w2 hown2 hbel2 _))
        go_roundw
        case rel => exact ⟨k + 1, by omega, by go_num, by rw [unhide HT, unhide HA]; simpa [ints] using hown2, hbel2⟩
        case measure => simp [intOf]; omega
    · go_wp2
      go_ret
      have : k = 12 := by omega
      subst this
      exact ⟨_, rfl, hown, hbel⟩

end Go.Proofs.YtekkkoipcghlmaaDoor
