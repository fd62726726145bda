import Derived.Test.YtekkkoipcghlmaaGreatDoorJ04
import Derived.Test.YtekkkoipcghlmaaGreatDoorJ02
import Derived.Lib.BitFns
import Derived.Test.YtekkkoipcghlmaaGreatDoorJ01
import Derived.Test.YtekkkoipcghlmaaGreatDoorProg
namespace Go.Proofs.YtekkkoipcghlmaaGreatDoor
open Go.RowKit

/-- How many bits, by the three bytes. -/
def onesOf (m : Nat) : Nat := Lib.onesCount (m / 65536 % 256) + Lib.onesCount (m / 256 % 256) + Lib.onesCount (m % 256)

theorem and_byte (x : Nat) (h : x < 4294967296) : bits .and .u32 (x : Int) 255 = ((x % 256 : Nat) : Int) := by
  have := bits_and_u32_nat x 255 h (by decide)
  rw [show ((255 : Nat) : Int) = 255 from rfl] at this
  rw [this, show (255 : Nat) = 2 ^ 8 - 1 from rfl, Nat.and_two_pow_sub_one_eq_mod]

theorem pop_byte (a : Nat) (h : a < 256) : ∃ p : Nat, Lib.pop8 (a : Int) = (p : Int) ∧ p ≤ 8 ∧ p = Lib.onesCount a :=
  ⟨Lib.onesCount a, Lib.pop8_eq ⟨a, h⟩, Lib.onesCount_le8 ⟨a, h⟩, rfl⟩

theorem ret_i64 {a b : Int} (h : a = b) : Ending.returned (.int .i64 a) = .returned (.int .i64 b) := by rw [h]

set_option maxRecDepth 100000 in
theorem ones_any (m : Nat) (w : World) (hm : m < 2 ^ 24) :
    Calls Tryz.prog 87 #[.int .u32 m] w fun e w' => e = .returned (.int .i64 (onesOf m : Nat)) ∧ ∃ q, w' = w.drewN q := by
  have h24 : (m : Int) / 16777216 = 0 := by omega
  have e16 : bits .and .u32 ((m : Int) / 65536) 255 = ((m / 65536 % 256 : Nat) : Int) := by
    have := and_byte (m / 65536) (by omega)
    rwa [Int.natCast_ediv] at this
  have e8 : bits .and .u32 ((m : Int) / 256) 255 = ((m / 256 % 256 : Nat) : Int) := by
    have := and_byte (m / 256) (by omega)
    rwa [Int.natCast_ediv] at this
  have e0 : bits .and .u32 (m : Int) 255 = ((m % 256 : Nat) : Int) := and_byte m (by omega)
  have HO : Hid (onesOf m = Lib.onesCount (m / 65536 % 256) + Lib.onesCount (m / 256 % 256) + Lib.onesCount (m % 256)) := rfl
  have l16 : m / 65536 % 256 < 256 := by omega
  have l8 : m / 256 % 256 < 256 := by omega
  have l0 : m % 256 < 256 := by omega
  generalize m / 65536 % 256 = a at *
  generalize m / 256 % 256 = b at *
  generalize m % 256 = c at *
  have p00 : Lib.pop8 0 = 0 := by decide
  obtain ⟨pa, ha, ha8, hae⟩ := pop_byte a l16
  obtain ⟨pb, hb, hb8, hbe⟩ := pop_byte b l8
  obtain ⟨pc, hc, hc8, hce⟩ := pop_byte c l0
  rw [← hae, ← hbe, ← hce] at HO
  have ia : (a : Int) ≤ 255 := by omega
  have ib : (b : Int) ≤ 255 := by omega
  have ic : (c : Int) ≤ 255 := by omega
  clear hae hbe hce
  go_enter Tryz.func87, Tryz.ntmps87
  go_wp2
  go_quiet (fail)
  go_wp2
  go_ret
  refine ⟨ret_i64 ?_, _, rfl⟩
  rw [unhide HO]
  omega

/-- The opposites. -/
def oppMask (m : Nat) : Nat := (m &&& 5592405) * 2 ||| (m / 2 &&& 5592405)
theorem third_bit (i : Nat) (h : i < 24) : (5592405 : Nat).testBit i = (i % 2 == 0) := by
  have : ∀ k : Fin 24, (5592405 : Nat).testBit k.val = (k.val % 2 == 0) := by decide
  exact this ⟨i, h⟩
theorem oppMask_lt {m : Nat} (_hm : m < 2 ^ 24) : oppMask m < 2 ^ 24 := by
  have h1 : m &&& 5592405 ≤ 5592405 := Nat.and_le_right
  have h2 : m / 2 &&& 5592405 ≤ 5592405 := Nat.and_le_right
  exact Nat.or_lt_two_pow (by omega) (by omega)
theorem oppMask_bit {m : Nat} (_hm : m < 2 ^ 24) (i : Nat) (hi : i < 24) : (oppMask m).testBit i = m.testBit (Sp.opp i) := by
  unfold oppMask
  have e1 : (m &&& 5592405) * 2 = (m &&& 5592405) <<< 1 := by rw [Nat.shiftLeft_eq]
  have e2 : m / 2 = m >>> 1 := by rw [Nat.shiftRight_eq_div_pow]
  rw [e1, e2, Nat.testBit_or, Nat.testBit_shiftLeft, Nat.testBit_and, Nat.testBit_and, Nat.testBit_shiftRight]
  unfold Sp.opp
  by_cases he : i % 2 = 0
  · rw [if_pos he, third_bit i hi]
    have : (decide (i ≥ 1) && (m.testBit (i - 1) && (5592405 : Nat).testBit (i - 1))) = false := by
      by_cases h0 : i = 0
      · subst h0; simp
      · rw [third_bit (i - 1) (by omega)]
        have : ((i - 1) % 2 == 0) = false := by rw [beq_eq_false_iff_ne]; omega
        rw [this]; simp
    rw [this]
    have he' : (i % 2 == 0) = true := by simpa using he
    rw [he', Nat.add_comm 1 i]; simp
  · rw [if_neg he, third_bit i hi, third_bit (i - 1) (by omega)]
    have h1 : (i % 2 == 0) = false := by simpa using he
    have h2 : ((i - 1) % 2 == 0) = true := by rw [beq_iff_eq]; omega
    rw [h1, h2]
    have h3 : decide (i ≥ 1) = true := decide_eq_true (by omega)
    rw [h3]; simp
theorem opp_single {i : Nat} (hi : i < 24) : oppMask (2 ^ i) = 2 ^ (Sp.opp i) := by
  have : ∀ k : Fin 24, oppMask (2 ^ k.val) = 2 ^ (Sp.opp k.val) := by decide
  exact this ⟨i, hi⟩

set_option maxRecDepth 100000 in
theorem opposites_any (m : Nat) (w : World) (hm : m < 2 ^ 24) :
    Calls Tryz.prog 85 #[.int .u32 m] w fun e w' => e = .returned (.int .u32 (oppMask m : Nat)) ∧ w' = w := by
  have h1 : m &&& 5592405 ≤ 5592405 := Nat.and_le_right
  have h2 : m / 2 &&& 5592405 ≤ 5592405 := Nat.and_le_right
  have e1 : bits .and .u32 (m : Int) 5592405 = ((m &&& 5592405 : Nat) : Int) := bits_and_u32_nat m 5592405 (by omega) (by decide)
  have e2 : bits .and .u32 ((m : Int) / 2) 5592405 = ((m / 2 &&& 5592405 : Nat) : Int) := by
    have := bits_and_u32_nat (m / 2) 5592405 (by omega) (by decide)
    rwa [Int.natCast_ediv] at this
  have e3 : ((m &&& 5592405 : Nat) : Int) * 2 % 4294967296 = (((m &&& 5592405) * 2 : Nat) : Int) := by omega
  have e4 : bits .or .u32 (((m &&& 5592405) * 2 : Nat) : Int) ((m / 2 &&& 5592405 : Nat) : Int) = (oppMask m : Nat) := bits_or_u32 _ _ (by omega) (by omega)
  go_enter Tryz.func85, Tryz.ntmps85
  go_wp2_with fail
  go_ret
  refine ⟨?_, rfl⟩
  show Ending.returned (.int .u32 _) = _
  rw [← e4, show (((m &&& 5592405) * 2 : Nat) : Int) = ((m &&& 5592405 : Nat) : Int) * 2 from by omega]

end Go.Proofs.YtekkkoipcghlmaaGreatDoor

namespace Go.Proofs.YtekkkoipcghlmaaGreatDoor
open Go.RowKit

theorem byte_zero (a : Nat) (h : a < 256) : Lib.onesCount a = 0 → a = 0 := by
  have : ∀ k : Fin 256, Lib.onesCount k.val = 0 → k.val = 0 := by decide +kernel
  exact this ⟨a, h⟩
theorem byte_one (a : Nat) (h : a < 256) : Lib.onesCount a = 1 → ∃ j : Fin 8, a = 2 ^ j.val := by
  have : ∀ k : Fin 256, Lib.onesCount k.val = 1 → ∃ j : Fin 8, k.val = 2 ^ j.val := by decide +kernel
  exact this ⟨a, h⟩
theorem ones_one {m : Nat} (hm : m < 2 ^ 24) : onesOf m = 1 ↔ ∃ k, k < 24 ∧ m = 2 ^ k := by
  constructor
  · intro h
    unfold onesOf at h
    have l16 : m / 65536 % 256 < 256 := by omega
    have l8 : m / 256 % 256 < 256 := by omega
    have l0 : m % 256 < 256 := by omega
    have hd : m = m / 65536 % 256 * 65536 + m / 256 % 256 * 256 + m % 256 := by omega
    generalize m / 65536 % 256 = a at *
    generalize m / 256 % 256 = b at *
    generalize m % 256 = c at *
    have hz := byte_zero a l16; have hz2 := byte_zero b l8; have hz3 := byte_zero c l0
    rcases Nat.eq_zero_or_pos (Lib.onesCount a) with ha | ha
    · rcases Nat.eq_zero_or_pos (Lib.onesCount b) with hb | hb
      · obtain ⟨j, hj⟩ := byte_one c l0 (by omega)
        refine ⟨j.val, by omega, ?_⟩
        rw [hd, hz ha, hz2 hb, hj]; simp
      · obtain ⟨j, hj⟩ := byte_one b l8 (by omega)
        refine ⟨j.val + 8, by omega, ?_⟩
        rw [hd, hz ha, hz3 (by omega), hj, Nat.pow_add]; simp
    · obtain ⟨j, hj⟩ := byte_one a l16 (by omega)
      refine ⟨j.val + 16, by omega, ?_⟩
      rw [hd, hz2 (by omega), hz3 (by omega), hj, Nat.pow_add]; simp
  · rintro ⟨k, hk, rfl⟩
    have : ∀ k : Fin 24, onesOf (2 ^ k.val) = 1 := by decide +kernel
    exact this ⟨k, hk⟩

def oneBit (m : Nat) : Bool := onesOf m == 1
def alwaysMask (m : Nat) : Bool := m &&& oppMask m != 0

theorem ret_bool {a b : Bool} (h : a = b) : Ending.returned (.bool a) = .returned (.bool b) := by rw [h]

set_option maxRecDepth 100000 in
theorem size_any (m : Nat) (w : World) (hm : m < 2 ^ 24) :
    Calls Tryz.prog 47 #[.int .u32 m] w fun e w' => e = .returned (.int .i64 (onesOf m)) ∧ ∃ q, w' = w.drewN q := by
  have hmod : (m : Int) % 4294967296 = m := by omega
  have HO := hide (fun wx => ones_any m wx hm)
  generalize onesOf m = on at *
  go_enter Tryz.func47, Tryz.ntmps47
  go_wp2_with fail
  refine (unhide HO _).mono ?_
  rintro e w1 ⟨rfl, q, rfl⟩
  go_wp2
  go_ret
  exact ⟨rfl, q, rfl⟩

set_option maxRecDepth 100000 in
theorem single_any (m : Nat) (w : World) (hm : m < 2 ^ 24) :
    Calls Tryz.prog 196 #[.int .u32 m] w fun e w' => e = .returned (.bool (oneBit m)) ∧ ∃ q, w' = w.drewN q := by
  have HO := hide (fun wx => size_any m wx hm)
  have HB : Hid (((onesOf m : Int) == 1) = oneBit m) := hide (by
    unfold oneBit
    by_cases h : onesOf m = 1
    · rw [h]; rfl
    · have h1 : ((onesOf m : Int) == 1) = false := by rw [beq_eq_false_iff_ne]; omega
      have h2 : (onesOf m == 1) = false := by rw [beq_eq_false_iff_ne]; exact h
      rw [h1, h2])
  generalize oneBit m = ob at *
  generalize onesOf m = on at *
  go_enter Tryz.func196, Tryz.ntmps196
  go_wp2_with fail
  refine (unhide HO _).mono ?_
  rintro e w1 ⟨rfl, q, rfl⟩
  go_wp2
  go_ret
  exact ⟨ret_bool (unhide HB), q, rfl⟩

set_option maxRecDepth 100000 in
theorem alwaysTrue_any (m : Nat) (w : World) (hm : m < 2 ^ 24) :
    Calls Tryz.prog 46 #[.int .u32 m] w fun e w' => e = .returned (.bool (alwaysMask m)) ∧ ∃ q, w' = w.drewN q := by
  have hol := oppMask_lt hm
  have HO := hide (fun wx => opposites_any m wx hm)
  have e1 := bits_and_u32_nat m (oppMask m) (by omega) (by omega)
  have HB : Hid ((!((m &&& oppMask m : Nat) : Int) == 0) = alwaysMask m) := hide (by
    unfold alwaysMask
    by_cases h : m &&& oppMask m = 0
    · rw [h]; rfl
    · have h1 : (((m &&& oppMask m : Nat) : Int) == 0) = false := by rw [beq_eq_false_iff_ne]; omega
      have h2 : (m &&& oppMask m != 0) = true := by simpa using h
      rw [h1, h2]; rfl)
  generalize m &&& oppMask m = a at *
  generalize alwaysMask m = ob at *
  generalize oppMask m = on at *
  go_enter Tryz.func46, Tryz.ntmps46
  go_wp2_with fail
  refine (unhide HO _).mono ?_
  rintro e w1 ⟨rfl, rfl⟩
  go_wp2
  go_ret
  exact ⟨ret_bool (unhide HB), 0, rfl⟩

theorem alwaysMask_iff {m : Nat} (hm : m < 2 ^ 24) : alwaysMask m = true ↔ ∃ i, m.testBit i = true ∧ m.testBit (Sp.opp i) = true := by
  have h24 : ∀ i, m.testBit i = true → i < 24 := fun i hi => by
    rcases Nat.lt_or_ge i 24 with h | h
    · exact h
    · rw [Nat.testBit_lt_two_pow (Nat.lt_of_lt_of_le hm (Nat.pow_le_pow_right (by decide) h))] at hi; cases hi
  unfold alwaysMask
  constructor
  · intro h
    have hne : m &&& oppMask m ≠ 0 := by simpa using h
    obtain ⟨i, hi⟩ := Nat.exists_testBit_of_ne_zero hne
    rw [Nat.testBit_and, Bool.and_eq_true] at hi
    refine ⟨i, hi.1, ?_⟩
    rw [← oppMask_bit hm i (h24 i hi.1)]
    exact hi.2
  · rintro ⟨i, h1, h2⟩
    have hne : m &&& oppMask m ≠ 0 := by
      intro h0
      have : (m &&& oppMask m).testBit i = true := by rw [Nat.testBit_and, h1, oppMask_bit hm i (h24 i h1), h2]; rfl
      rw [h0] at this
      simp at this
    simpa using hne

/-- What is left of a clause. -/
def leftMask (c u : Nat) : Nat := c ^^^ (c &&& u)
theorem leftMask_bit (c u i : Nat) : (leftMask c u).testBit i = (c.testBit i && !u.testBit i) := by
  unfold leftMask
  rw [Nat.testBit_xor, Nat.testBit_and]
  cases c.testBit i <;> cases u.testBit i <;> rfl
theorem leftMask_lt {c : Nat} (u : Nat) (hc : c < 2 ^ 24) : leftMask c u < 2 ^ 24 := by
  unfold leftMask
  refine Nat.xor_lt_two_pow hc (Nat.lt_of_le_of_lt Nat.and_le_left hc)
theorem bits_left (c u : Nat) (hc : c < 4294967296) (hu : u < 4294967296) : bits .andNot .u32 (c : Int) (u : Int) = (leftMask c u : Nat) := by
  have h1 : (BitVec.ofInt 32 (c : Int)).toNat = c := by
    rw [BitVec.ofInt_natCast, BitVec.toNat_ofNat]; exact Nat.mod_eq_of_lt (by omega)
  have h2 : (BitVec.ofInt 32 (u : Int)).toNat = u := by
    rw [BitVec.ofInt_natCast, BitVec.toNat_ofNat]; exact Nat.mod_eq_of_lt (by omega)
  show IntKind.u32.wrap ((BitVec.ofInt 32 (c : Int) &&& ~~~ BitVec.ofInt 32 (u : Int)).toNat : Int) = _
  have h3 : (BitVec.ofInt 32 (c : Int) &&& ~~~ BitVec.ofInt 32 (u : Int)).toNat = leftMask c u := by
    apply Nat.eq_of_testBit_eq
    intro i
    rw [leftMask_bit, ← BitVec.getLsbD, BitVec.getLsbD_and, BitVec.getLsbD_not]
    unfold BitVec.getLsbD
    rw [h1, h2]
    by_cases hi : i < 32
    · simp [hi]
    · have : c.testBit i = false := Nat.testBit_lt_two_pow (Nat.lt_of_lt_of_le hc (by rw [show (4294967296 : Nat) = 2 ^ 32 from rfl]; exact Nat.pow_le_pow_right (by decide) (by omega)))
      rw [this]; simp
  rw [h3, wrap_u32']
  have : leftMask c u < 4294967296 := by
    unfold leftMask
    exact Nat.xor_lt_two_pow (n := 32) hc (Nat.lt_of_le_of_lt Nat.and_le_left hc)
  omega

end Go.Proofs.YtekkkoipcghlmaaGreatDoor

namespace Go.Proofs.YtekkkoipcghlmaaGreatDoor
open Go.RowKit

theorem Tryz.infoStr : (Tryz.prog.info? 9).map (fun i => (i.zero, i.size, i.bytes)) = some (some (.string ⟨#[]⟩), 1, 16) := by kernel_rfl

set_option maxRecDepth 100000 in
set_option maxHeartbeats 400000 in
theorem words_any (s : List UInt8) (w : World) (hs : s.length ≤ 10000000) (hne : s ≠ []) :
    Calls Tryz.prog 150 #[.string (bs s)] w fun e w' => ∃ v, e = .returned v ∧ w'.ownsRow w.heap.size 9 1 v (Sp.words s).length (strs (Sp.words s)) ∧ Below w.heap.size w w' := by
  obtain ⟨i0, hi, hz0, hz1, hz2⟩ := info_parts Tryz.infoStr
  have hsz := bs_size s
  have hemp : (bs s).toList.isEmpty = false := bs_nonempty hne
  have HW : Hid (Sp.words s = Sp.wordsAux [] s) := hide (by simp [Sp.words, hne])
  go_enter Tryz.func150, Tryz.ntmps150
  go_wp2_with fail
  go_loopw [3, 4, 5] (fun v c i wr => ∃ (k : Nat) (O : List (List UInt8)) (cur : List UInt8), k ≤ s.length ∧ i = .int .i64 k ∧ c = .string (bs cur) ∧ wr.ownsRow w.heap.size 9 1 v O.length (strs O) ∧ Below w.heap.size w wr ∧ O.length ≤ k ∧ cur.length ≤ k ∧ Hid (O ++ Sp.wordsAux cur (s.drop k) = Sp.wordsAux [] s))
    (fun _ _ i _ => s.length - (intOf i).toNat)
  case atStart => exact ⟨0, [], [], Nat.zero_le _, rfl, rfl, World.ownsRow_nil _ _ _ _, Below.refl _ _, by simp, by simp, rfl⟩
  case round =>
    obtain ⟨k, O, cur, hk, rfl, rfl, hown, hbel, hO, hcur, HI⟩ := hrel
    by_cases hlt : k < s.length
    · have hlt' : k < (bs s).size := by omega
      have HD : Hid (s.drop k = s[k] :: s.drop (k + 1)) := hide (List.drop_eq_getElem_cons hlt)
      have HB : Hid ((bs s)[k] = s[k]) := hide (bs_get hlt)
      by_cases hc : s[k] = 32
      · have ht : (((bs s)[k].toNat : Int) == 32) = true := by rw [unhide HB, hc]; rfl
        have HC := hide hc
        clear hc
        go_wp2_with (at_builtin; refine append_one rfl _ _ 177 9 rfl Tryz.underlying177 Tryz.infoStr rfl (by decide) hown rfl rfl rfl (by omega) (Nat.le_refl _) hbel ?_; intro v' w1 hown' hbel' _)
        go_roundw
        case rel => exact ⟨k + 1, O ++ [cur], [], by omega, by go_num, rfl, by simpa [strs] using hown', hbel', by simp; omega, by simp, hide (by rw [← unhide HI, unhide HD, unhide HC]; simp [Sp.wordsAux])⟩
        case measure => simp [intOf]; omega
      · have ht : (((bs s)[k].toNat : Int) == 32) = false := by rw [unhide HB]; exact byte_ne (by decide) hc
        have HC := hide hc
        clear hc
        have hsl := fun wx => slice_bs (P := Tryz.prog) 9 Tryz.underlying9 s k (k + 1) k (k + 1) rfl rfl (by omega) (by omega) wx
        have e1 : (s.drop k).take (k + 1 - k) = [s[k]] := by rw [unhide HD]; simp
        rw [e1] at hsl
        clear e1
        have hadd := fun wx => add_bs (P := Tryz.prog) cur [s[k]] (by simp; omega) wx
        go_wp2
        go_roundw
        case rel => exact ⟨k + 1, O, cur ++ [s[k]], by omega, by go_num, rfl, hown, hbel, by omega, by simp; omega, hide (by rw [← unhide HI, unhide HD]; simp [Sp.wordsAux, unhide HC])⟩
        case measure => simp [intOf]; omega
    · have HE : Hid (s.drop k = []) := hide (List.drop_eq_nil_of_le (by omega))
      go_wp2_with (at_builtin; refine append_one rfl _ _ 177 9 rfl Tryz.underlying177 Tryz.infoStr rfl (by decide) hown rfl rfl rfl (by omega) (Nat.le_refl _) hbel ?_; intro v' w1 hown' hbel' _)
      go_ret
      have hfin : Sp.words s = O ++ [cur] := by rw [unhide HW, ← unhide HI, unhide HE]; rfl
      exact ⟨_, rfl, by rw [hfin]; simpa [strs] using hown', hbel'⟩

theorem words_nil (w : World) :
    Calls Tryz.prog 150 #[.string (bs [])] w fun e w' => e = .returned (.slice none 0 0) ∧ w' = w := by
  have hemp : (bs []).toList.isEmpty = true := by rw [bs_toList]; rfl
  go_enter Tryz.func150, Tryz.ntmps150
  go_wp2
  go_ret
  exact ⟨rfl, rfl⟩

end Go.Proofs.YtekkkoipcghlmaaGreatDoor
