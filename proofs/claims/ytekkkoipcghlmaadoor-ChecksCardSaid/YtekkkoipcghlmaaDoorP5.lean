import Derived.Test.YtekkkoipcghlmaaDoorP2
namespace Go.Proofs.YtekkkoipcghlmaaDoor
open Go.RowKit

theorem litAt_div (k : Nat) : Sp.litAt k = if k % 2 = 1 then -((k : Int) / 2 + 1) else (k : Int) / 2 + 1 := by
  unfold Sp.litAt
  by_cases h : k % 2 = 0
  · rw [if_pos h, if_neg (by omega)]; omega
  · rw [if_neg h, if_pos (by omega)]; omega

theorem ret_int64 {a b : Int} (h : a = b) : Ending.returned (.int .i64 a) = .returned (.int .i64 b) := by rw [h]

set_option maxRecDepth 100000 in
set_option maxHeartbeats 400000 in
theorem first_any (m : Nat) (w : World) (hm : m < 2 ^ 24) (he : Env w) :
    Calls Tryd.prog 56 #[.int .u32 m] w fun e w' => e = .returned (.int .i64 (Sp.litAt (Lib.ctz 32 m))) ∧ w' = w := by
  have HT := hide (Any7.bits_TrailingZeros32 Tryd.lays7n28 m (Nat.lt_trans hm (by decide)) w (fun _ => he.brj.2))
  have HT : Hid (Calls Tryd.prog 68 #[.int .u32 m] w fun e w' => e = .returned (.int .i64 (Lib.ctz 32 m)) ∧ w' = w) := HT
  have HL := hide (litAt_div (Lib.ctz 32 m))
  have hc : Lib.ctz 32 m ≤ 32 := by
    by_cases h0 : m = 0
    · subst h0; decide
    · exact Nat.le_of_lt (Lib.lowest_bit 32 m h0 (Nat.lt_trans hm (by decide))).2
  generalize Lib.ctz 32 m = k at *
  by_cases h1 : k % 2 = 1
  · have hq : ((k : Int) % 2 == 1) = true := by rw [beq_iff_eq]; omega
    have H1 := hide h1
    clear h1
    go_enter Tryd.func56, Tryd.ntmps56
    go_wp2_with fail
    refine (unhide HT).mono ?_
    rintro e w1 ⟨rfl, rfl⟩
    go_wp2
    go_ret
    exact ⟨ret_int64 (by rw [unhide HL, if_pos (unhide H1)]), rfl⟩
  · have hq : ((k : Int) % 2 == 1) = false := by rw [beq_eq_false_iff_ne]; omega
    have H1 := hide h1
    clear h1
    go_enter Tryd.func56, Tryd.ntmps56
    go_wp2_with fail
    refine (unhide HT).mono ?_
    rintro e w1 ⟨rfl, rfl⟩
    go_wp2
    go_ret
    exact ⟨ret_int64 (by rw [unhide HL, if_neg (unhide H1)]), rfl⟩

end Go.Proofs.YtekkkoipcghlmaaDoor
