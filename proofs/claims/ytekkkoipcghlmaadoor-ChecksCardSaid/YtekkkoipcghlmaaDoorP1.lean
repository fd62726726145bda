import Derived.Test.YtekkkoipcghlmaaDoorAid
import Derived.Test.YtekkkoipcghlmaaDoorMask
import Derived.Test.YtekkkoipcghlmaaDoorProg
namespace Go.Proofs.YtekkkoipcghlmaaDoor
open Go.RowKit

theorem pow_plus (n : Int) (h1 : 1 ≤ n) (h2 : n ≤ 12) : (2 : Int) ^ (2 * (n - 1)).toNat % 4294967296 = (Sp.bit n : Int) := by
  have : n = 1 ∨ n = 2 ∨ n = 3 ∨ n = 4 ∨ n = 5 ∨ n = 6 ∨ n = 7 ∨ n = 8 ∨ n = 9 ∨ n = 10 ∨ n = 11 ∨ n = 12 := by omega
  rcases this with rfl | rfl | rfl | rfl | rfl | rfl | rfl | rfl | rfl | rfl | rfl | rfl <;> decide
theorem pow_minus (n : Int) (h1 : -12 ≤ n) (h2 : n ≤ -1) : (2 : Int) * 2 ^ (2 * (-n - 1)).toNat % 4294967296 = (Sp.bit n : Int) := by
  have : n = -1 ∨ n = -2 ∨ n = -3 ∨ n = -4 ∨ n = -5 ∨ n = -6 ∨ n = -7 ∨ n = -8 ∨ n = -9 ∨ n = -10 ∨ n = -11 ∨ n = -12 := by omega
  rcases this with rfl | rfl | rfl | rfl | rfl | rfl | rfl | rfl | rfl | rfl | rfl | rfl <;> decide

theorem ret_bit {a b : Int} (h : a = b) : Ending.returned (.tuple #[.int .u32 a, .bool true]) = .returned (.tuple #[.int .u32 b, .bool true]) := by rw [h]

set_option maxRecDepth 100000 in
set_option maxHeartbeats 400000 in
theorem of_yes (n : Int) (w : World) (h1 : -12 ≤ n) (h2 : n ≤ 12) (h0 : n ≠ 0) :
    Calls Tryd.prog 54 #[.int .i64 n] w fun e w' => e = .returned (.tuple #[.int .u32 (Sp.bit n : Int), .bool true]) ∧ w' = w := by
  by_cases hp : 0 < n
  · have h1' : 1 ≤ n := by omega
    have HP := hide (pow_plus n h1' h2)
    go_enter Tryd.func54, Tryd.ntmps54
    go_wp2
    go_ret2
    exact ⟨ret_bit (unhide HP), rfl⟩
  · have h1' : n ≤ -1 := by omega
    have HP := hide (pow_minus n h1 h1')
    go_enter Tryd.func54, Tryd.ntmps54
    go_wp2
    go_ret2
    exact ⟨ret_bit (unhide HP), rfl⟩

set_option maxRecDepth 100000 in
set_option maxHeartbeats 400000 in
theorem of_no (n : Int) (w : World) (h1 : n = 0 ∨ n < -12 ∨ 12 < n) :
    Calls Tryd.prog 54 #[.int .i64 n] w fun e w' => e = .returned (.tuple #[.int .u32 0, .bool false]) ∧ w' = w := by
  rcases h1 with rfl | h | h
  · go_enter Tryd.func54, Tryd.ntmps54
    go_wp2
    go_ret2
    exact ⟨rfl, rfl⟩
  · go_enter Tryd.func54, Tryd.ntmps54
    go_wp2
    go_ret2
    exact ⟨rfl, rfl⟩
  · go_enter Tryd.func54, Tryd.ntmps54
    go_wp2
    go_ret2
    exact ⟨rfl, rfl⟩

end Go.Proofs.YtekkkoipcghlmaaDoor
