import Derived.Test.YtekkkoipcghlmaaDoorAid
import Derived.Test.YtekkkoipcghlmaaDoorProg
namespace Go.Proofs.YtekkkoipcghlmaaDoor
open Go.RowKit

set_option maxHeartbeats 400000 in
theorem in_any (v : Value) (xs : List Int) (n : Int) (w : World) (hl : xs.length ≤ 10000000) (hv : Lies w v (ints xs)) :
    Calls Tryd.prog 49 #[v, .int .i64 n] w fun e w' => e = .returned (.bool (xs.contains n)) ∧ w' = w := by
  rcases hv with ⟨h0, ao, cap, rfl⟩ | ⟨b, off, cap, hp, rfl, hb, hc⟩
  · have hx : xs = [] := by simpa [ints] using h0
    subst hx
    go_enter Tryd.func49, Tryd.ntmps49
    go_wp2
    refine wp_loop_rounds 1 ?_
    rw [rounds_succ]
    go_wp2
    go_ret
    exact ⟨rfl, rfl⟩
  · have hlen : (ints xs).length = xs.length := by simp [ints]
    rw [hlen] at hp ⊢
    go_enter Tryd.func49, Tryd.ntmps49
    go_wp2
    go_loop [5] (fun i => ∃ k : Nat, k ≤ xs.length ∧ i = .int .i64 k ∧ n ∉ xs.take k) (fun i => xs.length - (intOf i).toNat)
    case atStart => exact ⟨0, Nat.zero_le _, rfl, by simp⟩
    case round =>
      obtain ⟨k, hk, rfl, hno⟩ := hrel
      by_cases hlt : k < xs.length
      · have hcell := hc k (.int .i64 xs[k]) (by simp [ints, hlt])
        have HM : Hid (xs[k] ∈ xs) := hide (List.getElem_mem hlt)
        have HS : Hid (xs.take (k + 1) = xs.take k ++ [xs[k]]) := hide (List.take_succ_eq_append_getElem hlt)
        generalize xs[k] = x at hcell HM HS
        clear hc
        by_cases hx : x = n
        · have hq : (x == n) = true := by simpa using hx
          have HX : Hid (x = n) := hide hx
          clear hx
          go_wp2
          go_ret
          exact ⟨by rw [← unhide HX]; simp [unhide HM], rfl⟩
        · have hq : (x == n) = false := by simpa using hx
          have HX : Hid (¬ x = n) := hide hx
          clear hx
          go_wp2
          go_round
          case rel => exact ⟨k + 1, by omega, by go_num, by rw [unhide HS]; simp [hno]; exact fun h => unhide HX h.symm⟩
          case measure => simp [intOf]; omega
      · go_wp2
        go_ret
        have : xs.take k = xs := List.take_of_length_le (by omega)
        rw [this] at hno
        exact ⟨by simp [hno], rfl⟩

end Go.Proofs.YtekkkoipcghlmaaDoor
