import Derived.Test.YtekkkoipcghlmaaDoorW2
namespace Go.Proofs.YtekkkoipcghlmaaDoor
open Go.RowKit

set_option maxRecDepth 100000 in
set_option maxHeartbeats 400000 in
theorem digits_any (x : Int) (w : World) (h1 : 1 ≤ x) (h2 : x ≤ 12) :
    Calls Tryd.prog 26 #[.int .i64 x] w fun e w' => e = .returned (.string (bs (Sp.digs x.toNat))) ∧ Below w.heap.size w w' := by
  obtain ⟨n, rfl⟩ := Int.eq_ofNat_of_zero_le (by omega : 0 ≤ x)
  rw [Int.toNat_natCast]
  go_enter Tryd.func26, Tryd.ntmps26
  go_wp2
  go_loopw [0, 3] (fun m s wr => Below w.heap.size w wr ∧ ((m = .int .i64 n ∧ s = .string (bs [])) ∨ (10 ≤ n ∧ m = .int .i64 1 ∧ s = .string (bs [UInt8.ofNat (38 + n)])) ∨ (m = .int .i64 0 ∧ s = .string (bs (Sp.digs n)))))
    (fun m _ _ => (intOf m).toNat)
  case atStart => exact ⟨Below.refl _ _, .inl ⟨rfl, rfl⟩⟩
  case round =>
    obtain ⟨hbel, ⟨rfl, rfl⟩ | ⟨h10, rfl, rfl⟩ | ⟨rfl, rfl⟩⟩ := hrel
    · have hcv := fun wx => conv_one (P := Tryd.prog) 54 9 5 Tryd.underlying54 Tryd.underlying5 Tryd.underlying9 (48 + (n : Int) % 10) (by omega) (by omega) wx
      generalize hc : UInt8.ofNat (48 + (n : Int) % 10).toNat = c at hcv
      have HC := hide hc
      clear hc
      have hadd := fun wx => add_bs (P := Tryd.prog) [c] [] (by simp) wx
      rw [List.append_nil] at hadd
      have hp : (0 : Int) < n := by omega
      go_wp2
      go_roundw
      case rel =>
        refine ⟨hbel.alloc (by have := hbel.size; omega) _, ?_⟩
        by_cases h10 : 10 ≤ n
        · exact .inr (.inl ⟨h10, by rw [show (n : Int) / 10 = 1 from by omega], by rw [← unhide HC, show (48 + (n : Int) % 10).toNat = 38 + n from by omega]⟩)
        · exact .inr (.inr ⟨by rw [show (n : Int) / 10 = 0 from by omega], by rw [← unhide HC, Sp.digs, if_pos (by omega), show (48 + (n : Int) % 10).toNat = 48 + n from by omega]⟩)
      case measure => simp [intOf]; omega
    · have hcv := fun wx => conv_one (P := Tryd.prog) 54 9 5 Tryd.underlying54 Tryd.underlying5 Tryd.underlying9 49 (by omega) (by omega) wx
      have hadd := fun wx => add_bs (P := Tryd.prog) [49] [UInt8.ofNat (38 + n)] (by simp) wx
      have HS : Hid (Sp.digs n = [49] ++ [UInt8.ofNat (38 + n)]) := hide (by rw [Sp.digs, if_neg (by omega)]; rfl)
      generalize UInt8.ofNat (38 + n) = c at hadd HS ⊢
      go_wp2
      go_roundw
      case rel => exact ⟨hbel.alloc (by have := hbel.size; omega) _, .inr (.inr ⟨rfl, by rw [unhide HS]; rfl⟩)⟩
      case measure => simp [intOf]
    · go_wp2
      go_ret
      exact ⟨rfl, hbel⟩

end Go.Proofs.YtekkkoipcghlmaaDoor
