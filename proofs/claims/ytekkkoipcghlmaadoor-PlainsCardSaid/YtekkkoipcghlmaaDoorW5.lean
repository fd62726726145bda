import Derived.Test.YtekkkoipcghlmaaDoorW1
import Derived.Test.YtekkkoipcghlmaaDoorW2
namespace Go.Proofs.YtekkkoipcghlmaaDoor
open Go.RowKit

theorem Tryd.infoInt : (Tryd.prog.info? 3).map (fun i => (i.zero, i.size, i.bytes)) = some (some (.int .i64 0), 1, 8) := by kernel_rfl

set_option maxRecDepth 100000 in
set_option maxHeartbeats 800000 in
theorem sorted_any (v : Value) (xs : List Int) (w : World) (hl : xs.length ≤ 10000000) (hv : Lies w v (ints xs)) :
    Calls Tryd.prog 42 #[v] w fun e w' => ∃ v', e = .returned v' ∧ w'.ownsRow w.heap.size 3 1 v' (Sp.sorted xs).length (ints (Sp.sorted xs)) ∧ Below w.heap.size w w' := by
  go_enter Tryd.func42, Tryd.ntmps42
  go_wp2_with fail
  go_loopw [3, 4] (fun o i wr => ∃ (k : Nat), k ≤ 12 ∧ i = .int .i64 (k + 1) ∧ wr.ownsRow w.heap.size 3 1 o (Sp.sortedTo xs k).length (ints (Sp.sortedTo xs k)) ∧ Below w.heap.size w wr)
    (fun _ i _ => 13 - (intOf i).toNat)
  case atStart => exact ⟨0, by omega, rfl, World.ownsRow_nil _ _ _ _, Below.refl _ _⟩
  case round =>
    obtain ⟨k, hk, rfl, hown, hbel⟩ := hrel
    have hv' := hv.below hbel
    have hlen := Sp.sortedTo_len xs k
    by_cases hlt : k < 12
    · have HT := hide (Sp.sortedTo_succ xs k)
      have hlt2 : (k : Int) + 1 ≤ 12 := by omega
      have h1 := in_any v xs ((k : Int) + 1) wr hl hv'
      have h2 := in_any v xs (-((k : Int) + 1)) wr hl hv'
      have HA : Hid (Sp.sortedAt xs k = (if xs.contains ((k : Int) + 1) then [(k : Int) + 1] else []) ++ (if xs.contains (-((k : Int) + 1)) then [-((k : Int) + 1)] else [])) := rfl
      have H1 := hide h1
      have H2 := hide h2
      clear h1 h2
      cases hc1 : xs.contains ((k : Int) + 1) <;> cases hc2 : xs.contains (-((k : Int) + 1))
      all_goals rw [hc1] at H1 HA
      all_goals rw [hc2] at H2 HA
      all_goals clear hc1 hc2
      · go_wp2_with fail
        refine (unhide H1).mono ?_
        rintro e w1 ⟨rfl, rfl⟩
        go_wp2_with fail
        refine (unhide H2).mono ?_
        rintro e w1 ⟨rfl, rfl⟩
        go_wp2
        go_roundw
        case rel => exact ⟨k + 1, by omega, by go_num, by rw [unhide HT, unhide HA]; simpa using hown, hbel⟩
        case measure => simp [intOf]; omega
      · go_wp2_with fail
        refine (unhide H1).mono ?_
        rintro e w1 ⟨rfl, rfl⟩
        go_wp2_with fail
        refine (unhide H2).mono ?_
        rintro e w1 ⟨rfl, rfl⟩
        go_wp2_with (at_builtin; refine append_one rfl _ _ 24 3 rfl Tryd.underlying24 Tryd.infoInt rfl (by decide) hown rfl rfl rfl (by omega) (Nat.le_refl _) hbel ?_; intro v1 w1 hown1 hbel1 _)
        go_roundw
        case rel => exact ⟨k + 1, by omega, by go_num, by rw [unhide HT, unhide HA]; simpa [ints] using hown1, hbel1⟩
        case measure => simp [intOf]; omega
      · go_wp2_with fail
        refine (unhide H1).mono ?_
        rintro e w1 ⟨rfl, rfl⟩
        go_wp2_with fail
        refine (unhide H2).mono ?_
        rintro e w1 ⟨rfl, rfl⟩
        go_wp2_with (at_builtin; refine append_one rfl _ _ 24 3 rfl Tryd.underlying24 Tryd.infoInt rfl (by decide) hown rfl rfl rfl (by omega) (Nat.le_refl _) hbel ?_; intro v1 w1 hown1 hbel1 _)
        go_roundw
        case rel => exact ⟨k + 1, by omega, by go_num, by rw [unhide HT, unhide HA]; simpa [ints] using hown1, hbel1⟩
        case measure => simp [intOf]; omega
      · go_wp2_with fail
        refine (unhide H1).mono ?_
        rintro e w1 ⟨rfl, rfl⟩
        go_wp2_with fail
        refine (unhide H2).mono ?_
        rintro e w1 ⟨rfl, rfl⟩
        go_wp2_with (first | (at_builtin; refine append_one rfl (.tmp 19) (.tmp 21) 24 3 rfl Tryd.underlying24 Tryd.infoInt rfl (by decide) hown rfl rfl rfl (by omega) (Nat.le_refl _) hbel ?_; intro v1 w1 hown1 hbel1 _) | (at_builtin; refine append_one rfl (.tmp 24) (.tmp 27) 24 3 rfl Tryd.underlying24 Tryd.infoInt rfl (by decide) hown1 rfl rfl rfl (by omega) (Nat.le_refl _) hbel1 ?_; intro v2 w2 hown2 hbel2 _))
        go_roundw
        case rel => exact ⟨k + 1, by omega, by go_num, by rw [unhide HT, unhide HA]; simpa [ints] using hown2, hbel2⟩
        case measure => simp [intOf]; omega
    · go_wp2
      go_ret
      have : k = 12 := by omega
      subst this
      exact ⟨_, rfl, hown, hbel⟩

end Go.Proofs.YtekkkoipcghlmaaDoor
