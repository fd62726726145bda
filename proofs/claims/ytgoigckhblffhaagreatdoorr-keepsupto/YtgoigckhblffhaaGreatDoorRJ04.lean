import Derived.Test.YtgoigckhblffhaaGreatDoorRJ02
import Derived.Test.YtgoigckhblffhaaGreatDoorRJ01
namespace Go.Proofs.YtgoigckhblffhaaGreatDoorR
open Go.RowKit

set_option maxRecDepth 100000 in
set_option maxHeartbeats 400000 in
theorem digits_any (x : Int) (w : World) (h1 : 1 ≤ x) (h2 : x ≤ 12) :
    Calls Tryz.prog 52 #[.int .i64 x] w fun e w' => e = .returned (.string (bs (Sp.digs x.toNat))) ∧ Below w.heap.size w w' := by
  obtain ⟨n, rfl⟩ := Int.eq_ofNat_of_zero_le (by omega : 0 ≤ x)
  rw [Int.toNat_natCast]
  go_enter Tryz.func52, Tryz.ntmps52
  go_wp2
  go_loopw [0, 3] (fun m s wr => Below w.heap.size w wr ∧ ((m = .int .i64 n ∧ s = .string (bs [])) ∨ (10 ≤ n ∧ m = .int .i64 1 ∧ s = .string (bs [UInt8.ofNat (38 + n)])) ∨ (m = .int .i64 0 ∧ s = .string (bs (Sp.digs n)))))
    (fun m _ _ => (intOf m).toNat)
  case atStart => exact ⟨Below.refl _ _, .inl ⟨rfl, rfl⟩⟩
  case round =>
    obtain ⟨hbel, ⟨rfl, rfl⟩ | ⟨h10, rfl, rfl⟩ | ⟨rfl, rfl⟩⟩ := hrel
    · have hcv := fun wx => conv_one (P := Tryz.prog) 93 9 5 Tryz.underlying93 Tryz.underlying5 Tryz.underlying9 (48 + (n : Int) % 10) (by omega) (by omega) wx
      generalize hc : UInt8.ofNat (48 + (n : Int) % 10).toNat = c at hcv
      have HC := hide hc
      clear hc
      have hadd := fun wx => add_bs (P := Tryz.prog) [c] [] (by simp) wx
      rw [List.append_nil] at hadd
      have hp : (0 : Int) < n := by omega
      go_wp2
      go_roundw
      case rel =>
        refine ⟨hbel.alloc (by have := hbel.size; omega) _, ?_⟩
        by_cases h10 : 10 ≤ n
        · exact .inr (.inl ⟨h10, by rw [show (n : Int) / 10 = 1 from by omega], by rw [← unhide HC, show (48 + (n : Int) % 10).toNat = 38 + n from by omega]⟩)
        · exact .inr (.inr ⟨by rw [show (n : Int) / 10 = 0 from by omega], by rw [← unhide HC, Sp.digs, if_pos (by omega), show (48 + (n : Int) % 10).toNat = 48 + n from by omega]⟩)
      case measure => simp [intOf]; omega
    · have hcv := fun wx => conv_one (P := Tryz.prog) 93 9 5 Tryz.underlying93 Tryz.underlying5 Tryz.underlying9 49 (by omega) (by omega) wx
      have hadd := fun wx => add_bs (P := Tryz.prog) [49] [UInt8.ofNat (38 + n)] (by simp) wx
      have HS : Hid (Sp.digs n = [49] ++ [UInt8.ofNat (38 + n)]) := hide (by rw [Sp.digs, if_neg (by omega)]; rfl)
      generalize UInt8.ofNat (38 + n) = c at hadd HS ⊢
      go_wp2
      go_roundw
      case rel => exact ⟨hbel.alloc (by have := hbel.size; omega) _, .inr (.inr ⟨rfl, by rw [unhide HS]; rfl⟩)⟩
      case measure => simp [intOf]
    · go_wp2
      go_ret
      exact ⟨rfl, hbel⟩

end Go.Proofs.YtgoigckhblffhaaGreatDoorR

namespace Go.Proofs.YtgoigckhblffhaaGreatDoorR
open Go.RowKit

theorem Tryz.infoInt : (Tryz.prog.info? 3).map (fun i => (i.zero, i.size, i.bytes)) = some (some (.int .i64 0), 1, 8) := by kernel_rfl

set_option maxRecDepth 100000 in
set_option maxHeartbeats 800000 in
theorem sorted_any (v : Value) (xs : List Int) (w : World) (hl : xs.length ≤ 10000000) (hv : Lies w v (ints xs)) :
    Calls Tryz.prog 30 #[v] w fun e w' => ∃ v', e = .returned v' ∧ w'.ownsRow w.heap.size 3 1 v' (Sp.sorted xs).length (ints (Sp.sorted xs)) ∧ Below w.heap.size w w' := by
  go_enter Tryz.func30, Tryz.ntmps30
  go_wp2_with fail
  go_loopw [3, 4] (fun o i wr => ∃ (k : Nat), k ≤ 12 ∧ i = .int .i64 (k + 1) ∧ wr.ownsRow w.heap.size 3 1 o (Sp.sortedTo xs k).length (ints (Sp.sortedTo xs k)) ∧ Below w.heap.size w wr)
    (fun _ i _ => 13 - (intOf i).toNat)
  case atStart => exact ⟨0, by omega, rfl, World.ownsRow_nil _ _ _ _, Below.refl _ _⟩
  case round =>
    obtain ⟨k, hk, rfl, hown, hbel⟩ := hrel
    have hv' := hv.below hbel
    have hlen := Sp.sortedTo_len xs k
    by_cases hlt : k < 12
    · have HT := hide (Sp.sortedTo_succ xs k)
      have hlt2 : (k : Int) + 1 ≤ 12 := by omega
      have h1 := in_any v xs ((k : Int) + 1) wr hl hv'
      have h2 := in_any v xs (-((k : Int) + 1)) wr hl hv'
      have HA : Hid (Sp.sortedAt xs k = (if xs.contains ((k : Int) + 1) then [(k : Int) + 1] else []) ++ (if xs.contains (-((k : Int) + 1)) then [-((k : Int) + 1)] else [])) := rfl
      have H1 := hide h1
      have H2 := hide h2
      clear h1 h2
      cases hc1 : xs.contains ((k : Int) + 1) <;> cases hc2 : xs.contains (-((k : Int) + 1))
      all_goals rw [hc1] at H1 HA
      all_goals rw [hc2] at H2 HA
      all_goals clear hc1 hc2
      · go_wp2_with fail
        refine (unhide H1).mono ?_
        rintro e w1 ⟨rfl, rfl⟩
        go_wp2_with fail
        refine (unhide H2).mono ?_
        rintro e w1 ⟨rfl, rfl⟩
        go_wp2
        go_roundw
        case rel => exact ⟨k + 1, by omega, by go_num, by rw [unhide HT, unhide HA]; simpa using hown, hbel⟩
        case measure => simp [intOf]; omega
      · go_wp2_with fail
        refine (unhide H1).mono ?_
        rintro e w1 ⟨rfl, rfl⟩
        go_wp2_with fail
        refine (unhide H2).mono ?_
        rintro e w1 ⟨rfl, rfl⟩
        go_wp2_with (at_builtin; refine append_one rfl _ _ 33 3 rfl Tryz.underlying33 Tryz.infoInt rfl (by decide) hown rfl rfl rfl (by omega) (Nat.le_refl _) hbel ?_; intro v1 w1 hown1 hbel1 _)
        go_roundw
        case rel => exact ⟨k + 1, by omega, by go_num, by rw [unhide HT, unhide HA]; simpa [ints] using hown1, hbel1⟩
        case measure => simp [intOf]; omega
      · go_wp2_with fail
        refine (unhide H1).mono ?_
        rintro e w1 ⟨rfl, rfl⟩
        go_wp2_with fail
        refine (unhide H2).mono ?_
        rintro e w1 ⟨rfl, rfl⟩
        go_wp2_with (at_builtin; refine append_one rfl _ _ 33 3 rfl Tryz.underlying33 Tryz.infoInt rfl (by decide) hown rfl rfl rfl (by omega) (Nat.le_refl _) hbel ?_; intro v1 w1 hown1 hbel1 _)
        go_roundw
        case rel => exact ⟨k + 1, by omega, by go_num, by rw [unhide HT, unhide HA]; simpa [ints] using hown1, hbel1⟩
        case measure => simp [intOf]; omega
      · go_wp2_with fail
        refine (unhide H1).mono ?_
        rintro e w1 ⟨rfl, rfl⟩
        go_wp2_with fail
        refine (unhide H2).mono ?_
        rintro e w1 ⟨rfl, rfl⟩
        go_wp2_with (first | (at_builtin; refine append_one rfl (.tmp 19) (.tmp 21) 33 3 rfl Tryz.underlying33 Tryz.infoInt rfl (by decide) hown rfl rfl rfl (by omega) (Nat.le_refl _) hbel ?_; intro v1 w1 hown1 hbel1 _) | (at_builtin; refine append_one rfl (.tmp 24) (.tmp 27) 33 3 rfl Tryz.underlying33 Tryz.infoInt rfl (by decide) hown1 rfl rfl rfl (by omega) (Nat.le_refl _) hbel1 ?_; intro v2 w2 hown2 hbel2 _))
        go_roundw
        case rel => exact ⟨k + 1, by omega, by go_num, by rw [unhide HT, unhide HA]; simpa [ints] using hown2, hbel2⟩
        case measure => simp [intOf]; omega
    · go_wp2
      go_ret
      have : k = 12 := by omega
      subst this
      exact ⟨_, rfl, hown, hbel⟩

end Go.Proofs.YtgoigckhblffhaaGreatDoorR

namespace Go.Proofs.YtgoigckhblffhaaGreatDoorR
open Go.RowKit

theorem ret_int {k : IntKind} {a b : Int} (h : a = b) : Ending.returned (.int k a) = .returned (.int k b) := by rw [h]

set_option maxRecDepth 100000 in
set_option maxHeartbeats 1600000 in
theorem word_plus (a : UInt8) (r : List UInt8) (w : World) (ha : ¬ a = 45) (hl : r.length ≤ 10000000) :
    Calls Tryz.prog 90 #[.string (bs (a :: r))] w fun e w' => e = .returned (.int .i64 (Sp.num (a :: r))) ∧ w' = w := by
  have hab := UInt8.toNat_lt a
  have ht : ((a.toNat : Int) == 45) = false := byte_ne (by decide) ha
  rcases r with _ | ⟨b, _ | ⟨c, r⟩⟩
  · have hemp : (bs ([a])).toList.isEmpty = false := bs_nonempty (by simp)
    have hsz : (bs ([a])).size = 1 := by rw [bs_size]; simp
    have h0 : 0 < (bs ([a])).size := by omega
    have hg0 : (bs ([a]))[0] = a := bs_get (l := [a]) (k := 0) (by simp)
    by_cases ha48 : a.toNat = 48
    · have hq : ((a.toNat : Int) == 48) = true := by rw [beq_iff_eq]; omega
      have HA := hide ha48
      clear ha48
      go_enter Tryz.func90, Tryz.ntmps90
      go_wp2
      go_ret
      exact ⟨ret_int (by have := unhide HA; unfold Sp.num; simp only []; rw [if_neg (by omega)]), rfl⟩
    have hq : ((a.toNat : Int) == 48) = false := by rw [beq_eq_false_iff_ne]; omega
    by_cases hlo : a.toNat < 48
    · have hlo' : (a.toNat : Int) < 48 := by omega
      go_enter Tryz.func90, Tryz.ntmps90
      go_wp2
      refine wp_loop_rounds 2 ?_
      rw [rounds_succ]
      go_wp2
      go_ret
      exact ⟨ret_int (by unfold Sp.num; simp only []; rw [if_neg (by omega)]), rfl⟩
    by_cases hhi : 57 < a.toNat
    · have hhi' : (57 : Int) < a.toNat := by omega
      have hlo' : ¬ (a.toNat : Int) < 48 := by omega
      go_enter Tryz.func90, Tryz.ntmps90
      go_wp2
      refine wp_loop_rounds 2 ?_
      rw [rounds_succ]
      go_wp2
      go_ret
      exact ⟨ret_int (by unfold Sp.num; simp only []; rw [if_neg (by omega)]), rfl⟩
    have hlo' : ¬ (a.toNat : Int) < 48 := by omega
    have hhi' : ¬ (57 : Int) < a.toNat := by omega
    go_enter Tryz.func90, Tryz.ntmps90
    go_wp2
    refine wp_loop_rounds 3 ?_
    rw [rounds_succ]
    go_wp2
    rw [rounds_succ]
    go_wp2
    go_ret
    exact ⟨ret_int (by unfold Sp.num; simp only []; rw [if_pos (by omega)]), rfl⟩
  · have hemp : (bs ([a, b])).toList.isEmpty = false := bs_nonempty (by simp)
    have hsz : (bs ([a, b])).size = 2 := by rw [bs_size]; simp
    have h0 : 0 < (bs ([a, b])).size := by omega
    have hg0 : (bs ([a, b]))[0] = a := bs_get (l := [a, b]) (k := 0) (by simp)
    have hbb := UInt8.toNat_lt b
    have h1 : 1 < (bs [a, b]).size := by omega
    have hg1 : (bs [a, b])[1] = b := bs_get (l := [a, b]) (k := 1) (by simp)
    by_cases ha48 : a.toNat = 48
    · have hq : ((a.toNat : Int) == 48) = true := by rw [beq_iff_eq]; omega
      have HA := hide ha48
      clear ha48
      go_enter Tryz.func90, Tryz.ntmps90
      go_wp2
      go_ret
      exact ⟨ret_int (by have := unhide HA; unfold Sp.num; simp only []; rw [if_neg (by omega)]), rfl⟩
    have hq : ((a.toNat : Int) == 48) = false := by rw [beq_eq_false_iff_ne]; omega
    by_cases hlo : a.toNat < 48
    · have hlo' : (a.toNat : Int) < 48 := by omega
      go_enter Tryz.func90, Tryz.ntmps90
      go_wp2
      refine wp_loop_rounds 2 ?_
      rw [rounds_succ]
      go_wp2
      go_ret
      exact ⟨ret_int (by unfold Sp.num; simp only []; rw [if_neg (by omega)]), rfl⟩
    by_cases hhi : 57 < a.toNat
    · have hhi' : (57 : Int) < a.toNat := by omega
      have hlo' : ¬ (a.toNat : Int) < 48 := by omega
      go_enter Tryz.func90, Tryz.ntmps90
      go_wp2
      refine wp_loop_rounds 2 ?_
      rw [rounds_succ]
      go_wp2
      go_ret
      exact ⟨ret_int (by unfold Sp.num; simp only []; rw [if_neg (by omega)]), rfl⟩
    have hlo' : ¬ (a.toNat : Int) < 48 := by omega
    have hhi' : ¬ (57 : Int) < a.toNat := by omega
    by_cases hblo : b.toNat < 48
    · have hblo' : (b.toNat : Int) < 48 := by omega
      go_enter Tryz.func90, Tryz.ntmps90
      go_wp2
      refine wp_loop_rounds 3 ?_
      rw [rounds_succ]
      go_wp2
      rw [rounds_succ]
      go_wp2
      go_ret
      exact ⟨ret_int (by unfold Sp.num; simp only []; rw [if_neg (by omega)]), rfl⟩
    by_cases hbhi : 57 < b.toNat
    · have hbhi' : (57 : Int) < b.toNat := by omega
      have hblo' : ¬ (b.toNat : Int) < 48 := by omega
      go_enter Tryz.func90, Tryz.ntmps90
      go_wp2
      refine wp_loop_rounds 3 ?_
      rw [rounds_succ]
      go_wp2
      rw [rounds_succ]
      go_wp2
      go_ret
      exact ⟨ret_int (by unfold Sp.num; simp only []; rw [if_neg (by omega)]), rfl⟩
    have hblo' : ¬ (b.toNat : Int) < 48 := by omega
    have hbhi' : ¬ (57 : Int) < b.toNat := by omega
    by_cases hsum : (12 : Int) < 10 * ((a.toNat : Int) - 48) + ((b.toNat : Int) - 48)
    · go_enter Tryz.func90, Tryz.ntmps90
      go_wp2
      refine wp_loop_rounds 3 ?_
      rw [rounds_succ]
      go_wp2
      rw [rounds_succ]
      go_wp2
      rw [rounds_succ]
      go_wp2
      go_ret
      exact ⟨ret_int (by unfold Sp.num; simp only []; rw [if_neg (by omega)]), rfl⟩
    go_enter Tryz.func90, Tryz.ntmps90
    go_wp2
    refine wp_loop_rounds 3 ?_
    rw [rounds_succ]
    go_wp2
    rw [rounds_succ]
    go_wp2
    rw [rounds_succ]
    go_wp2
    go_ret
    exact ⟨ret_int (by unfold Sp.num; simp only []; rw [if_pos (by omega)]; omega), rfl⟩
  · have hemp : (bs (a :: b :: c :: r)).toList.isEmpty = false := bs_nonempty (by simp)
    have hsz : (bs (a :: b :: c :: r)).size = r.length + 3 := by rw [bs_size]; simp
    have h0 : 0 < (bs (a :: b :: c :: r)).size := by omega
    have hg0 : (bs (a :: b :: c :: r))[0] = a := bs_get (l := a :: b :: c :: r) (k := 0) (by simp)
    have hbig : (2 : Int) < (r.length : Int) + 3 := by omega
    go_enter Tryz.func90, Tryz.ntmps90
    go_wp2
    go_ret
    exact ⟨ret_int (by simp [Sp.num]), rfl⟩

set_option maxRecDepth 100000 in
set_option maxHeartbeats 1600000 in
theorem word_minus (a : UInt8) (r : List UInt8) (w : World) (hl : r.length ≤ 10000000) :
    Calls Tryz.prog 90 #[.string (bs (45 :: a :: r))] w fun e w' => e = .returned (.int .i64 (-Sp.num (a :: r))) ∧ w' = w := by
  have hab := UInt8.toNat_lt a
  rcases r with _ | ⟨b, _ | ⟨c, r⟩⟩
  · have hemp : (bs ([a])).toList.isEmpty = false := bs_nonempty (by simp)
    have hsz : (bs ([a])).size = 1 := by rw [bs_size]; simp
    have h0 : 0 < (bs ([a])).size := by omega
    have hg0 : (bs ([a]))[0] = a := bs_get (l := [a]) (k := 0) (by simp)
    have hempF : (bs ([45, a])).toList.isEmpty = false := bs_nonempty (by simp)
    have hszF : (bs ([45, a])).size = 1 + 1 := by rw [bs_size]; simp
    have h0F : 0 < (bs ([45, a])).size := by omega
    have hgF : (bs ([45, a]))[0] = 45 := bs_get (l := [45, a]) (k := 0) (by simp)
    have hslF : ∀ wx, (Instr.slice 9 (.string (bs ([45, a]))) (some (.int .i64 1)) none none).run Tryz.prog wx = .ok (.string (bs ([a]))) wx := fun wx => slice_from_bs (P := Tryz.prog) 9 Tryz.underlying9 ([45, a]) 1 1 rfl (by simp) wx
    by_cases ha48 : a.toNat = 48
    · have hq : ((a.toNat : Int) == 48) = true := by rw [beq_iff_eq]; omega
      have HA := hide ha48
      clear ha48
      go_enter Tryz.func90, Tryz.ntmps90
      go_wp2
      go_ret
      exact ⟨ret_int (by have := unhide HA; unfold Sp.num; simp only []; rw [if_neg (by omega)]; rfl), rfl⟩
    have hq : ((a.toNat : Int) == 48) = false := by rw [beq_eq_false_iff_ne]; omega
    by_cases hlo : a.toNat < 48
    · have hlo' : (a.toNat : Int) < 48 := by omega
      go_enter Tryz.func90, Tryz.ntmps90
      go_wp2
      refine wp_loop_rounds 2 ?_
      rw [rounds_succ]
      go_wp2
      go_ret
      exact ⟨ret_int (by unfold Sp.num; simp only []; rw [if_neg (by omega)]; rfl), rfl⟩
    by_cases hhi : 57 < a.toNat
    · have hhi' : (57 : Int) < a.toNat := by omega
      have hlo' : ¬ (a.toNat : Int) < 48 := by omega
      go_enter Tryz.func90, Tryz.ntmps90
      go_wp2
      refine wp_loop_rounds 2 ?_
      rw [rounds_succ]
      go_wp2
      go_ret
      exact ⟨ret_int (by unfold Sp.num; simp only []; rw [if_neg (by omega)]; rfl), rfl⟩
    have hlo' : ¬ (a.toNat : Int) < 48 := by omega
    have hhi' : ¬ (57 : Int) < a.toNat := by omega
    go_enter Tryz.func90, Tryz.ntmps90
    go_wp2
    refine wp_loop_rounds 3 ?_
    rw [rounds_succ]
    go_wp2
    rw [rounds_succ]
    go_wp2
    go_ret
    exact ⟨ret_int (by unfold Sp.num; simp only []; rw [if_pos (by omega)]), rfl⟩
  · have hemp : (bs ([a, b])).toList.isEmpty = false := bs_nonempty (by simp)
    have hsz : (bs ([a, b])).size = 2 := by rw [bs_size]; simp
    have h0 : 0 < (bs ([a, b])).size := by omega
    have hg0 : (bs ([a, b]))[0] = a := bs_get (l := [a, b]) (k := 0) (by simp)
    have hempF : (bs ([45, a, b])).toList.isEmpty = false := bs_nonempty (by simp)
    have hszF : (bs ([45, a, b])).size = 2 + 1 := by rw [bs_size]; simp
    have h0F : 0 < (bs ([45, a, b])).size := by omega
    have hgF : (bs ([45, a, b]))[0] = 45 := bs_get (l := [45, a, b]) (k := 0) (by simp)
    have hslF : ∀ wx, (Instr.slice 9 (.string (bs ([45, a, b]))) (some (.int .i64 1)) none none).run Tryz.prog wx = .ok (.string (bs ([a, b]))) wx := fun wx => slice_from_bs (P := Tryz.prog) 9 Tryz.underlying9 ([45, a, b]) 1 1 rfl (by simp) wx
    have hbb := UInt8.toNat_lt b
    have h1 : 1 < (bs [a, b]).size := by omega
    have hg1 : (bs [a, b])[1] = b := bs_get (l := [a, b]) (k := 1) (by simp)
    by_cases ha48 : a.toNat = 48
    · have hq : ((a.toNat : Int) == 48) = true := by rw [beq_iff_eq]; omega
      have HA := hide ha48
      clear ha48
      go_enter Tryz.func90, Tryz.ntmps90
      go_wp2
      go_ret
      exact ⟨ret_int (by have := unhide HA; unfold Sp.num; simp only []; rw [if_neg (by omega)]; rfl), rfl⟩
    have hq : ((a.toNat : Int) == 48) = false := by rw [beq_eq_false_iff_ne]; omega
    by_cases hlo : a.toNat < 48
    · have hlo' : (a.toNat : Int) < 48 := by omega
      go_enter Tryz.func90, Tryz.ntmps90
      go_wp2
      refine wp_loop_rounds 2 ?_
      rw [rounds_succ]
      go_wp2
      go_ret
      exact ⟨ret_int (by unfold Sp.num; simp only []; rw [if_neg (by omega)]; rfl), rfl⟩
    by_cases hhi : 57 < a.toNat
    · have hhi' : (57 : Int) < a.toNat := by omega
      have hlo' : ¬ (a.toNat : Int) < 48 := by omega
      go_enter Tryz.func90, Tryz.ntmps90
      go_wp2
      refine wp_loop_rounds 2 ?_
      rw [rounds_succ]
      go_wp2
      go_ret
      exact ⟨ret_int (by unfold Sp.num; simp only []; rw [if_neg (by omega)]; rfl), rfl⟩
    have hlo' : ¬ (a.toNat : Int) < 48 := by omega
    have hhi' : ¬ (57 : Int) < a.toNat := by omega
    by_cases hblo : b.toNat < 48
    · have hblo' : (b.toNat : Int) < 48 := by omega
      go_enter Tryz.func90, Tryz.ntmps90
      go_wp2
      refine wp_loop_rounds 3 ?_
      rw [rounds_succ]
      go_wp2
      rw [rounds_succ]
      go_wp2
      go_ret
      exact ⟨ret_int (by unfold Sp.num; simp only []; rw [if_neg (by omega)]; rfl), rfl⟩
    by_cases hbhi : 57 < b.toNat
    · have hbhi' : (57 : Int) < b.toNat := by omega
      have hblo' : ¬ (b.toNat : Int) < 48 := by omega
      go_enter Tryz.func90, Tryz.ntmps90
      go_wp2
      refine wp_loop_rounds 3 ?_
      rw [rounds_succ]
      go_wp2
      rw [rounds_succ]
      go_wp2
      go_ret
      exact ⟨ret_int (by unfold Sp.num; simp only []; rw [if_neg (by omega)]; rfl), rfl⟩
    have hblo' : ¬ (b.toNat : Int) < 48 := by omega
    have hbhi' : ¬ (57 : Int) < b.toNat := by omega
    by_cases hsum : (12 : Int) < 10 * ((a.toNat : Int) - 48) + ((b.toNat : Int) - 48)
    · go_enter Tryz.func90, Tryz.ntmps90
      go_wp2
      refine wp_loop_rounds 3 ?_
      rw [rounds_succ]
      go_wp2
      rw [rounds_succ]
      go_wp2
      rw [rounds_succ]
      go_wp2
      go_ret
      exact ⟨ret_int (by unfold Sp.num; simp only []; rw [if_neg (by omega)]; rfl), rfl⟩
    go_enter Tryz.func90, Tryz.ntmps90
    go_wp2
    refine wp_loop_rounds 3 ?_
    rw [rounds_succ]
    go_wp2
    rw [rounds_succ]
    go_wp2
    rw [rounds_succ]
    go_wp2
    go_ret
    exact ⟨ret_int (by unfold Sp.num; simp only []; rw [if_pos (by omega)]; omega), rfl⟩
  · have hemp : (bs (a :: b :: c :: r)).toList.isEmpty = false := bs_nonempty (by simp)
    have hsz : (bs (a :: b :: c :: r)).size = r.length + 3 := by rw [bs_size]; simp
    have h0 : 0 < (bs (a :: b :: c :: r)).size := by omega
    have hg0 : (bs (a :: b :: c :: r))[0] = a := bs_get (l := a :: b :: c :: r) (k := 0) (by simp)
    have hempF : (bs (45 :: a :: b :: c :: r)).toList.isEmpty = false := bs_nonempty (by simp)
    have hszF : (bs (45 :: a :: b :: c :: r)).size = r.length + 3 + 1 := by rw [bs_size]; simp
    have h0F : 0 < (bs (45 :: a :: b :: c :: r)).size := by omega
    have hgF : (bs (45 :: a :: b :: c :: r))[0] = 45 := bs_get (l := 45 :: a :: b :: c :: r) (k := 0) (by simp)
    have hslF : ∀ wx, (Instr.slice 9 (.string (bs (45 :: a :: b :: c :: r))) (some (.int .i64 1)) none none).run Tryz.prog wx = .ok (.string (bs (a :: b :: c :: r))) wx := fun wx => slice_from_bs (P := Tryz.prog) 9 Tryz.underlying9 (45 :: a :: b :: c :: r) 1 1 rfl (by simp) wx
    have hbig : (2 : Int) < (r.length : Int) + 3 := by omega
    go_enter Tryz.func90, Tryz.ntmps90
    go_wp2
    go_ret
    exact ⟨ret_int (by simp [Sp.num]), rfl⟩

end Go.Proofs.YtgoigckhblffhaaGreatDoorR
