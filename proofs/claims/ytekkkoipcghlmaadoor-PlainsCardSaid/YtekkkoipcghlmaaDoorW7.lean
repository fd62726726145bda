import Derived.Test.YtekkkoipcghlmaaDoorW2
namespace Go.Proofs.YtekkkoipcghlmaaDoor
open Go.RowKit

theorem ret_int {k : IntKind} {a b : Int} (h : a = b) : Ending.returned (.int k a) = .returned (.int k b) := by rw [h]

set_option maxRecDepth 100000 in
set_option maxHeartbeats 1600000 in
theorem word_plus (a : UInt8) (r : List UInt8) (w : World) (ha : ¬ a = 45) (hl : r.length ≤ 10000000) :
    Calls Tryd.prog 41 #[.string (bs (a :: r))] w fun e w' => e = .returned (.int .i64 (Sp.num (a :: r))) ∧ w' = w := by
  have hab := UInt8.toNat_lt a
  have ht : ((a.toNat : Int) == 45) = false := byte_ne (by decide) ha
  rcases r with _ | ⟨b, _ | ⟨c, r⟩⟩
  · have hemp : (bs ([a])).toList.isEmpty = false := bs_nonempty (by simp)
    have hsz : (bs ([a])).size = 1 := by rw [bs_size]; simp
    have h0 : 0 < (bs ([a])).size := by omega
    have hg0 : (bs ([a]))[0] = a := bs_get (l := [a]) (k := 0) (by simp)
    by_cases ha48 : a.toNat = 48
    · have hq : ((a.toNat : Int) == 48) = true := by rw [beq_iff_eq]; omega
      have HA := hide ha48
      clear ha48
      go_enter Tryd.func41, Tryd.ntmps41
      go_wp2
      go_ret
      exact ⟨ret_int (by have := unhide HA; unfold Sp.num; simp only []; rw [if_neg (by omega)]), rfl⟩
    have hq : ((a.toNat : Int) == 48) = false := by rw [beq_eq_false_iff_ne]; omega
    by_cases hlo : a.toNat < 48
    · have hlo' : (a.toNat : Int) < 48 := by omega
      go_enter Tryd.func41, Tryd.ntmps41
      go_wp2
      refine wp_loop_rounds 2 ?_
      rw [rounds_succ]
      go_wp2
      go_ret
      exact ⟨ret_int (by unfold Sp.num; simp only []; rw [if_neg (by omega)]), rfl⟩
    by_cases hhi : 57 < a.toNat
    · have hhi' : (57 : Int) < a.toNat := by omega
      have hlo' : ¬ (a.toNat : Int) < 48 := by omega
      go_enter Tryd.func41, Tryd.ntmps41
      go_wp2
      refine wp_loop_rounds 2 ?_
      rw [rounds_succ]
      go_wp2
      go_ret
      exact ⟨ret_int (by unfold Sp.num; simp only []; rw [if_neg (by omega)]), rfl⟩
    have hlo' : ¬ (a.toNat : Int) < 48 := by omega
    have hhi' : ¬ (57 : Int) < a.toNat := by omega
    go_enter Tryd.func41, Tryd.ntmps41
    go_wp2
    refine wp_loop_rounds 3 ?_
    rw [rounds_succ]
    go_wp2
    rw [rounds_succ]
    go_wp2
    go_ret
    exact ⟨ret_int (by unfold Sp.num; simp only []; rw [if_pos (by omega)]), rfl⟩
  · have hemp : (bs ([a, b])).toList.isEmpty = false := bs_nonempty (by simp)
    have hsz : (bs ([a, b])).size = 2 := by rw [bs_size]; simp
    have h0 : 0 < (bs ([a, b])).size := by omega
    have hg0 : (bs ([a, b]))[0] = a := bs_get (l := [a, b]) (k := 0) (by simp)
    have hbb := UInt8.toNat_lt b
    have h1 : 1 < (bs [a, b]).size := by omega
    have hg1 : (bs [a, b])[1] = b := bs_get (l := [a, b]) (k := 1) (by simp)
    by_cases ha48 : a.toNat = 48
    · have hq : ((a.toNat : Int) == 48) = true := by rw [beq_iff_eq]; omega
      have HA := hide ha48
      clear ha48
      go_enter Tryd.func41, Tryd.ntmps41
      go_wp2
      go_ret
      exact ⟨ret_int (by have := unhide HA; unfold Sp.num; simp only []; rw [if_neg (by omega)]), rfl⟩
    have hq : ((a.toNat : Int) == 48) = false := by rw [beq_eq_false_iff_ne]; omega
    by_cases hlo : a.toNat < 48
    · have hlo' : (a.toNat : Int) < 48 := by omega
      go_enter Tryd.func41, Tryd.ntmps41
      go_wp2
      refine wp_loop_rounds 2 ?_
      rw [rounds_succ]
      go_wp2
      go_ret
      exact ⟨ret_int (by unfold Sp.num; simp only []; rw [if_neg (by omega)]), rfl⟩
    by_cases hhi : 57 < a.toNat
    · have hhi' : (57 : Int) < a.toNat := by omega
      have hlo' : ¬ (a.toNat : Int) < 48 := by omega
      go_enter Tryd.func41, Tryd.ntmps41
      go_wp2
      refine wp_loop_rounds 2 ?_
      rw [rounds_succ]
      go_wp2
      go_ret
      exact ⟨ret_int (by unfold Sp.num; simp only []; rw [if_neg (by omega)]), rfl⟩
    have hlo' : ¬ (a.toNat : Int) < 48 := by omega
    have hhi' : ¬ (57 : Int) < a.toNat := by omega
    by_cases hblo : b.toNat < 48
    · have hblo' : (b.toNat : Int) < 48 := by omega
      go_enter Tryd.func41, Tryd.ntmps41
      go_wp2
      refine wp_loop_rounds 3 ?_
      rw [rounds_succ]
      go_wp2
      rw [rounds_succ]
      go_wp2
      go_ret
      exact ⟨ret_int (by unfold Sp.num; simp only []; rw [if_neg (by omega)]), rfl⟩
    by_cases hbhi : 57 < b.toNat
    · have hbhi' : (57 : Int) < b.toNat := by omega
      have hblo' : ¬ (b.toNat : Int) < 48 := by omega
      go_enter Tryd.func41, Tryd.ntmps41
      go_wp2
      refine wp_loop_rounds 3 ?_
      rw [rounds_succ]
      go_wp2
      rw [rounds_succ]
      go_wp2
      go_ret
      exact ⟨ret_int (by unfold Sp.num; simp only []; rw [if_neg (by omega)]), rfl⟩
    have hblo' : ¬ (b.toNat : Int) < 48 := by omega
    have hbhi' : ¬ (57 : Int) < b.toNat := by omega
    by_cases hsum : (12 : Int) < 10 * ((a.toNat : Int) - 48) + ((b.toNat : Int) - 48)
    · go_enter Tryd.func41, Tryd.ntmps41
      go_wp2
      refine wp_loop_rounds 3 ?_
      rw [rounds_succ]
      go_wp2
      rw [rounds_succ]
      go_wp2
      rw [rounds_succ]
      go_wp2
      go_ret
      exact ⟨ret_int (by unfold Sp.num; simp only []; rw [if_neg (by omega)]), rfl⟩
    go_enter Tryd.func41, Tryd.ntmps41
    go_wp2
    refine wp_loop_rounds 3 ?_
    rw [rounds_succ]
    go_wp2
    rw [rounds_succ]
    go_wp2
    rw [rounds_succ]
    go_wp2
    go_ret
    exact ⟨ret_int (by unfold Sp.num; simp only []; rw [if_pos (by omega)]; omega), rfl⟩
  · have hemp : (bs (a :: b :: c :: r)).toList.isEmpty = false := bs_nonempty (by simp)
    have hsz : (bs (a :: b :: c :: r)).size = r.length + 3 := by rw [bs_size]; simp
    have h0 : 0 < (bs (a :: b :: c :: r)).size := by omega
    have hg0 : (bs (a :: b :: c :: r))[0] = a := bs_get (l := a :: b :: c :: r) (k := 0) (by simp)
    have hbig : (2 : Int) < (r.length : Int) + 3 := by omega
    go_enter Tryd.func41, Tryd.ntmps41
    go_wp2
    go_ret
    exact ⟨ret_int (by simp [Sp.num]), rfl⟩

set_option maxRecDepth 100000 in
set_option maxHeartbeats 1600000 in
theorem word_minus (a : UInt8) (r : List UInt8) (w : World) (hl : r.length ≤ 10000000) :
    Calls Tryd.prog 41 #[.string (bs (45 :: a :: r))] w fun e w' => e = .returned (.int .i64 (-Sp.num (a :: r))) ∧ w' = w := by
  have hab := UInt8.toNat_lt a
  rcases r with _ | ⟨b, _ | ⟨c, r⟩⟩
  · have hemp : (bs ([a])).toList.isEmpty = false := bs_nonempty (by simp)
    have hsz : (bs ([a])).size = 1 := by rw [bs_size]; simp
    have h0 : 0 < (bs ([a])).size := by omega
    have hg0 : (bs ([a]))[0] = a := bs_get (l := [a]) (k := 0) (by simp)
    have hempF : (bs ([45, a])).toList.isEmpty = false := bs_nonempty (by simp)
    have hszF : (bs ([45, a])).size = 1 + 1 := by rw [bs_size]; simp
    have h0F : 0 < (bs ([45, a])).size := by omega
    have hgF : (bs ([45, a]))[0] = 45 := bs_get (l := [45, a]) (k := 0) (by simp)
    have hslF : ∀ wx, (Instr.slice 9 (.string (bs ([45, a]))) (some (.int .i64 1)) none none).run Tryd.prog wx = .ok (.string (bs ([a]))) wx := fun wx => slice_from_bs (P := Tryd.prog) 9 Tryd.underlying9 ([45, a]) 1 1 rfl (by simp) wx
    by_cases ha48 : a.toNat = 48
    · have hq : ((a.toNat : Int) == 48) = true := by rw [beq_iff_eq]; omega
      have HA := hide ha48
      clear ha48
      go_enter Tryd.func41, Tryd.ntmps41
      go_wp2
      go_ret
      exact ⟨ret_int (by have := unhide HA; unfold Sp.num; simp only []; rw [if_neg (by omega)]; rfl), rfl⟩
    have hq : ((a.toNat : Int) == 48) = false := by rw [beq_eq_false_iff_ne]; omega
    by_cases hlo : a.toNat < 48
    · have hlo' : (a.toNat : Int) < 48 := by omega
      go_enter Tryd.func41, Tryd.ntmps41
      go_wp2
      refine wp_loop_rounds 2 ?_
      rw [rounds_succ]
      go_wp2
      go_ret
      exact ⟨ret_int (by unfold Sp.num; simp only []; rw [if_neg (by omega)]; rfl), rfl⟩
    by_cases hhi : 57 < a.toNat
    · have hhi' : (57 : Int) < a.toNat := by omega
      have hlo' : ¬ (a.toNat : Int) < 48 := by omega
      go_enter Tryd.func41, Tryd.ntmps41
      go_wp2
      refine wp_loop_rounds 2 ?_
      rw [rounds_succ]
      go_wp2
      go_ret
      exact ⟨ret_int (by unfold Sp.num; simp only []; rw [if_neg (by omega)]; rfl), rfl⟩
    have hlo' : ¬ (a.toNat : Int) < 48 := by omega
    have hhi' : ¬ (57 : Int) < a.toNat := by omega
    go_enter Tryd.func41, Tryd.ntmps41
    go_wp2
    refine wp_loop_rounds 3 ?_
    rw [rounds_succ]
    go_wp2
    rw [rounds_succ]
    go_wp2
    go_ret
    exact ⟨ret_int (by unfold Sp.num; simp only []; rw [if_pos (by omega)]), rfl⟩
  · have hemp : (bs ([a, b])).toList.isEmpty = false := bs_nonempty (by simp)
    have hsz : (bs ([a, b])).size = 2 := by rw [bs_size]; simp
    have h0 : 0 < (bs ([a, b])).size := by omega
    have hg0 : (bs ([a, b]))[0] = a := bs_get (l := [a, b]) (k := 0) (by simp)
    have hempF : (bs ([45, a, b])).toList.isEmpty = false := bs_nonempty (by simp)
    have hszF : (bs ([45, a, b])).size = 2 + 1 := by rw [bs_size]; simp
    have h0F : 0 < (bs ([45, a, b])).size := by omega
    have hgF : (bs ([45, a, b]))[0] = 45 := bs_get (l := [45, a, b]) (k := 0) (by simp)
    have hslF : ∀ wx, (Instr.slice 9 (.string (bs ([45, a, b]))) (some (.int .i64 1)) none none).run Tryd.prog wx = .ok (.string (bs ([a, b]))) wx := fun wx => slice_from_bs (P := Tryd.prog) 9 Tryd.underlying9 ([45, a, b]) 1 1 rfl (by simp) wx
    have hbb := UInt8.toNat_lt b
    have h1 : 1 < (bs [a, b]).size := by omega
    have hg1 : (bs [a, b])[1] = b := bs_get (l := [a, b]) (k := 1) (by simp)
    by_cases ha48 : a.toNat = 48
    · have hq : ((a.toNat : Int) == 48) = true := by rw [beq_iff_eq]; omega
      have HA := hide ha48
      clear ha48
      go_enter Tryd.func41, Tryd.ntmps41
      go_wp2
      go_ret
      exact ⟨ret_int (by have := unhide HA; unfold Sp.num; simp only []; rw [if_neg (by omega)]; rfl), rfl⟩
    have hq : ((a.toNat : Int) == 48) = false := by rw [beq_eq_false_iff_ne]; omega
    by_cases hlo : a.toNat < 48
    · have hlo' : (a.toNat : Int) < 48 := by omega
      go_enter Tryd.func41, Tryd.ntmps41
      go_wp2
      refine wp_loop_rounds 2 ?_
      rw [rounds_succ]
      go_wp2
      go_ret
      exact ⟨ret_int (by unfold Sp.num; simp only []; rw [if_neg (by omega)]; rfl), rfl⟩
    by_cases hhi : 57 < a.toNat
    · have hhi' : (57 : Int) < a.toNat := by omega
      have hlo' : ¬ (a.toNat : Int) < 48 := by omega
      go_enter Tryd.func41, Tryd.ntmps41
      go_wp2
      refine wp_loop_rounds 2 ?_
      rw [rounds_succ]
      go_wp2
      go_ret
      exact ⟨ret_int (by unfold Sp.num; simp only []; rw [if_neg (by omega)]; rfl), rfl⟩
    have hlo' : ¬ (a.toNat : Int) < 48 := by omega
    have hhi' : ¬ (57 : Int) < a.toNat := by omega
    by_cases hblo : b.toNat < 48
    · have hblo' : (b.toNat : Int) < 48 := by omega
      go_enter Tryd.func41, Tryd.ntmps41
      go_wp2
      refine wp_loop_rounds 3 ?_
      rw [rounds_succ]
      go_wp2
      rw [rounds_succ]
      go_wp2
      go_ret
      exact ⟨ret_int (by unfold Sp.num; simp only []; rw [if_neg (by omega)]; rfl), rfl⟩
    by_cases hbhi : 57 < b.toNat
    · have hbhi' : (57 : Int) < b.toNat := by omega
      have hblo' : ¬ (b.toNat : Int) < 48 := by omega
      go_enter Tryd.func41, Tryd.ntmps41
      go_wp2
      refine wp_loop_rounds 3 ?_
      rw [rounds_succ]
      go_wp2
      rw [rounds_succ]
      go_wp2
      go_ret
      exact ⟨ret_int (by unfold Sp.num; simp only []; rw [if_neg (by omega)]; rfl), rfl⟩
    have hblo' : ¬ (b.toNat : Int) < 48 := by omega
    have hbhi' : ¬ (57 : Int) < b.toNat := by omega
    by_cases hsum : (12 : Int) < 10 * ((a.toNat : Int) - 48) + ((b.toNat : Int) - 48)
    · go_enter Tryd.func41, Tryd.ntmps41
      go_wp2
      refine wp_loop_rounds 3 ?_
      rw [rounds_succ]
      go_wp2
      rw [rounds_succ]
      go_wp2
      rw [rounds_succ]
      go_wp2
      go_ret
      exact ⟨ret_int (by unfold Sp.num; simp only []; rw [if_neg (by omega)]; rfl), rfl⟩
    go_enter Tryd.func41, Tryd.ntmps41
    go_wp2
    refine wp_loop_rounds 3 ?_
    rw [rounds_succ]
    go_wp2
    rw [rounds_succ]
    go_wp2
    rw [rounds_succ]
    go_wp2
    go_ret
    exact ⟨ret_int (by unfold Sp.num; simp only []; rw [if_pos (by omega)]; omega), rfl⟩
  · have hemp : (bs (a :: b :: c :: r)).toList.isEmpty = false := bs_nonempty (by simp)
    have hsz : (bs (a :: b :: c :: r)).size = r.length + 3 := by rw [bs_size]; simp
    have h0 : 0 < (bs (a :: b :: c :: r)).size := by omega
    have hg0 : (bs (a :: b :: c :: r))[0] = a := bs_get (l := a :: b :: c :: r) (k := 0) (by simp)
    have hempF : (bs (45 :: a :: b :: c :: r)).toList.isEmpty = false := bs_nonempty (by simp)
    have hszF : (bs (45 :: a :: b :: c :: r)).size = r.length + 3 + 1 := by rw [bs_size]; simp
    have h0F : 0 < (bs (45 :: a :: b :: c :: r)).size := by omega
    have hgF : (bs (45 :: a :: b :: c :: r))[0] = 45 := bs_get (l := 45 :: a :: b :: c :: r) (k := 0) (by simp)
    have hslF : ∀ wx, (Instr.slice 9 (.string (bs (45 :: a :: b :: c :: r))) (some (.int .i64 1)) none none).run Tryd.prog wx = .ok (.string (bs (a :: b :: c :: r))) wx := fun wx => slice_from_bs (P := Tryd.prog) 9 Tryd.underlying9 (45 :: a :: b :: c :: r) 1 1 rfl (by simp) wx
    have hbig : (2 : Int) < (r.length : Int) + 3 := by omega
    go_enter Tryd.func41, Tryd.ntmps41
    go_wp2
    go_ret
    exact ⟨ret_int (by simp [Sp.num]), rfl⟩

end Go.Proofs.YtekkkoipcghlmaaDoor
