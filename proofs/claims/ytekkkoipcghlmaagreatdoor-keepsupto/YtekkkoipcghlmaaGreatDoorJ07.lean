import Derived.Test.YtekkkoipcghlmaaGreatDoorJ05
namespace Go.Proofs.YtekkkoipcghlmaaGreatDoor
open Go.RowKit

set_option maxRecDepth 100000 in
set_option maxHeartbeats 400000 in
theorem digits_any (x : Int) (w : World) (h1 : 1 ≤ x) (h2 : x ≤ 12) :
    Calls Tryz.prog 145 #[.int .i64 x] w fun e w' => e = .returned (.string (bs (Sp.digs x.toNat))) ∧ Below w.heap.size w w' := by
  obtain ⟨n, rfl⟩ := Int.eq_ofNat_of_zero_le (by omega : 0 ≤ x)
  rw [Int.toNat_natCast]
  go_enter Tryz.func145, Tryz.ntmps145
  go_wp2
  go_loopw [0, 3] (fun m s wr => Below w.heap.size w wr ∧ ((m = .int .i64 n ∧ s = .string (bs [])) ∨ (10 ≤ n ∧ m = .int .i64 1 ∧ s = .string (bs [UInt8.ofNat (38 + n)])) ∨ (m = .int .i64 0 ∧ s = .string (bs (Sp.digs n)))))
    (fun m _ _ => (intOf m).toNat)
  case atStart => exact ⟨Below.refl _ _, .inl ⟨rfl, rfl⟩⟩
  case round =>
    obtain ⟨hbel, ⟨rfl, rfl⟩ | ⟨h10, rfl, rfl⟩ | ⟨rfl, rfl⟩⟩ := hrel
    · have hcv := fun wx => conv_one (P := Tryz.prog) 75 9 5 Tryz.underlying75 Tryz.underlying5 Tryz.underlying9 (48 + (n : Int) % 10) (by omega) (by omega) wx
      generalize hc : UInt8.ofNat (48 + (n : Int) % 10).toNat = c at hcv
      have HC := hide hc
      clear hc
      have hadd := fun wx => add_bs (P := Tryz.prog) [c] [] (by simp) wx
      rw [List.append_nil] at hadd
      have hp : (0 : Int) < n := by omega
      go_wp2
      go_roundw
      case rel =>
        refine ⟨hbel.alloc (by have := hbel.size; omega) _, ?_⟩
        by_cases h10 : 10 ≤ n
        · exact .inr (.inl ⟨h10, by rw [show (n : Int) / 10 = 1 from by omega], by rw [← unhide HC, show (48 + (n : Int) % 10).toNat = 38 + n from by omega]⟩)
        · exact .inr (.inr ⟨by rw [show (n : Int) / 10 = 0 from by omega], by rw [← unhide HC, Sp.digs, if_pos (by omega), show (48 + (n : Int) % 10).toNat = 48 + n from by omega]⟩)
      case measure => simp [intOf]; omega
    · have hcv := fun wx => conv_one (P := Tryz.prog) 75 9 5 Tryz.underlying75 Tryz.underlying5 Tryz.underlying9 49 (by omega) (by omega) wx
      have hadd := fun wx => add_bs (P := Tryz.prog) [49] [UInt8.ofNat (38 + n)] (by simp) wx
      have HS : Hid (Sp.digs n = [49] ++ [UInt8.ofNat (38 + n)]) := hide (by rw [Sp.digs, if_neg (by omega)]; rfl)
      generalize UInt8.ofNat (38 + n) = c at hadd HS ⊢
      go_wp2
      go_roundw
      case rel => exact ⟨hbel.alloc (by have := hbel.size; omega) _, .inr (.inr ⟨rfl, by rw [unhide HS]; rfl⟩)⟩
      case measure => simp [intOf]
    · go_wp2
      go_ret
      exact ⟨rfl, hbel⟩

end Go.Proofs.YtekkkoipcghlmaaGreatDoor

namespace Go.Proofs.YtekkkoipcghlmaaGreatDoor
open Go.RowKit

theorem toldBody_snoc (l : List Int) (x : Int) : Sp.toldBody (l ++ [x]) = (if l = [] then Sp.lw x else Sp.toldBody l ++ 32 :: Sp.lw x) := by
  unfold Sp.toldBody
  rw [List.map_append, List.map_singleton, Sp.join_snoc]
  simp
theorem digs_len (n : Nat) : (Sp.digs n).length ≤ 2 := by unfold Sp.digs; split <;> simp
theorem lw_len (x : Int) : (Sp.lw x).length ≤ 3 := by
  unfold Sp.lw; have := digs_len x.natAbs; split <;> simp <;> omega
theorem toldBody_len (l : List Int) : (Sp.toldBody l).length ≤ 4 * l.length := by
  unfold Sp.toldBody
  induction l with
  | nil => simp [Sp.join]
  | cons a r ih =>
    have := lw_len a
    cases r with
    | nil => simp [Sp.join]; omega
    | cons b r => simp [Sp.join] at ih ⊢; omega

theorem take_nil_iff {xs : List Int} {k : Nat} (h : k < xs.length) : xs.take k = [] ↔ k = 0 := by
  rw [List.take_eq_nil_iff]
  constructor
  · rintro (h' | h')
    · exact h'
    · subst h'; simp at h
  · exact fun h' => .inl h'

set_option maxRecDepth 100000 in
set_option maxHeartbeats 800000 in
theorem told_any (v : Value) (xs : List Int) (w : World) (hl : xs.length ≤ 100) (hx : ∀ x, x ∈ xs → x ≠ 0 ∧ -12 ≤ x ∧ x ≤ 12) (hv : Lies w v (ints xs)) :
    Calls Tryz.prog 101 #[v] w fun e w' => e = .returned (.string (bs (Sp.told xs))) ∧ Below w.heap.size w w' := by
  rcases hv with ⟨h0, ao, cap, rfl⟩ | ⟨b, off, cap, hp, rfl, hb, hc⟩
  · have hx0 : xs = [] := by simpa [ints] using h0
    subst hx0
    have hadd := fun wx => add_bs (P := Tryz.prog) [] [10] (by simp) wx
    go_enter Tryz.func101, Tryz.ntmps101
    go_wp2
    refine wp_loop_rounds 1 ?_
    rw [rounds_succ]
    go_wp2
    go_ret
    exact ⟨rfl, Below.refl _ _⟩
  · have hlen : (ints xs).length = xs.length := by simp [ints]
    rw [hlen] at hp ⊢
    go_enter Tryz.func101, Tryz.ntmps101
    go_wp2
    go_loopw [3, 4] (fun s i wr => ∃ k : Nat, k ≤ xs.length ∧ i = .int .i64 k ∧ s = .string (bs (Sp.toldBody (xs.take k))) ∧ Below w.heap.size w wr) (fun _ i _ => xs.length - (intOf i).toNat)
    case atStart => exact ⟨0, Nat.zero_le _, rfl, rfl, Below.refl _ _⟩
    case round =>
      obtain ⟨k, hk, rfl, rfl, hbel⟩ := hrel
      have hbl := toldBody_len (xs.take k)
      have hbl2 : (xs.take k).length ≤ k := List.length_take_le _ _
      by_cases hlt : k < xs.length
      · have hcell : wr.cell? ⟨b, off + k, none⟩ = some (.int .i64 xs[k]) := (hbel.cell (p := ⟨b, off + k, none⟩) hb).trans (hc k (.int .i64 xs[k]) (by simp [ints, hlt]))
        have hxx := hx xs[k] (List.getElem_mem hlt)
        have HS : Hid (xs.take (k + 1) = xs.take k ++ [xs[k]]) := hide (List.take_succ_eq_append_getElem hlt)
        have HS2 := hide (toldBody_snoc (xs.take k) xs[k])
        have HE : Hid (xs.take k = [] ↔ k = 0) := hide (take_nil_iff hlt)
        generalize xs[k] = x at hcell HS HS2 hxx
        generalize htb : Sp.toldBody (xs.take k) = tb at HS2 hbl ⊢
        have HB := hide htb.symm
        clear htb
        clear hc hx
        by_cases hk0 : 0 < k
        · by_cases hn : x < 0
          · skip
            have ha0 : ∀ wx, (Op.stringOp .add (bs tb) ⟨#[32]⟩).run Tryz.prog wx = .ok (.string (bs (tb ++ [32]))) wx := fun wx => add_bs tb [32] (by simp; omega) wx
            have ha1 : ∀ wx, (Op.stringOp .add (bs (tb ++ [32])) ⟨#[45]⟩).run Tryz.prog wx = .ok (.string (bs (tb ++ [32, 45]))) wx := fun wx => by have := add_bs (P := Tryz.prog) (tb ++ [32]) [45] (by simp; omega) wx; rwa [List.append_assoc] at this
            have ha2 := fun wx => add_bs (P := Tryz.prog) (tb ++ [32, 45]) (Sp.digs (-x).toNat) (by have := digs_len (-x).toNat; simp; omega) wx
            have hdg := fun wx => digits_any (-x) wx (by omega) (by omega)
            have HL : Hid (Sp.lw x = 45 :: Sp.digs (-x).toNat) := hide (by unfold Sp.lw; rw [if_pos hn, show x.natAbs = (-x).toNat from by omega])
            generalize Sp.digs (-x).toNat = dg at ha2 hdg HL
            have HDG := hide hdg
            clear hdg
            go_wp2_with fail
            refine (unhide HDG _).mono ?_
            rintro e w1 ⟨rfl, hb1⟩
            go_wp2
            go_roundw
            case rel => exact ⟨k + 1, by omega, by go_num, by rw [unhide HS, unhide HS2, if_neg (fun h => absurd ((unhide HE).1 h) (by omega)), unhide HL], hbel.trans (hb1.mono hbel.size)⟩
            case measure => simp [intOf]; omega
          · skip
            have ha0 : ∀ wx, (Op.stringOp .add (bs tb) ⟨#[32]⟩).run Tryz.prog wx = .ok (.string (bs (tb ++ [32]))) wx := fun wx => add_bs tb [32] (by simp; omega) wx
            have ha2 := fun wx => add_bs (P := Tryz.prog) (tb ++ [32]) (Sp.digs x.toNat) (by have := digs_len x.toNat; simp; omega) wx
            have hdg := fun wx => digits_any x wx (by omega) (by omega)
            have HL : Hid (Sp.lw x = Sp.digs x.toNat) := hide (by unfold Sp.lw; rw [if_neg hn, show x.natAbs = x.toNat from by omega])
            generalize Sp.digs x.toNat = dg at ha2 hdg HL
            have HDG := hide hdg
            clear hdg
            go_wp2_with fail
            refine (unhide HDG _).mono ?_
            rintro e w1 ⟨rfl, hb1⟩
            go_wp2
            go_roundw
            case rel => exact ⟨k + 1, by omega, by go_num, by rw [unhide HS, unhide HS2, if_neg (fun h => absurd ((unhide HE).1 h) (by omega)), unhide HL], hbel.trans (hb1.mono hbel.size)⟩
            case measure => simp [intOf]; omega
        · have HZ : Hid (tb = []) := hide (by
            have := (unhide HE).2 (by omega)
            rw [unhide HB, this]; rfl)
          by_cases hn : x < 0
          · skip
            have ha1 : ∀ wx, (Op.stringOp .add (bs tb) ⟨#[45]⟩).run Tryz.prog wx = .ok (.string (bs (tb ++ [45]))) wx := fun wx => add_bs tb [45] (by simp; omega) wx
            have ha2 := fun wx => add_bs (P := Tryz.prog) (tb ++ [45]) (Sp.digs (-x).toNat) (by have := digs_len (-x).toNat; simp; omega) wx
            have hdg := fun wx => digits_any (-x) wx (by omega) (by omega)
            have HL : Hid (Sp.lw x = 45 :: Sp.digs (-x).toNat) := hide (by unfold Sp.lw; rw [if_pos hn, show x.natAbs = (-x).toNat from by omega])
            generalize Sp.digs (-x).toNat = dg at ha2 hdg HL
            have HDG := hide hdg
            clear hdg
            go_wp2_with fail
            refine (unhide HDG _).mono ?_
            rintro e w1 ⟨rfl, hb1⟩
            go_wp2
            go_roundw
            case rel => exact ⟨k + 1, by omega, by go_num, by rw [unhide HS, unhide HS2, if_pos ((unhide HE).2 (by omega)), unhide HL, unhide HZ]; rfl, hbel.trans (hb1.mono hbel.size)⟩
            case measure => simp [intOf]; omega
          · skip
            have ha2 := fun wx => add_bs (P := Tryz.prog) tb (Sp.digs x.toNat) (by have := digs_len x.toNat; simp; omega) wx
            have hdg := fun wx => digits_any x wx (by omega) (by omega)
            have HL : Hid (Sp.lw x = Sp.digs x.toNat) := hide (by unfold Sp.lw; rw [if_neg hn, show x.natAbs = x.toNat from by omega])
            generalize Sp.digs x.toNat = dg at ha2 hdg HL
            have HDG := hide hdg
            clear hdg
            go_wp2_with fail
            refine (unhide HDG _).mono ?_
            rintro e w1 ⟨rfl, hb1⟩
            go_wp2
            go_roundw
            case rel => exact ⟨k + 1, by omega, by go_num, by rw [unhide HS, unhide HS2, if_pos ((unhide HE).2 (by omega)), unhide HL, unhide HZ]; rfl, hbel.trans (hb1.mono hbel.size)⟩
            case measure => simp [intOf]; omega
      · have HT : Hid (xs.take k = xs) := hide (List.take_of_length_le (by omega))
        have hadd : ∀ wx, (Op.stringOp .add (bs (Sp.toldBody (xs.take k))) ⟨#[10]⟩).run Tryz.prog wx = .ok (.string (bs (Sp.toldBody (xs.take k) ++ [10]))) wx := fun wx => add_bs (Sp.toldBody (xs.take k)) [10] (by simp; omega) wx
        go_wp2
        go_ret
        exact ⟨by rw [unhide HT]; rfl, hbel⟩

end Go.Proofs.YtekkkoipcghlmaaGreatDoor

namespace Go.Proofs.YtekkkoipcghlmaaGreatDoor
open Go.RowKit

theorem ret_int {k : IntKind} {a b : Int} (h : a = b) : Ending.returned (.int k a) = .returned (.int k b) := by rw [h]

set_option maxRecDepth 100000 in
set_option maxHeartbeats 1600000 in
theorem word_plus (a : UInt8) (r : List UInt8) (w : World) (ha : ¬ a = 45) (hl : r.length ≤ 10000000) :
    Calls Tryz.prog 181 #[.string (bs (a :: r))] w fun e w' => e = .returned (.int .i64 (Sp.num (a :: r))) ∧ w' = w := by
  have hab := UInt8.toNat_lt a
  have ht : ((a.toNat : Int) == 45) = false := byte_ne (by decide) ha
  rcases r with _ | ⟨b, _ | ⟨c, r⟩⟩
  · have hemp : (bs ([a])).toList.isEmpty = false := bs_nonempty (by simp)
    have hsz : (bs ([a])).size = 1 := by rw [bs_size]; simp
    have h0 : 0 < (bs ([a])).size := by omega
    have hg0 : (bs ([a]))[0] = a := bs_get (l := [a]) (k := 0) (by simp)
    by_cases ha48 : a.toNat = 48
    · have hq : ((a.toNat : Int) == 48) = true := by rw [beq_iff_eq]; omega
      have HA := hide ha48
      clear ha48
      go_enter Tryz.func181, Tryz.ntmps181
      go_wp2
      go_ret
      exact ⟨ret_int (by have := unhide HA; unfold Sp.num; simp only []; rw [if_neg (by omega)]), rfl⟩
    have hq : ((a.toNat : Int) == 48) = false := by rw [beq_eq_false_iff_ne]; omega
    by_cases hlo : a.toNat < 48
    · have hlo' : (a.toNat : Int) < 48 := by omega
      go_enter Tryz.func181, Tryz.ntmps181
      go_wp2
      refine wp_loop_rounds 2 ?_
      rw [rounds_succ]
      go_wp2
      go_ret
      exact ⟨ret_int (by unfold Sp.num; simp only []; rw [if_neg (by omega)]), rfl⟩
    by_cases hhi : 57 < a.toNat
    · have hhi' : (57 : Int) < a.toNat := by omega
      have hlo' : ¬ (a.toNat : Int) < 48 := by omega
      go_enter Tryz.func181, Tryz.ntmps181
      go_wp2
      refine wp_loop_rounds 2 ?_
      rw [rounds_succ]
      go_wp2
      go_ret
      exact ⟨ret_int (by unfold Sp.num; simp only []; rw [if_neg (by omega)]), rfl⟩
    have hlo' : ¬ (a.toNat : Int) < 48 := by omega
    have hhi' : ¬ (57 : Int) < a.toNat := by omega
    go_enter Tryz.func181, Tryz.ntmps181
    go_wp2
    refine wp_loop_rounds 3 ?_
    rw [rounds_succ]
    go_wp2
    rw [rounds_succ]
    go_wp2
    go_ret
    exact ⟨ret_int (by unfold Sp.num; simp only []; rw [if_pos (by omega)]), rfl⟩
  · have hemp : (bs ([a, b])).toList.isEmpty = false := bs_nonempty (by simp)
    have hsz : (bs ([a, b])).size = 2 := by rw [bs_size]; simp
    have h0 : 0 < (bs ([a, b])).size := by omega
    have hg0 : (bs ([a, b]))[0] = a := bs_get (l := [a, b]) (k := 0) (by simp)
    have hbb := UInt8.toNat_lt b
    have h1 : 1 < (bs [a, b]).size := by omega
    have hg1 : (bs [a, b])[1] = b := bs_get (l := [a, b]) (k := 1) (by simp)
    by_cases ha48 : a.toNat = 48
    · have hq : ((a.toNat : Int) == 48) = true := by rw [beq_iff_eq]; omega
      have HA := hide ha48
      clear ha48
      go_enter Tryz.func181, Tryz.ntmps181
      go_wp2
      go_ret
      exact ⟨ret_int (by have := unhide HA; unfold Sp.num; simp only []; rw [if_neg (by omega)]), rfl⟩
    have hq : ((a.toNat : Int) == 48) = false := by rw [beq_eq_false_iff_ne]; omega
    by_cases hlo : a.toNat < 48
    · have hlo' : (a.toNat : Int) < 48 := by omega
      go_enter Tryz.func181, Tryz.ntmps181
      go_wp2
      refine wp_loop_rounds 2 ?_
      rw [rounds_succ]
      go_wp2
      go_ret
      exact ⟨ret_int (by unfold Sp.num; simp only []; rw [if_neg (by omega)]), rfl⟩
    by_cases hhi : 57 < a.toNat
    · have hhi' : (57 : Int) < a.toNat := by omega
      have hlo' : ¬ (a.toNat : Int) < 48 := by omega
      go_enter Tryz.func181, Tryz.ntmps181
      go_wp2
      refine wp_loop_rounds 2 ?_
      rw [rounds_succ]
      go_wp2
      go_ret
      exact ⟨ret_int (by unfold Sp.num; simp only []; rw [if_neg (by omega)]), rfl⟩
    have hlo' : ¬ (a.toNat : Int) < 48 := by omega
    have hhi' : ¬ (57 : Int) < a.toNat := by omega
    by_cases hblo : b.toNat < 48
    · have hblo' : (b.toNat : Int) < 48 := by omega
      go_enter Tryz.func181, Tryz.ntmps181
      go_wp2
      refine wp_loop_rounds 3 ?_
      rw [rounds_succ]
      go_wp2
      rw [rounds_succ]
      go_wp2
      go_ret
      exact ⟨ret_int (by unfold Sp.num; simp only []; rw [if_neg (by omega)]), rfl⟩
    by_cases hbhi : 57 < b.toNat
    · have hbhi' : (57 : Int) < b.toNat := by omega
      have hblo' : ¬ (b.toNat : Int) < 48 := by omega
      go_enter Tryz.func181, Tryz.ntmps181
      go_wp2
      refine wp_loop_rounds 3 ?_
      rw [rounds_succ]
      go_wp2
      rw [rounds_succ]
      go_wp2
      go_ret
      exact ⟨ret_int (by unfold Sp.num; simp only []; rw [if_neg (by omega)]), rfl⟩
    have hblo' : ¬ (b.toNat : Int) < 48 := by omega
    have hbhi' : ¬ (57 : Int) < b.toNat := by omega
    by_cases hsum : (12 : Int) < 10 * ((a.toNat : Int) - 48) + ((b.toNat : Int) - 48)
    · go_enter Tryz.func181, Tryz.ntmps181
      go_wp2
      refine wp_loop_rounds 3 ?_
      rw [rounds_succ]
      go_wp2
      rw [rounds_succ]
      go_wp2
      rw [rounds_succ]
      go_wp2
      go_ret
      exact ⟨ret_int (by unfold Sp.num; simp only []; rw [if_neg (by omega)]), rfl⟩
    go_enter Tryz.func181, Tryz.ntmps181
    go_wp2
    refine wp_loop_rounds 3 ?_
    rw [rounds_succ]
    go_wp2
    rw [rounds_succ]
    go_wp2
    rw [rounds_succ]
    go_wp2
    go_ret
    exact ⟨ret_int (by unfold Sp.num; simp only []; rw [if_pos (by omega)]; omega), rfl⟩
  · have hemp : (bs (a :: b :: c :: r)).toList.isEmpty = false := bs_nonempty (by simp)
    have hsz : (bs (a :: b :: c :: r)).size = r.length + 3 := by rw [bs_size]; simp
    have h0 : 0 < (bs (a :: b :: c :: r)).size := by omega
    have hg0 : (bs (a :: b :: c :: r))[0] = a := bs_get (l := a :: b :: c :: r) (k := 0) (by simp)
    have hbig : (2 : Int) < (r.length : Int) + 3 := by omega
    go_enter Tryz.func181, Tryz.ntmps181
    go_wp2
    go_ret
    exact ⟨ret_int (by simp [Sp.num]), rfl⟩

set_option maxRecDepth 100000 in
set_option maxHeartbeats 1600000 in
theorem word_minus (a : UInt8) (r : List UInt8) (w : World) (hl : r.length ≤ 10000000) :
    Calls Tryz.prog 181 #[.string (bs (45 :: a :: r))] w fun e w' => e = .returned (.int .i64 (-Sp.num (a :: r))) ∧ w' = w := by
  have hab := UInt8.toNat_lt a
  rcases r with _ | ⟨b, _ | ⟨c, r⟩⟩
  · have hemp : (bs ([a])).toList.isEmpty = false := bs_nonempty (by simp)
    have hsz : (bs ([a])).size = 1 := by rw [bs_size]; simp
    have h0 : 0 < (bs ([a])).size := by omega
    have hg0 : (bs ([a]))[0] = a := bs_get (l := [a]) (k := 0) (by simp)
    have hempF : (bs ([45, a])).toList.isEmpty = false := bs_nonempty (by simp)
    have hszF : (bs ([45, a])).size = 1 + 1 := by rw [bs_size]; simp
    have h0F : 0 < (bs ([45, a])).size := by omega
    have hgF : (bs ([45, a]))[0] = 45 := bs_get (l := [45, a]) (k := 0) (by simp)
    have hslF : ∀ wx, (Instr.slice 9 (.string (bs ([45, a]))) (some (.int .i64 1)) none none).run Tryz.prog wx = .ok (.string (bs ([a]))) wx := fun wx => slice_from_bs (P := Tryz.prog) 9 Tryz.underlying9 ([45, a]) 1 1 rfl (by simp) wx
    by_cases ha48 : a.toNat = 48
    · have hq : ((a.toNat : Int) == 48) = true := by rw [beq_iff_eq]; omega
      have HA := hide ha48
      clear ha48
      go_enter Tryz.func181, Tryz.ntmps181
      go_wp2
      go_ret
      exact ⟨ret_int (by have := unhide HA; unfold Sp.num; simp only []; rw [if_neg (by omega)]; rfl), rfl⟩
    have hq : ((a.toNat : Int) == 48) = false := by rw [beq_eq_false_iff_ne]; omega
    by_cases hlo : a.toNat < 48
    · have hlo' : (a.toNat : Int) < 48 := by omega
      go_enter Tryz.func181, Tryz.ntmps181
      go_wp2
      refine wp_loop_rounds 2 ?_
      rw [rounds_succ]
      go_wp2
      go_ret
      exact ⟨ret_int (by unfold Sp.num; simp only []; rw [if_neg (by omega)]; rfl), rfl⟩
    by_cases hhi : 57 < a.toNat
    · have hhi' : (57 : Int) < a.toNat := by omega
      have hlo' : ¬ (a.toNat : Int) < 48 := by omega
      go_enter Tryz.func181, Tryz.ntmps181
      go_wp2
      refine wp_loop_rounds 2 ?_
      rw [rounds_succ]
      go_wp2
      go_ret
      exact ⟨ret_int (by unfold Sp.num; simp only []; rw [if_neg (by omega)]; rfl), rfl⟩
    have hlo' : ¬ (a.toNat : Int) < 48 := by omega
    have hhi' : ¬ (57 : Int) < a.toNat := by omega
    go_enter Tryz.func181, Tryz.ntmps181
    go_wp2
    refine wp_loop_rounds 3 ?_
    rw [rounds_succ]
    go_wp2
    rw [rounds_succ]
    go_wp2
    go_ret
    exact ⟨ret_int (by unfold Sp.num; simp only []; rw [if_pos (by omega)]), rfl⟩
  · have hemp : (bs ([a, b])).toList.isEmpty = false := bs_nonempty (by simp)
    have hsz : (bs ([a, b])).size = 2 := by rw [bs_size]; simp
    have h0 : 0 < (bs ([a, b])).size := by omega
    have hg0 : (bs ([a, b]))[0] = a := bs_get (l := [a, b]) (k := 0) (by simp)
    have hempF : (bs ([45, a, b])).toList.isEmpty = false := bs_nonempty (by simp)
    have hszF : (bs ([45, a, b])).size = 2 + 1 := by rw [bs_size]; simp
    have h0F : 0 < (bs ([45, a, b])).size := by omega
    have hgF : (bs ([45, a, b]))[0] = 45 := bs_get (l := [45, a, b]) (k := 0) (by simp)
    have hslF : ∀ wx, (Instr.slice 9 (.string (bs ([45, a, b]))) (some (.int .i64 1)) none none).run Tryz.prog wx = .ok (.string (bs ([a, b]))) wx := fun wx => slice_from_bs (P := Tryz.prog) 9 Tryz.underlying9 ([45, a, b]) 1 1 rfl (by simp) wx
    have hbb := UInt8.toNat_lt b
    have h1 : 1 < (bs [a, b]).size := by omega
    have hg1 : (bs [a, b])[1] = b := bs_get (l := [a, b]) (k := 1) (by simp)
    by_cases ha48 : a.toNat = 48
    · have hq : ((a.toNat : Int) == 48) = true := by rw [beq_iff_eq]; omega
      have HA := hide ha48
      clear ha48
      go_enter Tryz.func181, Tryz.ntmps181
      go_wp2
      go_ret
      exact ⟨ret_int (by have := unhide HA; unfold Sp.num; simp only []; rw [if_neg (by omega)]; rfl), rfl⟩
    have hq : ((a.toNat : Int) == 48) = false := by rw [beq_eq_false_iff_ne]; omega
    by_cases hlo : a.toNat < 48
    · have hlo' : (a.toNat : Int) < 48 := by omega
      go_enter Tryz.func181, Tryz.ntmps181
      go_wp2
      refine wp_loop_rounds 2 ?_
      rw [rounds_succ]
      go_wp2
      go_ret
      exact ⟨ret_int (by unfold Sp.num; simp only []; rw [if_neg (by omega)]; rfl), rfl⟩
    by_cases hhi : 57 < a.toNat
    · have hhi' : (57 : Int) < a.toNat := by omega
      have hlo' : ¬ (a.toNat : Int) < 48 := by omega
      go_enter Tryz.func181, Tryz.ntmps181
      go_wp2
      refine wp_loop_rounds 2 ?_
      rw [rounds_succ]
      go_wp2
      go_ret
      exact ⟨ret_int (by unfold Sp.num; simp only []; rw [if_neg (by omega)]; rfl), rfl⟩
    have hlo' : ¬ (a.toNat : Int) < 48 := by omega
    have hhi' : ¬ (57 : Int) < a.toNat := by omega
    by_cases hblo : b.toNat < 48
    · have hblo' : (b.toNat : Int) < 48 := by omega
      go_enter Tryz.func181, Tryz.ntmps181
      go_wp2
      refine wp_loop_rounds 3 ?_
      rw [rounds_succ]
      go_wp2
      rw [rounds_succ]
      go_wp2
      go_ret
      exact ⟨ret_int (by unfold Sp.num; simp only []; rw [if_neg (by omega)]; rfl), rfl⟩
    by_cases hbhi : 57 < b.toNat
    · have hbhi' : (57 : Int) < b.toNat := by omega
      have hblo' : ¬ (b.toNat : Int) < 48 := by omega
      go_enter Tryz.func181, Tryz.ntmps181
      go_wp2
      refine wp_loop_rounds 3 ?_
      rw [rounds_succ]
      go_wp2
      rw [rounds_succ]
      go_wp2
      go_ret
      exact ⟨ret_int (by unfold Sp.num; simp only []; rw [if_neg (by omega)]; rfl), rfl⟩
    have hblo' : ¬ (b.toNat : Int) < 48 := by omega
    have hbhi' : ¬ (57 : Int) < b.toNat := by omega
    by_cases hsum : (12 : Int) < 10 * ((a.toNat : Int) - 48) + ((b.toNat : Int) - 48)
    · go_enter Tryz.func181, Tryz.ntmps181
      go_wp2
      refine wp_loop_rounds 3 ?_
      rw [rounds_succ]
      go_wp2
      rw [rounds_succ]
      go_wp2
      rw [rounds_succ]
      go_wp2
      go_ret
      exact ⟨ret_int (by unfold Sp.num; simp only []; rw [if_neg (by omega)]; rfl), rfl⟩
    go_enter Tryz.func181, Tryz.ntmps181
    go_wp2
    refine wp_loop_rounds 3 ?_
    rw [rounds_succ]
    go_wp2
    rw [rounds_succ]
    go_wp2
    rw [rounds_succ]
    go_wp2
    go_ret
    exact ⟨ret_int (by unfold Sp.num; simp only []; rw [if_pos (by omega)]; omega), rfl⟩
  · have hemp : (bs (a :: b :: c :: r)).toList.isEmpty = false := bs_nonempty (by simp)
    have hsz : (bs (a :: b :: c :: r)).size = r.length + 3 := by rw [bs_size]; simp
    have h0 : 0 < (bs (a :: b :: c :: r)).size := by omega
    have hg0 : (bs (a :: b :: c :: r))[0] = a := bs_get (l := a :: b :: c :: r) (k := 0) (by simp)
    have hempF : (bs (45 :: a :: b :: c :: r)).toList.isEmpty = false := bs_nonempty (by simp)
    have hszF : (bs (45 :: a :: b :: c :: r)).size = r.length + 3 + 1 := by rw [bs_size]; simp
    have h0F : 0 < (bs (45 :: a :: b :: c :: r)).size := by omega
    have hgF : (bs (45 :: a :: b :: c :: r))[0] = 45 := bs_get (l := 45 :: a :: b :: c :: r) (k := 0) (by simp)
    have hslF : ∀ wx, (Instr.slice 9 (.string (bs (45 :: a :: b :: c :: r))) (some (.int .i64 1)) none none).run Tryz.prog wx = .ok (.string (bs (a :: b :: c :: r))) wx := fun wx => slice_from_bs (P := Tryz.prog) 9 Tryz.underlying9 (45 :: a :: b :: c :: r) 1 1 rfl (by simp) wx
    have hbig : (2 : Int) < (r.length : Int) + 3 := by omega
    go_enter Tryz.func181, Tryz.ntmps181
    go_wp2
    go_ret
    exact ⟨ret_int (by simp [Sp.num]), rfl⟩

end Go.Proofs.YtekkkoipcghlmaaGreatDoor
