import Derived.Test.YtekkkoipcghlmaaGreatDoorJ05
import Derived.Test.YtekkkoipcghlmaaGreatDoorJ01
import Derived.Test.YtekkkoipcghlmaaGreatDoorProg
namespace Go.Proofs.YtekkkoipcghlmaaGreatDoor
open Go.RowKit

theorem seg_snoc (s : List UInt8) (f k : Nat) (hf : f ≤ k) (hk : k < s.length) : (s.drop f).take (k + 1 - f) = (s.drop f).take (k - f) ++ [s[k]] := by
  rw [show k + 1 - f = (k - f) + 1 from by omega, List.take_succ_eq_append_getElem (by simp; omega)]
  simp [show f + (k - f) = k from by omega]

set_option maxRecDepth 100000 in
set_option maxHeartbeats 400000 in
theorem lines_any (s : List UInt8) (w : World) (hs : s.length ≤ 10000000) :
    Calls Tryz.prog 149 #[.string (bs s)] w fun e w' => ∃ v, e = .returned (.tuple #[v, .bool (Sp.ended s)]) ∧ w'.ownsRow w.heap.size 9 1 v (Sp.lines s).length (strs (Sp.lines s)) ∧ Below w.heap.size w w' := by
  have hsz := bs_size s
  go_enter Tryz.func149, Tryz.ntmps149
  go_wp2_with fail
  go_loopw [4, 5, 6] (fun v fr i wr => ∃ (k f : Nat) (O : List (List UInt8)), f ≤ k ∧ k ≤ s.length ∧ i = .int .i64 k ∧ fr = .int .i64 f ∧ wr.ownsRow w.heap.size 9 1 v O.length (strs O) ∧ Below w.heap.size w wr ∧ O.length ≤ k ∧
      Hid (O ++ Sp.linesAux ((s.drop f).take (k - f)) (s.drop k) = Sp.lines s) ∧ Hid (Sp.endAux ((s.drop f).take (k - f)) (s.drop k) = Sp.ended s))
    (fun _ _ i _ => s.length - (intOf i).toNat)
  case atStart => exact ⟨0, 0, [], Nat.le_refl _, Nat.zero_le _, rfl, rfl, World.ownsRow_nil _ _ _ _, Below.refl _ _, by simp, rfl, rfl⟩
  case round =>
    obtain ⟨k, f, O, hf, hk, rfl, rfl, hown, hbel, hO, HI, HE⟩ := hrel
    by_cases hlt : k < s.length
    · have hlt' : k < (bs s).size := by omega
      have HD : Hid (s.drop k = s[k] :: s.drop (k + 1)) := hide (List.drop_eq_getElem_cons hlt)
      have HB : Hid ((bs s)[k] = s[k]) := hide (bs_get hlt)
      have HN := hide (seg_snoc s f k hf hlt)
      by_cases hc : s[k] = 10
      · have ht : (((bs s)[k].toNat : Int) == 10) = true := by rw [unhide HB, hc]; rfl
        have HC := hide hc
        clear hc
        have hsl := fun wx => slice_bs (P := Tryz.prog) 9 Tryz.underlying9 s f k f k rfl rfl hf (by omega) wx
        go_wp2_with (at_builtin; refine append_one rfl _ _ 177 9 rfl Tryz.underlying177 Tryz.infoStr rfl (by decide) hown rfl rfl rfl (by omega) (Nat.le_refl _) hbel ?_; intro v' w1 hown' hbel' _)
        go_roundw
        case rel => exact ⟨k + 1, k + 1, O ++ [(s.drop f).take (k - f)], Nat.le_refl _, by omega, by go_num, by go_num, by simpa [strs] using hown', hbel', by simp; omega, hide (by rw [← unhide HI, unhide HD, unhide HC]; simp [Sp.linesAux]), hide (by rw [← unhide HE, unhide HD, unhide HC]; simp [Sp.endAux])⟩
        case measure => simp [intOf]; omega
      · have ht : (((bs s)[k].toNat : Int) == 10) = false := by rw [unhide HB]; exact byte_ne (by decide) hc
        have HC := hide hc
        clear hc
        go_wp2
        go_roundw
        case rel => exact ⟨k + 1, f, O, by omega, by omega, by go_num, rfl, hown, hbel, by omega, hide (by rw [← unhide HI, unhide HD, unhide HN, Sp.linesAux, if_neg (unhide HC)]; rfl), hide (by rw [← unhide HE, unhide HD, unhide HN, Sp.endAux, if_neg (unhide HC)]; rfl)⟩
        case measure => simp [intOf]; omega
    · have HL : Hid (s.drop k = []) := hide (List.drop_eq_nil_of_le (by omega))
      have HF : Hid ((s.drop f).take (k - f) = s.drop f) := hide (List.take_of_length_le (by simp; omega))
      by_cases hfl : f < s.length
      · have HG : Hid (¬ s.drop f = []) := hide (by intro h; have := congrArg List.length h; simp at this; omega)
        have hsl := fun wx => slice_from_bs (P := Tryz.prog) 9 Tryz.underlying9 s f f rfl (by omega) wx
        go_wp2_with (at_builtin; refine append_one rfl _ _ 177 9 rfl Tryz.underlying177 Tryz.infoStr rfl (by decide) hown rfl rfl rfl (by omega) (Nat.le_refl _) hbel ?_; intro v' w1 hown' hbel' _)
        go_ret2
        have hfin : Sp.lines s = O ++ [s.drop f] := by rw [← unhide HI, unhide HL, unhide HF]; simp only [Sp.linesAux]; rw [if_neg (unhide HG)]
        have hend : Sp.ended s = false := by rw [← unhide HE, unhide HL, unhide HF]; simpa [Sp.endAux] using unhide HG
        exact ⟨_, by rw [hend]; rfl, by rw [hfin]; simpa [strs] using hown', hbel'⟩
      · have HG : Hid (s.drop f = []) := hide (List.drop_eq_nil_of_le (by omega))
        go_wp2
        go_ret2
        have hfin : Sp.lines s = O := by rw [← unhide HI, unhide HL, unhide HF, unhide HG]; simp [Sp.linesAux]
        have hend : Sp.ended s = true := by rw [← unhide HE, unhide HL, unhide HF, unhide HG]; simp [Sp.endAux]
        exact ⟨_, by rw [hend]; rfl, by rw [hfin]; exact hown, hbel⟩

end Go.Proofs.YtekkkoipcghlmaaGreatDoor

namespace Go.Proofs.YtekkkoipcghlmaaGreatDoor
open Go.RowKit

set_option maxHeartbeats 400000 in
theorem in_any (v : Value) (xs : List Int) (n : Int) (w : World) (hl : xs.length ≤ 10000000) (hv : Lies w v (ints xs)) :
    Calls Tryz.prog 144 #[v, .int .i64 n] w fun e w' => e = .returned (.bool (xs.contains n)) ∧ w' = w := by
  rcases hv with ⟨h0, ao, cap, rfl⟩ | ⟨b, off, cap, hp, rfl, hb, hc⟩
  · have hx : xs = [] := by simpa [ints] using h0
    subst hx
    go_enter Tryz.func144, Tryz.ntmps144
    go_wp2
    refine wp_loop_rounds 1 ?_
    rw [rounds_succ]
    go_wp2
    go_ret
    exact ⟨rfl, rfl⟩
  · have hlen : (ints xs).length = xs.length := by simp [ints]
    rw [hlen] at hp ⊢
    go_enter Tryz.func144, Tryz.ntmps144
    go_wp2
    go_loop [5] (fun i => ∃ k : Nat, k ≤ xs.length ∧ i = .int .i64 k ∧ n ∉ xs.take k) (fun i => xs.length - (intOf i).toNat)
    case atStart => exact ⟨0, Nat.zero_le _, rfl, by simp⟩
    case round =>
      obtain ⟨k, hk, rfl, hno⟩ := hrel
      by_cases hlt : k < xs.length
      · have hcell := hc k (.int .i64 xs[k]) (by simp [ints, hlt])
        have HM : Hid (xs[k] ∈ xs) := hide (List.getElem_mem hlt)
        have HS : Hid (xs.take (k + 1) = xs.take k ++ [xs[k]]) := hide (List.take_succ_eq_append_getElem hlt)
        generalize xs[k] = x at hcell HM HS
        clear hc
        by_cases hx : x = n
        · have hq : (x == n) = true := by simpa using hx
          have HX : Hid (x = n) := hide hx
          clear hx
          go_wp2
          go_ret
          exact ⟨by rw [← unhide HX]; simp [unhide HM], rfl⟩
        · have hq : (x == n) = false := by simpa using hx
          have HX : Hid (¬ x = n) := hide hx
          clear hx
          go_wp2
          go_round
          case rel => exact ⟨k + 1, by omega, by go_num, by rw [unhide HS]; simp [hno]; exact fun h => unhide HX h.symm⟩
          case measure => simp [intOf]; omega
      · go_wp2
        go_ret
        have : xs.take k = xs := List.take_of_length_le (by omega)
        rw [this] at hno
        exact ⟨by simp [hno], rfl⟩

end Go.Proofs.YtekkkoipcghlmaaGreatDoor

namespace Go.Proofs.YtekkkoipcghlmaaGreatDoor
open Go.RowKit

theorem Tryz.infoInt : (Tryz.prog.info? 3).map (fun i => (i.zero, i.size, i.bytes)) = some (some (.int .i64 0), 1, 8) := by kernel_rfl

set_option maxRecDepth 100000 in
set_option maxHeartbeats 800000 in
theorem sorted_any (v : Value) (xs : List Int) (w : World) (hl : xs.length ≤ 10000000) (hv : Lies w v (ints xs)) :
    Calls Tryz.prog 100 #[v] w fun e w' => ∃ v', e = .returned v' ∧ w'.ownsRow w.heap.size 3 1 v' (Sp.sorted xs).length (ints (Sp.sorted xs)) ∧ Below w.heap.size w w' := by
  go_enter Tryz.func100, Tryz.ntmps100
  go_wp2_with fail
  go_loopw [3, 4] (fun o i wr => ∃ (k : Nat), k ≤ 12 ∧ i = .int .i64 (k + 1) ∧ wr.ownsRow w.heap.size 3 1 o (Sp.sortedTo xs k).length (ints (Sp.sortedTo xs k)) ∧ Below w.heap.size w wr)
    (fun _ i _ => 13 - (intOf i).toNat)
  case atStart => exact ⟨0, by omega, rfl, World.ownsRow_nil _ _ _ _, Below.refl _ _⟩
  case round =>
    obtain ⟨k, hk, rfl, hown, hbel⟩ := hrel
    have hv' := hv.below hbel
    have hlen := Sp.sortedTo_len xs k
    by_cases hlt : k < 12
    · have HT := hide (Sp.sortedTo_succ xs k)
      have hlt2 : (k : Int) + 1 ≤ 12 := by omega
      have h1 := in_any v xs ((k : Int) + 1) wr hl hv'
      have h2 := in_any v xs (-((k : Int) + 1)) wr hl hv'
      have HA : Hid (Sp.sortedAt xs k = (if xs.contains ((k : Int) + 1) then [(k : Int) + 1] else []) ++ (if xs.contains (-((k : Int) + 1)) then [-((k : Int) + 1)] else [])) := rfl
      have H1 := hide h1
      have H2 := hide h2
      clear h1 h2
      cases hc1 : xs.contains ((k : Int) + 1) <;> cases hc2 : xs.contains (-((k : Int) + 1))
      all_goals rw [hc1] at H1 HA
      all_goals rw [hc2] at H2 HA
      all_goals clear hc1 hc2
      · go_wp2_with fail
        refine (unhide H1).mono ?_
        rintro e w1 ⟨rfl, rfl⟩
        go_wp2_with fail
        refine (unhide H2).mono ?_
        rintro e w1 ⟨rfl, rfl⟩
        go_wp2
        go_roundw
        case rel => exact ⟨k + 1, by omega, by go_num, by rw [unhide HT, unhide HA]; simpa using hown, hbel⟩
        case measure => simp [intOf]; omega
      · go_wp2_with fail
        refine (unhide H1).mono ?_
        rintro e w1 ⟨rfl, rfl⟩
        go_wp2_with fail
        refine (unhide H2).mono ?_
        rintro e w1 ⟨rfl, rfl⟩
        go_wp2_with (at_builtin; refine append_one rfl _ _ 25 3 rfl Tryz.underlying25 Tryz.infoInt rfl (by decide) hown rfl rfl rfl (by omega) (Nat.le_refl _) hbel ?_; intro v1 w1 hown1 hbel1 _)
        go_roundw
        case rel => exact ⟨k + 1, by omega, by go_num, by rw [unhide HT, unhide HA]; simpa [ints] using hown1, hbel1⟩
        case measure => simp [intOf]; omega
      · go_wp2_with fail
        refine (unhide H1).mono ?_
        rintro e w1 ⟨rfl, rfl⟩
        go_wp2_with fail
        refine (unhide H2).mono ?_
        rintro e w1 ⟨rfl, rfl⟩
        go_wp2_with (at_builtin; refine append_one rfl _ _ 25 3 rfl Tryz.underlying25 Tryz.infoInt rfl (by decide) hown rfl rfl rfl (by omega) (Nat.le_refl _) hbel ?_; intro v1 w1 hown1 hbel1 _)
        go_roundw
        case rel => exact ⟨k + 1, by omega, by go_num, by rw [unhide HT, unhide HA]; simpa [ints] using hown1, hbel1⟩
        case measure => simp [intOf]; omega
      · go_wp2_with fail
        refine (unhide H1).mono ?_
        rintro e w1 ⟨rfl, rfl⟩
        go_wp2_with fail
        refine (unhide H2).mono ?_
        rintro e w1 ⟨rfl, rfl⟩
        go_wp2_with (first | (at_builtin; refine append_one rfl (.tmp 19) (.tmp 21) 25 3 rfl Tryz.underlying25 Tryz.infoInt rfl (by decide) hown rfl rfl rfl (by omega) (Nat.le_refl _) hbel ?_; intro v1 w1 hown1 hbel1 _) | (at_builtin; refine append_one rfl (.tmp 24) (.tmp 27) 25 3 rfl Tryz.underlying25 Tryz.infoInt rfl (by decide) hown1 rfl rfl rfl (by omega) (Nat.le_refl _) hbel1 ?_; intro v2 w2 hown2 hbel2 _))
        go_roundw
        case rel => exact ⟨k + 1, by omega, by go_num, by rw [unhide HT, unhide HA]; simpa [ints] using hown2, hbel2⟩
        case measure => simp [intOf]; omega
    · go_wp2
      go_ret
      have : k = 12 := by omega
      subst this
      exact ⟨_, rfl, hown, hbel⟩

end Go.Proofs.YtekkkoipcghlmaaGreatDoor
