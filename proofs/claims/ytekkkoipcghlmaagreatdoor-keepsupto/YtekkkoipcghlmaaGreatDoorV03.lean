import Derived.Test.YtekkkoipcghlmaaGreatDoorV01
import Derived.Test.YtekkkoipcghlmaaGreatDoorProg
set_option linter.all false
namespace Go.Proofs.YtekkkoipcghlmaaGreatDoor
open Go.RowKit

theorem Tryz.infoStr : (Tryz.prog.info? 9).map (fun i => (i.zero, i.size, i.bytes)) = some (some (.string ⟨#[]⟩), 1, 16) := by kernel_rfl

set_option maxRecDepth 100000 in
set_option maxHeartbeats 400000 in
theorem words_any (s : List UInt8) (w : World) (hs : s.length ≤ 10000000) (hne : s ≠ []) :
    Calls Tryz.prog 150 #[.string (bs s)] w fun e w' => ∃ v, e = .returned v ∧ w'.ownsRow w.heap.size 9 1 v (Sp.words s).length (strs (Sp.words s)) ∧ Below w.heap.size w w' := by
  obtain ⟨i0, hi, hz0, hz1, hz2⟩ := info_parts Tryz.infoStr
  have hsz := bs_size s
  have hemp : (bs s).toList.isEmpty = false := bs_nonempty hne
  have HW : Hid (Sp.words s = Sp.wordsAux [] s) := hide (by simp [Sp.words, hne])
  go_enter Tryz.func150, Tryz.ntmps150
  go_wp2_with fail
  go_loopw [3, 4, 5] (fun v c i wr => ∃ (k : Nat) (O : List (List UInt8)) (cur : List UInt8), k ≤ s.length ∧ i = .int .i64 k ∧ c = .string (bs cur) ∧ wr.ownsRow w.heap.size 9 1 v O.length (strs O) ∧ Below w.heap.size w wr ∧ O.length ≤ k ∧ cur.length ≤ k ∧ Hid (O ++ Sp.wordsAux cur (s.drop k) = Sp.wordsAux [] s))
    (fun _ _ i _ => s.length - (intOf i).toNat)
  case atStart => exact ⟨0, [], [], Nat.zero_le _, rfl, rfl, World.ownsRow_nil _ _ _ _, Below.refl _ _, by simp, by simp, rfl⟩
  case round =>
    obtain ⟨k, O, cur, hk, rfl, rfl, hown, hbel, hO, hcur, HI⟩ := hrel
    by_cases hlt : k < s.length
    · have hlt' : k < (bs s).size := by omega
      have HD : Hid (s.drop k = s[k] :: s.drop (k + 1)) := hide (List.drop_eq_getElem_cons hlt)
      have HB : Hid ((bs s)[k] = s[k]) := hide (bs_get hlt)
      by_cases hc : s[k] = 32
      · have ht : (((bs s)[k].toNat : Int) == 32) = true := by rw [unhide HB, hc]; rfl
        have HC := hide hc
        clear hc
        go_wp2_with (at_builtin; refine append_one rfl _ _ 177 9 rfl Tryz.underlying177 Tryz.infoStr rfl (by decide) hown rfl rfl rfl (by omega) (Nat.le_refl _) hbel ?_; intro v' w1 hown' hbel' _)
        go_roundw
        case rel => exact ⟨k + 1, O ++ [cur], [], by omega, by go_num, rfl, by simpa [strs] using hown', hbel', by simp; omega, by simp, hide (by rw [← unhide HI, unhide HD, unhide HC]; simp [Sp.wordsAux])⟩
        case measure => simp [intOf]; omega
      · have ht : (((bs s)[k].toNat : Int) == 32) = false := by rw [unhide HB]; exact byte_ne (by decide) hc
        have HC := hide hc
        clear hc
        have hsl := fun wx => slice_bs (P := Tryz.prog) 9 Tryz.underlying9 s k (k + 1) k (k + 1) rfl rfl (by omega) (by omega) wx
        have e1 : (s.drop k).take (k + 1 - k) = [s[k]] := by rw [unhide HD]; simp
        rw [e1] at hsl
        clear e1
        have hadd := fun wx => add_bs (P := Tryz.prog) cur [s[k]] (by simp; omega) wx
        go_wp2
        go_roundw
        case rel => exact ⟨k + 1, O, cur ++ [s[k]], by omega, by go_num, rfl, hown, hbel, by omega, by simp; omega, hide (by rw [← unhide HI, unhide HD]; simp [Sp.wordsAux, unhide HC])⟩
        case measure => simp [intOf]; omega
    · have HE : Hid (s.drop k = []) := hide (List.drop_eq_nil_of_le (by omega))
      go_wp2_with (at_builtin; refine append_one rfl _ _ 177 9 rfl Tryz.underlying177 Tryz.infoStr rfl (by decide) hown rfl rfl rfl (by omega) (Nat.le_refl _) hbel ?_; intro v' w1 hown' hbel' _)
      go_ret
      have hfin : Sp.words s = O ++ [cur] := by rw [unhide HW, ← unhide HI, unhide HE]; rfl
      exact ⟨_, rfl, by rw [hfin]; simpa [strs] using hown', hbel'⟩

theorem words_nil (w : World) :
    Calls Tryz.prog 150 #[.string (bs [])] w fun e w' => e = .returned (.slice none 0 0) ∧ w' = w := by
  have hemp : (bs []).toList.isEmpty = true := by rw [bs_toList]; rfl
  go_enter Tryz.func150, Tryz.ntmps150
  go_wp2
  go_ret
  exact ⟨rfl, rfl⟩

end Go.Proofs.YtekkkoipcghlmaaGreatDoor

namespace Go.Proofs.YtekkkoipcghlmaaGreatDoor
open Go.RowKit

theorem seg_snoc (s : List UInt8) (f k : Nat) (hf : f ≤ k) (hk : k < s.length) : (s.drop f).take (k + 1 - f) = (s.drop f).take (k - f) ++ [s[k]] := by
  rw [show k + 1 - f = (k - f) + 1 from by omega, List.take_succ_eq_append_getElem (by simp; omega)]
  simp [show f + (k - f) = k from by omega]

set_option maxRecDepth 100000 in
set_option maxHeartbeats 400000 in
theorem lines_any (s : List UInt8) (w : World) (hs : s.length ≤ 10000000) :
    Calls Tryz.prog 149 #[.string (bs s)] w fun e w' => ∃ v, e = .returned (.tuple #[v, .bool (Sp.ended s)]) ∧ w'.ownsRow w.heap.size 9 1 v (Sp.lines s).length (strs (Sp.lines s)) ∧ Below w.heap.size w w' := by
  have hsz := bs_size s
  go_enter Tryz.func149, Tryz.ntmps149
  go_wp2_with fail
  go_loopw [4, 5, 6] (fun v fr i wr => ∃ (k f : Nat) (O : List (List UInt8)), f ≤ k ∧ k ≤ s.length ∧ i = .int .i64 k ∧ fr = .int .i64 f ∧ wr.ownsRow w.heap.size 9 1 v O.length (strs O) ∧ Below w.heap.size w wr ∧ O.length ≤ k ∧
      Hid (O ++ Sp.linesAux ((s.drop f).take (k - f)) (s.drop k) = Sp.lines s) ∧ Hid (Sp.endAux ((s.drop f).take (k - f)) (s.drop k) = Sp.ended s))
    (fun _ _ i _ => s.length - (intOf i).toNat)
  case atStart => exact ⟨0, 0, [], Nat.le_refl _, Nat.zero_le _, rfl, rfl, World.ownsRow_nil _ _ _ _, Below.refl _ _, by simp, rfl, rfl⟩
  case round =>
    obtain ⟨k, f, O, hf, hk, rfl, rfl, hown, hbel, hO, HI, HE⟩ := hrel
    by_cases hlt : k < s.length
    · have hlt' : k < (bs s).size := by omega
      have HD : Hid (s.drop k = s[k] :: s.drop (k + 1)) := hide (List.drop_eq_getElem_cons hlt)
      have HB : Hid ((bs s)[k] = s[k]) := hide (bs_get hlt)
      have HN := hide (seg_snoc s f k hf hlt)
      by_cases hc : s[k] = 10
      · have ht : (((bs s)[k].toNat : Int) == 10) = true := by rw [unhide HB, hc]; rfl
        have HC := hide hc
        clear hc
        have hsl := fun wx => slice_bs (P := Tryz.prog) 9 Tryz.underlying9 s f k f k rfl rfl hf (by omega) wx
        go_wp2_with (at_builtin; refine append_one rfl _ _ 177 9 rfl Tryz.underlying177 Tryz.infoStr rfl (by decide) hown rfl rfl rfl (by omega) (Nat.le_refl _) hbel ?_; intro v' w1 hown' hbel' _)
        go_roundw
        case rel => exact ⟨k + 1, k + 1, O ++ [(s.drop f).take (k - f)], Nat.le_refl _, by omega, by go_num, by go_num, by simpa [strs] using hown', hbel', by simp; omega, hide (by rw [← unhide HI, unhide HD, unhide HC]; simp [Sp.linesAux]), hide (by rw [← unhide HE, unhide HD, unhide HC]; simp [Sp.endAux])⟩
        case measure => simp [intOf]; omega
      · have ht : (((bs s)[k].toNat : Int) == 10) = false := by rw [unhide HB]; exact byte_ne (by decide) hc
        have HC := hide hc
        clear hc
        go_wp2
        go_roundw
        case rel => exact ⟨k + 1, f, O, by omega, by omega, by go_num, rfl, hown, hbel, by omega, hide (by rw [← unhide HI, unhide HD, unhide HN, Sp.linesAux, if_neg (unhide HC)]; rfl), hide (by rw [← unhide HE, unhide HD, unhide HN, Sp.endAux, if_neg (unhide HC)]; rfl)⟩
        case measure => simp [intOf]; omega
    · have HL : Hid (s.drop k = []) := hide (List.drop_eq_nil_of_le (by omega))
      have HF : Hid ((s.drop f).take (k - f) = s.drop f) := hide (List.take_of_length_le (by simp; omega))
      by_cases hfl : f < s.length
      · have HG : Hid (¬ s.drop f = []) := hide (by intro h; have := congrArg List.length h; simp at this; omega)
        have hsl := fun wx => slice_from_bs (P := Tryz.prog) 9 Tryz.underlying9 s f f rfl (by omega) wx
        go_wp2_with (at_builtin; refine append_one rfl _ _ 177 9 rfl Tryz.underlying177 Tryz.infoStr rfl (by decide) hown rfl rfl rfl (by omega) (Nat.le_refl _) hbel ?_; intro v' w1 hown' hbel' _)
        go_ret2
        have hfin : Sp.lines s = O ++ [s.drop f] := by rw [← unhide HI, unhide HL, unhide HF]; simp only [Sp.linesAux]; rw [if_neg (unhide HG)]
        have hend : Sp.ended s = false := by rw [← unhide HE, unhide HL, unhide HF]; simpa [Sp.endAux] using unhide HG
        exact ⟨_, by rw [hend]; rfl, by rw [hfin]; simpa [strs] using hown', hbel'⟩
      · have HG : Hid (s.drop f = []) := hide (List.drop_eq_nil_of_le (by omega))
        go_wp2
        go_ret2
        have hfin : Sp.lines s = O := by rw [← unhide HI, unhide HL, unhide HF, unhide HG]; simp [Sp.linesAux]
        have hend : Sp.ended s = true := by rw [← unhide HE, unhide HL, unhide HF, unhide HG]; simp [Sp.endAux]
        exact ⟨_, by rw [hend]; rfl, by rw [hfin]; exact hown, hbel⟩

end Go.Proofs.YtekkkoipcghlmaaGreatDoor

namespace Go.Proofs.YtekkkoipcghlmaaGreatDoor
open Go.RowKit

set_option maxHeartbeats 400000 in
theorem in_any (v : Value) (xs : List Int) (n : Int) (w : World) (hl : xs.length ≤ 10000000) (hv : Lies w v (ints xs)) :
    Calls Tryz.prog 144 #[v, .int .i64 n] w fun e w' => e = .returned (.bool (xs.contains n)) ∧ w' = w := by
  rcases hv with ⟨h0, ao, cap, rfl⟩ | ⟨b, off, cap, hp, rfl, hb, hc⟩
  · have hx : xs = [] := by simpa [ints] using h0
    subst hx
    go_enter Tryz.func144, Tryz.ntmps144
    go_wp2
    refine wp_loop_rounds 1 ?_
    rw [rounds_succ]
    go_wp2
    go_ret
    exact ⟨rfl, rfl⟩
  · have hlen : (ints xs).length = xs.length := by simp [ints]
    rw [hlen] at hp ⊢
    go_enter Tryz.func144, Tryz.ntmps144
    go_wp2
    go_loop [5] (fun i => ∃ k : Nat, k ≤ xs.length ∧ i = .int .i64 k ∧ n ∉ xs.take k) (fun i => xs.length - (intOf i).toNat)
    case atStart => exact ⟨0, Nat.zero_le _, rfl, by simp⟩
    case round =>
      obtain ⟨k, hk, rfl, hno⟩ := hrel
      by_cases hlt : k < xs.length
      · have hcell := hc k (.int .i64 xs[k]) (by simp [ints, hlt])
        have HM : Hid (xs[k] ∈ xs) := hide (List.getElem_mem hlt)
        have HS : Hid (xs.take (k + 1) = xs.take k ++ [xs[k]]) := hide (List.take_succ_eq_append_getElem hlt)
        generalize xs[k] = x at hcell HM HS
        clear hc
        by_cases hx : x = n
        · have hq : (x == n) = true := by simpa using hx
          have HX : Hid (x = n) := hide hx
          clear hx
          go_wp2
          go_ret
          exact ⟨by rw [← unhide HX]; simp [unhide HM], rfl⟩
        · have hq : (x == n) = false := by simpa using hx
          have HX : Hid (¬ x = n) := hide hx
          clear hx
          go_wp2
          go_round
          case rel => exact ⟨k + 1, by omega, by go_num, by rw [unhide HS]; simp [hno]; exact fun h => unhide HX h.symm⟩
          case measure => simp [intOf]; omega
      · go_wp2
        go_ret
        have : xs.take k = xs := List.take_of_length_le (by omega)
        rw [this] at hno
        exact ⟨by simp [hno], rfl⟩

end Go.Proofs.YtekkkoipcghlmaaGreatDoor

namespace Go.Proofs.YtekkkoipcghlmaaGreatDoor
open Go.RowKit

theorem Tryz.infoIntW : (Tryz.prog.info? 3).map (fun i => (i.zero, i.size, i.bytes)) = some (some (.int .i64 0), 1, 8) := by kernel_rfl

set_option maxRecDepth 100000 in
set_option maxHeartbeats 800000 in
theorem sorted_any (v : Value) (xs : List Int) (w : World) (hl : xs.length ≤ 10000000) (hv : Lies w v (ints xs)) :
    Calls Tryz.prog 100 #[v] w fun e w' => ∃ v', e = .returned v' ∧ w'.ownsRow w.heap.size 3 1 v' (Sp.sorted xs).length (ints (Sp.sorted xs)) ∧ Below w.heap.size w w' := by
  go_enter Tryz.func100, Tryz.ntmps100
  go_wp2_with fail
  go_loopw [3, 4] (fun o i wr => ∃ (k : Nat), k ≤ 12 ∧ i = .int .i64 (k + 1) ∧ wr.ownsRow w.heap.size 3 1 o (Sp.sortedTo xs k).length (ints (Sp.sortedTo xs k)) ∧ Below w.heap.size w wr)
    (fun _ i _ => 13 - (intOf i).toNat)
  case atStart => exact ⟨0, by omega, rfl, World.ownsRow_nil _ _ _ _, Below.refl _ _⟩
  case round =>
    obtain ⟨k, hk, rfl, hown, hbel⟩ := hrel
    have hv' := hv.below hbel
    have hlen := Sp.sortedTo_len xs k
    by_cases hlt : k < 12
    · have HT := hide (Sp.sortedTo_succ xs k)
      have hlt2 : (k : Int) + 1 ≤ 12 := by omega
      have h1 := in_any v xs ((k : Int) + 1) wr hl hv'
      have h2 := in_any v xs (-((k : Int) + 1)) wr hl hv'
      have HA : Hid (Sp.sortedAt xs k = (if xs.contains ((k : Int) + 1) then [(k : Int) + 1] else []) ++ (if xs.contains (-((k : Int) + 1)) then [-((k : Int) + 1)] else [])) := rfl
      have H1 := hide h1
      have H2 := hide h2
      clear h1 h2
      cases hc1 : xs.contains ((k : Int) + 1) <;> cases hc2 : xs.contains (-((k : Int) + 1))
      all_goals rw [hc1] at H1 HA
      all_goals rw [hc2] at H2 HA
      all_goals clear hc1 hc2
      · go_wp2_with fail
        refine (unhide H1).mono ?_
        rintro e w1 ⟨rfl, rfl⟩
        go_wp2_with fail
        refine (unhide H2).mono ?_
        rintro e w1 ⟨rfl, rfl⟩
        go_wp2
        go_roundw
        case rel => exact ⟨k + 1, by omega, by go_num, by rw [unhide HT, unhide HA]; simpa using hown, hbel⟩
        case measure => simp [intOf]; omega
      · go_wp2_with fail
        refine (unhide H1).mono ?_
        rintro e w1 ⟨rfl, rfl⟩
        go_wp2_with fail
        refine (unhide H2).mono ?_
        rintro e w1 ⟨rfl, rfl⟩
        go_wp2_with (at_builtin; refine append_one rfl _ _ 25 3 rfl Tryz.underlying25 Tryz.infoIntW rfl (by decide) hown rfl rfl rfl (by omega) (Nat.le_refl _) hbel ?_; intro v1 w1 hown1 hbel1 _)
        go_roundw
        case rel => exact ⟨k + 1, by omega, by go_num, by rw [unhide HT, unhide HA]; simpa [ints] using hown1, hbel1⟩
        case measure => simp [intOf]; omega
      · go_wp2_with fail
        refine (unhide H1).mono ?_
        rintro e w1 ⟨rfl, rfl⟩
        go_wp2_with fail
        refine (unhide H2).mono ?_
        rintro e w1 ⟨rfl, rfl⟩
        go_wp2_with (at_builtin; refine append_one rfl _ _ 25 3 rfl Tryz.underlying25 Tryz.infoIntW rfl (by decide) hown rfl rfl rfl (by omega) (Nat.le_refl _) hbel ?_; intro v1 w1 hown1 hbel1 _)
        go_roundw
        case rel => exact ⟨k + 1, by omega, by go_num, by rw [unhide HT, unhide HA]; simpa [ints] using hown1, hbel1⟩
        case measure => simp [intOf]; omega
      · go_wp2_with fail
        refine (unhide H1).mono ?_
        rintro e w1 ⟨rfl, rfl⟩
        go_wp2_with fail
        refine (unhide H2).mono ?_
        rintro e w1 ⟨rfl, rfl⟩
        go_wp2_with (first | (at_builtin; refine append_one rfl (.tmp 19) (.tmp 21) 25 3 rfl Tryz.underlying25 Tryz.infoIntW rfl (by decide) hown rfl rfl rfl (by omega) (Nat.le_refl _) hbel ?_; intro v1 w1 hown1 hbel1 _) | (at_builtin; refine append_one rfl (.tmp 24) (.tmp 27) 25 3 rfl Tryz.underlying25 Tryz.infoIntW rfl (by decide) hown1 rfl rfl rfl (by omega) (Nat.le_refl _) hbel1 ?_; intro v2 w2 hown2 hbel2 _))
        go_roundw
        case rel => exact ⟨k + 1, by omega, by go_num, by rw [unhide HT, unhide HA]; simpa [ints] using hown2, hbel2⟩
        case measure => simp [intOf]; omega
    · go_wp2
      go_ret
      have : k = 12 := by omega
      subst this
      exact ⟨_, rfl, hown, hbel⟩

end Go.Proofs.YtekkkoipcghlmaaGreatDoor

namespace Go.Proofs.YtekkkoipcghlmaaGreatDoor
open Go.RowKit

set_option maxRecDepth 100000 in
set_option maxHeartbeats 400000 in
theorem digits_any (x : Int) (w : World) (h1 : 1 ≤ x) (h2 : x ≤ 12) :
    Calls Tryz.prog 145 #[.int .i64 x] w fun e w' => e = .returned (.string (bs (Sp.digs x.toNat))) ∧ Below w.heap.size w w' := by
  obtain ⟨n, rfl⟩ := Int.eq_ofNat_of_zero_le (by omega : 0 ≤ x)
  rw [Int.toNat_natCast]
  go_enter Tryz.func145, Tryz.ntmps145
  go_wp2
  go_loopw [0, 3] (fun m s wr => Below w.heap.size w wr ∧ ((m = .int .i64 n ∧ s = .string (bs [])) ∨ (10 ≤ n ∧ m = .int .i64 1 ∧ s = .string (bs [UInt8.ofNat (38 + n)])) ∨ (m = .int .i64 0 ∧ s = .string (bs (Sp.digs n)))))
    (fun m _ _ => (intOf m).toNat)
  case atStart => exact ⟨Below.refl _ _, .inl ⟨rfl, rfl⟩⟩
  case round =>
    obtain ⟨hbel, ⟨rfl, rfl⟩ | ⟨h10, rfl, rfl⟩ | ⟨rfl, rfl⟩⟩ := hrel
    · have hcv := fun wx => conv_one (P := Tryz.prog) 75 9 5 Tryz.underlying75 Tryz.underlying5 Tryz.underlying9 (48 + (n : Int) % 10) (by omega) (by omega) wx
      generalize hc : UInt8.ofNat (48 + (n : Int) % 10).toNat = c at hcv
      have HC := hide hc
      clear hc
      have hadd := fun wx => add_bs (P := Tryz.prog) [c] [] (by simp) wx
      rw [List.append_nil] at hadd
      have hp : (0 : Int) < n := by omega
      go_wp2
      go_roundw
      case rel =>
        refine ⟨hbel.alloc (by have := hbel.size; omega) _, ?_⟩
        by_cases h10 : 10 ≤ n
        · exact .inr (.inl ⟨h10, by rw [show (n : Int) / 10 = 1 from by omega], by rw [← unhide HC, show (48 + (n : Int) % 10).toNat = 38 + n from by omega]⟩)
        · exact .inr (.inr ⟨by rw [show (n : Int) / 10 = 0 from by omega], by rw [← unhide HC, Sp.digs, if_pos (by omega), show (48 + (n : Int) % 10).toNat = 48 + n from by omega]⟩)
      case measure => simp [intOf]; omega
    · have hcv := fun wx => conv_one (P := Tryz.prog) 75 9 5 Tryz.underlying75 Tryz.underlying5 Tryz.underlying9 49 (by omega) (by omega) wx
      have hadd := fun wx => add_bs (P := Tryz.prog) [49] [UInt8.ofNat (38 + n)] (by simp) wx
      have HS : Hid (Sp.digs n = [49] ++ [UInt8.ofNat (38 + n)]) := hide (by rw [Sp.digs, if_neg (by omega)]; rfl)
      generalize UInt8.ofNat (38 + n) = c at hadd HS ⊢
      go_wp2
      go_roundw
      case rel => exact ⟨hbel.alloc (by have := hbel.size; omega) _, .inr (.inr ⟨rfl, by rw [unhide HS]; rfl⟩)⟩
      case measure => simp [intOf]
    · go_wp2
      go_ret
      exact ⟨rfl, hbel⟩

end Go.Proofs.YtekkkoipcghlmaaGreatDoor

namespace Go.Proofs.YtekkkoipcghlmaaGreatDoor
open Go.RowKit

theorem toldBody_snoc (l : List Int) (x : Int) : Sp.toldBody (l ++ [x]) = (if l = [] then Sp.lw x else Sp.toldBody l ++ 32 :: Sp.lw x) := by
  unfold Sp.toldBody
  rw [List.map_append, List.map_singleton, Sp.join_snoc]
  simp
theorem digs_len (n : Nat) : (Sp.digs n).length ≤ 2 := by unfold Sp.digs; split <;> simp
theorem lw_len (x : Int) : (Sp.lw x).length ≤ 3 := by
  unfold Sp.lw; have := digs_len x.natAbs; split <;> simp <;> omega
theorem toldBody_len (l : List Int) : (Sp.toldBody l).length ≤ 4 * l.length := by
  unfold Sp.toldBody
  induction l with
  | nil => simp [Sp.join]
  | cons a r ih =>
    have := lw_len a
    cases r with
    | nil => simp [Sp.join]; omega
    | cons b r => simp [Sp.join] at ih ⊢; omega

theorem take_nil_iff {xs : List Int} {k : Nat} (h : k < xs.length) : xs.take k = [] ↔ k = 0 := by
  rw [List.take_eq_nil_iff]
  constructor
  · rintro (h' | h')
    · exact h'
    · subst h'; simp at h
  · exact fun h' => .inl h'

set_option maxRecDepth 100000 in
set_option maxHeartbeats 800000 in
theorem told_any (v : Value) (xs : List Int) (w : World) (hl : xs.length ≤ 100) (hx : ∀ x, x ∈ xs → x ≠ 0 ∧ -12 ≤ x ∧ x ≤ 12) (hv : Lies w v (ints xs)) :
    Calls Tryz.prog 101 #[v] w fun e w' => e = .returned (.string (bs (Sp.told xs))) ∧ Below w.heap.size w w' := by
  rcases hv with ⟨h0, ao, cap, rfl⟩ | ⟨b, off, cap, hp, rfl, hb, hc⟩
  · have hx0 : xs = [] := by simpa [ints] using h0
    subst hx0
    have hadd := fun wx => add_bs (P := Tryz.prog) [] [10] (by simp) wx
    go_enter Tryz.func101, Tryz.ntmps101
    go_wp2
    refine wp_loop_rounds 1 ?_
    rw [rounds_succ]
    go_wp2
    go_ret
    exact ⟨rfl, Below.refl _ _⟩
  · have hlen : (ints xs).length = xs.length := by simp [ints]
    rw [hlen] at hp ⊢
    go_enter Tryz.func101, Tryz.ntmps101
    go_wp2
    go_loopw [3, 4] (fun s i wr => ∃ k : Nat, k ≤ xs.length ∧ i = .int .i64 k ∧ s = .string (bs (Sp.toldBody (xs.take k))) ∧ Below w.heap.size w wr) (fun _ i _ => xs.length - (intOf i).toNat)
    case atStart => exact ⟨0, Nat.zero_le _, rfl, rfl, Below.refl _ _⟩
    case round =>
      obtain ⟨k, hk, rfl, rfl, hbel⟩ := hrel
      have hbl := toldBody_len (xs.take k)
      have hbl2 : (xs.take k).length ≤ k := List.length_take_le _ _
      by_cases hlt : k < xs.length
      · have hcell : wr.cell? ⟨b, off + k, none⟩ = some (.int .i64 xs[k]) := (hbel.cell (p := ⟨b, off + k, none⟩) hb).trans (hc k (.int .i64 xs[k]) (by simp [ints, hlt]))
        have hxx := hx xs[k] (List.getElem_mem hlt)
        have HS : Hid (xs.take (k + 1) = xs.take k ++ [xs[k]]) := hide (List.take_succ_eq_append_getElem hlt)
        have HS2 := hide (toldBody_snoc (xs.take k) xs[k])
        have HE : Hid (xs.take k = [] ↔ k = 0) := hide (take_nil_iff hlt)
        generalize xs[k] = x at hcell HS HS2 hxx
        generalize htb : Sp.toldBody (xs.take k) = tb at HS2 hbl ⊢
        have HB := hide htb.symm
        clear htb
        clear hc hx
        by_cases hk0 : 0 < k
        · by_cases hn : x < 0
          · skip
            have ha0 : ∀ wx, (Op.stringOp .add (bs tb) ⟨#[32]⟩).run Tryz.prog wx = .ok (.string (bs (tb ++ [32]))) wx := fun wx => add_bs tb [32] (by simp; omega) wx
            have ha1 : ∀ wx, (Op.stringOp .add (bs (tb ++ [32])) ⟨#[45]⟩).run Tryz.prog wx = .ok (.string (bs (tb ++ [32, 45]))) wx := fun wx => by have := add_bs (P := Tryz.prog) (tb ++ [32]) [45] (by simp; omega) wx; rwa [List.append_assoc] at this
            have ha2 := fun wx => add_bs (P := Tryz.prog) (tb ++ [32, 45]) (Sp.digs (-x).toNat) (by have := digs_len (-x).toNat; simp; omega) wx
            have hdg := fun wx => digits_any (-x) wx (by omega) (by omega)
            have HL : Hid (Sp.lw x = 45 :: Sp.digs (-x).toNat) := hide (by unfold Sp.lw; rw [if_pos hn, show x.natAbs = (-x).toNat from by omega])
            generalize Sp.digs (-x).toNat = dg at ha2 hdg HL
            have HDG := hide hdg
            clear hdg
            go_wp2_with fail
            refine (unhide HDG _).mono ?_
            rintro e w1 ⟨rfl, hb1⟩
            go_wp2
            go_roundw
            case rel => exact ⟨k + 1, by omega, by go_num, by rw [unhide HS, unhide HS2, if_neg (fun h => absurd ((unhide HE).1 h) (by omega)), unhide HL], hbel.trans (hb1.mono hbel.size)⟩
            case measure => simp [intOf]; omega
          · skip
            have ha0 : ∀ wx, (Op.stringOp .add (bs tb) ⟨#[32]⟩).run Tryz.prog wx = .ok (.string (bs (tb ++ [32]))) wx := fun wx => add_bs tb [32] (by simp; omega) wx
            have ha2 := fun wx => add_bs (P := Tryz.prog) (tb ++ [32]) (Sp.digs x.toNat) (by have := digs_len x.toNat; simp; omega) wx
            have hdg := fun wx => digits_any x wx (by omega) (by omega)
            have HL : Hid (Sp.lw x = Sp.digs x.toNat) := hide (by unfold Sp.lw; rw [if_neg hn, show x.natAbs = x.toNat from by omega])
            generalize Sp.digs x.toNat = dg at ha2 hdg HL
            have HDG := hide hdg
            clear hdg
            go_wp2_with fail
            refine (unhide HDG _).mono ?_
            rintro e w1 ⟨rfl, hb1⟩
            go_wp2
            go_roundw
            case rel => exact ⟨k + 1, by omega, by go_num, by rw [unhide HS, unhide HS2, if_neg (fun h => absurd ((unhide HE).1 h) (by omega)), unhide HL], hbel.trans (hb1.mono hbel.size)⟩
            case measure => simp [intOf]; omega
        · have HZ : Hid (tb = []) := hide (by
            have := (unhide HE).2 (by omega)
            rw [unhide HB, this]; rfl)
          by_cases hn : x < 0
          · skip
            have ha1 : ∀ wx, (Op.stringOp .add (bs tb) ⟨#[45]⟩).run Tryz.prog wx = .ok (.string (bs (tb ++ [45]))) wx := fun wx => add_bs tb [45] (by simp; omega) wx
            have ha2 := fun wx => add_bs (P := Tryz.prog) (tb ++ [45]) (Sp.digs (-x).toNat) (by have := digs_len (-x).toNat; simp; omega) wx
            have hdg := fun wx => digits_any (-x) wx (by omega) (by omega)
            have HL : Hid (Sp.lw x = 45 :: Sp.digs (-x).toNat) := hide (by unfold Sp.lw; rw [if_pos hn, show x.natAbs = (-x).toNat from by omega])
            generalize Sp.digs (-x).toNat = dg at ha2 hdg HL
            have HDG := hide hdg
            clear hdg
            go_wp2_with fail
            refine (unhide HDG _).mono ?_
            rintro e w1 ⟨rfl, hb1⟩
            go_wp2
            go_roundw
            case rel => exact ⟨k + 1, by omega, by go_num, by rw [unhide HS, unhide HS2, if_pos ((unhide HE).2 (by omega)), unhide HL, unhide HZ]; rfl, hbel.trans (hb1.mono hbel.size)⟩
            case measure => simp [intOf]; omega
          · skip
            have ha2 := fun wx => add_bs (P := Tryz.prog) tb (Sp.digs x.toNat) (by have := digs_len x.toNat; simp; omega) wx
            have hdg := fun wx => digits_any x wx (by omega) (by omega)
            have HL : Hid (Sp.lw x = Sp.digs x.toNat) := hide (by unfold Sp.lw; rw [if_neg hn, show x.natAbs = x.toNat from by omega])
            generalize Sp.digs x.toNat = dg at ha2 hdg HL
            have HDG := hide hdg
            clear hdg
            go_wp2_with fail
            refine (unhide HDG _).mono ?_
            rintro e w1 ⟨rfl, hb1⟩
            go_wp2
            go_roundw
            case rel => exact ⟨k + 1, by omega, by go_num, by rw [unhide HS, unhide HS2, if_pos ((unhide HE).2 (by omega)), unhide HL, unhide HZ]; rfl, hbel.trans (hb1.mono hbel.size)⟩
            case measure => simp [intOf]; omega
      · have HT : Hid (xs.take k = xs) := hide (List.take_of_length_le (by omega))
        have hadd : ∀ wx, (Op.stringOp .add (bs (Sp.toldBody (xs.take k))) ⟨#[10]⟩).run Tryz.prog wx = .ok (.string (bs (Sp.toldBody (xs.take k) ++ [10]))) wx := fun wx => add_bs (Sp.toldBody (xs.take k)) [10] (by simp; omega) wx
        go_wp2
        go_ret
        exact ⟨by rw [unhide HT]; rfl, hbel⟩

end Go.Proofs.YtekkkoipcghlmaaGreatDoor
