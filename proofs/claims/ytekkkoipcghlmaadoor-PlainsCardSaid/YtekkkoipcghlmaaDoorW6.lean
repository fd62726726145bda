import Derived.Test.YtekkkoipcghlmaaDoorW4
namespace Go.Proofs.YtekkkoipcghlmaaDoor
open Go.RowKit

theorem toldBody_snoc (l : List Int) (x : Int) : Sp.toldBody (l ++ [x]) = (if l = [] then Sp.lw x else Sp.toldBody l ++ 32 :: Sp.lw x) := by
  unfold Sp.toldBody
  rw [List.map_append, List.map_singleton, Sp.join_snoc]
  simp
theorem digs_len (n : Nat) : (Sp.digs n).length ≤ 2 := by unfold Sp.digs; split <;> simp
theorem lw_len (x : Int) : (Sp.lw x).length ≤ 3 := by
  unfold Sp.lw; have := digs_len x.natAbs; split <;> simp <;> omega
theorem toldBody_len (l : List Int) : (Sp.toldBody l).length ≤ 4 * l.length := by
  unfold Sp.toldBody
  induction l with
  | nil => simp [Sp.join]
  | cons a r ih =>
    have := lw_len a
    cases r with
    | nil => simp [Sp.join]; omega
    | cons b r => simp [Sp.join] at ih ⊢; omega

theorem take_nil_iff {xs : List Int} {k : Nat} (h : k < xs.length) : xs.take k = [] ↔ k = 0 := by
  rw [List.take_eq_nil_iff]
  constructor
  · rintro (h' | h')
    · exact h'
    · subst h'; simp at h
  · exact fun h' => .inl h'

set_option maxRecDepth 100000 in
set_option maxHeartbeats 800000 in
theorem told_any (v : Value) (xs : List Int) (w : World) (hl : xs.length ≤ 100) (hx : ∀ x, x ∈ xs → x ≠ 0 ∧ -12 ≤ x ∧ x ≤ 12) (hv : Lies w v (ints xs)) :
    Calls Tryd.prog 14 #[v] w fun e w' => e = .returned (.string (bs (Sp.told xs))) ∧ Below w.heap.size w w' := by
  rcases hv with ⟨h0, ao, cap, rfl⟩ | ⟨b, off, cap, hp, rfl, hb, hc⟩
  · have hx0 : xs = [] := by simpa [ints] using h0
    subst hx0
    have hadd := fun wx => add_bs (P := Tryd.prog) [] [10] (by simp) wx
    go_enter Tryd.func14, Tryd.ntmps14
    go_wp2
    refine wp_loop_rounds 1 ?_
    rw [rounds_succ]
    go_wp2
    go_ret
    exact ⟨rfl, Below.refl _ _⟩
  · have hlen : (ints xs).length = xs.length := by simp [ints]
    rw [hlen] at hp ⊢
    go_enter Tryd.func14, Tryd.ntmps14
    go_wp2
    go_loopw [3, 4] (fun s i wr => ∃ k : Nat, k ≤ xs.length ∧ i = .int .i64 k ∧ s = .string (bs (Sp.toldBody (xs.take k))) ∧ Below w.heap.size w wr) (fun _ i _ => xs.length - (intOf i).toNat)
    case atStart => exact ⟨0, Nat.zero_le _, rfl, rfl, Below.refl _ _⟩
    case round =>
      obtain ⟨k, hk, rfl, rfl, hbel⟩ := hrel
      have hbl := toldBody_len (xs.take k)
      have hbl2 : (xs.take k).length ≤ k := List.length_take_le _ _
      by_cases hlt : k < xs.length
      · have hcell : wr.cell? ⟨b, off + k, none⟩ = some (.int .i64 xs[k]) := (hbel.cell (p := ⟨b, off + k, none⟩) hb).trans (hc k (.int .i64 xs[k]) (by simp [ints, hlt]))
        have hxx := hx xs[k] (List.getElem_mem hlt)
        have HS : Hid (xs.take (k + 1) = xs.take k ++ [xs[k]]) := hide (List.take_succ_eq_append_getElem hlt)
        have HS2 := hide (toldBody_snoc (xs.take k) xs[k])
        have HE : Hid (xs.take k = [] ↔ k = 0) := hide (take_nil_iff hlt)
        generalize xs[k] = x at hcell HS HS2 hxx
        generalize htb : Sp.toldBody (xs.take k) = tb at HS2 hbl ⊢
        have HB := hide htb.symm
        clear htb
        clear hc hx
        by_cases hk0 : 0 < k
        · by_cases hn : x < 0
          · skip
            have ha0 : ∀ wx, (Op.stringOp .add (bs tb) ⟨#[32]⟩).run Tryd.prog wx = .ok (.string (bs (tb ++ [32]))) wx := fun wx => add_bs tb [32] (by simp; omega) wx
            have ha1 : ∀ wx, (Op.stringOp .add (bs (tb ++ [32])) ⟨#[45]⟩).run Tryd.prog wx = .ok (.string (bs (tb ++ [32, 45]))) wx := fun wx => by have := add_bs (P := Tryd.prog) (tb ++ [32]) [45] (by simp; omega) wx; rwa [List.append_assoc] at this
            have ha2 := fun wx => add_bs (P := Tryd.prog) (tb ++ [32, 45]) (Sp.digs (-x).toNat) (by have := digs_len (-x).toNat; simp; omega) wx
            have hdg := fun wx => digits_any (-x) wx (by omega) (by omega)
            have HL : Hid (Sp.lw x = 45 :: Sp.digs (-x).toNat) := hide (by unfold Sp.lw; rw [if_pos hn, show x.natAbs = (-x).toNat from by omega])
            generalize Sp.digs (-x).toNat = dg at ha2 hdg HL
            have HDG := hide hdg
            clear hdg
            go_wp2_with fail
            refine (unhide HDG _).mono ?_
            rintro e w1 ⟨rfl, hb1⟩
            go_wp2
            go_roundw
            case rel => exact ⟨k + 1, by omega, by go_num, by rw [unhide HS, unhide HS2, if_neg (fun h => absurd ((unhide HE).1 h) (by omega)), unhide HL], hbel.trans (hb1.mono hbel.size)⟩
            case measure => simp [intOf]; omega
          · skip
            have ha0 : ∀ wx, (Op.stringOp .add (bs tb) ⟨#[32]⟩).run Tryd.prog wx = .ok (.string (bs (tb ++ [32]))) wx := fun wx => add_bs tb [32] (by simp; omega) wx
            have ha2 := fun wx => add_bs (P := Tryd.prog) (tb ++ [32]) (Sp.digs x.toNat) (by have := digs_len x.toNat; simp; omega) wx
            have hdg := fun wx => digits_any x wx (by omega) (by omega)
            have HL : Hid (Sp.lw x = Sp.digs x.toNat) := hide (by unfold Sp.lw; rw [if_neg hn, show x.natAbs = x.toNat from by omega])
            generalize Sp.digs x.toNat = dg at ha2 hdg HL
            have HDG := hide hdg
            clear hdg
            go_wp2_with fail
            refine (unhide HDG _).mono ?_
            rintro e w1 ⟨rfl, hb1⟩
            go_wp2
            go_roundw
            case rel => exact ⟨k + 1, by omega, by go_num, by rw [unhide HS, unhide HS2, if_neg (fun h => absurd ((unhide HE).1 h) (by omega)), unhide HL], hbel.trans (hb1.mono hbel.size)⟩
            case measure => simp [intOf]; omega
        · have HZ : Hid (tb = []) := hide (by
            have := (unhide HE).2 (by omega)
            rw [unhide HB, this]; rfl)
          by_cases hn : x < 0
          · skip
            have ha1 : ∀ wx, (Op.stringOp .add (bs tb) ⟨#[45]⟩).run Tryd.prog wx = .ok (.string (bs (tb ++ [45]))) wx := fun wx => add_bs tb [45] (by simp; omega) wx
            have ha2 := fun wx => add_bs (P := Tryd.prog) (tb ++ [45]) (Sp.digs (-x).toNat) (by have := digs_len (-x).toNat; simp; omega) wx
            have hdg := fun wx => digits_any (-x) wx (by omega) (by omega)
            have HL : Hid (Sp.lw x = 45 :: Sp.digs (-x).toNat) := hide (by unfold Sp.lw; rw [if_pos hn, show x.natAbs = (-x).toNat from by omega])
            generalize Sp.digs (-x).toNat = dg at ha2 hdg HL
            have HDG := hide hdg
            clear hdg
            go_wp2_with fail
            refine (unhide HDG _).mono ?_
            rintro e w1 ⟨rfl, hb1⟩
            go_wp2
            go_roundw
            case rel => exact ⟨k + 1, by omega, by go_num, by rw [unhide HS, unhide HS2, if_pos ((unhide HE).2 (by omega)), unhide HL, unhide HZ]; rfl, hbel.trans (hb1.mono hbel.size)⟩
            case measure => simp [intOf]; omega
          · skip
            have ha2 := fun wx => add_bs (P := Tryd.prog) tb (Sp.digs x.toNat) (by have := digs_len x.toNat; simp; omega) wx
            have hdg := fun wx => digits_any x wx (by omega) (by omega)
            have HL : Hid (Sp.lw x = Sp.digs x.toNat) := hide (by unfold Sp.lw; rw [if_neg hn, show x.natAbs = x.toNat from by omega])
            generalize Sp.digs x.toNat = dg at ha2 hdg HL
            have HDG := hide hdg
            clear hdg
            go_wp2_with fail
            refine (unhide HDG _).mono ?_
            rintro e w1 ⟨rfl, hb1⟩
            go_wp2
            go_roundw
            case rel => exact ⟨k + 1, by omega, by go_num, by rw [unhide HS, unhide HS2, if_pos ((unhide HE).2 (by omega)), unhide HL, unhide HZ]; rfl, hbel.trans (hb1.mono hbel.size)⟩
            case measure => simp [intOf]; omega
      · have HT : Hid (xs.take k = xs) := hide (List.take_of_length_le (by omega))
        have hadd : ∀ wx, (Op.stringOp .add (bs (Sp.toldBody (xs.take k))) ⟨#[10]⟩).run Tryd.prog wx = .ok (.string (bs (Sp.toldBody (xs.take k) ++ [10]))) wx := fun wx => add_bs (Sp.toldBody (xs.take k)) [10] (by simp; omega) wx
        go_wp2
        go_ret
        exact ⟨by rw [unhide HT]; rfl, hbel⟩

end Go.Proofs.YtekkkoipcghlmaaDoor
