import Derived.Test.YtgoigckhblffhaaGreatDoorRJ02
import Derived.Lib.AtoiAll
import Derived.Lib.ItoaNum
import Derived.Test.YtgoigckhblffhaaGreatDoorRJ01
import Derived.Test.YtgoigckhblffhaaGreatDoorRProg
import Derived.Test.YtgoigckhblffhaaGreatDoorRJ04
namespace Go.Proofs.YtgoigckhblffhaaGreatDoorR.Sp

theorem dec12 (u : Nat) (h1 : 1 ≤ u) (h2 : u ≤ 12) : Lib.decDigits u = digs u := by
  by_cases h : u < 10
  · rw [Lib.decDigits, dif_pos h, digs, if_pos h]
  · rw [Lib.decDigits, dif_neg h, Lib.decDigits, dif_pos (by omega), digs, if_neg h, show u / 10 = 1 from by omega, show 48 + u % 10 = 38 + u from by omega]; rfl
theorem itoa_lw (x : Int) (h0 : x ≠ 0) (h1 : -12 ≤ x) (h2 : x ≤ 12) : Lib.itoa x = lw x := by
  unfold Lib.itoa lw
  split
  · rw [dec12 _ (by omega) (by omega)]
  · rw [dec12 _ (by omega) (by omega), show x.toNat = x.natAbs from by omega]

theorem all24 (p : Int → Prop) (h : ∀ k : Fin 12, p ((k.val : Int) + 1) ∧ p (-((k.val : Int) + 1))) (x : Int) (h0 : x ≠ 0) (h1 : -12 ≤ x) (h2 : x ≤ 12) : p x := by
  by_cases hp : 0 < x
  · have := (h ⟨(x - 1).toNat, by omega⟩).1
    simp only at this
    rwa [show (((x - 1).toNat : Nat) : Int) + 1 = x from by omega] at this
  · have := (h ⟨(-x - 1).toNat, by omega⟩).2
    simp only at this
    rwa [show -((((-x - 1).toNat : Nat) : Int) + 1) = x from by omega] at this

theorem lit_lw (x : Int) (h0 : x ≠ 0) (h1 : -12 ≤ x) (h2 : x ≤ 12) : lit (lw x) = x := all24 (fun x => lit (lw x) = x) (by decide) x h0 h1 h2
theorem atoi_lw (x : Int) (h0 : x ≠ 0) (h1 : -12 ≤ x) (h2 : x ≤ 12) : Lib.atoiAll (lw x) = .ok x := all24 (fun x => Lib.atoiAll (lw x) = .ok x) (by decide) x h0 h1 h2

theorem num_digs (r : List UInt8) (h : num r ≠ 0) : r = digs (num r).toNat := by
  unfold num at h ⊢
  split at h
  · rename_i a
    split at h
    · rename_i hh
      simp only [hh, and_self, if_true]
      rw [digs, if_pos (by omega)]
      congr 1
      apply UInt8.toNat_inj.1
      rw [UInt8.toNat_ofNat']
      omega
    · exact absurd rfl h
  · rename_i a b
    split at h
    · rename_i hh
      simp only [hh, and_self, if_true]
      rw [digs, if_neg (by omega)]
      congr 1
      · apply UInt8.toNat_inj.1
        rw [hh.1]; rfl
      · congr 1
        apply UInt8.toNat_inj.1
        rw [UInt8.toNat_ofNat']
        omega
    · exact absurd rfl h
  · exact absurd rfl h

theorem lw_lit (s : List UInt8) (h : lit s ≠ 0) : s = lw (lit s) := by
  rcases s with _ | ⟨a, r⟩
  · exact absurd rfl h
  · have hb := num_bd r
    have hb2 := num_bd (a :: r)
    unfold lit at h ⊢
    simp only at h ⊢
    split at h
    · rename_i ha
      subst ha
      simp only [if_true]
      have hn : num r ≠ 0 := by omega
      unfold lw
      rw [if_pos (by omega), show (-num r).natAbs = (num r).toNat from by omega, ← num_digs r hn]
    · rename_i ha
      rw [if_neg ha]
      unfold lw
      rw [if_neg (by omega), show (num (a :: r)).natAbs = (num (a :: r)).toNat from by omega]
      exact num_digs (a :: r) h

/-- What fromWord hands back, by how Atoi ends. -/
theorem fromWord_ok (s : List UInt8) (v : Int) (h : Lib.atoiAll s = .ok v) (hi : Lib.itoa v = s) : lit s = if -12 ≤ v ∧ v ≤ 12 then v else 0 := by
  split
  · rename_i hr
    by_cases h0 : v = 0
    · subst h0
      rw [← hi]
      show lit (Lib.itoa 0) = 0
      unfold Lib.itoa
      rw [if_neg (by omega), Lib.decDigits, dif_pos (by decide)]
      decide
    · rw [← hi, itoa_lw v h0 hr.1 hr.2, lit_lw v h0 hr.1 hr.2]
  · rename_i hr
    by_cases h0 : lit s = 0
    · exact h0
    · exfalso
      have hb := lit_bd s
      have := lw_lit s h0
      have ha := atoi_lw (lit s) h0 hb.1 hb.2
      rw [← this, h] at ha
      injection ha with ha
      exact hr (by omega)
theorem fromWord_other (s : List UInt8) (v : Int) (h : Lib.atoiAll s = .ok v) (hi : ¬ Lib.itoa v = s) : lit s = 0 := by
  by_cases h0 : lit s = 0
  · exact h0
  · exfalso
    have hb := lit_bd s
    have hs := lw_lit s h0
    have ha := atoi_lw (lit s) h0 hb.1 hb.2
    rw [← hs, h] at ha
    injection ha with ha
    rw [ha, itoa_lw _ h0 hb.1 hb.2] at hi
    exact hi hs.symm
theorem fromWord_bad (s : List UInt8) (h : ∀ v, Lib.atoiAll s ≠ .ok v) : lit s = 0 := by
  by_cases h0 : lit s = 0
  · exact h0
  · exfalso
    have hb := lit_bd s
    have hs := lw_lit s h0
    have ha := atoi_lw (lit s) h0 hb.1 hb.2
    rw [← hs] at ha
    exact h _ ha

end Go.Proofs.YtgoigckhblffhaaGreatDoorR.Sp

namespace Go.Proofs.YtgoigckhblffhaaGreatDoorR
open Go.RowKit

theorem pow_plus (n : Int) (h1 : 1 ≤ n) (h2 : n ≤ 12) : (2 : Int) ^ (2 * (n - 1)).toNat % 4294967296 = (Sp.bit n : Int) := by
  have : n = 1 ∨ n = 2 ∨ n = 3 ∨ n = 4 ∨ n = 5 ∨ n = 6 ∨ n = 7 ∨ n = 8 ∨ n = 9 ∨ n = 10 ∨ n = 11 ∨ n = 12 := by omega
  rcases this with rfl | rfl | rfl | rfl | rfl | rfl | rfl | rfl | rfl | rfl | rfl | rfl <;> decide
theorem pow_minus (n : Int) (h1 : -12 ≤ n) (h2 : n ≤ -1) : (2 : Int) * 2 ^ (2 * (-n - 1)).toNat % 4294967296 = (Sp.bit n : Int) := by
  have : n = -1 ∨ n = -2 ∨ n = -3 ∨ n = -4 ∨ n = -5 ∨ n = -6 ∨ n = -7 ∨ n = -8 ∨ n = -9 ∨ n = -10 ∨ n = -11 ∨ n = -12 := by omega
  rcases this with rfl | rfl | rfl | rfl | rfl | rfl | rfl | rfl | rfl | rfl | rfl | rfl <;> decide

theorem ret_bit {a b : Int} (h : a = b) : Ending.returned (.tuple #[.int .u32 a, .bool true]) = .returned (.tuple #[.int .u32 b, .bool true]) := by rw [h]

set_option maxRecDepth 100000 in
set_option maxHeartbeats 400000 in
theorem of_yes (n : Int) (w : World) (h1 : -12 ≤ n) (h2 : n ≤ 12) (h0 : n ≠ 0) :
    Calls Tryz.prog 44 #[.int .i64 n] w fun e w' => e = .returned (.tuple #[.int .u32 (Sp.bit n : Int), .bool true]) ∧ w' = w := by
  by_cases hp : 0 < n
  · have h1' : 1 ≤ n := by omega
    have HP := hide (pow_plus n h1' h2)
    go_enter Tryz.func44, Tryz.ntmps44
    go_wp2
    go_ret2
    exact ⟨ret_bit (unhide HP), rfl⟩
  · have h1' : n ≤ -1 := by omega
    have HP := hide (pow_minus n h1 h1')
    go_enter Tryz.func44, Tryz.ntmps44
    go_wp2
    go_ret2
    exact ⟨ret_bit (unhide HP), rfl⟩

set_option maxRecDepth 100000 in
set_option maxHeartbeats 400000 in
theorem of_no (n : Int) (w : World) (h1 : n = 0 ∨ n < -12 ∨ 12 < n) :
    Calls Tryz.prog 44 #[.int .i64 n] w fun e w' => e = .returned (.tuple #[.int .u32 0, .bool false]) ∧ w' = w := by
  rcases h1 with rfl | h | h
  · go_enter Tryz.func44, Tryz.ntmps44
    go_wp2
    go_ret2
    exact ⟨rfl, rfl⟩
  · go_enter Tryz.func44, Tryz.ntmps44
    go_wp2
    go_ret2
    exact ⟨rfl, rfl⟩
  · go_enter Tryz.func44, Tryz.ntmps44
    go_wp2
    go_ret2
    exact ⟨rfl, rfl⟩

end Go.Proofs.YtgoigckhblffhaaGreatDoorR

namespace Go.Proofs.YtgoigckhblffhaaGreatDoorR
open Go.RowKit

theorem toldBody_snoc (l : List Int) (x : Int) : Sp.toldBody (l ++ [x]) = (if l = [] then Sp.lw x else Sp.toldBody l ++ 32 :: Sp.lw x) := by
  unfold Sp.toldBody
  rw [List.map_append, List.map_singleton, Sp.join_snoc]
  simp
theorem digs_len (n : Nat) : (Sp.digs n).length ≤ 2 := by unfold Sp.digs; split <;> simp
theorem lw_len (x : Int) : (Sp.lw x).length ≤ 3 := by
  unfold Sp.lw; have := digs_len x.natAbs; split <;> simp <;> omega
theorem toldBody_len (l : List Int) : (Sp.toldBody l).length ≤ 4 * l.length := by
  unfold Sp.toldBody
  induction l with
  | nil => simp [Sp.join]
  | cons a r ih =>
    have := lw_len a
    cases r with
    | nil => simp [Sp.join]; omega
    | cons b r => simp [Sp.join] at ih ⊢; omega

theorem take_nil_iff {xs : List Int} {k : Nat} (h : k < xs.length) : xs.take k = [] ↔ k = 0 := by
  rw [List.take_eq_nil_iff]
  constructor
  · rintro (h' | h')
    · exact h'
    · subst h'; simp at h
  · exact fun h' => .inl h'

set_option maxRecDepth 100000 in
set_option maxHeartbeats 800000 in
theorem told_any (v : Value) (xs : List Int) (w : World) (hl : xs.length ≤ 100) (hx : ∀ x, x ∈ xs → x ≠ 0 ∧ -12 ≤ x ∧ x ≤ 12) (hv : Lies w v (ints xs)) :
    Calls Tryz.prog 32 #[v] w fun e w' => e = .returned (.string (bs (Sp.told xs))) ∧ Below w.heap.size w w' := by
  rcases hv with ⟨h0, ao, cap, rfl⟩ | ⟨b, off, cap, hp, rfl, hb, hc⟩
  · have hx0 : xs = [] := by simpa [ints] using h0
    subst hx0
    have hadd := fun wx => add_bs (P := Tryz.prog) [] [10] (by simp) wx
    go_enter Tryz.func32, Tryz.ntmps32
    go_wp2
    refine wp_loop_rounds 1 ?_
    rw [rounds_succ]
    go_wp2
    go_ret
    exact ⟨rfl, Below.refl _ _⟩
  · have hlen : (ints xs).length = xs.length := by simp [ints]
    rw [hlen] at hp ⊢
    go_enter Tryz.func32, Tryz.ntmps32
    go_wp2
    go_loopw [3, 4] (fun s i wr => ∃ k : Nat, k ≤ xs.length ∧ i = .int .i64 k ∧ s = .string (bs (Sp.toldBody (xs.take k))) ∧ Below w.heap.size w wr) (fun _ i _ => xs.length - (intOf i).toNat)
    case atStart => exact ⟨0, Nat.zero_le _, rfl, rfl, Below.refl _ _⟩
    case round =>
      obtain ⟨k, hk, rfl, rfl, hbel⟩ := hrel
      have hbl := toldBody_len (xs.take k)
      have hbl2 : (xs.take k).length ≤ k := List.length_take_le _ _
      by_cases hlt : k < xs.length
      · have hcell : wr.cell? ⟨b, off + k, none⟩ = some (.int .i64 xs[k]) := (hbel.cell (p := ⟨b, off + k, none⟩) hb).trans (hc k (.int .i64 xs[k]) (by simp [ints, hlt]))
        have hxx := hx xs[k] (List.getElem_mem hlt)
        have HS : Hid (xs.take (k + 1) = xs.take k ++ [xs[k]]) := hide (List.take_succ_eq_append_getElem hlt)
        have HS2 := hide (toldBody_snoc (xs.take k) xs[k])
        have HE : Hid (xs.take k = [] ↔ k = 0) := hide (take_nil_iff hlt)
        generalize xs[k] = x at hcell HS HS2 hxx
        generalize htb : Sp.toldBody (xs.take k) = tb at HS2 hbl ⊢
        have HB := hide htb.symm
        clear htb
        clear hc hx
        by_cases hk0 : 0 < k
        · by_cases hn : x < 0
          · skip
            have ha0 : ∀ wx, (Op.stringOp .add (bs tb) ⟨#[32]⟩).run Tryz.prog wx = .ok (.string (bs (tb ++ [32]))) wx := fun wx => add_bs tb [32] (by simp; omega) wx
            have ha1 : ∀ wx, (Op.stringOp .add (bs (tb ++ [32])) ⟨#[45]⟩).run Tryz.prog wx = .ok (.string (bs (tb ++ [32, 45]))) wx := fun wx => by have := add_bs (P := Tryz.prog) (tb ++ [32]) [45] (by simp; omega) wx; rwa [List.append_assoc] at this
            have ha2 := fun wx => add_bs (P := Tryz.prog) (tb ++ [32, 45]) (Sp.digs (-x).toNat) (by have := digs_len (-x).toNat; simp; omega) wx
            have hdg := fun wx => digits_any (-x) wx (by omega) (by omega)
            have HL : Hid (Sp.lw x = 45 :: Sp.digs (-x).toNat) := hide (by unfold Sp.lw; rw [if_pos hn, show x.natAbs = (-x).toNat from by omega])
            generalize Sp.digs (-x).toNat = dg at ha2 hdg HL
            have HDG := hide hdg
            clear hdg
            go_wp2_with fail
            refine (unhide HDG _).mono ?_
            rintro e w1 ⟨rfl, hb1⟩
            go_wp2
            go_roundw
            case rel => exact ⟨k + 1, by omega, by go_num, by rw [unhide HS, unhide HS2, if_neg (fun h => absurd ((unhide HE).1 h) (by omega)), unhide HL], hbel.trans (hb1.mono hbel.size)⟩
            case measure => simp [intOf]; omega
          · skip
            have ha0 : ∀ wx, (Op.stringOp .add (bs tb) ⟨#[32]⟩).run Tryz.prog wx = .ok (.string (bs (tb ++ [32]))) wx := fun wx => add_bs tb [32] (by simp; omega) wx
            have ha2 := fun wx => add_bs (P := Tryz.prog) (tb ++ [32]) (Sp.digs x.toNat) (by have := digs_len x.toNat; simp; omega) wx
            have hdg := fun wx => digits_any x wx (by omega) (by omega)
            have HL : Hid (Sp.lw x = Sp.digs x.toNat) := hide (by unfold Sp.lw; rw [if_neg hn, show x.natAbs = x.toNat from by omega])
            generalize Sp.digs x.toNat = dg at ha2 hdg HL
            have HDG := hide hdg
            clear hdg
            go_wp2_with fail
            refine (unhide HDG _).mono ?_
            rintro e w1 ⟨rfl, hb1⟩
            go_wp2
            go_roundw
            case rel => exact ⟨k + 1, by omega, by go_num, by rw [unhide HS, unhide HS2, if_neg (fun h => absurd ((unhide HE).1 h) (by omega)), unhide HL], hbel.trans (hb1.mono hbel.size)⟩
            case measure => simp [intOf]; omega
        · have HZ : Hid (tb = []) := hide (by
            have := (unhide HE).2 (by omega)
            rw [unhide HB, this]; rfl)
          by_cases hn : x < 0
          · skip
            have ha1 : ∀ wx, (Op.stringOp .add (bs tb) ⟨#[45]⟩).run Tryz.prog wx = .ok (.string (bs (tb ++ [45]))) wx := fun wx => add_bs tb [45] (by simp; omega) wx
            have ha2 := fun wx => add_bs (P := Tryz.prog) (tb ++ [45]) (Sp.digs (-x).toNat) (by have := digs_len (-x).toNat; simp; omega) wx
            have hdg := fun wx => digits_any (-x) wx (by omega) (by omega)
            have HL : Hid (Sp.lw x = 45 :: Sp.digs (-x).toNat) := hide (by unfold Sp.lw; rw [if_pos hn, show x.natAbs = (-x).toNat from by omega])
            generalize Sp.digs (-x).toNat = dg at ha2 hdg HL
            have HDG := hide hdg
            clear hdg
            go_wp2_with fail
            refine (unhide HDG _).mono ?_
            rintro e w1 ⟨rfl, hb1⟩
            go_wp2
            go_roundw
            case rel => exact ⟨k + 1, by omega, by go_num, by rw [unhide HS, unhide HS2, if_pos ((unhide HE).2 (by omega)), unhide HL, unhide HZ]; rfl, hbel.trans (hb1.mono hbel.size)⟩
            case measure => simp [intOf]; omega
          · skip
            have ha2 := fun wx => add_bs (P := Tryz.prog) tb (Sp.digs x.toNat) (by have := digs_len x.toNat; simp; omega) wx
            have hdg := fun wx => digits_any x wx (by omega) (by omega)
            have HL : Hid (Sp.lw x = Sp.digs x.toNat) := hide (by unfold Sp.lw; rw [if_neg hn, show x.natAbs = x.toNat from by omega])
            generalize Sp.digs x.toNat = dg at ha2 hdg HL
            have HDG := hide hdg
            clear hdg
            go_wp2_with fail
            refine (unhide HDG _).mono ?_
            rintro e w1 ⟨rfl, hb1⟩
            go_wp2
            go_roundw
            case rel => exact ⟨k + 1, by omega, by go_num, by rw [unhide HS, unhide HS2, if_pos ((unhide HE).2 (by omega)), unhide HL, unhide HZ]; rfl, hbel.trans (hb1.mono hbel.size)⟩
            case measure => simp [intOf]; omega
      · have HT : Hid (xs.take k = xs) := hide (List.take_of_length_le (by omega))
        have hadd : ∀ wx, (Op.stringOp .add (bs (Sp.toldBody (xs.take k))) ⟨#[10]⟩).run Tryz.prog wx = .ok (.string (bs (Sp.toldBody (xs.take k) ++ [10]))) wx := fun wx => add_bs (Sp.toldBody (xs.take k)) [10] (by simp; omega) wx
        go_wp2
        go_ret
        exact ⟨by rw [unhide HT]; rfl, hbel⟩

end Go.Proofs.YtgoigckhblffhaaGreatDoorR
