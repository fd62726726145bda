import Derived.Test.YthdlmojcggndcaaDoorP5
import Derived.Test.YthdlmojcggndcaaDoorW6
namespace Go.Proofs.YthdlmojcggndcaaDoor
open Go.RowKit

theorem join_lib (xs : List (List UInt8)) : Lib.join xs [32] = Sp.join xs := by
  unfold Lib.join
  induction xs with
  | nil => rfl
  | cons a r ih =>
    cases r with
    | nil => simp [Sp.join, List.intercalate]
    | cons b r =>
      rw [Sp.join, ← ih]
      simp [List.intercalate]

theorem litsOf_len (m : Nat) : (Sp.litsOf m).length ≤ 24 := by
  unfold Sp.litsOf
  rw [List.length_map]
  exact Nat.le_trans (List.length_filter_le _ _) (by simp)
theorem litAt_bd (k : Nat) (h : k < 24) : Sp.litAt k ≠ 0 ∧ -12 ≤ Sp.litAt k ∧ Sp.litAt k ≤ 12 := by
  rw [litAt_div]; split <;> omega

theorem map_data (ws : List (List UInt8)) : (ws.map bs).map (·.data.toList) = ws := by
  induction ws with
  | nil => rfl
  | cons a r ih => simp only [List.map_cons, bs_data] at ih ⊢; rw [ih]

theorem join_any (v : Value) (ws : List (List UInt8)) (w : World) (base : Nat) (hown : w.ownsRow base 9 1 v ws.length (strs ws)) (hlen : (Sp.join ws).length ≤ 100000) (hn : ws.length ≤ 100000) :
    Calls Tryd.prog 39 #[v, .string ⟨#[32]⟩] w fun e w' => e = .returned (.string (bs (Sp.join ws))) ∧ Below w.heap.size w w' := by
  have e2 : (ByteArray.mk #[32]).data.toList = [32] := rfl
  rcases hown.2 with ⟨rfl, h0⟩ | ⟨g, cap, cur, rfl, _, hg, hc, _⟩
  · have hw : ws = [] := List.length_eq_zero_iff.1 h0
    subst hw
    refine (Tryd.strings_Join_none none 0 ⟨#[32]⟩ w).mono ?_
    rintro e w1 ⟨rfl, rfl⟩
    exact ⟨rfl, Below.refl _ _⟩
  · have hlt := (hown.lt g rfl).2
    have hcells : ∀ (j : Nat) x, (ws.map bs)[j]? = some x → w.cell? ⟨g, 0 + j, none⟩ = some (.string x) := fun j x hx => by
      have hj : j < ws.length := by
        have := (List.getElem?_eq_some_iff.1 hx).1
        simpa using this
      rw [Nat.zero_add, hown.cellAt j (by omega), strs, List.getElem?_map]
      rw [List.getElem?_map] at hx
      cases hj2 : ws[j]? with
      | none => rw [hj2] at hx; cases hx
      | some y => rw [hj2] at hx; simp at hx ⊢; rw [hx]
    have := Tryd.strings_Join g 0 cap (ws.map bs) ⟨#[32]⟩ w hcells hlt (by simp; omega) (by simpa using hc) (by rw [map_data, e2, join_lib]; omega)
    rw [map_data, e2, join_lib, List.length_map] at this
    exact this

set_option maxRecDepth 100000 in
set_option maxHeartbeats 800000 in
theorem line_any (m : Nat) (w : World) (hm : m < 2 ^ 24) (he : Env w) :
    Calls Tryd.prog 21 #[.int .u32 m] w fun e w' => e = .returned (.string (bs (Sp.told (Sp.litsOf m)))) ∧ Below w.heap.size w w' := by
  go_enter Tryd.func21, Tryd.ntmps21
  go_wp2_with fail
  go_loopw [3, 4] (fun v r wr => ∃ (q : Nat) (L : List Int), r = .int .u32 q ∧ q < 2 ^ 24 ∧ wr.ownsRow w.heap.size 9 1 v L.length (strs (L.map Sp.lw)) ∧ Below w.heap.size w wr ∧ Hid (L ++ Sp.litsOf q = Sp.litsOf m))
    (fun _ r _ => (Sp.litsOf (intOf r).toNat).length)
  case atStart => exact ⟨m, [], rfl, hm, World.ownsRow_nil _ _ _ _, Below.refl _ _, rfl⟩
  case round =>
    obtain ⟨q, L, rfl, hq, hown, hbel, HI⟩ := hrel
    have hLl : L.length ≤ 24 := by have h1 := litsOf_len m; rw [← unhide HI, List.length_append] at h1; omega
    have HE := hide (he.below hbel)
    by_cases h0 : q = 0
    · have hz : ((q : Int) == 0) = true := by rw [beq_iff_eq]; omega
      have HZ := hide h0
      clear h0
      have HLL : Hid (L = Sp.litsOf m) := hide (by have := unhide HI; rw [unhide HZ, Sp.litsOf_zero, List.append_nil] at this; exact this)
      have hbl := toldBody_len L
      have HJ := hide (join_any _ (L.map Sp.lw) wr w.heap.size (by rw [List.length_map]; exact hown) (by unfold Sp.toldBody at hbl; omega) (by simp; omega))
      have HJ : Hid (Calls Tryd.prog 39 #[_, .string ⟨#[32]⟩] wr fun e w' => e = .returned (.string (bs (Sp.toldBody L))) ∧ Below wr.heap.size wr w') := HJ
      have hadd : ∀ wx, (Op.stringOp .add (bs (Sp.toldBody L)) ⟨#[10]⟩).run Tryd.prog wx = .ok (.string (bs (Sp.toldBody L ++ [10]))) wx := fun wx => add_bs (Sp.toldBody L) [10] (by simp; omega) wx
      clear hown
      go_wp2_with fail
      refine (unhide HJ).mono ?_
      rintro e w1 ⟨rfl, hb1⟩
      go_wp2
      go_ret
      exact ⟨by rw [← unhide HLL]; rfl, hbel.trans (hb1.mono hbel.size)⟩
    · have hz : ((q : Int) == 0) = false := by rw [beq_eq_false_iff_ne]; omega
      have hpos : 1 ≤ q := by omega
      obtain ⟨hst, hk⟩ := Sp.litsOf_step q h0 hq
      have HST := hide hst
      have hxb := litAt_bd _ hk
      have HF := hide (first_any q wr hq (unhide HE))
      clear hst h0
      have HIT := hide (itoa_any (Sp.litAt (Lib.ctz 32 q)) (by omega) (by omega) wr (unhide HE))
      rw [Sp.itoa_lw _ hxb.1 hxb.2.1 hxb.2.2] at HIT
      have hand : bits BinOp.and IntKind.u32 (q : Int) ((q : Int) - 1) = ((q &&& (q - 1) : Nat) : Int) := by
        have := bits_and_u32_nat q (q - 1) (Nat.lt_trans hq (by decide)) (by have : (2 : Nat) ^ 24 < 4294967296 := by decide
                                                                             omega)
        rwa [show ((q - 1 : Nat) : Int) = (q : Int) - 1 from by omega] at this
      have HAND := hide hand
      clear hand
      have hq2 : q &&& (q - 1) < 2 ^ 24 := Nat.lt_of_le_of_lt Nat.and_le_left hq
      generalize Sp.litAt (Lib.ctz 32 q) = x at *
      generalize q &&& (q - 1) = q2 at *
      go_wp2_with fail
      refine (unhide HF).mono ?_
      rintro e w1 ⟨rfl, rfl⟩
      go_wp2_with fail
      refine (unhide HIT).mono ?_
      rintro e w2 ⟨rfl, hb2⟩
      have hown2 := owns_below hown hb2
      have hbel2 := hbel.trans (hb2.mono hbel.size)
      go_wp2_with (at_builtin; refine append_one rfl _ _ 46 9 rfl Tryd.underlying46 Tryd.infoStr rfl (by decide) hown2 rfl rfl rfl (by omega) (Nat.le_refl _) hbel2 ?_; intro v' w3 hown' hbel' _)
      go_roundw
      case rel => exact ⟨q2, L ++ [x], by rw [unhide HAND], hq2, by simpa [strs] using hown', hbel', hide (by rw [← unhide HI, unhide HST]; simp)⟩
      case measure => rw [unhide HAND]; simp [intOf, unhide HST]

end Go.Proofs.YthdlmojcggndcaaDoor
