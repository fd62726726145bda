import Derived.Test.YtekkkoipcghlmaaDoorP5
import Derived.Test.YtekkkoipcghlmaaDoorW6
import Derived.Test.YtekkkoipcghlmaaDoorW5
namespace Go.Proofs.YtekkkoipcghlmaaDoor
open Go.RowKit

theorem join_lib (xs : List (List UInt8)) : Lib.join xs [32] = Sp.join xs := by
  unfold Lib.join
  induction xs with
  | nil => rfl
  | cons a r ih =>
    cases r with
    | nil => simp [Sp.join, List.intercalate]
    | cons b r =>
      rw [Sp.join, ← ih]
      simp [List.intercalate]

theorem litsOf_len (m : Nat) : (Sp.litsOf m).length ≤ 24 := by
  unfold Sp.litsOf
  rw [List.length_map]
  exact Nat.le_trans (List.length_filter_le _ _) (by simp)
theorem litAt_bd (k : Nat) (h : k < 24) : Sp.litAt k ≠ 0 ∧ -12 ≤ Sp.litAt k ∧ Sp.litAt k ≤ 12 := by
  rw [litAt_div]; split <;> omega

theorem map_data (ws : List (List UInt8)) : (ws.map bs).map (·.data.toList) = ws := by
  induction ws with
  | nil => rfl
  | cons a r ih => simp only [List.map_cons, bs_data] at ih ⊢; rw [ih]

theorem join_any (v : Value) (ws : List (List UInt8)) (w : World) (base : Nat) (hown : w.ownsRow base 9 1 v ws.length (strs ws)) (hlen : (Sp.join ws).length ≤ 100000) (hn : ws.length ≤ 100000) :
    Calls Tryd.prog 40 #[v, .string ⟨#[32]⟩] w fun e w' => e = .returned (.string (bs (Sp.join ws))) ∧ Below w.heap.size w w' := by
  have e2 : (ByteArray.mk #[32]).data.toList = [32] := rfl
  rcases hown.2 with ⟨rfl, h0⟩ | ⟨g, cap, cur, rfl, _, hg, hc, _⟩
  · have hw : ws = [] := List.length_eq_zero_iff.1 h0
    subst hw
    refine (Tryd.strings_Join_none none 0 ⟨#[32]⟩ w).mono ?_
    rintro e w1 ⟨rfl, rfl⟩
    exact ⟨rfl, Below.refl _ _⟩
  · have hlt := (hown.lt g rfl).2
    have hcells : ∀ (j : Nat) x, (ws.map bs)[j]? = some x → w.cell? ⟨g, 0 + j, none⟩ = some (.string x) := fun j x hx => by
      have hj : j < ws.length := by
        have := (List.getElem?_eq_some_iff.1 hx).1
        simpa using this
      rw [Nat.zero_add, hown.cellAt j (by omega), strs, List.getElem?_map]
      rw [List.getElem?_map] at hx
      cases hj2 : ws[j]? with
      | none => rw [hj2] at hx; cases hx
      | some y => rw [hj2] at hx; simp at hx ⊢; rw [hx]
    have := Tryd.strings_Join g 0 cap (ws.map bs) ⟨#[32]⟩ w hcells hlt (by simp; omega) (by simpa using hc) (by rw [map_data, e2, join_lib]; omega)
    rw [map_data, e2, join_lib, List.length_map] at this
    exact this

set_option maxRecDepth 100000 in
set_option maxHeartbeats 800000 in
theorem literals_any (m : Nat) (w : World) (hm : m < 2 ^ 24) (he : Env w) :
    Calls Tryd.prog 38 #[.int .u32 m] w fun e w' => ∃ v, e = .returned v ∧ w'.ownsRow w.heap.size 3 1 v (Sp.litsOf m).length (ints (Sp.litsOf m)) ∧ Below w.heap.size w w' := by
  go_enter Tryd.func38, Tryd.ntmps38
  go_wp2_with fail
  go_loopw [3, 4] (fun v r wr => ∃ (q : Nat) (L : List Int), r = .int .u32 q ∧ q < 2 ^ 24 ∧ wr.ownsRow w.heap.size 3 1 v L.length (ints L) ∧ Below w.heap.size w wr ∧ Hid (L ++ Sp.litsOf q = Sp.litsOf m))
    (fun _ r _ => (Sp.litsOf (intOf r).toNat).length)
  case atStart => exact ⟨m, [], rfl, hm, World.ownsRow_nil _ _ _ _, Below.refl _ _, rfl⟩
  case round =>
    obtain ⟨q, L, rfl, hq, hown, hbel, HI⟩ := hrel
    have hLl : L.length ≤ 24 := by have h1 := litsOf_len m; rw [← unhide HI, List.length_append] at h1; omega
    have HE := hide (he.below hbel)
    by_cases h0 : q = 0
    · have hz : ((q : Int) == 0) = true := by rw [beq_iff_eq]; omega
      have HZ := hide h0
      clear h0
      have HLL : Hid (L = Sp.litsOf m) := hide (by have := unhide HI; rw [unhide HZ, Sp.litsOf_zero, List.append_nil] at this; exact this)
      go_wp2
      go_ret
      exact ⟨_, rfl, by rw [← unhide HLL]; exact hown, hbel⟩
    · have hz : ((q : Int) == 0) = false := by rw [beq_eq_false_iff_ne]; omega
      have hpos : 1 ≤ q := by omega
      obtain ⟨hst, hk⟩ := Sp.litsOf_step q h0 hq
      have HST := hide hst
      have hxb := litAt_bd _ hk
      have HF := hide (first_any q wr hq (unhide HE))
      clear hst h0
      have hand : bits BinOp.and IntKind.u32 (q : Int) ((q : Int) - 1) = ((q &&& (q - 1) : Nat) : Int) := by
        have := bits_and_u32_nat q (q - 1) (Nat.lt_trans hq (by decide)) (by have : (2 : Nat) ^ 24 < 4294967296 := by decide
                                                                             omega)
        rwa [show ((q - 1 : Nat) : Int) = (q : Int) - 1 from by omega] at this
      have HAND := hide hand
      clear hand
      have hq2 : q &&& (q - 1) < 2 ^ 24 := Nat.lt_of_le_of_lt Nat.and_le_left hq
      generalize Sp.litAt (Lib.ctz 32 q) = x at *
      generalize q &&& (q - 1) = q2 at *
      go_wp2_with fail
      refine (unhide HF).mono ?_
      rintro e w1 ⟨rfl, rfl⟩
      go_wp2_with (at_builtin; refine append_one rfl _ _ 24 3 rfl Tryd.underlying24 Tryd.infoInt rfl (by decide) hown rfl rfl rfl (by omega) (Nat.le_refl _) hbel ?_; intro v' w3 hown' hbel' _)
      go_roundw
      case rel => exact ⟨q2, L ++ [x], by rw [unhide HAND], hq2, by simpa [ints] using hown', hbel', hide (by rw [← unhide HI, unhide HST]; simp)⟩
      case measure => rw [unhide HAND]; simp [intOf, unhide HST]

theorem litsOf_bd (m : Nat) : ∀ x, x ∈ Sp.litsOf m → x ≠ 0 ∧ -12 ≤ x ∧ x ≤ 12 := by
  intro x hx
  unfold Sp.litsOf at hx
  obtain ⟨k, hk, rfl⟩ := List.mem_map.1 hx
  have := (List.mem_filter.1 hk).1
  exact litAt_bd k (by simpa using this)

set_option maxRecDepth 100000 in
set_option maxHeartbeats 800000 in
theorem line_any (m : Nat) (w : World) (hm : m < 2 ^ 24) (he : Env w) :
    Calls Tryd.prog 21 #[.int .u32 m] w fun e w' => e = .returned (.string (bs (Sp.told (Sp.litsOf m)))) ∧ Below w.heap.size w w' := by
  have HL := hide (literals_any m w hm he)
  have hLl := litsOf_len m
  have hbdx := litsOf_bd m
  generalize Sp.litsOf m = K at *
  go_enter Tryd.func21, Tryd.ntmps21
  go_wp2_with fail
  refine (unhide HL).mono ?_
  rintro e w0 ⟨v0, rfl, hown0, hb0⟩
  have hlies := lies_of_owns hown0 (by simp [ints])
  obtain ⟨ao, cp, rfl⟩ := owns_shape hown0
  clear hown0
  go_wp2_with fail
  go_loopw [3, 9] (fun v r wr => ∃ (k : Nat), k ≤ K.length ∧ r = .int .i64 k ∧ wr.ownsRow w0.heap.size 9 1 v k (strs ((K.take k).map Sp.lw)) ∧ Below w0.heap.size w0 wr)
    (fun _ r _ => K.length - (intOf r).toNat)
  case atStart => exact ⟨0, Nat.zero_le _, rfl, World.ownsRow_nil _ _ _ _, Below.refl _ _⟩
  case round =>
    obtain ⟨k, hk, rfl, hown, hbel0⟩ := hrel
    have hbel := hb0.trans (hbel0.mono hb0.size)
    have HE := hide (he.below hbel)
    by_cases hlt : k < K.length
    · have hne : ints K ≠ [] := by
        intro h; have := congrArg List.length h; simp [ints] at this; rw [this] at hlt; simp at hlt
      rcases hlies with ⟨h0, -⟩ | ⟨b, off, cap', hp, hv, hbb, hc⟩
      · exact absurd h0 hne
      · simp only [Value.slice.injEq] at hv
        obtain ⟨rfl, hv2, rfl⟩ := hv
        clear hv2
        have hcell : wr.cell? ⟨b, off + k, none⟩ = some (.int .i64 K[k]) := (hbel0.cell (p := ⟨b, off + k, none⟩) hbb).trans (hc k (.int .i64 K[k]) (by simp [ints, hlt]))
        have hxb := hbdx K[k] (List.getElem_mem hlt)
        have HS : Hid (K.take (k + 1) = K.take k ++ [K[k]]) := hide (List.take_succ_eq_append_getElem hlt)
        generalize K[k] = x at hcell HS hxb
        clear hc hbdx hne
        have HIT := hide (itoa_any x (by omega) (by omega) wr (unhide HE))
        rw [Sp.itoa_lw _ hxb.1 hxb.2.1 hxb.2.2] at HIT
        go_wp2_with fail
        refine (unhide HIT).mono ?_
        rintro e w2 ⟨rfl, hb2⟩
        have hown2 := owns_below hown hb2
        have hbel02 := hbel0.trans (hb2.mono hbel0.size)
        have hsz0 := hb0.size
        go_wp2_with (at_builtin; refine append_one rfl _ _ 46 9 rfl Tryd.underlying46 Tryd.infoStr rfl (by decide) hown2 rfl rfl rfl (by omega) (Nat.le_refl _) hbel02 ?_; intro v' w3 hown' hbel' hgr)
        go_roundw
        case rel => exact ⟨k + 1, by omega, by go_num, by rw [unhide HS]; simpa [strs] using hown', hbel'⟩
        case measure => simp [intOf]; omega
    · have HLL : Hid (K.take k = K) := hide (List.take_of_length_le (by omega))
      have hbl := toldBody_len K
      have HJ := hide (join_any _ (K.map Sp.lw) wr w0.heap.size (by rw [List.length_map]; have := hown; rw [unhide HLL, show k = K.length from by omega] at this; exact this) (by unfold Sp.toldBody at hbl; omega) (by simp; omega))
      have HJ : Hid (Calls Tryd.prog 40 #[_, .string ⟨#[32]⟩] wr fun e w' => e = .returned (.string (bs (Sp.toldBody K))) ∧ Below wr.heap.size wr w') := HJ
      have hadd : ∀ wx, (Op.stringOp .add (bs (Sp.toldBody K)) ⟨#[10]⟩).run Tryd.prog wx = .ok (.string (bs (Sp.toldBody K ++ [10]))) wx := fun wx => add_bs (Sp.toldBody K) [10] (by simp; omega) wx
      clear hown hlies hbdx
      go_wp2_with fail
      refine (unhide HJ).mono ?_
      rintro e w1 ⟨rfl, hb1⟩
      go_wp2
      go_ret
      exact ⟨rfl, hbel.trans (hb1.mono hbel.size)⟩

end Go.Proofs.YtekkkoipcghlmaaDoor
