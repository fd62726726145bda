import Derived.Test.YtekkkoipcghlmabGreatDoorD44
import Derived.Test.YtekkkoipcghlmabGreatDoorD42
set_option linter.all false
namespace Go.Proofs.YtekkkoipcghlmabGreatDoor
open Go.RowKit

/-- Behind the questions of a round: lists are written over. -/
structure OW (B0 : Nat) (w4 wi : World) (l o : List (List Int)) (xs bt xt bu xu n : Nat) (rb xb : Nat) (ro : Option Addr) (rk : Nat) (ro2 : Option Addr) (rk2 : Nat) (xo2 : Option Addr) (xk2 : Nat) (rcs xcs : Array Value) : Prop where
  three : Three B0 w4 wi l o xs bt xt bu xu n
  rbox : wi.heap[rb]? = some (.cells rcs 34 (0, 0))
  xbox : wi.heap[xb]? = some (.cells xcs 34 (0, 0))
  m1 : MayW B0 wi ro rk
  m2 : MayW B0 wi ro2 rk2
  m3 : MayW B0 wi xo2 xk2
theorem OW.set {B0 : Nat} {w4 wi : World} {l o : List (List Int)} {xs bt xt bu xu n rb xb : Nat} {ro : Option Addr} {rk : Nat} {ro2 : Option Addr} {rk2 : Nat} {xo2 : Option Addr} {xk2 : Nat} {rcs xcs : Array Value} (h : OW B0 w4 wi l o xs bt xt bu xu n rb xb ro rk ro2 rk2 xo2 xk2 rcs xcs) {g k : Nat} {cs : Array Value} (hg : wi.heap[g]? = some (.cells cs 3 (0, 0))) (hb : B0 ≤ g) (u : Value) : OW B0 w4 (wi.setCell ⟨g, k, none⟩ u) l o xs bt xt bu xu n rb xb ro rk ro2 rk2 xo2 xk2 rcs xcs := by
  have hk := KeptT.set (k := k) (u := u) hg
  exact ⟨h.three.int hk (h.three.low.setCell (p := ⟨g, k, none⟩) hb _), (hk _ _ _ _ (by decide) h.rbox).trans h.rbox, (hk _ _ _ _ (by decide) h.xbox).trans h.xbox, h.m1.set _ _ rfl, h.m2.set _ _ rfl, h.m3.set _ _ rfl⟩

set_option maxRecDepth 100000 in
set_option maxHeartbeats 12800000 in
theorem apart_walk (v1 v2 v3 : Value) (zs ys us : List Int) (w : World) (hl1 : zs.length ≤ 9223372036854775807) (hl2 : ys.length ≤ 9223372036854775807) (hl3 : us.length ≤ 9223372036854775807) (hf1 : Fits zs) (hf2 : Fits ys) (hf3 : Fits us) (hv1 : Lies w v1 (ints zs)) (hv2 : Lies w v2 (ints ys)) (hv3 : Lies w v3 (ints us)) (he : EnvT w) :
    Calls Tryz.prog 5 #[v1, v2, v3] w fun e w' => e = .returned (.bool true) ∧ Below w.heap.size w w' := by
  have HC1 : Hid (Calls Tryz.prog 7 #[v1, .int .i64 7, .int .i64 40] w fun e w' => ∃ ov vs l, e = .returned ov ∧ w'.ownsRow w.heap.size 22 1 ov l.length vs ∧ RowsAt w' w.heap.size vs l ∧ l.length ≤ 40 ∧ (∀ c, c ∈ l → In 7 c ∧ c.length ≤ 3) ∧ Below w.heap.size w w') := hide (clausesK_any v1 zs 7 40 w hl1 hf1 (by decide) (by decide) (by decide) hv1)
  have HC2 : Hid (∀ wx, Below w.heap.size w wx → Calls Tryz.prog 7 #[v2, .int .i64 7, .int .i64 40] wx fun e w' => ∃ ov vs l, e = .returned ov ∧ w'.ownsRow wx.heap.size 22 1 ov l.length vs ∧ RowsAt w' wx.heap.size vs l ∧ l.length ≤ 40 ∧ (∀ c, c ∈ l → In 7 c ∧ c.length ≤ 3) ∧ Below wx.heap.size wx w') := hide (fun wx hb => clausesK_any v2 ys 7 40 wx hl2 hf2 (by decide) (by decide) (by decide) (hv2.below hb))
  have HSO : Hid (∀ wx, Below w.heap.size w wx → Calls Tryz.prog 12 #[v3, .int .i64 7, .int .i64 4] wx fun e w' => ∃ v' xs, e = .returned v' ∧ w'.ownsRow wx.heap.size 3 1 v' xs.length (ints xs) ∧ xs.length ≤ 4 ∧ In 7 xs ∧ Below wx.heap.size wx w') := hide (fun wx hb => someK_any v3 us 7 4 wx hl3 hf3 (by decide) (by decide) (by decide) (hv3.below hb))
  obtain ⟨a1, n1, c1, rfl⟩ : ∃ a n c, v1 = .slice a n c := by
    obtain ⟨a, c, h⟩ := lies_shape hv1; exact ⟨a, _, c, h⟩
  obtain ⟨a2, n2, c2, rfl⟩ : ∃ a n c, v2 = .slice a n c := by
    obtain ⟨a, c, h⟩ := lies_shape hv2; exact ⟨a, _, c, h⟩
  obtain ⟨a3, n3, c3, rfl⟩ : ∃ a n c, v3 = .slice a n c := by
    obtain ⟨a, c, h⟩ := lies_shape hv3; exact ⟨a, _, c, h⟩
  clear hv1 hv2 hv3 hf1 hf2 hf3
  go_enter Tryz.func5, Tryz.ntmps5
  go_wp2_with fail
  refine (unhide HC1).mono ?_
  rintro e w1 ⟨lv, lvs, l, rfl, hlrow, hlrows, hlen, hall, hb1⟩
  have HLU : Hid (UnitsT w1 lv l) := hide (UnitsT.of_rows hlrow hlrows)
  obtain ⟨lo, lc, hsh⟩ := owns_shape hlrow
  subst hsh
  have HLI : Hid (∀ c, c ∈ l → In 7 c ∧ c.length ≤ 3) := hide hall
  have HL : Hid (∀ c, c ∈ l → Lits c ∧ c.length ≤ 3) := hide (fun c hc => ⟨((hall c hc).1).lits (by omega), (hall c hc).2⟩)
  have HC2' := hide (unhide HC2 w1 hb1)
  clear hlrow hlrows hall HC1 HC2
  go_wp2_with fail
  refine (unhide HC2').mono ?_
  rintro e w2 ⟨ov, ovs, o, rfl, horow, horows, holen, hoall, hb2⟩
  have hb02 : Below w.heap.size w w2 := hb1.trans (hb2.mono hb1.size)
  have HOU : Hid (UnitsT w2 ov o) := hide (UnitsT.of_rows horow horows)
  obtain ⟨oo, oc, hsh⟩ := owns_shape horow
  subst hsh
  have HO : Hid (∀ c, c ∈ o → Lits c ∧ c.length ≤ 3) := hide (fun c hc => ⟨((hoall c hc).1).lits (by omega), (hoall c hc).2⟩)
  have HSO' := hide (unhide HSO w2 hb02)
  clear horow horows hoall HC2' HSO
  go_wp2_with fail
  refine (unhide HSO').mono ?_
  rintro e w3 ⟨av, xs, rfl, harow, hxl, hxi, hb3⟩
  have hb03 : Below w.heap.size w w3 := hb02.trans (hb3.mono hb02.size)
  have HA3 : Hid (Lies w3 av (ints xs)) := hide (lies_of_owns harow (by simp [ints]))
  have HXI : Hid (Lits xs) := hide (hxi.lits (by omega))
  obtain ⟨ao, ac, hsh⟩ := owns_shape harow
  subst hsh
  have HL3 : Hid (UnitsT w3 (.slice lo l.length lc) l) := hide (((unhide HLU).below hb2).below hb3)
  have HO3 : Hid (UnitsT w3 (.slice oo o.length oc) o) := hide ((unhide HOU).below hb3)
  have HS1 := hide (solverK_any (.slice lo l.length lc) l w3 (by omega) (fun c hc => by have := (unhide HL c hc).2; omega) (unhide HL3).rows (kept_adds (unhide HL) (by omega)))
  clear harow hxi HSO' HLU HOU
  go_wp2_with fail
  refine (unhide HS1).mono ?_
  rintro e w4 ⟨kvs, rfl, hX4, hb4⟩
  have HS2 := hide (solverK_any (.slice lo l.length lc) l w4 (by omega) (fun c hc => by have := (unhide HL c hc).2; omega) ((unhide HL3).below hb4).rows (kept_adds (unhide HL) (by omega)))
  have HX4 := hide hX4
  have h34 : w3.heap.size < w4.heap.size := lt_of_block hX4.block
  clear HS1 hX4
  go_wp2_with fail
  refine (unhide HS2).mono ?_
  rintro e w5 ⟨kvt, rfl, hX5, hb5⟩
  have hb35 : Below w3.heap.size w3 w5 := hb4.trans (hb5.mono hb4.size)
  have HS3 := hide (solverK_any (.slice oo o.length oc) o w5 (by omega) (fun c hc => by have := (unhide HO c hc).2; omega) ((unhide HO3).below hb35).rows (kept_adds (unhide HO) (by omega)))
  have HX5 := hide hX5
  have h45 : w4.heap.size < w5.heap.size := lt_of_block hX5.block
  clear HS2 hX5
  go_wp2_with fail
  refine (unhide HS3).mono ?_
  rintro e w6 ⟨kvu, rfl, hX6, hb6⟩
  have HT6 : Hid (Three w3.heap.size w3 w6 l o w3.heap.size w4.heap.size w4.heap.size w5.heap.size w5.heap.size 0) := hide ⟨kvs, _, kvt, _, kvu, _, _, _, _, hb35.trans (hb6.mono hb35.size), ((unhide HX4).below hb5).below hb6, (unhide HX5).below hb6, hX6, by omega, by omega, by omega, by omega, by omega, fun g hg => (by cases hg), fun g hg => (by cases hg), fun g hg => (by cases hg), by simp, by simp, by simp⟩
  have HENV : Hid (∀ wx b, Below w3.heap.size w3 wx → w3.heap.size ≤ b → EnvFrom b wx) := hide (fun wx b hb hle => ⟨w, he, Nat.le_trans hb03.size hle, hb03.trans (hb.mono hb03.size)⟩)
  have HCO : Hid (∀ wx, Below w3.heap.size w3 wx → Calls Tryz.prog 11 #[.slice ao xs.length ac] wx fun e w' => ∃ co cn cc, e = .returned (.slice co cn cc) ∧ Hid (Lies w' (.slice co cn cc) (ints xs)) ∧ Below wx.heap.size wx w') := hide (fun wx hb => (copiedK_any _ xs wx (by omega) ((unhide HA3).below hb)).mono (fun e w' h => by
    obtain ⟨v', h1, h2, h3⟩ := h
    obtain ⟨co, cc, rfl⟩ := owns_shape h2
    exact ⟨co, _, cc, h1, hide (lies_of_owns h2 (by simp [ints])), h3⟩))
  have HFIN : Hid (∀ wx, Below w3.heap.size w3 wx → Below w.heap.size w wx ∧ UnitsT wx (.slice lo l.length lc) l) := hide (fun wx hb => ⟨hb03.trans (hb.mono hb03.size), (unhide HL3).below hb⟩)
  clear HS3 hX6 HX4 HX5 HL3 HO3 HA3
  go_wp2_with fail
  go_loopw [16, 17, 18, 19, 20, 21, 22, 23, 24, 25] (fun i _ _ _ _ _ _ _ _ _ wr => ∃ k : Nat, k ≤ 3 ∧ i = .int .i64 k ∧ Hid (Three w3.heap.size w3 wr l o w3.heap.size w4.heap.size w4.heap.size w5.heap.size w5.heap.size (3 * k))) (fun i _ _ _ _ _ _ _ _ _ _ => 3 - (intOf i).toNat)
  case atStart => exact ⟨0, by omega, rfl, HT6⟩
  case round =>
    obtain ⟨k, hk, rfl, HT⟩ := hrel
    clear HT6
    by_cases hlt : k < 3
    · have hdk : decide ((k : Int) < 3) = true := decide_eq_true (by omega)
      have HCS := hide (unhide HCO wr (unhide HT).low)
      go_wp2_with fail
      refine (unhide HCS).mono ?_
      rintro e w7 ⟨co, cn, cc, rfl, HL7, hb7⟩
      have HT7 := hide ((unhide HT).below hb7)
      have HQ7 := hide ((unhide HT7).askS (A := xs) (av := .slice co cn cc) (by omega) (unhide HL) (by omega) (unhide HXI) (by omega) (unhide HENV w7 _ (unhide HT7).low (Nat.le_refl _)) (unhide HL7))
      clear HCS HT
      go_wp2_with fail
      refine (unhide HQ7).mono ?_
      rintro e w8 ⟨kr, ro, rk, rc, ro2, rk2, rc2, rcf, rfl, HV8, HT8, HM8, -⟩
      have hb9 : Below w8.heap.size w8 (w8.alloc (.cells #[.int .i64 kr, .slice ro rk rc, .slice ro2 rk2 rc2, .int .i64 rcf] 34)) := below_new w8 _
      have hbox9 : (w8.alloc (.cells #[.int .i64 kr, .slice ro rk rc, .slice ro2 rk2 rc2, .int .i64 rcf] 34)).heap[w8.heap.size]? = some (.cells #[.int .i64 kr, .slice ro rk rc, .slice ro2 rk2 rc2, .int .i64 rcf] 34) := heap_alloc_new w8 _
      have HT9 := hide ((unhide HT8).below hb9)
      have HM9 : Hid (MayW w3.heap.size (w8.alloc (.cells #[.int .i64 kr, .slice ro rk rc, .slice ro2 rk2 rc2, .int .i64 rcf] 34)) ro rk ∧ MayW w3.heap.size (w8.alloc (.cells #[.int .i64 kr, .slice ro rk rc, .slice ro2 rk2 rc2, .int .i64 rcf] 34)) ro2 rk2) := hide ⟨(unhide HM8).1.kept (KeptT.of_below (fun _ => True) hb9) trivial, (unhide HM8).2.kept (KeptT.of_below (fun _ => True) hb9) trivial⟩
      have HC9 := hide (unhide HCO _ (unhide HT9).low)
      have HB9 := hide hbox9
      clear HQ7 HT7 HT8 HM8 hb9 hbox9
      go_wp2_with fail
      generalize w8.alloc (.cells #[.int .i64 kr, .slice ro rk rc, .slice ro2 rk2 rc2, .int .i64 rcf] 34) = w9 at *
      refine (unhide HC9).mono ?_
      rintro e w10 ⟨co, cn, cc, rfl, HL10, hb10⟩
      have HT10 := hide ((unhide HT9).below hb10)
      have HQ10 := hide ((unhide HT10).askU (A := xs) (av := .slice co cn cc) (by omega) (unhide HO) (by omega) (unhide HXI) (by omega) (unhide HENV w10 _ (unhide HT10).low (by omega)) (unhide HL10))
      have HB10 := hide ((hb10.block _ (lt_of_block (unhide HB9))).trans (unhide HB9))
      have HM10 : Hid (MayW w3.heap.size w10 ro rk ∧ MayW w3.heap.size w10 ro2 rk2) := hide ⟨(unhide HM9).1.kept (KeptT.of_below (fun _ => True) hb10) trivial, (unhide HM9).2.kept (KeptT.of_below (fun _ => True) hb10) trivial⟩
      clear HC9 HT9 HM9 HB9
      go_wp2_with fail
      refine (unhide HQ10).mono ?_
      rintro e w11 ⟨kx, xo, xk, xc, xo2, xk2, xc2, xcf, rfl, -, HT11, HM11, HK11⟩
      have hb12 : Below w11.heap.size w11 (w11.alloc (.cells #[.int .i64 kx, .slice xo xk xc, .slice xo2 xk2 xc2, .int .i64 xcf] 34)) := below_new w11 _
      have hbox12 : (w11.alloc (.cells #[.int .i64 kx, .slice xo xk xc, .slice xo2 xk2 xc2, .int .i64 xcf] 34)).heap[w11.heap.size]? = some (.cells #[.int .i64 kx, .slice xo xk xc, .slice xo2 xk2 xc2, .int .i64 xcf] 34) := heap_alloc_new w11 _
      have HT12 := hide ((unhide HT11).below hb12)
      have HR11 : Hid (w11.heap[w8.heap.size]? = some (.cells #[.int .i64 kr, .slice ro rk rc, .slice ro2 rk2 rc2, .int .i64 rcf] 34)) := hide ((unhide HK11 _ _ _ _ ⟨by decide, by decide⟩ (unhide HB10)).trans (unhide HB10))
      have HR12 := hide ((hb12.block _ (lt_of_block (unhide HR11))).trans (unhide HR11))
      have HM12 : Hid ((MayW w3.heap.size (w11.alloc (.cells #[.int .i64 kx, .slice xo xk xc, .slice xo2 xk2 xc2, .int .i64 xcf] 34)) ro rk ∧ MayW w3.heap.size (w11.alloc (.cells #[.int .i64 kx, .slice xo xk xc, .slice xo2 xk2 xc2, .int .i64 xcf] 34)) ro2 rk2) ∧ MayW w3.heap.size (w11.alloc (.cells #[.int .i64 kx, .slice xo xk xc, .slice xo2 xk2 xc2, .int .i64 xcf] 34)) xo2 xk2) := hide ⟨⟨((unhide HM10).1.kept (unhide HK11) ⟨by decide, by decide⟩).kept (KeptT.of_below (fun _ => True) hb12) trivial, ((unhide HM10).2.kept (unhide HK11) ⟨by decide, by decide⟩).kept (KeptT.of_below (fun _ => True) hb12) trivial⟩, (unhide HM11).2.kept (KeptT.of_below (fun _ => True) hb12) trivial⟩
      have HC12 := hide (unhide HCO _ (unhide HT12).low)
      have HB12 := hide hbox12
      clear HQ10 HT10 HT11 HM11 HM10 HB10 HR11 HK11 hb12 hbox12
      go_wp2_with fail
      generalize w11.alloc (.cells #[.int .i64 kx, .slice xo xk xc, .slice xo2 xk2 xc2, .int .i64 xcf] 34) = w12 at *
      refine (unhide HC12).mono ?_
      rintro e w13 ⟨co, cn, cc, rfl, HL13, hb13⟩
      have HT13 := hide ((unhide HT12).below hb13)
      have HQ13 := hide ((unhide HT13).askT (A := xs) (av := .slice co cn cc) (by omega) (unhide HL) (by omega) (unhide HXI) (by omega) (unhide HENV w13 _ (unhide HT13).low (by omega)) (unhide HL13))
      have HR13 := hide ((hb13.block _ (lt_of_block (unhide HR12))).trans (unhide HR12))
      have HB13 := hide ((hb13.block _ (lt_of_block (unhide HB12))).trans (unhide HB12))
      have HM13 : Hid ((MayW w3.heap.size w13 ro rk ∧ MayW w3.heap.size w13 ro2 rk2) ∧ MayW w3.heap.size w13 xo2 xk2) := hide ⟨⟨(unhide HM12).1.1.kept (KeptT.of_below (fun _ => True) hb13) trivial, (unhide HM12).1.2.kept (KeptT.of_below (fun _ => True) hb13) trivial⟩, (unhide HM12).2.kept (KeptT.of_below (fun _ => True) hb13) trivial⟩
      clear HC12 HT12 HM12 HB12 HR12
      go_wp2_with fail
      refine (unhide HQ13).mono ?_
      rintro e w14 ⟨kq, qo, qk, qc, qo2, qk2, qc2, qcf, rfl, HV14, HT14, HM14, HK14⟩
      have hkk : kr = kq := (unhide HV8).same (unhide HV14)
      have hk12 := (unhide HV14).two
      subst hkk
      have hb15 : Below w14.heap.size w14 (w14.alloc (.cells #[.int .i64 kr, .slice qo qk qc, .slice qo2 qk2 qc2, .int .i64 qcf] 34)) := below_new w14 _
      have hbox15 : (w14.alloc (.cells #[.int .i64 kr, .slice qo qk qc, .slice qo2 qk2 qc2, .int .i64 qcf] 34)).heap[w14.heap.size]? = some (.cells #[.int .i64 kr, .slice qo qk qc, .slice qo2 qk2 qc2, .int .i64 qcf] 34) := heap_alloc_new w14 _
      have HT15 := hide ((unhide HT14).below hb15)
      have hR14 : w14.heap[w8.heap.size]? = some (.cells #[.int .i64 kr, .slice ro rk rc, .slice ro2 rk2 rc2, .int .i64 rcf] 34) := (unhide HK14 _ _ _ _ ⟨by decide, by decide⟩ (unhide HR13)).trans (unhide HR13)
      have hX14 : w14.heap[w11.heap.size]? = some (.cells #[.int .i64 kx, .slice xo xk xc, .slice xo2 xk2 xc2, .int .i64 xcf] 34) := (unhide HK14 _ _ _ _ ⟨by decide, by decide⟩ (unhide HB13)).trans (unhide HB13)
      have HR15 := hide ((hb15.block _ (lt_of_block hR14)).trans hR14)
      have HX15 := hide ((hb15.block _ (lt_of_block hX14)).trans hX14)
      have HM15 : Hid ((MayW w3.heap.size (w14.alloc (.cells #[.int .i64 kr, .slice qo qk qc, .slice qo2 qk2 qc2, .int .i64 qcf] 34)) ro rk ∧ MayW w3.heap.size (w14.alloc (.cells #[.int .i64 kr, .slice qo qk qc, .slice qo2 qk2 qc2, .int .i64 qcf] 34)) ro2 rk2) ∧ MayW w3.heap.size (w14.alloc (.cells #[.int .i64 kr, .slice qo qk qc, .slice qo2 qk2 qc2, .int .i64 qcf] 34)) xo2 xk2) := hide ⟨⟨((unhide HM13).1.1.kept (unhide HK14) ⟨by decide, by decide⟩).kept (KeptT.of_below (fun _ => True) hb15) trivial, ((unhide HM13).1.2.kept (unhide HK14) ⟨by decide, by decide⟩).kept (KeptT.of_below (fun _ => True) hb15) trivial⟩, ((unhide HM13).2.kept (unhide HK14) ⟨by decide, by decide⟩).kept (KeptT.of_below (fun _ => True) hb15) trivial⟩
      have HQ15 := hide hbox15
      clear HQ13 HT13 HT14 HM14 HM13 HB13 HR13 HK14 hb15 hbox15 hR14 hX14 HV8 HV14
      have HOW : Hid (OW w3.heap.size w3 (w14.alloc (.cells #[.int .i64 kr, .slice qo qk qc, .slice qo2 qk2 qc2, .int .i64 qcf] 34)) l o w3.heap.size w4.heap.size w4.heap.size w5.heap.size w5.heap.size (3 * (k + 1)) w8.heap.size w11.heap.size ro rk ro2 rk2 xo2 xk2 #[.int .i64 kr, .slice ro rk rc, .slice ro2 rk2 rc2, .int .i64 rcf] #[.int .i64 kx, .slice xo xk xc, .slice xo2 xk2 xc2, .int .i64 xcf]) := hide ⟨(unhide HT15).more (by omega), unhide HR15, unhide HX15, (unhide HM15).1.1, (unhide HM15).1.2, (unhide HM15).2⟩
      have q0 : (w14.alloc (.cells #[.int .i64 kr, .slice qo qk qc, .slice qo2 qk2 qc2, .int .i64 qcf] 34)).cell? ⟨w14.heap.size, 0, none⟩ = some (.int .i64 kr) := by rw [World.cell?, unhide HQ15]; rfl
      have p0 : (w14.alloc (.cells #[.int .i64 kr, .slice qo qk qc, .slice qo2 qk2 qc2, .int .i64 qcf] 34)).cell? ⟨w8.heap.size, 0, none⟩ = some (.int .i64 kr) := by rw [World.cell?, unhide HR15]; rfl
      clear HT15 HR15 HX15 HM15 HQ15 HCO HENV
      obtain ⟨w15, hw15⟩ : ∃ w15, w14.alloc (.cells #[.int .i64 kr, .slice qo qk qc, .slice qo2 qk2 qc2, .int .i64 qcf] 34) = w15 := ⟨_, rfl⟩
      rw [hw15] at HOW q0 p0
      rcases hk12 with rfl | rfl
      · go_wp2_with fail
        go_loopw [23] (fun i wi => ∃ j : Nat, j ≤ rk ∧ i = .int .i64 j ∧ Hid (OW w3.heap.size w3 wi l o w3.heap.size w4.heap.size w4.heap.size w5.heap.size w5.heap.size (3 * (k + 1)) w8.heap.size w11.heap.size ro rk ro2 rk2 xo2 xk2 #[.int .i64 1, .slice ro rk rc, .slice ro2 rk2 rc2, .int .i64 rcf] #[.int .i64 kx, .slice xo xk xc, .slice xo2 xk2 xc2, .int .i64 xcf])) (fun i _ => rk - (intOf i).toNat)
        case atStart => exact ⟨0, Nat.zero_le _, rfl, HOW⟩
        case round =>
          clear HOW
          obtain ⟨j, hj, rfl, HOW⟩ := hrel
          have hbn := (unhide HOW).m1.1
          have f1 : wr.cell? ⟨w8.heap.size, 1, none⟩ = some (.slice ro rk rc) := by simp [World.cell?, (unhide HOW).rbox]
          by_cases hjl : j < rk
          · obtain ⟨g, v0, rfl, hbg, hglt, hcell, hfz, cs, hcs⟩ := (unhide HOW).m1.cell hjl
            have HNX := hide ((unhide HOW).set (k := j) hcs hbg (.int .i64 77))
            clear HOW hcs
            go_wp2
            go_roundw
            case rel => exact ⟨j + 1, by omega, by go_num, HNX⟩
            case measure => simp [intOf]; omega
          · skip
            go_wp2_with fail
            go_loopw [24] (fun i wi => ∃ j : Nat, j ≤ rk2 ∧ i = .int .i64 j ∧ Hid (OW w3.heap.size w3 wi l o w3.heap.size w4.heap.size w4.heap.size w5.heap.size w5.heap.size (3 * (k + 1)) w8.heap.size w11.heap.size ro rk ro2 rk2 xo2 xk2 #[.int .i64 1, .slice ro rk rc, .slice ro2 rk2 rc2, .int .i64 rcf] #[.int .i64 kx, .slice xo xk xc, .slice xo2 xk2 xc2, .int .i64 xcf])) (fun i _ => rk2 - (intOf i).toNat)
            case atStart => exact ⟨0, Nat.zero_le _, rfl, HOW⟩
            case round =>
              clear HOW
              obtain ⟨j, hj, rfl, HOW⟩ := hrel
              have hbn := (unhide HOW).m2.1
              have f1 : wr.cell? ⟨w8.heap.size, 2, none⟩ = some (.slice ro2 rk2 rc2) := by simp [World.cell?, (unhide HOW).rbox]
              by_cases hjl : j < rk2
              · obtain ⟨g, v0, rfl, hbg, hglt, hcell, hfz, cs, hcs⟩ := (unhide HOW).m2.cell hjl
                have HNX := hide ((unhide HOW).set (k := j) hcs hbg (.int .i64 77))
                clear HOW hcs
                go_wp2
                go_roundw
                case rel => exact ⟨j + 1, by omega, by go_num, HNX⟩
                case measure => simp [intOf]; omega
              · skip
                go_wp2_with fail
                go_loopw [25] (fun i wi => ∃ j : Nat, j ≤ xk2 ∧ i = .int .i64 j ∧ Hid (OW w3.heap.size w3 wi l o w3.heap.size w4.heap.size w4.heap.size w5.heap.size w5.heap.size (3 * (k + 1)) w8.heap.size w11.heap.size ro rk ro2 rk2 xo2 xk2 #[.int .i64 1, .slice ro rk rc, .slice ro2 rk2 rc2, .int .i64 rcf] #[.int .i64 kx, .slice xo xk xc, .slice xo2 xk2 xc2, .int .i64 xcf])) (fun i _ => xk2 - (intOf i).toNat)
                case atStart => exact ⟨0, Nat.zero_le _, rfl, HOW⟩
                case round =>
                  clear HOW
                  obtain ⟨j, hj, rfl, HOW⟩ := hrel
                  have hbn := (unhide HOW).m3.1
                  have f1 : wr.cell? ⟨w11.heap.size, 2, none⟩ = some (.slice xo2 xk2 xc2) := by simp [World.cell?, (unhide HOW).xbox]
                  by_cases hjl : j < xk2
                  · obtain ⟨g, v0, rfl, hbg, hglt, hcell, hfz, cs, hcs⟩ := (unhide HOW).m3.cell hjl
                    have HNX := hide ((unhide HOW).set (k := j) hcs hbg (.int .i64 77))
                    clear HOW hcs
                    go_wp2
                    go_roundw
                    case rel => exact ⟨j + 1, by omega, by go_num, HNX⟩
                    case measure => simp [intOf]; omega
                  · skip
                    have HTN := hide (unhide HOW).three
                    clear HOW
                    go_wp2
                    go_roundw
                    case rel => exact ⟨k + 1, by omega, by go_num, HTN⟩
                    case measure => simp [intOf]; omega
      · go_wp2_with fail
        go_loopw [23] (fun i wi => ∃ j : Nat, j ≤ rk ∧ i = .int .i64 j ∧ Hid (OW w3.heap.size w3 wi l o w3.heap.size w4.heap.size w4.heap.size w5.heap.size w5.heap.size (3 * (k + 1)) w8.heap.size w11.heap.size ro rk ro2 rk2 xo2 xk2 #[.int .i64 2, .slice ro rk rc, .slice ro2 rk2 rc2, .int .i64 rcf] #[.int .i64 kx, .slice xo xk xc, .slice xo2 xk2 xc2, .int .i64 xcf])) (fun i _ => rk - (intOf i).toNat)
        case atStart => exact ⟨0, Nat.zero_le _, rfl, HOW⟩
        case round =>
          clear HOW
          obtain ⟨j, hj, rfl, HOW⟩ := hrel
          have hbn := (unhide HOW).m1.1
          have f1 : wr.cell? ⟨w8.heap.size, 1, none⟩ = some (.slice ro rk rc) := by simp [World.cell?, (unhide HOW).rbox]
          by_cases hjl : j < rk
          · obtain ⟨g, v0, rfl, hbg, hglt, hcell, hfz, cs, hcs⟩ := (unhide HOW).m1.cell hjl
            have HNX := hide ((unhide HOW).set (k := j) hcs hbg (.int .i64 77))
            clear HOW hcs
            go_wp2
            go_roundw
            case rel => exact ⟨j + 1, by omega, by go_num, HNX⟩
            case measure => simp [intOf]; omega
          · skip
            go_wp2_with fail
            go_loopw [24] (fun i wi => ∃ j : Nat, j ≤ rk2 ∧ i = .int .i64 j ∧ Hid (OW w3.heap.size w3 wi l o w3.heap.size w4.heap.size w4.heap.size w5.heap.size w5.heap.size (3 * (k + 1)) w8.heap.size w11.heap.size ro rk ro2 rk2 xo2 xk2 #[.int .i64 2, .slice ro rk rc, .slice ro2 rk2 rc2, .int .i64 rcf] #[.int .i64 kx, .slice xo xk xc, .slice xo2 xk2 xc2, .int .i64 xcf])) (fun i _ => rk2 - (intOf i).toNat)
            case atStart => exact ⟨0, Nat.zero_le _, rfl, HOW⟩
            case round =>
              clear HOW
              obtain ⟨j, hj, rfl, HOW⟩ := hrel
              have hbn := (unhide HOW).m2.1
              have f1 : wr.cell? ⟨w8.heap.size, 2, none⟩ = some (.slice ro2 rk2 rc2) := by simp [World.cell?, (unhide HOW).rbox]
              by_cases hjl : j < rk2
              · obtain ⟨g, v0, rfl, hbg, hglt, hcell, hfz, cs, hcs⟩ := (unhide HOW).m2.cell hjl
                have HNX := hide ((unhide HOW).set (k := j) hcs hbg (.int .i64 77))
                clear HOW hcs
                go_wp2
                go_roundw
                case rel => exact ⟨j + 1, by omega, by go_num, HNX⟩
                case measure => simp [intOf]; omega
              · skip
                go_wp2_with fail
                go_loopw [25] (fun i wi => ∃ j : Nat, j ≤ xk2 ∧ i = .int .i64 j ∧ Hid (OW w3.heap.size w3 wi l o w3.heap.size w4.heap.size w4.heap.size w5.heap.size w5.heap.size (3 * (k + 1)) w8.heap.size w11.heap.size ro rk ro2 rk2 xo2 xk2 #[.int .i64 2, .slice ro rk rc, .slice ro2 rk2 rc2, .int .i64 rcf] #[.int .i64 kx, .slice xo xk xc, .slice xo2 xk2 xc2, .int .i64 xcf])) (fun i _ => xk2 - (intOf i).toNat)
                case atStart => exact ⟨0, Nat.zero_le _, rfl, HOW⟩
                case round =>
                  clear HOW
                  obtain ⟨j, hj, rfl, HOW⟩ := hrel
                  have hbn := (unhide HOW).m3.1
                  have f1 : wr.cell? ⟨w11.heap.size, 2, none⟩ = some (.slice xo2 xk2 xc2) := by simp [World.cell?, (unhide HOW).xbox]
                  by_cases hjl : j < xk2
                  · obtain ⟨g, v0, rfl, hbg, hglt, hcell, hfz, cs, hcs⟩ := (unhide HOW).m3.cell hjl
                    have HNX := hide ((unhide HOW).set (k := j) hcs hbg (.int .i64 77))
                    clear HOW hcs
                    go_wp2
                    go_roundw
                    case rel => exact ⟨j + 1, by omega, by go_num, HNX⟩
                    case measure => simp [intOf]; omega
                  · skip
                    have HTN := hide (unhide HOW).three
                    clear HOW
                    go_wp2
                    go_roundw
                    case rel => exact ⟨k + 1, by omega, by go_num, HTN⟩
                    case measure => simp [intOf]; omega
    · have hk3 : k = 3 := by omega
      subst hk3
      obtain ⟨kvs', pvs, kvt', pvt, kvu', pvu, pbs, pbt, pbu, hT⟩ := unhide HT
      obtain ⟨hbw, hun⟩ := unhide HFIN wr hT.low
      have hls := hT.ls
      have hlt' := hT.lt
      have hb0 := hT.b0
      have hXu := hT.u
      have HRS : Hid (Calls Tryz.prog 21 #[.pointer (some ⟨w5.heap.size, 0, none⟩)] wr fun e w' => e = .returned (.tuple #[]) ∧ Hid (XAt w5.heap.size w' w5.heap.size (.slice none 0 0) [] (.slice none 0 0) []) ∧ Hid (XAt w3.heap.size w' w3.heap.size kvs' (keptTo l l.length) pvs pbs) ∧ Hid (XAt w4.heap.size w' w4.heap.size kvt' (keptTo l l.length) pvt pbt) ∧ Hid (Below w3.heap.size w3 w')) := hide ((resetX_any _ _ kvu' _ wr pvu pbu hXu).mono (fun e w' h => by
        obtain ⟨h1, h2, h3⟩ := h
        have hk : KeptT (fun t => t ≠ 57) wr w' := fun j cs t fz ht hj => h3.block j (lt_of_block hj) (fun e => by
          subst e
          rw [hXu.block] at hj
          cases hj
          exact ht rfl)
        exact ⟨h1, hide h2, hide ⟨(h3.block _ (lt_of_block hT.s.block) hT.su).trans hT.s.block, hT.s.le, owns_kept hT.s.row hk (by decide), owns_kept hT.s.prow hk (by decide)⟩, hide ⟨(h3.block _ (lt_of_block hT.t.block) hT.tu).trans hT.t.block, hT.t.le, owns_kept hT.t.row hk (by decide), owns_kept hT.t.prow hk (by decide)⟩, hide (hT.low.trans (h3.below (fun j hj => by rw [hj]; omega) hb0))⟩))
      have hpst := hT.pst
      have HPST := hide hpst
      have hOK : KeptOK (keptTo l l.length) := kept_fine (unhide HL) (by omega)
      clear hT hun hXu HT
      go_wp2_with fail
      refine (unhide HRS).mono ?_
      rintro e w7 ⟨rfl, HU7, HS7, HT7, HB7⟩
      have HM7 : Hid (Calls Tryz.prog 22 #[.slice lo l.length lc, .int .i64 7] w7 fun e w' => e = .returned (.int .i64 (modelsTo l (2 ^ 7) : Nat)) ∧ ∃ q, w' = w7.drewN q) := hide (modelsK_any _ l 7 w7 (by omega) (by omega) (fun c hc => ⟨(unhide HL c hc).1, by have := (unhide HL c hc).2; omega⟩) (unhide HFIN w7 (unhide HB7)).2.rows)
      have HVS : Hid (∀ q, Calls Tryz.prog 15 #[.pointer (some ⟨w3.heap.size, 0, none⟩), .slice none 0 0] (w7.drewN q) fun e w' => e = .returned (.int .i64 (if modelsTo l (2 ^ 7) = 0 then 2 else 1)) ∧ Hid (XAt w5.heap.size w' w5.heap.size (.slice none 0 0) [] (.slice none 0 0) []) ∧ Hid (∃ pv pb, XAt w3.heap.size w' w3.heap.size kvs' (keptTo l l.length) pv pb ∧ ∀ g, pv.ownBlock = some g → pvt.ownBlock ≠ some g) ∧ Hid (XAt w4.heap.size w' w4.heap.size kvt' (keptTo l l.length) pvt pbt) ∧ Hid (Below w3.heap.size w3 w')) := hide (fun q => by
        have hq : Below w7.heap.size w7 (w7.drewN q) := belowDrew (Below.refl _ _) q
        have hS := (unhide HS7).below hq
        have hTt := (unhide HT7).below hq
        have hUu := (unhide HU7).below hq
        have hB := (unhide HB7).trans (hq.mono (unhide HB7).size)
        refine (verdictK (A := []) hS hOK (unhide HENV _ _ hB (Nat.le_refl _)) (fun y hy => by cases hy) (by simp) (Lies.nil _) (by omega)).mono ?_
        rintro e w' ⟨kind, vm, vc, cf, rfl, hres⟩
        obtain ⟨pv', pb', b1, b2, b3, b4, b5, b6⟩ := hres.apart (n := 9) hS (by omega)
        refine ⟨?_, hide (hUu.other hS (by omega) (fun g hg => by cases hg) b3), hide ⟨pv', pb', b1, fun g hg hg2 => ?_⟩, hide (hTt.other hS (by omega) (fun g hg hg2 => unhide HPST g hg2 hg) b3), hide (hB.trans b5)⟩
        · have hv := hres.verd (unhide HL) (by omega) (fun y hy => by cases hy)
          rcases hv with ⟨rfl, b, d1, d2⟩ | ⟨rfl, d1⟩
          · rw [if_neg (fun h0 => (models_any (fun c hc => (unhide HLI c hc).1)).1 h0 b d2)]
          · rw [if_pos ((models_any (fun c hc => (unhide HLI c hc).1)).2 (fun b hb => d1 b hb (fun y hy => by cases hy)))]
        · rcases b4 g hg with h1 | h1
          · exact unhide HPST g h1 hg2
          · have := (hTt.prow.lt g hg2).2; omega)
      have HVT : Hid (∀ wx pvs2 pbs2, XAt w4.heap.size wx w4.heap.size kvt' (keptTo l l.length) pvt pbt → XAt w3.heap.size wx w3.heap.size kvs' (keptTo l l.length) pvs2 pbs2 → (∀ g, pvs2.ownBlock = some g → pvt.ownBlock ≠ some g) → XAt w5.heap.size wx w5.heap.size (.slice none 0 0) [] (.slice none 0 0) [] → Below w3.heap.size w3 wx → Calls Tryz.prog 15 #[.pointer (some ⟨w4.heap.size, 0, none⟩), .slice none 0 0] wx fun e w' => e = .returned (.int .i64 (if modelsTo l (2 ^ 7) = 0 then 2 else 1)) ∧ Hid (XAt w5.heap.size w' w5.heap.size (.slice none 0 0) [] (.slice none 0 0) []) ∧ Hid (XAt w3.heap.size w' w3.heap.size kvs' (keptTo l l.length) pvs2 pbs2) ∧ Hid (∃ pv pb, XAt w4.heap.size w' w4.heap.size kvt' (keptTo l l.length) pv pb) ∧ Hid (Below w3.heap.size w3 w')) := hide (fun wx pvs2 pbs2 hTt hS hps hUu hB => by
        refine (verdictK (A := []) hTt hOK (unhide HENV _ _ hB (by omega)) (fun y hy => by cases hy) (by simp) (Lies.nil _) (by omega)).mono ?_
        rintro e w' ⟨kind, vm, vc, cf, rfl, hres⟩
        obtain ⟨pv', pb', b1, b2, b3, b4, b5, b6⟩ := hres.apart (n := 9) hTt (by omega)
        refine ⟨?_, hide (hUu.other hTt (by omega) (fun g hg => by cases hg) b3), hide (hS.other hTt (by omega) hps b3), hide ⟨pv', pb', b1⟩, hide (hB.trans (b5.mono (by omega)))⟩
        have hv := hres.verd (unhide HL) (by omega) (fun y hy => by cases hy)
        rcases hv with ⟨rfl, b, d1, d2⟩ | ⟨rfl, d1⟩
        · rw [if_neg (fun h0 => (models_any (fun c hc => (unhide HLI c hc).1)).1 h0 b d2)]
        · rw [if_pos ((models_any (fun c hc => (unhide HLI c hc).1)).2 (fun b hb => d1 b hb (fun y hy => by cases hy)))])
      have HCL : Hid (∀ wx b x kv pv pb ms, XAt b wx x kv ms pv pb → KeptOK ms → Below w3.heap.size w3 wx → Calls Tryz.prog 18 #[.pointer (some ⟨x, 0, none⟩)] wx fun e w' => e = .returned (.string (bs (maskText ms))) ∧ Below wx.heap.size wx w') := hide (fun wx b x kv pv pb ms hX hok hB => clausesX_any _ _ kv ms wx pv pb hX (by have := hok.2.2; omega) (fun m hm => (hok.1 m hm).1) (unhide HENV wx w3.heap.size hB (Nat.le_refl _)).at)
      have HFN : Hid (∀ wx, Below w3.heap.size w3 wx → Below w.heap.size w wx) := hide (fun wx hb => (unhide HFIN wx hb).1)
      have HOK := hide hOK
      clear HRS HU7 HS7 HT7 hOK hpst HPST HFIN HCO
      by_cases hm : modelsTo l (2 ^ 7) = 0
      · rw [hm] at HM7
        rw [if_pos hm] at HVS HVT
        clear hm
        go_wp2_with fail
        refine (unhide HM7).mono ?_
        rintro e w8 ⟨rfl, q, rfl⟩
        go_wp2_with fail
        refine (unhide HVS q).mono ?_
        rintro e w9 ⟨rfl, HU9, HS9, HT9, HB9⟩
        obtain ⟨pv9, pb9, hS9, hp9⟩ := unhide HS9
        have HV9 := hide (unhide HVT w9 pv9 pb9 (unhide HT9) hS9 hp9 (unhide HU9) (unhide HB9))
        clear HVS HVT HM7 HU9 HS9 HT9 hS9
        go_wp2_with fail
        refine (unhide HV9).mono ?_
        rintro e w10 ⟨rfl, HU10, HS10, HT10, HB10⟩
        obtain ⟨pv10, pb10, hT10⟩ := unhide HT10
        have HC10 : Hid (Calls Tryz.prog 18 #[.pointer (some ⟨w5.heap.size, 0, none⟩)] w10 fun e w' => e = .returned (.string ⟨#[]⟩) ∧ Below w10.heap.size w10 w') := hide (unhide HCL w10 _ _ _ _ _ [] (unhide HU10) ok0 (unhide HB10))
        have HS11 : Hid (∀ wx, Below w10.heap.size w10 wx → Calls Tryz.prog 18 #[.pointer (some ⟨w3.heap.size, 0, none⟩)] wx fun e w' => e = .returned (.string (bs (maskText (keptTo l l.length)))) ∧ Below wx.heap.size wx w') := hide (fun wx hb => unhide HCL wx _ _ _ _ _ _ ((unhide HS10).below hb) (unhide HOK) ((unhide HB10).trans (hb.mono (unhide HB10).size)))
        have HT11 : Hid (∀ wx, Below w10.heap.size w10 wx → Calls Tryz.prog 18 #[.pointer (some ⟨w4.heap.size, 0, none⟩)] wx fun e w' => e = .returned (.string (bs (maskText (keptTo l l.length)))) ∧ Below wx.heap.size wx w') := hide (fun wx hb => unhide HCL wx _ _ _ _ _ _ (hT10.below hb) (unhide HOK) ((unhide HB10).trans (hb.mono (unhide HB10).size)))
        clear HV9 HCL HU10 HS10 HT10 hT10
        generalize maskText (keptTo l l.length) = mt at *
        go_wp2_with fail
        refine (unhide HC10).mono ?_
        rintro e w11 ⟨rfl, hb11⟩
        go_wp2_with fail
        refine (unhide HS11 w11 hb11).mono ?_
        rintro e w12 ⟨rfl, hb12⟩
        have hb1012 := hb11.trans (hb12.mono hb11.size)
        go_wp2_with fail
        refine (unhide HT11 w12 hb1012).mono ?_
        rintro e w13 ⟨rfl, hb13⟩
        go_wp2
        go_ret
        exact ⟨by simp, unhide HFN _ ((unhide HB10).trans ((hb1012.trans (hb13.mono hb1012.size)).mono (unhide HB10).size))⟩
      · rw [if_neg hm] at HVS HVT
        have hmq : ((modelsTo l (2 ^ 7) : Int) == 0) = false := by rw [beq_eq_false_iff_ne]; omega
        generalize modelsTo l (2 ^ 7) = mn at *
        clear hm
        go_wp2_with fail
        refine (unhide HM7).mono ?_
        rintro e w8 ⟨rfl, q, rfl⟩
        go_wp2_with fail
        refine (unhide HVS q).mono ?_
        rintro e w9 ⟨rfl, HU9, HS9, HT9, HB9⟩
        obtain ⟨pv9, pb9, hS9, hp9⟩ := unhide HS9
        have HV9 := hide (unhide HVT w9 pv9 pb9 (unhide HT9) hS9 hp9 (unhide HU9) (unhide HB9))
        clear HVS HVT HM7 HU9 HS9 HT9 hS9
        go_wp2_with fail
        refine (unhide HV9).mono ?_
        rintro e w10 ⟨rfl, HU10, HS10, HT10, HB10⟩
        obtain ⟨pv10, pb10, hT10⟩ := unhide HT10
        have HC10 : Hid (Calls Tryz.prog 18 #[.pointer (some ⟨w5.heap.size, 0, none⟩)] w10 fun e w' => e = .returned (.string ⟨#[]⟩) ∧ Below w10.heap.size w10 w') := hide (unhide HCL w10 _ _ _ _ _ [] (unhide HU10) ok0 (unhide HB10))
        have HS11 : Hid (∀ wx, Below w10.heap.size w10 wx → Calls Tryz.prog 18 #[.pointer (some ⟨w3.heap.size, 0, none⟩)] wx fun e w' => e = .returned (.string (bs (maskText (keptTo l l.length)))) ∧ Below wx.heap.size wx w') := hide (fun wx hb => unhide HCL wx _ _ _ _ _ _ ((unhide HS10).below hb) (unhide HOK) ((unhide HB10).trans (hb.mono (unhide HB10).size)))
        have HT11 : Hid (∀ wx, Below w10.heap.size w10 wx → Calls Tryz.prog 18 #[.pointer (some ⟨w4.heap.size, 0, none⟩)] wx fun e w' => e = .returned (.string (bs (maskText (keptTo l l.length)))) ∧ Below wx.heap.size wx w') := hide (fun wx hb => unhide HCL wx _ _ _ _ _ _ (hT10.below hb) (unhide HOK) ((unhide HB10).trans (hb.mono (unhide HB10).size)))
        clear HV9 HCL HU10 HS10 HT10 hT10
        generalize maskText (keptTo l l.length) = mt at *
        go_wp2_with fail
        refine (unhide HC10).mono ?_
        rintro e w11 ⟨rfl, hb11⟩
        go_wp2_with fail
        refine (unhide HS11 w11 hb11).mono ?_
        rintro e w12 ⟨rfl, hb12⟩
        have hb1012 := hb11.trans (hb12.mono hb11.size)
        go_wp2_with fail
        refine (unhide HT11 w12 hb1012).mono ?_
        rintro e w13 ⟨rfl, hb13⟩
        go_wp2
        go_ret
        exact ⟨by simp, unhide HFN _ ((unhide HB10).trans ((hb1012.trans (hb13.mono hb1012.size)).mono (unhide HB10).size))⟩

theorem apart_all (v0 : Value) (z0 : List Int) (v1 : Value) (z1 : List Int) (v2 : Value) (z2 : List Int) (w : World) (a0 : ArgL w v0 z0) (a1 : ArgL w v1 z1) (a2 : ArgL w v2 z2) (he : EnvT w) :
    Calls Tryz.prog 5 #[v0, v1, v2] w fun e w' => e = .returned (.bool true) ∧ Below w.heap.size w w' :=
  apart_walk v0 v1 v2 z0 z1 z2 w a0.len a1.len a2.len a0.fits a1.fits a2.fits a0.lies a1.lies a2.lies he

end Go.Proofs.YtekkkoipcghlmabGreatDoor

namespace Go.Proofs.YtekkkoipcghlmabGreatDoor
open Go.ChangeShapes Go.WideShapes Go.ChangeAt Go.RowKit Go.Deep

/-- The tables, out of what is laid for Apart. -/
theorem envA_of {W : World} (hL0 : laidMetH Tryz.prog Rows.apartRow.laid W) (_hS : W.ShapedOpen Tryz.prog) : EnvT W := by
  have hL := hL0
  rw [MakeChecks.laidMetH_plain _ _ _ (by kernel_rfl)] at hL
  have hT : Lib.TabIs Tryz.prog W "internal/strconv.uint64pow10" .u64 Lib.pow10Tab := by
    have h2 : laidMet Tryz.prog (("internal/strconv.uint64pow10", Rows.laid_internal_strconv_uint64pow10) :: _) W := hL.tail.tail
    rw [tab_eq] at h2
    exact Lib.tabIs_of_head Tryz.gTab Tryz.gTabType Tryz.underlying210 Tryz.underlying194 Tryz.cellsU64 Tryz.cellsTab h2
  have hB : Lib.TabIs Tryz.prog W "math/bits.deBruijn32tab" .u8 (Lib.deBruijn32tab.map Int.ofNat) := by
    have h2 : laidMet Tryz.prog (("math/bits.deBruijn32tab", Rows.laid_math_bits_deBruijn32tab) :: _) W := hL
    rw [brj_eq] at h2
    exact Lib.tabIs_of_head Tryz.gBrj Tryz.gBrjType Tryz.underlying167 Tryz.underlying5 Tryz.cellsU8 Tryz.cellsBrj h2
  exact ⟨hT, brj_of hB⟩

end Go.Proofs.YtekkkoipcghlmabGreatDoor
