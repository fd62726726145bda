import Derived.Test.YtekkkoipcghlmaaGreatDoorC42
import Derived.Test.YtekkkoipcghlmaaGreatDoorC43
set_option linter.all false
namespace Go.Proofs.YtekkkoipcghlmaaGreatDoor
open Go.RowKit

set_option maxRecDepth 100000 in
set_option maxHeartbeats 6400000 in
theorem sound_walk (v1 v2 : Value) (zs ys : List Int) (vars : Int) (w : World) (h0 : -9223372036854775808 ≤ vars) (h1 : vars ≤ 9223372036854775807) (hl1 : zs.length ≤ 9223372036854775807) (hl2 : ys.length ≤ 9223372036854775807) (hf1 : Fits zs) (hf2 : Fits ys) (hv1 : Lies w v1 (ints zs)) (hv2 : Lies w v2 (ints ys)) (he : Env w) :
    Calls Tryz.prog 8 #[v1, v2, .int .i64 vars] w fun e w' => e = .returned (.bool true) ∧ Below w.heap.size w w' := by
  have HP : Hid (Calls Tryz.prog 14 #[.int .i64 vars, .int .i64 7] w fun e w' => (∃ d : Nat, d < 7 ∧ e = .returned (.int .i64 d)) ∧ w' = w) := hide (pickK_any vars 7 w h0 h1 (by decide) (by decide))
  have HC : Hid (∀ d : Nat, d < 7 → Calls Tryz.prog 15 #[v1, .int .i64 (1 + (d : Int)), .int .i64 30] w fun e w' => ∃ ov vs l, e = .returned ov ∧ w'.ownsRow w.heap.size 25 1 ov l.length vs ∧ RowsAt w' w.heap.size vs l ∧ l.length ≤ 30 ∧ (∀ c, c ∈ l → In (1 + d) c ∧ c.length ≤ 3) ∧ Below w.heap.size w w') := hide (fun d hd => by
    have := clausesK_any v1 zs (1 + d) 30 w hl1 hf1 (by omega) (by omega) (by decide) hv1
    rwa [show (((1 + d : Nat)) : Int) = 1 + (d : Int) from by omega] at this)
  have HC2 : Hid (∀ (d : Nat) wx, d < 7 → Below w.heap.size w wx → Calls Tryz.prog 15 #[v2, .int .i64 (1 + (d : Int)), .int .i64 12] wx fun e w' => ∃ ov vs l, e = .returned ov ∧ w'.ownsRow wx.heap.size 25 1 ov l.length vs ∧ RowsAt w' wx.heap.size vs l ∧ l.length ≤ 12 ∧ (∀ c, c ∈ l → In (1 + d) c ∧ c.length ≤ 3) ∧ Below wx.heap.size wx w') := hide (fun d wx hd hb => by
    have := clausesK_any v2 ys (1 + d) 12 wx hl2 hf2 (by omega) (by omega) (by decide) (hv2.below hb)
    rwa [show (((1 + d : Nat)) : Int) = 1 + (d : Int) from by omega] at this)
  obtain ⟨a1, n1, c1, rfl⟩ : ∃ a n c, v1 = .slice a n c := by
    obtain ⟨a, c, h⟩ := lies_shape hv1; exact ⟨a, _, c, h⟩
  obtain ⟨a2, n2, c2, rfl⟩ : ∃ a n c, v2 = .slice a n c := by
    obtain ⟨a, c, h⟩ := lies_shape hv2; exact ⟨a, _, c, h⟩
  clear hv1 hv2 hf1 hf2
  go_enter Tryz.func8, Tryz.ntmps8
  go_wp2_with fail
  refine (unhide HP).mono ?_
  rintro e w1 ⟨⟨d, hd, rfl⟩, rfl⟩
  go_wp2_with fail
  refine (unhide HC d hd).mono ?_
  rintro e w2 ⟨lv, vs, l, rfl, hrow, hrows, hlen, hall, hb2⟩
  have HC3 := hide (unhide HC2 d w2 hd hb2)
  obtain ⟨lo, lc, hsh⟩ := owns_shape hrow
  subst hsh
  have HROW := hide hrow
  have HROWS := hide hrows
  have HALL := hide hall
  clear hrow hrows hall HP HC HC2
  go_wp2_with fail
  refine (unhide HC3).mono ?_
  rintro e w3 ⟨pv, us, p, rfl, hrow, hrows, hplen, hpall, hb3⟩
  have hb03 : Below w1.heap.size w1 w3 := hb2.trans (hb3.mono hb2.size)
  have HPSH : Hid ((pv = .slice none 0 0 ∧ p.length = 0) ∨ ∃ g pc, pv = .slice (some ⟨g, 0, none⟩) p.length pc ∧ p.length ≤ pc) := hide (by
    rcases hrow.2 with ⟨h1, h2⟩ | ⟨g, cap, cur, h1, _, _, h2, _⟩
    · exact .inl ⟨h1, h2⟩
    · exact .inr ⟨g, cap, h1, h2⟩)
  obtain ⟨po, pc, hsh⟩ := owns_shape hrow
  have HPROW := hide hrow
  have HPROWS := hide hrows
  have HPALL := hide hpall
  have HW := hide (works_any w3 (he.below hb03).toEnvT)
  subst hsh
  clear hrow hrows hpall HC3
  go_wp2_with fail
  refine (unhide HW).mono ?_
  rintro e w4 ⟨rfl, hb4⟩
  have hb04 : Below w1.heap.size w1 w4 := hb03.trans (hb4.mono hb03.size)
  have hs3 := hb3.size
  have hs4 := hb4.size
  have HLT : Hid (∀ c, c ∈ l → ∀ x, x ∈ c → Sp.Lt x) := hide (fun c hc => ((unhide HALL c hc).1).lits (by omega))
  have HPT : Hid (∀ c, c ∈ p → ∀ x, x ∈ c → Sp.Lt x) := hide (fun c hc => ((unhide HPALL c hc).1).lits (by omega))
  have htl := text_len l (fun c hc => (unhide HALL c hc).2)
  have HL4 : Hid (w4.ownsRow w1.heap.size 25 1 (.slice lo l.length lc) l.length vs ∧ RowsAt w4 w1.heap.size vs l) := hide ⟨owns_below (owns_below (unhide HROW) hb3) hb4, ((unhide HROWS).below hb3).below hb4⟩
  have HP4 : Hid (w4.ownsRow w2.heap.size 25 1 (.slice po p.length pc) p.length us ∧ RowsAt w4 w2.heap.size us p) := hide ⟨owns_below (unhide HPROW) hb4, (unhide HPROWS).below hb4⟩
  have HTX := hide (textK_any (.slice lo l.length lc) vs l w1.heap.size w4 (unhide HL4).1 (unhide HL4).2 (by omega) (fun c hc => ⟨unhide HLT c hc, by have := (unhide HALL c hc).2; omega⟩) (by omega) (he.below hb04).toEnvT)
  clear HROW HROWS HPROW HPROWS HW
  go_wp2_with fail
  refine (unhide HTX).mono ?_
  rintro e w5 ⟨rfl, hb5⟩
  have hb05 : Below w1.heap.size w1 w5 := hb04.trans (hb5.mono hb04.size)
  have HL5 : Hid (UnitsT w5 (.slice lo l.length lc) l) := hide ((UnitsT.of_rows (unhide HL4).1 (unhide HL4).2).below hb5)
  have HP5 : Hid (w5.ownsRow w2.heap.size 25 1 (.slice po p.length pc) p.length us ∧ RowsAt w5 w2.heap.size us p) := hide ⟨owns_below (unhide HP4).1 hb5, (unhide HP4).2.below hb5⟩
  have HENV : Hid (∀ wx, Below w5.heap.size w5 wx → Env wx) := hide (fun wx hb => (he.below hb05).below hb)
  have hptl : ∀ k, (Sp.textOf (p.take k)).length ≤ 13 * k := fun k => by
    have := text_len (p.take k) (fun c hc => (unhide HPALL c (List.mem_of_mem_take hc)).2)
    rw [List.length_take] at this
    omega
  have HPTL := hide hptl
  -- text(p[:k])
  have HTK : Hid (∀ k wx, k ≤ p.length → Below w5.heap.size w5 wx → Calls Tryz.prog 30 #[.slice po k pc] wx fun e w' => e = .returned (.string (bs (Sp.textOf (p.take k)))) ∧ Below wx.heap.size wx w') := hide (fun k wx hk hb => by
    have hl : (p.take k).length = k := by rw [List.length_take]; omega
    have := textK_any (.slice po k pc) (us.take k) (p.take k) w2.heap.size wx (by rw [hl]; exact owns_below (owns_take (unhide HP5).1 hk) hb) ((rowsAt_take (unhide HP5).2 k).below hb) (by omega) (fun c hc => ⟨unhide HPT c (List.mem_of_mem_take hc), by have := (unhide HPALL c (List.mem_of_mem_take hc)).2; omega⟩) (by have := unhide HPTL k; omega) (unhide HENV wx hb).toEnvT
    exact this)
  have HCK : Hid (∀ (t : List UInt8) (r : Int × Int) wx, CheckOut (Sp.textOf l) t r → t.length ≤ 6000 → Below w5.heap.size w5 wx → Calls Tryz.prog 31 #[.string (bs (Sp.textOf l)), .string (bs t)] wx fun e w' => e = .returned (.tuple #[.int .i64 r.1, .int .i64 r.2]) ∧ Below wx.heap.size wx w') := hide (fun t r wx h ht hb => checkK wx h (by omega) (by omega) (unhide HENV wx hb))
  have HEN : Hid (∀ (k : Nat) (h : k < p.length) wx cv, Below w5.heap.size w5 wx → us[k]? = some cv → OkTo (l.map Sp.maskOf) p (k + 1) → Calls Tryz.prog 32 #[.slice lo l.length lc, cv, .int .i64 (1 + (d : Int))] wx fun e w' => e = .returned (.bool true) ∧ ∃ q, w' = wx.drewN q) := hide (fun k h wx cv hb hcv hok => by
    have hr := (unhide HP5).2.2 k cv p[k] hcv (by simp [h])
    have := entailedK (.slice lo l.length lc) cv l p[k] (1 + d) wx (by omega) (by omega) (fun c hc => ⟨unhide HLT c hc, by have := (unhide HALL c hc).2; omega⟩) (unhide HPT _ (List.getElem_mem h)) (by have := (unhide HPALL _ (List.getElem_mem h)).2; omega) ((unhide HL5).below hb).rows ((lies_of_owns hr (by simp [ints])).below hb) (fun b hbb => ok_holds (fun c hc x hx => (unhide HLT c hc x hx).1) (fun c hc x hx => (unhide HPT c hc x hx).1) hbb (k + 1) hok k (by omega) h)
    rwa [show (((1 + d : Nat)) : Int) = 1 + (d : Int) from by omega] at this)
  have HFIN : Hid (∀ wx, Below w5.heap.size w5 wx → Below w1.heap.size w1 wx) := hide (fun wx hb => hb05.trans (hb.mono hb05.size))
  have HT6 : Hid ((Sp.textOf l).length ≤ 6000) := hide (by omega)
  have HCELL : Hid (∀ k (_ : k < p.length) wx, Below w5.heap.size w5 wx → ∃ g xo xn xc, po = some ⟨g, 0, none⟩ ∧ wx.cell? ⟨g, k, none⟩ = some (.slice xo xn xc) ∧ us[k]? = some (.slice xo xn xc)) := hide (fun k hk wx hb => by
    have hrow := (unhide HP5).1
    have hul : us.length = p.length := (unhide HP5).2.1
    rcases hrow.2 with ⟨_, h0⟩ | ⟨g, cap, cur, hv, _, hg, _⟩
    · omega
    · have hr := (unhide HP5).2.2 k us[k] p[k] (by simp [hul, hk]) (by simp [hk])
      obtain ⟨xo, xc, hx⟩ := owns_shape hr
      cases hv
      refine ⟨g, xo, p[k].length, xc, rfl, (hb.cell (p := ⟨g, k, none⟩) (lt_of_block hg)).trans ?_, by simp [hul, hk, hx]⟩
      have := hrow.cells (g := g) rfl k us[k] (by simp [hul, hk])
      rw [Addr.add_lit, Nat.zero_add] at this
      rw [this, hx])
  clear HL4 HP4 HTX HL5 htl hptl
  go_wp2_with fail
  go_loopw [12, 13, 14, 15, 16, 17, 18] (fun i _ _ _ _ _ _ wr => ∃ k : Nat, k ≤ p.length + 1 ∧ i = .int .i64 k ∧ Hid (OkTo (l.map Sp.maskOf) p (k - 1)) ∧ Hid (Below w5.heap.size w5 wr)) (fun i _ _ _ _ _ _ _ => p.length + 1 - (intOf i).toNat)
  case atStart => exact ⟨0, by omega, rfl, hide (fun j hj => by omega), hide (Below.refl _ _)⟩
  case round =>
    obtain ⟨k, hk, rfl, HO, HB⟩ := hrel
    have hbr := unhide HB
    by_cases hlt : k ≤ p.length
    · cases k with
      | zero =>
        have HT := hide (unhide HTK 0 wr (Nat.zero_le _) hbr)
        have HK := hide (fun wx hb => unhide HCK [] (0, 0) wx (sound_ok (k := 0) (unhide HLT) (unhide HPT) (unhide HT6) (by simp [Sp.textOf]) (fun j hj => by omega) (Nat.zero_le _)) (by simp) hb)
        have e0 : Sp.textOf (p.take 0) = [] := by simp [Sp.textOf]
        rw [e0] at HT
        clear HTK HCK HEN HCELL HO HB
        rcases unhide HPSH with ⟨h1, h2⟩ | ⟨g, pc', h1, h2⟩
        · simp only [Value.slice.injEq] at h1
          obtain ⟨rfl, -, rfl⟩ := h1
          have H2 := hide h2
          clear h2
          go_wp2_with fail
          refine (unhide HT).mono ?_
          rintro e w6 ⟨rfl, hb6⟩
          have hb56 := hbr.trans (hb6.mono hbr.size)
          go_wp2_with fail
          refine (unhide HK w6 hb56).mono ?_
          rintro e w7 ⟨rfl, hb7⟩
          go_wp2
          go_roundw
          case rel => exact ⟨1, by omega, by go_num, hide (fun j hj => by omega), hide (hb56.trans (hb7.mono hb56.size))⟩
          case measure => simp [intOf]
        · simp only [Value.slice.injEq] at h1
          obtain ⟨rfl, -, rfl⟩ := h1
          go_wp2_with fail
          refine (unhide HT).mono ?_
          rintro e w6 ⟨rfl, hb6⟩
          have hb56 := hbr.trans (hb6.mono hbr.size)
          go_wp2_with fail
          refine (unhide HK w6 hb56).mono ?_
          rintro e w7 ⟨rfl, hb7⟩
          go_wp2
          go_roundw
          case rel => exact ⟨1, by omega, by go_num, hide (fun j hj => by omega), hide (hb56.trans (hb7.mono hb56.size))⟩
          case measure => simp [intOf]
      | succ j =>
        have hj : j < p.length := by omega
        obtain ⟨g, xo, xn, xc, rfl, -, hus⟩ := unhide HCELL j hj wr hbr
        have HCL : Hid (∀ wx, Below w5.heap.size w5 wx → wx.cell? ⟨g, j, none⟩ = some (.slice xo xn xc)) := hide (fun wx hb => by
          obtain ⟨g', xo', xn', xc', h1, h2, h3⟩ := unhide HCELL j hj wx hb
          cases h1
          rw [hus] at h3
          cases h3
          exact h2)
        have hpc : p.length ≤ pc := by
          rcases unhide HPSH with ⟨h1, h2⟩ | ⟨g', pc', h1, h2⟩
          · omega
          · cases h1; exact h2
        have HT := hide (unhide HTK (j + 1) wr hlt hbr)
        have htl := unhide HPTL (j + 1)
        have hoj : OkTo (l.map Sp.maskOf) p j := unhide HO
        by_cases hf : Sp.Fol (l.map Sp.maskOf ++ (p.take j).map Sp.maskOf) (Sp.maskOf p[j])
        · have hok : OkTo (l.map Sp.maskOf) p (j + 1) := fun i hi h => by
            by_cases hij : i < j
            · exact hoj i hij h
            · have : i = j := by omega
              subst this
              exact hf
          have HK := hide (fun wx hb => unhide HCK _ (0, 0) wx (sound_ok (k := j + 1) (unhide HLT) (unhide HPT) (unhide HT6) (by omega) hok hlt) (by omega) hb)
          have HE := hide (fun wx hb => unhide HEN j hj wx _ hb hus hok)
          have HOK := hide hok
          clear HTK HCK HEN HCELL HO HB HPSH hus hoj hf hok
          generalize Sp.textOf (p.take (j + 1)) = T at *
          go_wp2_with fail
          refine (unhide HT).mono ?_
          rintro e w6 ⟨rfl, hb6⟩
          have hb56 := hbr.trans (hb6.mono hbr.size)
          go_wp2_with fail
          refine (unhide HK w6 hb56).mono ?_
          rintro e w7 ⟨rfl, hb7⟩
          have hb57 := hb56.trans (hb7.mono hb56.size)
          have hcl := unhide HCL w7 hb57
          go_wp2_with fail
          refine (unhide HE w7 hb57).mono ?_
          rintro e w8 ⟨rfl, q, rfl⟩
          go_wp2
          go_roundw
          case rel => exact ⟨j + 1 + 1, by omega, by go_num, HOK, hide (belowDrew hb57 q)⟩
          case measure => simp [intOf]; omega
        · have HK := hide (fun wx hb => unhide HCK _ (8, (j : Int) + 1) wx (by have := sound_bad (k := j) (t := []) (unhide HLT) (unhide HPT) (unhide HT6) (by rw [List.append_nil]; omega) hoj hj hf; rw [List.append_nil] at this; exact this) (by omega) hb)
          have HK2 := hide (fun wx hb => unhide HCK _ (8, (j : Int) + 1) wx (sound_bad (k := j) (t := [49, 10, 120]) (unhide HLT) (unhide HPT) (unhide HT6) (by simp; omega) hoj hj hf) (by simp; omega) hb)
          clear HTK HCK HEN HCELL HO HB HPSH hus hoj hf
          generalize Sp.textOf (p.take (j + 1)) = T at *
          have hadd : ∀ wx, (Op.stringOp .add (bs T) ⟨#[49, 10, 120]⟩).run Tryz.prog wx = .ok (.string (bs (T ++ [49, 10, 120]))) wx := fun wx => add_bs T [49, 10, 120] (by simp; omega) wx
          go_wp2_with fail
          refine (unhide HT).mono ?_
          rintro e w6 ⟨rfl, hb6⟩
          have hb56 := hbr.trans (hb6.mono hbr.size)
          go_wp2_with fail
          refine (unhide HK w6 hb56).mono ?_
          rintro e w7 ⟨rfl, hb7⟩
          have hb57 := hb56.trans (hb7.mono hb56.size)
          go_wp2_with fail
          refine (unhide HK2 w7 hb57).mono ?_
          rintro e w8 ⟨rfl, hb8⟩
          have hb58 := hb57.trans (hb8.mono hb57.size)
          go_wp2
          go_ret
          exact ⟨by simp, unhide HFIN _ hb58⟩
    · go_wp2
      go_ret
      exact ⟨rfl, unhide HFIN _ hbr⟩

theorem sound_all (v0 : Value) (z0 : List Int) (v1 : Value) (z1 : List Int) (n2 : Int) (w : World) (a0 : ArgL w v0 z0) (a1 : ArgL w v1 z1) (b2 : ArgI n2) (he : Env w) :
    Calls Tryz.prog 8 #[v0, v1, .int .i64 n2] w fun e w' => e = .returned (.bool true) ∧ Below w.heap.size w w' :=
  sound_walk v0 v1 z0 z1 n2 w b2.1 b2.2 a0.len a1.len a0.fits a1.fits a0.lies a1.lies he

end Go.Proofs.YtekkkoipcghlmaaGreatDoor

namespace Go.Proofs.YtekkkoipcghlmaaGreatDoor
open Go.ChangeShapes Go.WideShapes Go.ChangeAt Go.RowKit Go.Deep

set_option maxRecDepth 100000 in
theorem sound_contract (H : Type) (enc : TypeId × Value → H) (W : World) (base : Nat) (args : Array Value) (ds gs : List (DataW H)) (before : List MemPlace)
    (hval : ∀ (j : Nat) t v, Tryz.f8.params[j]? = some t → args[j]? = some v → Value.okWide Tryz.prog W .any base t v)
    (hW : DataW.Whole enc Tryz.prog Tryz.f8.params.toList Rows.soundSpec.vars false W args.toList ds gs before) (hL : laidMetH Tryz.prog Rows.soundRow.laid W) (hS : W.ShapedOpen Tryz.prog) :
    Calls Tryz.prog 8 args W fun e W' => ∃ v, e = .returned v ∧ Rows.soundSpec.post enc Tryz.prog Tryz.f8 false true false false W args v W' := by
  have he := env_of hL hS
  have hW' := hW
  obtain ⟨p, q, hA0, hV, rfl, hfz, hnd⟩ := hW
  have hA : DataW.TrodAll enc Tryz.prog W 0 (fun _ => true) true Tryz.f8.params.toList args.toList ds p := hA0
  rw [Tryz.params8] at hA hval
  obtain ⟨v0, vs0, d0, ds0, p0, q0, hargs, rfl, rfl, t0, r0⟩ := trodAll_cons hA
  obtain ⟨v1, vs1, d1, ds1, p1, q1, rfl, rfl, rfl, t1, r1⟩ := trodAll_cons r0
  obtain ⟨v2, vs2, d2, ds2, p2, q2, rfl, rfl, rfl, t2, r2⟩ := trodAll_cons r1
  obtain ⟨rfl, rfl, rfl⟩ := trodAll_nil r2
  obtain rfl : args = #[v0, v1, v2] := by cases args; simp_all
  obtain ⟨rfl, rfl⟩ := trodVars_none hV
  obtain ⟨a0, l0, c0, rfl⟩ := okWide_slice Tryz.underlying25 (hval 0 25 v0 rfl rfl)
  obtain ⟨a1, l1, c1, rfl⟩ := okWide_slice Tryz.underlying25 (hval 1 25 v1 rfl rfl)
  obtain ⟨n2, rfl, rfl, rfl, hw2⟩ := open_int Tryz.underlying3 (hval 2 3 v2 rfl rfl) t2
  clear hA0
  simp only [List.append_nil, List.nil_append] at hW'
  have hlt : ∀ x ∈ p0 ++ p1, x.block < W.heap.size := fun x hx => by simpa using hW'.lt x hx
  have hlt0 : ∀ x ∈ p0, x.block < W.heap.size := fun x hx => hlt x (List.mem_append_left _ hx)
  have k0 := fun (W' : World) (hn : Below W.heap.size W W') => Below.trod Tryz.laidOutS (by kernel_rfl) (of_decide_eq_true (by kernel_rfl)) t0 hn hlt0
  have hlt1 : ∀ x ∈ p1, x.block < W.heap.size := fun x hx => hlt x (List.mem_append_right _ hx)
  have k1 := fun (W' : World) (hn : Below W.heap.size W W') => Below.trod Tryz.laidOutS (by kernel_rfl) (of_decide_eq_true (by kernel_rfl)) t1 hn hlt1
  obtain ⟨f0, hf0⟩ := t0
  obtain ⟨z0, hz0⟩ := arg_read hf0
  obtain ⟨f1, hf1⟩ := t1
  obtain ⟨z1, hz1⟩ := arg_read hf1
  refine (sound_all _ z0 _ z1 n2 W hz0 hz1 (wf_bdS hw2) he).mono fun e W' ⟨hr, hb'⟩ => ?_
  subst hr
  exact ⟨_, rfl, _, _, _, [], p0 ++ (p1 ++ ([] ++ ([]))), [], hW', trodAll_mk1 (shut_bool Tryz.underlying4 _), trodAll_cons_mk (k0 W' hb') (trodAll_cons_mk (k1 W' hb') (trodAll_cons_mk (shut_int Tryz.underlying3 hw2) (trodAll_mk0))), rfl, hb'.frame _, fun h => by cases h⟩

theorem sound_start_met (os : Os) : laidMet Tryz.prog Rows.soundRow.laid ((World.laidAll Tryz.prog os Rows.soundRow.laid).forCall (fun _ _ => 0) ⟨#[], #[.slice none 0 0, .slice none 0 0, .int .i64 0], []⟩).memory :=
  laidMet_laidAll _ (by kernel_rfl) (by kernel_rfl)
theorem sound_start_reads (os : Os) {H : Type} (enc : TypeId × Value → H) : ∃ places, DataW.whole enc Tryz.prog ((World.laidAll Tryz.prog os Rows.soundRow.laid).forCall (fun _ _ => 0) ⟨#[], #[.slice none 0 0, .slice none 0 0, .int .i64 0], []⟩).memory Tryz.f8.params.toList Rows.soundSpec.vars false #[Value.slice none 0 0, Value.slice none 0 0, Value.int .i64 0].toList 8 = some ([.nil, .nil, .lit (.int .i64 0)], [], places) :=
  ⟨[], by kernel_rfl⟩

set_option maxRecDepth 100000 in
theorem sound_lifted (os : Os) (started : os.Started) (H : Type) (enc : TypeId × Value → H) (F : Stop.Interp) :
    ReturnsInHanded {} Tryz.checked os 8 .any ((OpenSpec.ofChange Rows.soundSpec).preRow enc Tryz.prog Tryz.f8 Rows.soundRow.domain false Rows.soundRow.laid) (((OpenSpec.ofChange Rows.soundSpec).at F).post enc Tryz.prog Tryz.f8 false true false false) := by
  obtain ⟨places, hx⟩ := sound_start_reads os enc
  refine returnsInHanded_of_row (C := Tryz.checked) (s := OpenSpec.ofChange Rows.soundSpec) Tryz.ownKnob started (by kernel_rfl) Tryz.func8
    ⟨World.laidAll Tryz.prog os Rows.soundRow.laid, fun _ _ => 0, ⟨#[], #[.slice none 0 0, .slice none 0 0, .int .i64 0], []⟩, World.laidAll_os _ _ _, World.shaped_of_ZipB (by kernel_rfl) (by kernel_rfl), rfl, (Input.okWide_of_okWideB (by kernel_rfl)).2,
      OpenSpec.preRow_of_cond 8 hx (by kernel_rfl) (fun k hk => by cases hk) (by kernel_rfl) (sound_start_met os), by simp [Assume.holds]⟩ ?_
  intro W base args ds gs before hval hW _ _ _ hL hS _
  exact sound_contract H enc W base args ds gs before hval hW hL hS

theorem sound_said : Rows.SoundSaid :=
  OpenClaim.holds_of_cond 8 Tryz.f8 rfl rfl rfl rfl rfl rfl rfl ⟨rfl, rfl, rfl, rfl, rfl⟩ rfl rfl rfl rfl rfl (by kernel_rfl) Tryz.func8 (by kernel_rfl)
    (of_decide_eq_true (by kernel_rfl)) (by unfold Func.isWrapper; first | (rw [if_pos (by decide +kernel)]; kernel_rfl) | (rw [if_neg (by decide +kernel)]; exact ⟨rfl, rfl⟩))
    (fun os started H enc _ F => by rw [OpenClaim.pre_eq_preRow]; exact sound_lifted os started H enc F)

theorem sound_plain (f : FuncId) (fn : Func) (hf : Tryz.pinned.checked.prog.funcNamed "knots/knotskeep.Sound" = some f) (hfn : Tryz.pinned.checked.prog.funcs[f]? = some fn) :
    true = Tryz.pinned.checked.prog.looks [] ∧ ∀ (j : Nat) t, fn.params[j]? = some t → Tryz.pinned.checked.prog.wantsStandIn t = false := by
  obtain rfl : f = 8 := Option.some.inj ((show Tryz.prog.funcNamed "knots/knotskeep.Sound" = some 8 by kernel_rfl).symm.trans hf) |>.symm
  obtain rfl : fn = Tryz.f8 := (Option.some.inj (Tryz.func8.symm.trans hfn)).symm
  refine ⟨by kernel_rfl, fun j t ht => ?_⟩
  rw [Tryz.params8] at ht
  have hm : t = 25 ∨ t = 3 := by
    have := Array.mem_of_getElem? ht
    simp at this
    omega
  rcases hm with rfl | rfl
  · exact (show Tryz.prog.wantsStandIn 25 = false by kernel_rfl)
  · exact (show Tryz.prog.wantsStandIn 3 = false by kernel_rfl)

theorem sound_card : Rows.SoundCardSaid :=
  Claim7.holds_tied_plain_at .later [] _ _ _ _ sound_said (fun _ h => by cases h) (by kernel_rfl) (fun _ h => by cases h) sound_row_tie rfl ⟨rfl, rfl⟩ (by kernel_rfl) rfl sound_plain (by kernel_rfl)
#print axioms sound_card

end Go.Proofs.YtekkkoipcghlmaaGreatDoor
