import Derived.Test.YtekkkoipcghlmabGreatDoorE43
import Derived.Deep.RegionHeld3
set_option linter.all false
namespace Go.Proofs.YtekkkoipcghlmabGreatDoor
open Go.RowKit

theorem lies_drop {w : World} {g off cap : Nat} {ys : List Int} {k : Nat} (h : Lies w (.slice (some ⟨g, off, none⟩) ys.length cap) (ints ys)) (hk : k < ys.length) : Lies w (.slice (some ⟨g, off + k, none⟩) (ys.length - k) (cap - k)) (ints (ys.drop k)) := by
  rcases h with ⟨h0, -⟩ | ⟨b, o, c, h1, h2, h3, h4⟩
  · exfalso
    have : ys.length = 0 := by
      have := congrArg List.length h0
      simpa [ints] using this
    omega
  · simp only [Value.slice.injEq, Option.some.injEq, Addr.mk.injEq] at h2
    obtain ⟨⟨rfl, rfl, -⟩, -, rfl⟩ := h2
    refine .inr ⟨g, off + k, cap - k, by simp [ints]; omega, by simp [ints], h3, fun j x hx => ?_⟩
    rw [show off + k + j = off + (k + j) from by omega]
    refine h4 (k + j) x ?_
    rw [← hx]
    simp [ints]
theorem fits_drop {ys : List Int} (h : Fits ys) (k : Nat) : Fits (ys.drop k) := fun z hz => h z (List.mem_of_mem_drop hz)

set_option maxRecDepth 100000 in
set_option maxHeartbeats 12800000 in
theorem learned_walk (v1 v2 : Value) (zs ys : List Int) (vars budget : Int) (w : World) (h0 : -9223372036854775808 ≤ vars) (h1 : vars ≤ 9223372036854775807) (h2 : -9223372036854775808 ≤ budget) (h3 : budget ≤ 9223372036854775807) (hl1 : zs.length ≤ 9223372036854775807) (hl2 : ys.length ≤ 9223372036854775807) (hf1 : Fits zs) (hf2 : Fits ys) (hv1 : Lies w v1 (ints zs)) (hv2 : Lies w v2 (ints ys)) (hr2 : ∀ ao n c, v2 = .slice ao n c → n ≤ c) (he : Env w) :
    Calls Tryz.prog 3 #[v1, v2, .int .i64 vars, .int .i64 budget] w fun e w' => e = .returned (.bool true) ∧ Below w.heap.size w w' := by
  have HP : Hid (Calls Tryz.prog 6 #[.int .i64 vars, .int .i64 9] w fun e w' => (∃ d : Nat, d < 9 ∧ e = .returned (.int .i64 d)) ∧ w' = w) := hide (pickK_any vars 9 w h0 h1 (by decide) (by decide))
  have HC : Hid (∀ d : Nat, d < 9 → Calls Tryz.prog 7 #[v1, .int .i64 (1 + (d : Int)), .int .i64 60] w fun e w' => ∃ ov vs l, e = .returned ov ∧ w'.ownsRow w.heap.size 22 1 ov l.length vs ∧ RowsAt w' w.heap.size vs l ∧ l.length ≤ 60 ∧ (∀ c, c ∈ l → In (1 + d) c ∧ c.length ≤ 3) ∧ Below w.heap.size w w') := hide (fun d hd => by
    have := clausesK_any v1 zs (1 + d) 60 w hl1 hf1 (by omega) (by omega) (by decide) hv1
    rwa [show (((1 + d : Nat)) : Int) = 1 + (d : Int) from by omega] at this)
  obtain ⟨B5, hB5, HPB⟩ : ∃ B5 : Nat, B5 < 5 ∧ Hid (∀ wx, Calls Tryz.prog 6 #[.int .i64 budget, .int .i64 5] wx fun e w' => e = .returned (.int .i64 (B5 : Int)) ∧ w' = wx) := ⟨pickV budget 5, pickV_lt _ (by decide), hide (fun wx => pickK_val budget 5 wx h2 h3 (by decide) (by decide))⟩
  have HP4 : Hid (∀ (z : Int), z ∈ ys → ∃ m : Nat, m < 4 ∧ ∀ wx, Calls Tryz.prog 6 #[.int .i64 z, .int .i64 4] wx fun e w' => e = .returned (.int .i64 (m : Int)) ∧ w' = wx) := hide (fun z hz => ⟨pickV z 4, pickV_lt _ (by decide), fun wx => pickK_val z 4 wx (hf2 z hz).1 (hf2 z hz).2 (by decide) (by decide)⟩)
  obtain ⟨a1, n1, c1, rfl⟩ : ∃ a n c, v1 = .slice a n c := by
    obtain ⟨a, c, h⟩ := lies_shape hv1; exact ⟨a, _, c, h⟩
  obtain ⟨a2, c2, rfl⟩ : ∃ a c, v2 = .slice a ys.length c := by
    obtain ⟨a, c, h⟩ := lies_shape hv2; exact ⟨a, c, by rw [h]; simp [ints]⟩
  have hyc : ys.length ≤ c2 := hr2 _ _ _ rfl
  have HAA : Hid (∀ k (h : k < ys.length), ∃ g off, a2 = some ⟨g, off, none⟩ ∧ ∀ wx, Below w.heap.size w wx → wx.cell? ⟨g, off + k, none⟩ = some (.int .i64 ys[k]) ∧ g < wx.heap.size ∧ ∀ d m : Nat, d < 9 → m < 4 → Calls Tryz.prog 12 #[.slice (some ⟨g, off + k, none⟩) (ys.length - k) (c2 - k), .int .i64 (1 + (d : Int)), .int .i64 (m : Int)] wx fun e w' => ∃ v' xs, e = .returned v' ∧ w'.ownsRow wx.heap.size 3 1 v' xs.length (ints xs) ∧ xs.length ≤ m ∧ In (1 + d) xs ∧ Below wx.heap.size wx w') := hide (fun k hk => by
    have hv := hv2
    rcases hv2 with ⟨hz, -⟩ | ⟨b, off, cap, h1, h2, h3, h4⟩
    · exfalso
      have : ys.length = 0 := by
        have := congrArg List.length hz
        simpa [ints] using this
      omega
    · simp only [Value.slice.injEq] at h2
      obtain ⟨rfl, -, rfl⟩ := h2
      refine ⟨b, off, rfl, fun wx hb => ⟨?_, Nat.lt_of_lt_of_le h3 hb.size, fun d m hd hm => ?_⟩⟩
      · exact (hb.cell (p := ⟨b, off + k, none⟩) h3).trans (h4 k _ (by simp [ints, hk]))
      · have := someK_any _ (ys.drop k) (1 + d) m wx (by rw [List.length_drop]; omega) (fits_drop hf2 k) (by omega) (by omega) (by omega) ((lies_drop hv hk).below hb)
        rwa [show (((1 + d : Nat)) : Int) = 1 + (d : Int) from by omega] at this)
  clear hv1 hv2 hf1 hf2 hr2
  go_enter Tryz.func3, Tryz.ntmps3
  go_wp2_with fail
  refine (unhide HP).mono ?_
  rintro e w1 ⟨⟨d, hd, rfl⟩, rfl⟩
  go_wp2_with fail
  refine (unhide HC d hd).mono ?_
  rintro e w2 ⟨lv, vs, l, rfl, hrow, hrows, hlen, hall, hb2⟩
  have HL : Hid (∀ c, c ∈ l → Lits c ∧ c.length ≤ 3) := hide (fun c hc => ⟨((hall c hc).1).lits (by omega), (hall c hc).2⟩)
  have HW := hide (works_any w2 (he.below hb2).toEnvT)
  obtain ⟨lo, lc, hsh⟩ := owns_shape hrow
  subst hsh
  have HROW := hide hrow
  have HROWS := hide hrows
  clear hrow hrows hall HC HP
  go_wp2_with fail
  refine (unhide HW).mono ?_
  rintro e w3 ⟨rfl, hb3⟩
  have hb03 : Below w1.heap.size w1 w3 := hb2.trans (hb3.mono hb2.size)
  have HN := hide (newX_any w3)
  have HLV0 : Hid (LV w3 (w3.alloc (.cells #[.slice none 0 0, .int .i64 0, .slice none 0 0] 57)) l 0 0 (.slice none 0 0) (.slice none 0 0) []) := hide ⟨below_new w3 _, ⟨heap_alloc_new w3 _, Nat.le_refl _, World.ownsRow_nil _ _ _ _, World.ownsRow_nil _ _ _ _⟩, Accepted.nil _, by simp⟩
  have HENV : Hid (∀ wx b, Below w3.heap.size w3 wx → w3.heap.size ≤ b → EnvFrom b wx) := hide (fun wx b hb hle => ⟨w1, he.toEnvT, Nat.le_trans hb03.size hle, hb03.trans (hb.mono hb03.size)⟩)
  have HFIN : Hid (∀ wx, Below w3.heap.size w3 wx → Below w1.heap.size w1 wx ∧ Env wx) := hide (fun wx hb => ⟨hb03.trans (hb.mono hb03.size), he.below (hb03.trans (hb.mono hb03.size))⟩)
  have HR3 : Hid (w3.ownsRow w1.heap.size 22 1 (.slice lo l.length lc) l.length vs ∧ RowsAt w3 w1.heap.size vs l) := hide ⟨owns_below (unhide HROW) hb3, (unhide HROWS).below hb3⟩
  have HCELL : Hid (∀ k (h : k < l.length), ∃ g xo xn xc, lo = some ⟨g, 0, none⟩ ∧ l.length ≤ lc ∧ ∀ wx, Below w3.heap.size w3 wx → wx.cell? ⟨g, k, none⟩ = some (.slice xo xn xc) ∧ g < wx.heap.size ∧ Calls Tryz.prog 11 #[.slice xo xn xc] wx fun e w' => ∃ co cn cc, e = .returned (.slice co cn cc) ∧ Hid (Lies w' (.slice co cn cc) (ints l[k])) ∧ Below wx.heap.size wx w') := hide (fun k hk => by
    have hrow := (unhide HR3).1
    have hul : vs.length = l.length := (unhide HR3).2.1
    rcases hrow.2 with ⟨_, h0⟩ | ⟨g, cap, cur, hv, _, hg, hle, _⟩
    · omega
    · have hr := (unhide HR3).2.2 k vs[k] l[k] (by simp [hul, hk]) (by simp [hk])
      obtain ⟨xo, xc, hx⟩ := owns_shape hr
      cases hv
      refine ⟨g, xo, l[k].length, xc, rfl, hle, fun wx hb => ⟨(hb.cell (p := ⟨g, k, none⟩) (lt_of_block hg)).trans ?_, Nat.lt_of_lt_of_le (lt_of_block hg) hb.size, ?_⟩⟩
      · have := hrow.cells (g := g) rfl k vs[k] (by simp [hul, hk])
        rw [Addr.add_lit, Nat.zero_add] at this
        rw [this, hx]
      · have hlk := (unhide HL _ (List.getElem_mem hk)).2
        rw [hx] at hr
        refine (copiedK_any _ l[k] wx (by omega) ((lies_of_owns hr (by simp [ints])).below hb)).mono (fun e w' h => ?_)
        obtain ⟨v', h1, h2, h3⟩ := h
        obtain ⟨co, cc, rfl⟩ := owns_shape h2
        exact ⟨co, _, cc, h1, hide (lies_of_owns h2 (by simp [ints])), h3⟩)
  -- solver(l[:m])
  have HFR : Hid (∀ m wx, m ≤ l.length → Below w3.heap.size w3 wx → Calls Tryz.prog 14 #[.slice lo m lc] wx fun e w' => e = .returned (.tuple #[.pointer (some ⟨wx.heap.size, 0, none⟩), .bool true]) ∧ Hid (∃ kvf, XAt wx.heap.size w' wx.heap.size kvf (keptTo (l.take m) (l.take m).length) (.slice none 0 0) []) ∧ Below wx.heap.size wx w') := hide (fun m wx hm hb => by
    have hl' : (l.take m).length = m := by rw [List.length_take]; omega
    have hLt : ∀ c, c ∈ l.take m → Lits c ∧ c.length ≤ 3 := fun c hc => unhide HL c (List.mem_of_mem_take hc)
    have hu : UnitsT w3 (.slice lo m lc) (l.take m) := UnitsT.of_rows (vs := vs.take m) (by rw [hl']; exact owns_takeL (unhide HR3).1 hm) (rowsAt_takeL (unhide HR3).2 m)
    refine (solverK_any (.slice lo m lc) (l.take m) wx (by omega) (fun c hc => by have := (hLt c hc).2; omega) (hu.below hb).rows (kept_adds hLt (by omega))).mono ?_
    rintro e w' ⟨kvf, rfl, h1, h2⟩
    exact ⟨rfl, hide ⟨kvf, h1⟩, h2⟩)
  clear HW HROW HROWS HR3
  go_wp2_with fail
  refine (unhide HN).mono ?_
  rintro e w4 ⟨rfl, hw4⟩
  rw [← hw4] at HLV0
  clear HN hw4
  go_wp2_with fail
  go_loopw [13, 14, 15, 16, 17, 18, 19, 20, 21, 22, 23] (fun bf i _ _ _ _ _ _ _ _ _ wr => ∃ (k j : Nat) (kv pv : Value) (pb pre : List UInt8), k ≤ l.length ∧ i = .int .i64 k ∧ bf = .string (bs pre) ∧ j ≤ 2 * k ∧ Hid (∃ ext, pb = pre ++ ext) ∧ Hid (LV w3 wr l k j kv pv pb)) (fun _ i _ _ _ _ _ _ _ _ _ _ => l.length - (intOf i).toNat)
  case atStart => exact ⟨0, 0, _, _, [], [], Nat.zero_le _, rfl, rfl, by omega, hide ⟨[], rfl⟩, HLV0⟩
  case round =>
    obtain ⟨k, j, kv, pv, pb, pre, hk, rfl, rfl, hj, HPRE, HV⟩ := hrel
    clear HLV0
    by_cases hlt : k < l.length
    · obtain ⟨gl, xo, xn, xc, rfl, hlc, hcl⟩ := unhide HCELL k hlt
      obtain ⟨hcell, hgl, hcopy⟩ := hcl wr (unhide HV).below
      have HCP := hide hcopy
      clear hcl hcopy
      have hdk : decide ((k : Int) < (l.length : Int)) = true := decide_eq_true (by omega)
      go_wp2_with fail
      refine (unhide HCP).mono ?_
      rintro e w5 ⟨co, cn, cc, rfl, HL5, hb5⟩
      have HAD := hide (((unhide HV).wide hb5).add (unhide HL) (by omega) hlt (unhide HL5))
      clear HCP hcell HV
      go_wp2_with fail
      refine (unhide HAD).mono ?_
      rintro e w6 ⟨rfl, HV6⟩
      obtain ⟨kv6, hV6⟩ := unhide HV6
      have HV := hide hV6
      clear HAD HV6 hV6 HL5
      by_cases hka : k < ys.length
      · obtain ⟨ga, off, rfl, hsl⟩ := unhide HAA k hka
        obtain ⟨m4, hm4, hpk⟩ := unhide HP4 ys[k] (List.getElem_mem hka)
        have HPK := hide hpk
        have HSM : Hid (∀ wx, Below w6.heap.size w6 wx → Calls Tryz.prog 12 #[.slice (some ⟨ga, off + k, none⟩) (ys.length - k) (c2 - k), .int .i64 (1 + (d : Int)), .int .i64 (m4 : Int)] wx fun e w' => ∃ ao xs ac, e = .returned (.slice ao xs.length ac) ∧ Hid (RowT w' (.slice ao xs.length ac) xs) ∧ xs.length ≤ 4 ∧ Hid (Lits xs) ∧ Hid (Below w6.heap.size w6 w')) := hide (fun wx hb => by
          have hb0 := (unhide HV).below.trans (hb.mono (unhide HV).below.size)
          refine ((hsl wx ((unhide HFIN wx hb0).1)).2.2 d m4 hd hm4).mono ?_
          rintro e w' ⟨v', xs, rfl, a1, a2, a3, a4⟩
          obtain ⟨ao, ac, rfl⟩ := owns_shape a1
          exact ⟨ao, xs, ac, rfl, hide (RowT.of_owns a1 rfl), by omega, hide (a3.lits (by omega)), hide (hb.trans (a4.mono hb.size))⟩)
        obtain ⟨hca, hga, -⟩ := hsl w6 ((unhide HFIN w6 (unhide HV).below).1)
        have hck : (c2 = k) = False := by simp; omega
        generalize ys[k] = y at *
        clear hsl hpk
        have hk0 : (0 : Int) ≤ (k : Int) := by omega
        have hk1 : (k : Int) < (ys.length : Int) := by omega
        have hk2 : (k : Int) ≤ (ys.length : Int) := by omega
        go_wp2_with fail
        go_region_held3 (fun w' => w'.cell? ⟨ga, off + k, none⟩ = some (.int .i64 y)) (first | go_keep | exact ((unhide HB7).cell (p := ⟨ga, off + k, none⟩) hga).trans hca)
          (first | (go_at_call 6; refine (unhide HPK _).mono ?_; rintro e wp ⟨rfl, rfl⟩) | (go_at_call 12; refine (unhide HSM _ (by go_grown)).mono ?_; rintro e w7 ⟨ao, xs, ac, rfl, HR7, hxl, HX7, HB7⟩))
        have HV7 := hide ((unhide HV).wide (unhide HB7))
        have HCO : Hid (Calls Tryz.prog 11 #[.slice ao xs.length ac] w7 fun e w' => ∃ co cn cc, e = .returned (.slice co cn cc) ∧ Hid (Lies w' (.slice co cn cc) (ints xs)) ∧ Below w7.heap.size w7 w') := hide ((copiedK_any _ xs w7 (by omega) (unhide HR7).1).mono (fun e w' h => by
          obtain ⟨v', h1, h2, h3⟩ := h
          obtain ⟨co, cc, rfl⟩ := owns_shape h2
          exact ⟨co, _, cc, h1, hide (lies_of_owns h2 (by simp [ints])), h3⟩))
        clear HPK HSM HV
        go_wp2_with fail
        refine (unhide HCO).mono ?_
        rintro e w8 ⟨co8, cn8, cc8, rfl, HL8, hb8⟩
        have HP8 := hide (unhide HPB w8)
        clear HCO
        go_wp2_with fail
        refine (unhide HP8).mono ?_
        rintro e w9 ⟨rfl, rfl⟩
        have HV9 := hide ((unhide HV7).wide hb8)
        have HR9 := hide ((unhide HR7).below hb8)
        have HQ := hide ((unhide HV9).ask (A := xs) (av := .slice co8 cn8 cc8) (B := 1 + (B5 : Int)) (unhide HL) (by omega) (by omega) (by omega) (unhide HX7) (by omega) (unhide HENV w9 _ (unhide HV9).below (Nat.le_refl _)) (unhide HL8) (by omega) (by omega))
        clear HV7 HR7 HL8 HP8
        go_wp2_with fail
        refine (unhide HQ).mono ?_
        rintro e w10 ⟨kind, ro, rk, rc, ro2, rk2, rc2, cf, rfl, hkind, HV10, HK10⟩
        obtain ⟨pv10, S10, hV10⟩ := unhide HV10
        obtain ⟨rbox, hrb⟩ : ∃ rbox : Obj, rbox = .cells #[.int .i64 kind, .slice ro rk rc, .slice ro2 rk2 rc2, .int .i64 cf] 34 := ⟨_, rfl⟩
        obtain ⟨w11, hw11⟩ : ∃ w11, w10.alloc (.cells #[.int .i64 kind, .slice ro rk rc, .slice ro2 rk2 rc2, .int .i64 cf] 34) = w11 := ⟨_, rfl⟩
        have hb11 : Below w10.heap.size w10 w11 := by rw [← hw11]; exact below_new w10 _
        have hbox11 : w11.heap[w10.heap.size]? = some (.cells #[.int .i64 kind, .slice ro rk rc, .slice ro2 rk2 rc2, .int .i64 cf] 34) := by rw [← hw11]; exact heap_alloc_new w10 _
        have hlt11 : w10.heap.size < w11.heap.size := lt_of_block hbox11
        have HV11 := hide (hV10.wide hb11)
        have HR11 := hide (((unhide HR9).kept (unhide HK10) ⟨by decide, by decide⟩).below hb11)
        have HBOX : Hid (∀ wx, KeptT NotSolver w11 wx → wx.cell? ⟨w10.heap.size, 0, none⟩ = some (.int .i64 kind)) := hide (fun wx hk => by
          have := (hk _ _ _ _ ⟨by decide, by decide⟩ hbox11).trans hbox11
          simp [World.cell?, this])
        have p0 : w11.cell? ⟨w10.heap.size, 0, none⟩ = some (.int .i64 kind) := by simp [World.cell?, hbox11]
        have p3 : w11.cell? ⟨w10.heap.size, 3, none⟩ = some (.int .i64 cf) := by simp [World.cell?, hbox11]
        have HVK : Hid (kind = 3 ∨ Verd (l.take (k + 1)) xs kind) := hide (by
          rcases hkind with ⟨e1, -⟩ | ⟨-, e1⟩
          · exact .inl e1
          · exact .inr (unhide e1))
        have hcase : (kind = 3 ∧ cf = 1 + (B5 : Int)) ∨ kind = 1 ∨ kind = 2 := by
          rcases hkind with e1 | ⟨e1, -⟩
          · exact .inl e1
          · exact .inr e1
        have hlc0 : (lc = 0) = False := by simp; omega
        have hkl : (k : Int) + 1 ≤ (lc : Int) := by omega
        clear HQ HV9 HR9 HK10 HV10 hV10 hkind hbox11 hb11 hrb rbox hk0 hk1 hk2 hck hca hga
        rcases hcase with ⟨rfl, rfl⟩ | rfl | rfl
        all_goals
          go_wp2_with fail
          go_quiet (exact Calls.quiet_of_same (unhide HPB _))
          have hq : Below w11.heap.size w11 (w11.drewN nq) := belowDrew (Below.refl _ _) nq
          have HV12 := hide ((unhide HV11).wide hq)
          have HR12 := hide ((unhide HR11).below hq)
          have HB12 := hide (fun wx (hk : KeptT NotSolver (w11.drewN nq) wx) => unhide HBOX wx ((KeptT.of_below _ hq).trans hk))
          clear HV11 HR11 HBOX p0 p3 hq hw11
          generalize w11.drewN nq = w12 at *
          have HF12 := hide (unhide HFR (k + 1) w12 (by omega) (unhide HV12).below)
          have hb12 := (unhide HV12).b0
          go_wp2_with fail
          refine (unhide HF12).mono ?_
          rintro e w13 ⟨rfl, HXF, hb13⟩
          obtain ⟨kvf, hXf⟩ := unhide HXF
          have HV13 := hide ((unhide HV12).wide hb13)
          have HR13 := hide ((unhide HR12).below hb13)
          have HS13 := hide ((unhide HV13).verdictS (A := xs) (av := .slice ao xs.length ac) (unhide HL) (by omega) (by omega) (by omega) (unhide HX7) (by omega) (unhide HENV w13 _ (unhide HV13).below (Nat.le_refl _)) (unhide HR13).1 hXf (by omega))
          have HB13 := hide (fun wx (hk : KeptT NotSolver w13 wx) => unhide HB12 wx ((KeptT.of_below _ hb13).trans hk))
          clear HF12 HXF hXf HV12 HR12 HB12 HV13
          go_wp2_with fail
          refine (unhide HS13).mono ?_
          rintro e w14 ⟨k1, rfl, HVA, HV14, HXF14, HK14⟩
          obtain ⟨pv14, S14, hV14⟩ := unhide HV14
          have HR14 := hide ((unhide HR13).kept (unhide HK14) ⟨by decide, by decide⟩)
          have HS14 := hide (hV14.verdictF (L := l.take (k + 1)) (A := xs) (av := .slice ao xs.length ac) (fun c hc => unhide HL c (List.mem_of_mem_take hc)) (by rw [List.length_take]; omega) (unhide HX7) (by omega) (unhide HENV w14 _ hV14.below (by omega)) (unhide HR14).1 (unhide HXF14) (by omega) (by omega))
          have HB14 := hide (fun wx (hk : KeptT NotSolver w14 wx) => unhide HB13 wx ((unhide HK14).trans hk))
          clear HS13 HV14 hV14 HR13 HXF14 HK14 HB13
          go_wp2_with fail
          refine (unhide HS14).mono ?_
          rintro e w15 ⟨k2, rfl, HVB, HV15, HK15⟩
          have hkk := (unhide HVK).imp id (fun h => Verd.same h (unhide HVA))
          have hk12 := (unhide HVA).two
          have e12 : k1 = k2 := (unhide HVA).same (unhide HVB)
          subst e12
          have p0 := unhide HB14 w15 (unhide HK15)
          have hlt15 : w10.heap.size < w15.heap.size := World.block_lt_of_cell? w15 _ p0
          have HPP : Hid (∃ q, pb ++ S10 ++ S14 = pre ++ q) := hide (by
            obtain ⟨ext, hext⟩ := unhide HPRE
            exact ⟨ext ++ S10 ++ S14, by rw [hext]; simp⟩)
          have HPR := hide (proofX_any _ _ _ _ w15 _ _ (unhide HV15).solver)
          clear HVA HVB HVK HS14 HB14 HK15 HPRE hlt11
          generalize pb ++ S10 ++ S14 = p at *
          have hex : (bs p).extract 0 pre.length = bs pre := by
            obtain ⟨q, hq⟩ := unhide HPP
            rw [bs_extract, hq]; simp
          have hple : pre.length ≤ p.length := by
            obtain ⟨q, hq⟩ := unhide HPP
            rw [hq, List.length_append]; omega
          have hpl : p.length ≤ 1000000000 * 1000 := by have := (unhide HV15).small; omega
          have hsz1 := bs_size pre
          have hsz2 := bs_size p
          go_wp2_with fail
          refine (unhide HPR).mono ?_
          rintro e w16 ⟨rfl, rfl⟩
          rcases hk12 with rfl | rfl
          all_goals
            first
            | (exfalso; omega)
            | (go_wp2
               go_roundw
               case rel => exact ⟨k + 1, j + 1 + 1, _, _, p, p, by omega, by go_num, rfl, by omega, hide ⟨[], by simp⟩, HV15⟩
               case measure => simp [intOf]; omega)
      · go_wp2
        go_roundw
        case rel => exact ⟨k + 1, j, kv6, pv, pb, pre, by omega, by go_num, rfl, by omega, HPRE, HV⟩
        case measure => simp [intOf]; omega
    · have hkl : k = l.length := by omega
      subst hkl
      have hV := unhide HV
      have hke := keeps_take (unhide HL) (by omega) (Nat.le_refl l.length)
      have hsm := hV.small
      have HPL : Hid (pb.length ≤ 9000000000000000000) := hide (by omega)
      have hpl := unhide HPL
      have hsz := bs_size pb
      have HCL := hide (clausesX_any _ _ kv _ wr pv pb hV.solver (by have := hke.ok.2.2; omega) (fun m hm => (hke.ok.1 m hm).1) (unhide HFIN wr hV.below).2.toEnvT)
      have HPR : Hid (∀ wx, Below wr.heap.size wr wx → Calls Tryz.prog 16 #[.pointer (some ⟨w3.heap.size, 0, none⟩)] wx fun e w' => e = .returned (.string (bs pb)) ∧ w' = wx) := hide (fun wx hb => proofX_any _ _ _ _ wx _ _ (hV.solver.below hb))
      have HCH : Hid (∀ wx, Below wr.heap.size wr wx → Calls Tryz.prog 17 #[.string (bs (maskText (keptTo l l.length))), .string (bs pb)] wx fun e w' => e = .returned (.tuple #[.int .i64 (if pb.length ≤ 6000 then 0 else 4), .int .i64 0]) ∧ Below wx.heap.size wx w') := hide (fun wx hb => check_two hV.acc (fun m hm => (hke.ok.1 m hm).1) (maskText_small (unhide HL) (by omega)) hpl wx (unhide HFIN wx (hV.below.trans (hb.mono hV.below.size))).2)
      have HEND : Hid (∀ wx, Below wr.heap.size wr wx → Below w1.heap.size w1 wx) := hide (fun wx hb => (unhide HFIN wx (hV.below.trans (hb.mono hV.below.size))).1)
      have hdk : decide ((l.length : Int) < (l.length : Int)) = false := decide_eq_false (by omega)
      clear HV hV hke hsm HCELL HFR HAA HP4 HPRE
      generalize maskText (keptTo l l.length) = mt at *
      go_wp2_with fail
      refine (unhide HCL).mono ?_
      rintro e w5 ⟨rfl, hb5⟩
      have HP5 := hide (unhide HPR w5 hb5)
      go_wp2_with fail
      refine (unhide HP5).mono ?_
      rintro e w6 ⟨rfl, rfl⟩
      have HC6 := hide (unhide HCH w6 hb5)
      go_wp2_with fail
      refine (unhide HC6).mono ?_
      rintro e w7 ⟨rfl, hb7⟩
      have hb07 := hb5.trans (hb7.mono hb5.size)
      by_cases h6 : pb.length ≤ 6000
      · rw [if_pos h6]
        go_wp2
        go_ret
        exact ⟨by simp, unhide HEND _ hb07⟩
      · rw [if_neg h6]
        have HP7 := hide (unhide HPR w7 hb07)
        go_wp2_with fail
        refine (unhide HP7).mono ?_
        rintro e w8 ⟨rfl, rfl⟩
        go_wp2
        go_ret
        exact ⟨by simp <;> omega, unhide HEND _ hb07⟩

theorem learned_all (v0 : Value) (z0 : List Int) (v1 : Value) (z1 : List Int) (n2 n3 : Int) (w : World) (a0 : ArgL w v0 z0) (a1 : ArgL w v1 z1) (b2 : ArgI n2) (b3 : ArgI n3) (he : Env w) :
    Calls Tryz.prog 3 #[v0, v1, .int .i64 n2, .int .i64 n3] w fun e w' => e = .returned (.bool true) ∧ Below w.heap.size w w' :=
  learned_walk v0 v1 z0 z1 n2 n3 w b2.1 b2.2 b3.1 b3.2 a0.len a1.len a0.fits a1.fits a0.lies a1.lies a1.room he

end Go.Proofs.YtekkkoipcghlmabGreatDoor
