import Derived.Test.YtekkkoipcghlmabGreatDoorD42
set_option linter.all false
namespace Go.Proofs.YtekkkoipcghlmabGreatDoor
open Go.RowKit

theorem pickK_far (c : Int) (n : Nat) (w : World) (h0 : -9223372036854775808 ≤ c) (h1 : c ≤ 9223372036854775807) (hn : 0 < n) (hn4 : n ≤ 4611686018427387904) :
    Calls Tryz.prog 6 #[.int .i64 c, .int .i64 n] w fun e w' => (∃ d : Nat, d < n ∧ e = .returned (.int .i64 d)) ∧ w' = w := by
  by_cases hc : c < 0
  · go_enter Tryz.func6, Tryz.ntmps6
    go_wp2
    go_ret
    have e1 : -(c + 1).tmod (n : Int) = (-(c + 1)) % (n : Int) := by rw [← Int.neg_tmod, Int.tmod_eq_emod_of_nonneg (by omega)]
    exact ⟨ret_lt (a := -(c + 1).tmod (n : Int)) (by rw [e1]; exact Int.emod_nonneg _ (by omega)) (by rw [e1]; exact Int.emod_lt_of_pos _ (by omega)), rfl⟩
  · go_enter Tryz.func6, Tryz.ntmps6
    go_wp2
    go_ret
    exact ⟨ret_lt (a := c % (n : Int)) (Int.emod_nonneg _ (by omega)) (Int.emod_lt_of_pos _ (by omega)), rfl⟩

theorem plain_ok {s : List UInt8} (h : Sp.scanSegs 0 (Sp.segs s) = none) (hl : s.length ≤ 6000) : plainOut s = (maskText (masksOf s), 0, 0) := by
  have h2 := h
  rw [segs_scan] at h2
  unfold plainOut masksOf
  rw [if_neg (by omega), h2, mask_text _ (good_of_scan _ 0 h), segs_fst]
/-- The texts that are refused. -/
def badTexts : List (List UInt8) := [[49], [48, 10], [49, 51, 10], [45, 49, 51, 10], [48, 49, 10], [49, 32, 10], [32, 49, 10], [49, 32, 32, 50, 10], [45, 45, 49, 10], [43, 49, 10], [49, 44, 50, 10], [100, 32, 49, 10], [120, 10], [49, 13, 10], [45, 10], [49, 45, 10], [45, 48, 10]]
theorem bad_scan : ∀ t, t ∈ badTexts → Sp.scanSegs 0 (Sp.segs ([49, 32, 50, 10] ++ t)) = some 2 := by decide +kernel
theorem bad_len : ∀ t, t ∈ badTexts → t.length ≤ 5 := by decide
theorem bad_plain {t : List UInt8} (h : t ∈ badTexts) : plainOut ([49, 32, 50, 10] ++ t) = ([], 5, 2) := by
  have h1 := bad_scan t h
  have h2 := bad_len t h
  rw [segs_scan] at h1
  unfold plainOut
  rw [if_neg (by simp; omega), h1]
  rfl
theorem bad_check {t : List UInt8} (h : t ∈ badTexts) (p : List UInt8) : CheckOut ([49, 32, 50, 10] ++ t) p (5, 2) :=
  .inr ⟨by have := bad_len t h; simp; omega, .inl ⟨2, bad_scan t h, rfl⟩⟩

/-- Numbers that are no literals. -/
theorem no_lit {x : Int} (h : ¬ (x ≠ 0 ∧ -12 ≤ x ∧ x ≤ 12)) (a : List Int) : allInt (a ++ [x]) = false := by
  rw [allInt, List.all_eq_false]
  exact ⟨x, by simp, fun hx => h (isLit_iff.1 hx)⟩

theorem maskText_litsM {l : List (List Int)} (hl : ∀ c, c ∈ l → c.length ≤ 3) : (maskText (l.map Sp.maskOf)).length ≤ 13 * l.length := by
  induction l with
  | nil => simp [maskText]
  | cons c r ih =>
    have e1 : maskText ((c :: r).map Sp.maskOf) = Sp.told (Sp.litsOf (Sp.maskOf c)) ++ maskText (r.map Sp.maskOf) := rfl
    have h1 := toldBody_len (Sp.litsOf (Sp.maskOf c))
    have h2 := litsMask_len c
    have h3 := hl c (by simp)
    have := ih (fun d hd => hl d (List.mem_cons_of_mem _ hd))
    rw [e1, List.length_append, List.length_cons]
    unfold Sp.told
    simp only [List.length_append, List.length_cons, List.length_nil]
    omega

set_option maxRecDepth 100000 in
set_option maxHeartbeats 6400000 in
theorem firm_walk (v1 : Value) (zs : List Int) (far : Int) (w : World) (h0 : -9223372036854775808 ≤ far) (h1 : far ≤ 9223372036854775807) (hl1 : zs.length ≤ 9223372036854775807) (hf1 : Fits zs) (hv1 : Lies w v1 (ints zs)) (he : Env w) :
    Calls Tryz.prog 4 #[v1, .int .i64 far] w fun e w' => e = .returned (.bool true) ∧ Below w.heap.size w w' := by
  have HP : Hid (Calls Tryz.prog 6 #[.int .i64 far, .int .i64 1099511627776] w fun e w' => (∃ d : Nat, d < 1099511627776 ∧ e = .returned (.int .i64 d)) ∧ w' = w) := hide (pickK_far far 1099511627776 w h0 h1 (by decide) (by decide))
  have HC : Hid (Calls Tryz.prog 7 #[v1, .int .i64 12, .int .i64 40] w fun e w' => ∃ ov vs l, e = .returned ov ∧ w'.ownsRow w.heap.size 22 1 ov l.length vs ∧ RowsAt w' w.heap.size vs l ∧ l.length ≤ 40 ∧ (∀ c, c ∈ l → In 12 c ∧ c.length ≤ 3) ∧ Below w.heap.size w w') := hide (clausesK_any v1 zs 12 40 w hl1 hf1 (by decide) (by decide) (by decide) hv1)
  obtain ⟨a1, n1, c1, rfl⟩ : ∃ a n c, v1 = .slice a n c := by
    obtain ⟨a, c, h⟩ := lies_shape hv1; exact ⟨a, _, c, h⟩
  clear hv1 hf1
  go_enter Tryz.func4, Tryz.ntmps4
  go_wp2_with fail
  refine (unhide HP).mono ?_
  rintro e w1 ⟨⟨d, hd, rfl⟩, rfl⟩
  go_wp2_with fail
  refine (unhide HC).mono ?_
  rintro e w2 ⟨ov, vs, l, rfl, hrow, hrows, hlen, hall, hb2⟩
  have HL : Hid (∀ c, c ∈ l → Lits c ∧ c.length ≤ 3) := hide (fun c hc => ⟨((hall c hc).1).lits (by omega), (hall c hc).2⟩)
  have HSV := hide (solverK_any ov l w2 (by omega) (fun c hc => by have := (unhide HL c hc).2; omega) (UnitsT.of_rows hrow hrows).rows (kept_adds (unhide HL) (by omega)))
  have HROW := hide hrow
  have HROWS := hide hrows
  have hs2 := hb2.size
  obtain ⟨oo, oc, hsh⟩ := owns_shape hrow
  subst hsh
  clear hrow hrows hall HC HP
  go_wp2_with fail
  refine (unhide HSV).mono ?_
  rintro e w3 ⟨kv, rfl, hX, hb3⟩
  have hb03 : Below w1.heap.size w1 w3 := hb2.trans (hb3.mono hb2.size)
  have HW := hide (works_any w3 (he.below hb03).toEnvT)
  have HX := hide hX
  have hs3 := hb3.size
  clear HSV hX
  go_wp2_with fail
  refine (unhide HW).mono ?_
  rintro e w4 ⟨rfl, hb4⟩
  have hb04 : Below w1.heap.size w1 w4 := hb03.trans (hb4.mono hb03.size)
  have hOK : KeptOK (keptTo l l.length) := kept_fine (unhide HL) (by omega)
  have HX4 := hide ((unhide HX).below hb4)
  have hs4 := hb4.size
  have HCL : Hid (∀ wx kv, XAt w2.heap.size wx w2.heap.size kv (keptTo l l.length) (.slice none 0 0) [] → Below w1.heap.size w1 wx → Calls Tryz.prog 18 #[.pointer (some ⟨w2.heap.size, 0, none⟩)] wx fun e w' => e = .returned (.string (bs (maskText (keptTo l l.length)))) ∧ Below wx.heap.size wx w') := hide (fun wx kv hX hb => clausesX_any _ _ kv _ wx _ _ hX (by have := hOK.2.2; omega) (fun m hm => (hOK.1 m hm).1) (he.below hb).toEnvT)
  have HPR : Hid (∀ wx kv, XAt w2.heap.size wx w2.heap.size kv (keptTo l l.length) (.slice none 0 0) [] → Calls Tryz.prog 16 #[.pointer (some ⟨w2.heap.size, 0, none⟩)] wx fun e w' => e = .returned (.string ⟨#[]⟩) ∧ w' = wx) := hide (fun wx kv hX => proofX_any _ _ kv _ wx _ _ hX)
  have HC4 := hide (unhide HCL w4 kv (unhide HX4) hb04)
  -- an Add that changes nothing
  have HAD : Hid (∀ (c : List Int) wx kv (ao : Option Addr) (n cp : Nat), (addTo (keptTo l l.length) c).2 = keptTo l l.length → c.length ≤ 100 → XAt w2.heap.size wx w2.heap.size kv (keptTo l l.length) (.slice none 0 0) [] → Lies wx (.slice ao n cp) (ints c) → Calls Tryz.prog 10 #[.pointer (some ⟨w2.heap.size, 0, none⟩), .slice ao n cp] wx fun e w' => e = .returned (.int .i64 (addTo (keptTo l l.length) c).1) ∧ Hid (∃ kv', XAt w2.heap.size w' w2.heap.size kv' (keptTo l l.length) (.slice none 0 0) []) ∧ Hid (Below w2.heap.size wx w') ∧ Hid (KeptT NotAdd wx w')) := hide (fun c wx kv ao n cp hc hcl hX hl => (addX_any _ _ kv _ _ c wx _ _ hX (by have := keptTo_len l l.length; omega) (by omega) hl).mono (fun e w' h => by
    obtain ⟨h1, kv', h2, h3, -⟩ := h
    rw [hc] at h2
    exact ⟨h1, hide ⟨kv', h2⟩, hide (Only.added hX h3), hide (KeptT.add hX h3)⟩))
  have HSO : Hid (∀ (c : List Int) (B : Int) (er : Int) wx kv (ao : Option Addr) (n cp : Nat), ((allInt c = false ∧ er = 1) ∨ (allInt c = true ∧ B < 0 ∧ er = 3)) → -9223372036854775808 ≤ B → B ≤ 9223372036854775807 → c.length ≤ 100 → XAt w2.heap.size wx w2.heap.size kv (keptTo l l.length) (.slice none 0 0) [] → Below w1.heap.size w1 wx → Lies wx (.slice ao n cp) (ints c) → Calls Tryz.prog 13 #[.pointer (some ⟨w2.heap.size, 0, none⟩), .slice ao n cp, .int .i64 B] wx fun e w' => e = .returned (.tuple #[.agg #[.int .i64 0, .slice none 0 0, .slice none 0 0, .int .i64 0], .int .i64 er]) ∧ Below wx.heap.size wx w') := hide (fun c B er wx kv ao n cp hc hB1 hB2 hcl hX hb hl => (solve_any _ _ kv _ _ _ _ c B wx hX hOK ⟨w1, he.toEnvT, hs2, hb⟩ hl (by omega) hB1 hB2 (by simp)).mono (fun e w' h => by
    rcases h with ⟨a1, a2, a3⟩ | ⟨a1, a2, a3, a4⟩ | ⟨a1, a2, -⟩
    · rcases hc with ⟨b1, rfl⟩ | ⟨b1, -⟩
      · exact ⟨a2, a3⟩
      · rw [a1] at b1; cases b1
    · rcases hc with ⟨b1, -⟩ | ⟨-, -, rfl⟩
      · rw [a1] at b1; cases b1
      · exact ⟨a3, a4⟩
    · rcases hc with ⟨b1, -⟩ | ⟨-, b2, -⟩
      · rw [a1] at b1; cases b1
      · omega))
  have HTX : Hid (∀ wx, Below w2.heap.size w2 wx → wx.ownsRow w1.heap.size 22 1 (.slice oo l.length oc) l.length vs ∧ RowsAt wx w1.heap.size vs l) := hide (fun wx hb => ⟨owns_below (unhide HROW) hb, (unhide HROWS).below hb⟩)
  have HB1 : Hid (∀ wx, Below w2.heap.size w2 wx → Below w1.heap.size w1 wx) := hide (fun wx hb => hb2.trans (hb.mono hs2))
  have HB4 : Hid (Below w2.heap.size w2 w4) := hide (hb3.trans (hb4.mono hs3))
  clear HROW HROWS HW HX
  generalize hms : keptTo l l.length = ms at *
  go_wp2_with fail
  refine (unhide HC4).mono ?_
  rintro e w5 ⟨rfl, hb5⟩
  have HX5 := hide ((unhide HX4).below hb5)
  have HB5 : Hid (Below w2.heap.size w2 w5) := hide ((unhide HB4).trans (hb5.mono (unhide HB4).size))
  have HP5 := hide (unhide HPR w5 kv (unhide HX5))
  clear HC4 HX4
  generalize hmt : maskText ms = mt at *
  go_wp2_with fail
  refine (unhide HP5).mono ?_
  rintro e w6 ⟨rfl, rfl⟩
  obtain ⟨bad, hbad⟩ : ∃ bad : List Int, bad = [0, 13 + (d : Int), -13 - (d : Int), -9223372036854775808] := ⟨_, rfl⟩
  obtain ⟨w7, hw7⟩ : ∃ w7, w6.alloc (.cells #[.int .i64 0, .int .i64 (13 + (d : Int)), .int .i64 (-13 - (d : Int)), .int .i64 (-9223372036854775808)] 3) = w7 := ⟨_, rfl⟩
  have hb7 : Below w6.heap.size w6 w7 := by rw [← hw7]; exact below_new w6 _
  have HBL : Hid (w7.heap[w6.heap.size]? = some (.cells (ints bad).toArray 3)) := hide (by rw [← hw7, hbad]; exact heap_alloc_new w6 _)
  have HBD : Hid (∀ k (h : k < bad.length), ¬ (bad[k] ≠ 0 ∧ -12 ≤ bad[k] ∧ bad[k] ≤ 12) ∧ -9223372036854775808 ≤ bad[k] ∧ bad[k] ≤ 9223372036854775807) := hide (fun k h => by
    subst hbad
    have h4 : k < 4 := h
    have : k = 0 ∨ k = 1 ∨ k = 2 ∨ k = 3 := by omega
    rcases this with rfl | rfl | rfl | rfl
    · show ¬ ((0 : Int) ≠ 0 ∧ -12 ≤ (0 : Int) ∧ (0 : Int) ≤ 12) ∧ _ ≤ (0 : Int) ∧ (0 : Int) ≤ _
      omega
    · show ¬ ((13 + (d : Int)) ≠ 0 ∧ -12 ≤ (13 + (d : Int)) ∧ (13 + (d : Int)) ≤ 12) ∧ _ ≤ (13 + (d : Int)) ∧ (13 + (d : Int)) ≤ _
      omega
    · show ¬ ((-13 - (d : Int)) ≠ 0 ∧ -12 ≤ (-13 - (d : Int)) ∧ (-13 - (d : Int)) ≤ 12) ∧ _ ≤ (-13 - (d : Int)) ∧ (-13 - (d : Int)) ≤ _
      omega
    · show ¬ ((-9223372036854775808 : Int) ≠ 0 ∧ -12 ≤ (-9223372036854775808 : Int) ∧ (-9223372036854775808 : Int) ≤ 12) ∧ _ ≤ (-9223372036854775808 : Int) ∧ (-9223372036854775808 : Int) ≤ _
      omega)
  have hbl4 : bad.length = 4 := by rw [hbad]; rfl
  have HBL4 := hide hbl4
  have HX7 := hide ((unhide HX5).below hb7)
  have HB7 : Hid (Below w2.heap.size w2 w7) := hide ((unhide HB5).trans (hb7.mono (unhide HB5).size))
  clear HP5 HX5 hbad hbl4 hb7
  go_wp2_with fail
  go_loopw [12, 13, 14, 15] (fun i _ _ _ wr => ∃ k : Nat, k ≤ 4 ∧ i = .int .i64 k ∧ Hid (∃ kv, XAt w2.heap.size wr w2.heap.size kv ms (.slice none 0 0) []) ∧ Hid (Below w2.heap.size w2 wr) ∧ Hid (wr.heap[w6.heap.size]? = some (.cells (ints bad).toArray 3))) (fun i _ _ _ _ => 4 - (intOf i).toNat)
  case atStart => exact ⟨0, by omega, rfl, hide ⟨kv, unhide HX7⟩, HB7, HBL⟩
  case round =>
    obtain ⟨k, hk, rfl, HXr, HBr, HLr⟩ := hrel
    obtain ⟨kvr, hXr⟩ := unhide HXr
    have hBr := unhide HBr
    by_cases hlt : k < 4
    · have hkl : k < bad.length := by rw [unhide HBL4]; exact hlt
      obtain ⟨hnl, hlo, hhi⟩ := unhide HBD k hkl
      have hcell : wr.cell? ⟨w6.heap.size, k, none⟩ = some (.int .i64 bad[k]) := by
        rw [World.cell?, unhide HLr]
        simp [ints, hkl]
      have hblt : w6.heap.size < wr.heap.size := lt_of_block (unhide HLr)
      generalize bad[k] = y at *
      have e1 : addTo ms [1, -1, y] = (1, ms) := by
        have hn : allInt [1, -1, y] = false := no_lit hnl [1, -1]
        unfold addTo
        rw [if_pos hn]
      have HA1 : Hid (Calls Tryz.prog 10 #[.pointer (some ⟨w2.heap.size, 0, none⟩), .slice (some ⟨wr.heap.size, 0, none⟩) 3 3] (wr.alloc (.cells #[.int .i64 1, .int .i64 (-1), .int .i64 y] 3)) fun e w' => e = .returned (.int .i64 1) ∧ Hid (∃ kv', XAt w2.heap.size w' w2.heap.size kv' ms (.slice none 0 0) []) ∧ Hid (Below w2.heap.size w2 w') ∧ Hid (w'.heap[w6.heap.size]? = some (.cells (ints bad).toArray 3))) := hide (by
        have hbn := below_new wr (.cells #[.int .i64 1, .int .i64 (-1), .int .i64 y] 3)
        have := unhide HAD [1, -1, y] _ kvr (some ⟨wr.heap.size, 0, none⟩) 3 3 (by rw [e1]) (by simp) (hXr.below hbn) (lies_new wr [1, -1, y] (by simp))
        rw [e1] at this
        refine this.mono ?_
        rintro e w' ⟨rfl, h1, h2, h3⟩
        have hl : (wr.alloc (.cells #[.int .i64 1, .int .i64 (-1), .int .i64 y] 3)).heap[w6.heap.size]? = some (.cells (ints bad).toArray 3) := (hbn.block _ hblt).trans (unhide HLr)
        exact ⟨rfl, h1, hide ((hBr.trans (hbn.mono hBr.size)).trans (unhide h2)), hide ((unhide h3 _ _ _ _ ⟨by decide, by decide⟩ hl).trans hl)⟩)
      have HS1 : Hid (∀ wx kv, XAt w2.heap.size wx w2.heap.size kv ms (.slice none 0 0) [] → Below w2.heap.size w2 wx → Calls Tryz.prog 13 #[.pointer (some ⟨w2.heap.size, 0, none⟩), .slice (some ⟨wx.heap.size, 0, none⟩) 2 2, .int .i64 (-1)] (wx.alloc (.cells #[.int .i64 1, .int .i64 y] 3)) fun e w' => e = .returned (.tuple #[.agg #[.int .i64 0, .slice none 0 0, .slice none 0 0, .int .i64 0], .int .i64 1]) ∧ Hid (Below wx.heap.size wx w')) := hide (fun wx kv hX hb => by
        have hbn := below_new wx (.cells #[.int .i64 1, .int .i64 y] 3)
        refine (unhide HSO [1, y] (-1) 1 _ kv _ _ _ (.inl ⟨no_lit hnl [1], rfl⟩) (by omega) (by omega) (by simp) (hX.below hbn) (unhide HB1 _ (hb.trans (hbn.mono hb.size))) (lies_new wx [1, y] (by simp))).mono ?_
        rintro e w' ⟨rfl, h1⟩
        exact ⟨rfl, hide (hbn.trans (h1.mono hbn.size))⟩)
      have HLC : Hid (∀ wx : World, wx.heap[w6.heap.size]? = some (.cells (ints bad).toArray 3) → wx.cell? ⟨w6.heap.size, k, none⟩ = some (.int .i64 y)) := hide (fun wx h => (World.cell?_of_block (a := ⟨w6.heap.size, k, none⟩) (h.trans (unhide HLr).symm)).trans hcell)
      clear e1 HX7 HB7 HBL hXr HXr HAD HSO
      go_wp2_with fail
      refine (unhide HA1).mono ?_
      rintro e w8 ⟨rfl, HX8, HB8, HL8⟩
      obtain ⟨kv8, hX8⟩ := unhide HX8
      have HS8 := hide (unhide HS1 w8 kv8 hX8 (unhide HB8))
      have hc8 := unhide HLC w8 (unhide HL8)
      have hbl8 : w6.heap.size < w8.heap.size := lt_of_block (unhide HL8)
      have HXX := hide hX8
      clear HA1 HX8 hX8 HS1
      go_wp2_with fail
      refine (unhide HS8).mono ?_
      rintro e w9 ⟨rfl, HB9⟩
      have hb10 : Below w9.heap.size w9 (w9.alloc (.cells #[.int .i64 0, .slice none 0 0, .slice none 0 0, .int .i64 0] 34)) := below_new w9 _
      have hb810 : Below w8.heap.size w8 (w9.alloc (.cells #[.int .i64 0, .slice none 0 0, .slice none 0 0, .int .i64 0] 34)) := (unhide HB9).trans (hb10.mono (unhide HB9).size)
      have HXN : Hid (∃ kv, XAt w2.heap.size (w9.alloc (.cells #[.int .i64 0, .slice none 0 0, .slice none 0 0, .int .i64 0] 34)) w2.heap.size kv ms (.slice none 0 0) []) := hide ⟨kv8, (unhide HXX).below hb810⟩
      have HBN : Hid (Below w2.heap.size w2 (w9.alloc (.cells #[.int .i64 0, .slice none 0 0, .slice none 0 0, .int .i64 0] 34))) := hide ((unhide HB8).trans (hb810.mono (unhide HB8).size))
      have HLN : Hid ((w9.alloc (.cells #[.int .i64 0, .slice none 0 0, .slice none 0 0, .int .i64 0] 34)).heap[w6.heap.size]? = some (.cells (ints bad).toArray 3)) := hide ((hb810.block _ hbl8).trans (unhide HL8))
      clear HS8 hb10 hb810 HXX
      go_wp2
      go_roundw
      case rel => exact ⟨k + 1, by omega, by go_num, HXN, HBN, HLN⟩
      case measure => simp [intOf]; omega
    · have hk4 : k = 4 := by omega
      subst hk4
      have HS3 : Hid (Calls Tryz.prog 13 #[.pointer (some ⟨w2.heap.size, 0, none⟩), .slice (some ⟨wr.heap.size, 0, none⟩) 1 1, .int .i64 (-1 - (d : Int))] (wr.alloc (.cells #[.int .i64 1] 3)) fun e w' => e = .returned (.tuple #[.agg #[.int .i64 0, .slice none 0 0, .slice none 0 0, .int .i64 0], .int .i64 3]) ∧ Hid (Below wr.heap.size wr w')) := hide (by
        have hbn := below_new wr (.cells #[.int .i64 1] 3)
        refine (unhide HSO [1] (-1 - (d : Int)) 3 _ kvr _ _ _ (.inr ⟨by decide, by omega, rfl⟩) (by omega) (by omega) (by simp) (hXr.below hbn) (unhide HB1 _ (hBr.trans (hbn.mono hBr.size))) (lies_new wr [1] (by simp))).mono ?_
        rintro e w' ⟨rfl, h1⟩
        exact ⟨rfl, hide (hbn.trans (h1.mono hbn.size))⟩)
      have e2 : addTo ms [3, -4, -3] = (0, ms) := by
        unfold addTo
        rw [if_neg (by decide), if_pos (by decide)]
      have HA3 : Hid (∀ (wx : World) kv a, wx.heap.size = a → XAt w2.heap.size wx w2.heap.size kv ms (.slice none 0 0) [] → Below w2.heap.size w2 wx → Calls Tryz.prog 10 #[.pointer (some ⟨w2.heap.size, 0, none⟩), .slice (some ⟨a, 0, none⟩) 3 3] (wx.alloc (.cells #[.int .i64 3, .int .i64 (-4), .int .i64 (-3)] 3)) fun e w' => e = .returned (.int .i64 0) ∧ Hid (∃ kv', XAt w2.heap.size w' w2.heap.size kv' ms (.slice none 0 0) []) ∧ Hid (Below w2.heap.size w2 w') ∧ Hid (KeptT NotAdd wx w')) := hide (fun wx kv a ha hX hb => by
        subst ha
        have hbn := below_new wx (.cells #[.int .i64 3, .int .i64 (-4), .int .i64 (-3)] 3)
        have := unhide HAD [3, -4, -3] _ kv (some ⟨wx.heap.size, 0, none⟩) 3 3 (by rw [e2]) (by simp) (hX.below hbn) (lies_new wx [3, -4, -3] (by simp))
        rw [e2] at this
        refine this.mono ?_
        rintro e w' ⟨rfl, h1, h2, h3⟩
        exact ⟨rfl, h1, hide ((hb.trans (hbn.mono hb.size)).trans (unhide h2)), hide ((KeptT.of_below _ hbn).trans (unhide h3))⟩)
      have HXX := hide hXr
      clear e2 HX7 HB7 HBL hXr HXr HAD HSO HLr HBD
      go_wp2_with fail
      refine (unhide HS3).mono ?_
      rintro e w8 ⟨rfl, HB8⟩
      have hb9 : Below w8.heap.size w8 (w8.alloc (.cells #[.int .i64 0, .slice none 0 0, .slice none 0 0, .int .i64 0] 34)) := below_new w8 _
      have hbox9 : (w8.alloc (.cells #[.int .i64 0, .slice none 0 0, .slice none 0 0, .int .i64 0] 34)).heap[w8.heap.size]? = some (.cells #[.int .i64 0, .slice none 0 0, .slice none 0 0, .int .i64 0] 34) := heap_alloc_new w8 _
      have hz9 : (w8.alloc (.cells #[.int .i64 0, .slice none 0 0, .slice none 0 0, .int .i64 0] 34)).heap.size = w8.heap.size + 1 := by simp
      have hbr9 : Below wr.heap.size wr (w8.alloc (.cells #[.int .i64 0, .slice none 0 0, .slice none 0 0, .int .i64 0] 34)) := (unhide HB8).trans (hb9.mono (unhide HB8).size)
      have HX9 := hide ((unhide HXX).below hbr9)
      have HB9 : Hid (Below w2.heap.size w2 (w8.alloc (.cells #[.int .i64 0, .slice none 0 0, .slice none 0 0, .int .i64 0] 34))) := hide (hBr.trans (hbr9.mono hBr.size))
      have HA9 := hide (unhide HA3 (w8.alloc (.cells #[.int .i64 0, .slice none 0 0, .slice none 0 0, .int .i64 0] 34)) kvr (w8.heap.size + 1) hz9 (unhide HX9) (unhide HB9))
      have HBX9 := hide hbox9
      clear HS3 HA3 hb9 HXX hbox9 hbr9 hz9
      go_wp2_with fail
      refine (unhide HA9).mono ?_
      rintro e w10 ⟨rfl, HX10, HB10, HK10⟩
      obtain ⟨kv10, hX10⟩ := unhide HX10
      have hbox10 : w10.heap[w8.heap.size]? = some (.cells #[.int .i64 0, .slice none 0 0, .slice none 0 0, .int .i64 0] 34) := (unhide HK10 _ _ _ _ ⟨by decide, by decide⟩ (unhide HBX9)).trans (unhide HBX9)
      have p0 : w10.cell? ⟨w8.heap.size, 0, none⟩ = some (.int .i64 0) := by simp [World.cell?, hbox10]
      have HC10 := hide (unhide HCL w10 kv10 hX10 (unhide HB1 _ (unhide HB10)))
      have HP10 : Hid (∀ wx, Below w10.heap.size w10 wx → Calls Tryz.prog 16 #[.pointer (some ⟨w2.heap.size, 0, none⟩)] wx fun e w' => e = .returned (.string ⟨#[]⟩) ∧ w' = wx) := hide (fun wx hb => unhide HPR wx kv10 (hX10.below hb))
      clear HA9 HX9 HBX9 HX10 hX10 HCL HPR hbox10 HK10
      go_wp2_with fail
      refine (unhide HC10).mono ?_
      rintro e w11 ⟨rfl, hb11⟩
      go_wp2_with fail
      refine (unhide HP10 w11 hb11).mono ?_
      rintro e w12 ⟨rfl, rfl⟩
      have HB12 : Hid (Below w2.heap.size w2 w12) := hide ((unhide HB10).trans (hb11.mono (unhide HB10).size))
      obtain ⟨w13, hw13⟩ : ∃ w13, w12.alloc (.cells #[.string ⟨#[49]⟩, .string ⟨#[48, 10]⟩, .string ⟨#[49, 51, 10]⟩, .string ⟨#[45, 49, 51, 10]⟩, .string ⟨#[48, 49, 10]⟩, .string ⟨#[49, 32, 10]⟩, .string ⟨#[32, 49, 10]⟩, .string ⟨#[49, 32, 32, 50, 10]⟩, .string ⟨#[45, 45, 49, 10]⟩, .string ⟨#[43, 49, 10]⟩, .string ⟨#[49, 44, 50, 10]⟩, .string ⟨#[100, 32, 49, 10]⟩, .string ⟨#[120, 10]⟩, .string ⟨#[49, 13, 10]⟩, .string ⟨#[45, 10]⟩, .string ⟨#[49, 45, 10]⟩, .string ⟨#[45, 48, 10]⟩] 9) = w13 := ⟨_, rfl⟩
      have hb13 : Below w12.heap.size w12 w13 := by rw [← hw13]; exact below_new w12 _
      have HBT : Hid (w13.heap[w12.heap.size]? = some (.cells (strs badTexts).toArray 9)) := hide (by rw [← hw13]; exact heap_alloc_new w12 _)
      have HB13 : Hid (Below w2.heap.size w2 w13) := hide ((unhide HB12).trans (hb13.mono (unhide HB12).size))
      have HCT : Hid (∀ k (h : k < badTexts.length) wx, Below w13.heap.size w13 wx → wx.cell? ⟨w12.heap.size, k, none⟩ = some (.string (bs badTexts[k]))) := hide (fun k h wx hb => by
        refine (hb.cell (p := ⟨w12.heap.size, k, none⟩) (lt_of_block (unhide HBT))).trans ?_
        rw [World.cell?, unhide HBT]
        simp [strs, h])
      have hblt13 : w12.heap.size < w13.heap.size := lt_of_block (unhide HBT)
      have HEV : Hid (∀ wx, Below w13.heap.size w13 wx → Below w2.heap.size w2 wx ∧ Env wx) := hide (fun wx hb => by
        have h1 := (unhide HB13).trans (hb.mono (unhide HB13).size)
        exact ⟨h1, he.below (unhide HB1 _ h1)⟩)
      have hbtl : badTexts.length = 17 := rfl
      have HTL := hide hbtl
      clear HC10 HP10 HBT hbtl hb13
      go_wp2_with fail
      go_loopw [20, 21, 22, 23, 24, 25] (fun i _ _ _ _ _ wi => ∃ j : Nat, j ≤ 17 ∧ i = .int .i64 j ∧ Hid (Below w13.heap.size w13 wi)) (fun i _ _ _ _ _ _ => 17 - (intOf i).toNat)
      case atStart => exact ⟨0, by omega, rfl, hide (Below.refl _ _)⟩
      case round =>
        obtain ⟨j, hj, rfl, HBJ⟩ := hrel
        have hbj := unhide HBJ
        have hszj := hbj.size
        by_cases hjl : j < 17
        · have hj17 : j < badTexts.length := by rw [unhide HTL]; exact hjl
          have hcj := unhide HCT j hj17 wr hbj
          have HCN : Hid (∀ wx, Below wr.heap.size wr wx → wx.cell? ⟨w12.heap.size, j, none⟩ = some (.string (bs badTexts[j]))) := hide (fun wx hb => unhide HCT j hj17 wx (hbj.trans (hb.mono hbj.size)))
          have hmem := List.getElem_mem hj17
          have hl5 := bad_len _ hmem
          have HPL : Hid (∀ wx, Below w13.heap.size w13 wx → Calls Tryz.prog 19 #[.string (bs ([49, 32, 50, 10] ++ badTexts[j]))] wx fun e w' => e = .returned (.tuple #[.string ⟨#[]⟩, .int .i64 5, .int .i64 2]) ∧ Below wx.heap.size wx w') := hide (fun wx hb => by
            have := plainGo_any ([49, 32, 50, 10] ++ badTexts[j]) wx (by simp; omega) (unhide HEV wx hb).2
            rw [bad_plain hmem] at this
            exact this)
          have HCK : Hid (∀ wx, Below w13.heap.size w13 wx → Calls Tryz.prog 17 #[.string (bs ([49, 32, 50, 10] ++ badTexts[j])), .string ⟨#[120]⟩] wx fun e w' => e = .returned (.tuple #[.int .i64 5, .int .i64 2]) ∧ Below wx.heap.size wx w') := hide (fun wx hb => checkK wx (bad_check hmem [120]) (by simp; omega) (by decide) (unhide HEV wx hb).2)
          generalize badTexts[j] = t at *
          have hadd : ∀ wx, (Op.stringOp .add ⟨#[49, 32, 50, 10]⟩ (bs t)).run Tryz.prog wx = .ok (.string (bs ([49, 32, 50, 10] ++ t))) wx := fun wx => add_bs [49, 32, 50, 10] t (by simp; omega) wx
          obtain ⟨tt, htt⟩ : ∃ tt : List UInt8, tt = [49, 32, 50, 10] ++ t := ⟨_, rfl⟩
          rw [← htt] at HPL HCK hadd
          clear hmem htt
          go_wp2_with fail
          refine (unhide HPL wr hbj).mono ?_
          rintro e w14 ⟨rfl, hb14⟩
          have hc14 := unhide HCN w14 hb14
          have hbj14 := hbj.trans (hb14.mono hbj.size)
          have hlt14 : w12.heap.size < w14.heap.size := by have := hb14.size; omega
          go_wp2_with fail
          refine (unhide HCK w14 hbj14).mono ?_
          rintro e w15 ⟨rfl, hb15⟩
          have HBN := hide (hbj14.trans (hb15.mono hbj14.size))
          go_wp2
          go_roundw
          case rel => exact ⟨j + 1, by omega, by go_num, HBN⟩
          case measure => simp [intOf]; omega
        · have HB14 := hide (unhide HEV wr hbj)
          obtain ⟨hB2, hEn⟩ := unhide HB14
          have htl := text_len l (fun c hc => (unhide HL c hc).2)
          have HTXT := hide (textK_any (.slice oo l.length oc) vs l w1.heap.size wr (unhide HTX wr hB2).1 (unhide HTX wr hB2).2 (by omega) (fun c hc => ⟨fun x hx => (unhide HL c hc).1 x hx, by have := (unhide HL c hc).2; omega⟩) (by omega) hEn.toEnvT)
          have hlt : ∀ c, c ∈ l → ∀ x, x ∈ c → Sp.Lt x := fun c hc x hx => (unhide HL c hc).1 x hx
          have hpo : plainOut (Sp.textOf l) = (maskText (l.map Sp.maskOf), 0, 0) := by
            rw [plain_ok (scan_told l hlt) (by omega), masks_told l hlt]
          have hml := maskText_litsM (fun c hc => (unhide HL c hc).2)
          have hpo2 : plainOut (maskText (l.map Sp.maskOf)) = (maskText (l.map Sp.maskOf), 0, 0) := by
            rw [plain_ok (scan_maskText _) (by omega), masks_maskText (fun m hm => by
              obtain ⟨c, hc, rfl⟩ := List.mem_map.1 hm
              exact Sp.maskOf_lt _ (fun y hy => ((unhide HL c hc).1 y hy).2))]
          have HPA : Hid (∀ wx, Below wr.heap.size wr wx → Calls Tryz.prog 19 #[.string (bs (Sp.textOf l))] wx fun e w' => e = .returned (.tuple #[.string (bs (maskText (l.map Sp.maskOf))), .int .i64 0, .int .i64 0]) ∧ Below wx.heap.size wx w') := hide (fun wx hb => by
            have := plainGo_any (Sp.textOf l) wx (by omega) (unhide HEV wx (hbj.trans (hb.mono hbj.size))).2
            rw [hpo] at this
            exact this)
          have HPB : Hid (∀ wx, Below wr.heap.size wr wx → Calls Tryz.prog 19 #[.string (bs (maskText (l.map Sp.maskOf)))] wx fun e w' => e = .returned (.tuple #[.string (bs (maskText (l.map Sp.maskOf))), .int .i64 0, .int .i64 0]) ∧ Below wx.heap.size wx w') := hide (fun wx hb => by
            have := plainGo_any (maskText (l.map Sp.maskOf)) wx (by omega) (unhide HEV wx (hbj.trans (hb.mono hbj.size))).2
            rw [hpo2] at this
            exact this)
          have HFIN : Hid (∀ wx, Below wr.heap.size wr wx → Below w1.heap.size w1 wx) := hide (fun wx hb => unhide HB1 _ (hB2.trans (hb.mono hB2.size)))
          clear hpo hpo2 htl hml hlt hEn HTX HCT
          generalize maskText (l.map Sp.maskOf) = mq at *
          generalize Sp.textOf l = tl at *
          go_wp2_with fail
          refine (unhide HTXT).mono ?_
          rintro e w14 ⟨rfl, hb14⟩
          go_wp2_with fail
          refine (unhide HPA w14 hb14).mono ?_
          rintro e w15 ⟨rfl, hb15⟩
          have hbr15 := hb14.trans (hb15.mono hb14.size)
          go_wp2_with fail
          refine (unhide HPB w15 hbr15).mono ?_
          rintro e w16 ⟨rfl, hb16⟩
          go_wp2
          go_ret
          exact ⟨by simp, unhide HFIN _ (hbr15.trans (hb16.mono hbr15.size))⟩

theorem firm_all (v0 : Value) (z0 : List Int) (n1 : Int) (w : World) (a0 : ArgL w v0 z0) (b1 : ArgI n1) (he : Env w) :
    Calls Tryz.prog 4 #[v0, .int .i64 n1] w fun e w' => e = .returned (.bool true) ∧ Below w.heap.size w w' :=
  firm_walk v0 z0 n1 w b1.1 b1.2 a0.len a0.fits a0.lies he

end Go.Proofs.YtekkkoipcghlmabGreatDoor

namespace Go.Proofs.YtekkkoipcghlmabGreatDoor
open Go.ChangeShapes Go.WideShapes Go.ChangeAt Go.RowKit Go.Deep

set_option maxRecDepth 100000 in
theorem firm_contract (H : Type) (enc : TypeId × Value → H) (W : World) (base : Nat) (args : Array Value) (ds gs : List (DataW H)) (before : List MemPlace)
    (hval : ∀ (j : Nat) t v, Tryz.f4.params[j]? = some t → args[j]? = some v → Value.okWide Tryz.prog W .any base t v)
    (hW : DataW.Whole enc Tryz.prog Tryz.f4.params.toList Rows.firmSpec.vars false W args.toList ds gs before) (hL : laidMetH Tryz.prog Rows.firmRow.laid W) (hS : W.ShapedOpen Tryz.prog) :
    Calls Tryz.prog 4 args W fun e W' => ∃ v, e = .returned v ∧ Rows.firmSpec.post enc Tryz.prog Tryz.f4 false true false false W args v W' := by
  have he := env_of hL hS
  have hW' := hW
  obtain ⟨p, q, hA0, hV, rfl, hfz, hnd⟩ := hW
  have hA : DataW.TrodAll enc Tryz.prog W 0 (fun _ => true) true Tryz.f4.params.toList args.toList ds p := hA0
  rw [Tryz.params4] at hA hval
  obtain ⟨v0, vs0, d0, ds0, p0, q0, hargs, rfl, rfl, t0, r0⟩ := trodAll_cons hA
  obtain ⟨v1, vs1, d1, ds1, p1, q1, rfl, rfl, rfl, t1, r1⟩ := trodAll_cons r0
  obtain ⟨rfl, rfl, rfl⟩ := trodAll_nil r1
  obtain rfl : args = #[v0, v1] := by cases args; simp_all
  obtain ⟨rfl, rfl⟩ := trodVars_none hV
  obtain ⟨a0, l0, c0, rfl⟩ := okWide_slice Tryz.underlying22 (hval 0 22 v0 rfl rfl)
  obtain ⟨n1, rfl, rfl, rfl, hw1⟩ := open_int Tryz.underlying3 (hval 1 3 v1 rfl rfl) t1
  clear hA0
  simp only [List.append_nil, List.nil_append] at hW'
  have hlt : ∀ x ∈ p0, x.block < W.heap.size := fun x hx => by simpa using hW'.lt x hx
  have hlt0 : ∀ x ∈ p0, x.block < W.heap.size := fun x hx => hlt x hx
  have k0 := fun (W' : World) (hn : Below W.heap.size W W') => Below.trod Tryz.laidOutS (by kernel_rfl) (of_decide_eq_true (by kernel_rfl)) t0 hn hlt0
  obtain ⟨f0, hf0⟩ := t0
  obtain ⟨z0, hz0⟩ := arg_read hf0
  refine (firm_all _ z0 n1 W hz0 (wf_bdS hw1) he).mono fun e W' ⟨hr, hb'⟩ => ?_
  subst hr
  exact ⟨_, rfl, _, _, _, [], p0 ++ ([] ++ ([])), [], hW', trodAll_mk1 (shut_bool Tryz.underlying4 _), trodAll_cons_mk (k0 W' hb') (trodAll_cons_mk (shut_int Tryz.underlying3 hw1) (trodAll_mk0)), rfl, hb'.frame _, fun h => by cases h⟩

theorem firm_start_met (os : Os) : laidMet Tryz.prog Rows.firmRow.laid ((World.laidAll Tryz.prog os Rows.firmRow.laid).forCall (fun _ _ => 0) ⟨#[], #[.slice none 0 0, .int .i64 0], []⟩).memory :=
  laidMet_laidAll _ (by kernel_rfl) (by kernel_rfl)
theorem firm_start_reads (os : Os) {H : Type} (enc : TypeId × Value → H) : ∃ places, DataW.whole enc Tryz.prog ((World.laidAll Tryz.prog os Rows.firmRow.laid).forCall (fun _ _ => 0) ⟨#[], #[.slice none 0 0, .int .i64 0], []⟩).memory Tryz.f4.params.toList Rows.firmSpec.vars false #[Value.slice none 0 0, Value.int .i64 0].toList 8 = some ([.nil, .lit (.int .i64 0)], [], places) :=
  ⟨[], by kernel_rfl⟩

set_option maxRecDepth 100000 in
theorem firm_lifted (os : Os) (started : os.Started) (H : Type) (enc : TypeId × Value → H) (F : Stop.Interp) :
    ReturnsInHanded {} Tryz.checked os 4 .any ((OpenSpec.ofChange Rows.firmSpec).preRow enc Tryz.prog Tryz.f4 Rows.firmRow.domain false Rows.firmRow.laid) (((OpenSpec.ofChange Rows.firmSpec).at F).post enc Tryz.prog Tryz.f4 false true false false) := by
  obtain ⟨places, hx⟩ := firm_start_reads os enc
  refine returnsInHanded_of_row (C := Tryz.checked) (s := OpenSpec.ofChange Rows.firmSpec) Tryz.ownKnob started (by kernel_rfl) Tryz.func4
    ⟨World.laidAll Tryz.prog os Rows.firmRow.laid, fun _ _ => 0, ⟨#[], #[.slice none 0 0, .int .i64 0], []⟩, World.laidAll_os _ _ _, World.shaped_of_ZipB (by kernel_rfl) (by kernel_rfl), rfl, (Input.okWide_of_okWideB (by kernel_rfl)).2,
      OpenSpec.preRow_of_cond 8 hx (by kernel_rfl) (fun k hk => by cases hk) (by kernel_rfl) (firm_start_met os), by simp [Assume.holds]⟩ ?_
  intro W base args ds gs before hval hW _ _ _ hL hS _
  exact firm_contract H enc W base args ds gs before hval hW hL hS

theorem firm_said : Rows.FirmSaid :=
  OpenClaim.holds_of_cond 4 Tryz.f4 rfl rfl rfl rfl rfl rfl rfl ⟨rfl, rfl, rfl, rfl, rfl⟩ rfl rfl rfl rfl rfl (by kernel_rfl) Tryz.func4 (by kernel_rfl)
    (of_decide_eq_true (by kernel_rfl)) (by unfold Func.isWrapper; first | (rw [if_pos (by decide +kernel)]; kernel_rfl) | (rw [if_neg (by decide +kernel)]; exact ⟨rfl, rfl⟩))
    (fun os started H enc _ F => by rw [OpenClaim.pre_eq_preRow]; exact firm_lifted os started H enc F)

theorem firm_plain (f : FuncId) (fn : Func) (hf : Tryz.pinned.checked.prog.funcNamed "knots/knotskeep.Firm" = some f) (hfn : Tryz.pinned.checked.prog.funcs[f]? = some fn) :
    true = Tryz.pinned.checked.prog.looks [] ∧ ∀ (j : Nat) t, fn.params[j]? = some t → Tryz.pinned.checked.prog.wantsStandIn t = false := by
  obtain rfl : f = 4 := Option.some.inj ((show Tryz.prog.funcNamed "knots/knotskeep.Firm" = some 4 by kernel_rfl).symm.trans hf) |>.symm
  obtain rfl : fn = Tryz.f4 := (Option.some.inj (Tryz.func4.symm.trans hfn)).symm
  refine ⟨by kernel_rfl, fun j t ht => ?_⟩
  rw [Tryz.params4] at ht
  have hm : t = 22 ∨ t = 3 := by
    have := Array.mem_of_getElem? ht
    simp at this
    first | omega | exact .inl this | exact .inr this | exact .inl this.symm | exact .inr this.symm
  rcases hm with rfl | rfl
  · exact (show Tryz.prog.wantsStandIn 22 = false by kernel_rfl)
  · exact (show Tryz.prog.wantsStandIn 3 = false by kernel_rfl)

theorem firm_card : Rows.FirmCardSaid :=
  Claim7.holds_tied_plain_at .later [] _ _ _ _ firm_said (fun _ h => by cases h) (by kernel_rfl) (fun _ h => by cases h) firm_row_tie rfl ⟨rfl, rfl⟩ (by kernel_rfl) rfl firm_plain (by kernel_rfl)
#print axioms firm_card

end Go.Proofs.YtekkkoipcghlmabGreatDoor
