import Derived.Test.YtekkkoipcghlmaaDoorQ10
namespace Go.Proofs.YtekkkoipcghlmaaDoor
open Go.RowKit Go.Maps

theorem stFollows {base p bm n m : Nat} {L : List Nat} {w : World} (hst : St base w p bm n L) (hn : n ≤ 10000000) (hl : L.length ≤ 10000000) (hL : Small L) (hm : m < 2 ^ 24) :
    Calls Tryd.prog 46 #[.pointer (some ⟨p, 0, none⟩), .int .u32 m] w fun e w' => FolRes L m w e w' := by
  obtain ⟨ev, D, E, hla, hbag, hEn⟩ := hst
  refine followsGo_any p ev E L m w (block_lt hla.block) hla.cell0 hla.lies (by omega) hbag.live (fun x hx => ?_) hL hm
  have hc := hbag.count x hx
  refine ⟨by rw [← hc]; exact Nat.le_trans List.count_le_length hl, fun h0 => hL _ (List.count_pos_iff.1 (by omega))⟩

theorem St.base_le {base p bm n : Nat} {L : List Nat} {w : World} (h : St base w p bm n L) : base ≤ w.heap.size := by
  obtain ⟨ev, D, E, hla, _, _⟩ := h
  exact Nat.le_trans hla.lep (Nat.le_of_lt (block_lt hla.block))

/-- What one step comes to. -/
def TakeOut (base p bm n : Nat) (L : List Nat) (x : List UInt8 × Bool) (er : Int) (w' : World) : Prop :=
  (Sp.stepOk x = false ∧ er = 6) ∨
  (Sp.stepOk x = true ∧ (Sp.stepOf x.1).1 = true ∧ ((Sp.stepMask x.1 ∉ L ∧ er = 7) ∨ (Sp.stepMask x.1 ∈ L ∧ er = 0 ∧ St base w' p bm (n + 1) (L.erase (Sp.stepMask x.1))))) ∨
  (Sp.stepOk x = true ∧ (Sp.stepOf x.1).1 = false ∧ ((¬ Sp.Fol L (Sp.stepMask x.1) ∧ er = 8) ∨ (Sp.Fol L (Sp.stepMask x.1) ∧ er = 0 ∧ St base w' p bm (n + 1) (L ++ [Sp.stepMask x.1]))))
def TakeRes (base p bm n : Nat) (L : List Nat) (x : List UInt8 × Bool) (w : World) (e : Ending) (w' : World) : Prop := ∃ er : Int, e = .returned (.int .i64 er) ∧ TakeOut base p bm n L x er w' ∧ Below base w w' ∧ Frame bm w w'

theorem St.more {base p bm n : Nat} {L : List Nat} {w : World} (h : St base w p bm n L) : St base w p bm (n + 1) L := by
  obtain ⟨ev, D, E, h1, h2, h3⟩ := h
  exact ⟨ev, D, E, h1, h2, by omega⟩

set_option maxRecDepth 100000 in
set_option maxHeartbeats 800000 in
theorem take_any (base p bm n : Nat) (L : List Nat) (x : List UInt8) (en : Bool) (w : World) (hst : St base w p bm n L) (hn : n ≤ 100000) (hl : L.length ≤ 100000) (hL : Small L) (hx : x.length ≤ 6000) (h : en = false → x.getLast? ≠ some 10) (he : Env w) :
    Calls Tryd.prog 28 #[.pointer (some ⟨p, 0, none⟩), .string (bs (lineOf x en))] w fun e w' => TakeRes base p bm n L (x, en) w e w' := by
  have HR := hide (readStep_any x en w hx h he)
  have HST := hide hst
  have hbs := hst.base_le
  have hml := stepMask_lt x
  have HSL := hide hL
  clear hst hL h he
  generalize bs (lineOf x en) = line at *
  go_enter Tryd.func28, Tryd.ntmps28
  go_wp2_with fail
  refine (unhide HR).mono ?_
  rintro e w1 ⟨c, rfl, hc, hb1⟩
  have hbb1 : Below base w w1 := hb1.mono hbs
  have hfr1 : Frame bm w w1 := Frame.below hb1
  have HS1 := hide ((unhide HST).below hb1)
  simp only at hc ⊢
  cases hok : Sp.stepOk (x, en)
  · have HOK := hide hok
    clear hok hc
    generalize (Sp.stepOf x).1 = gg
    go_wp2
    go_ret
    exact ⟨6, rfl, .inl ⟨unhide HOK, rfl⟩, hbb1, hfr1⟩
  · have hce := hc hok
    subst hce
    have HOK := hide hok
    clear hok hc
    cases hgo : (Sp.stepOf x).1
    · have HGO := hide hgo
      clear hgo
      have HF := hide (stFollows (unhide HS1) (by omega) (by omega) (unhide HSL) hml)
      have HAD := hide (fun (w2 : World) (hb2 : Below w1.heap.size w1 w2) => add_any base p bm n (Sp.stepMask x) L w2 ((unhide HS1).below hb2) (by omega) (by omega) hml)
      have HT1 : Hid (¬ Sp.Fol L (Sp.stepMask x) → ∀ w', TakeOut base p bm n L (x, en) 8 w') := hide (fun h w' => .inr (.inr ⟨unhide HOK, unhide HGO, .inl ⟨h, rfl⟩⟩))
      have HT2 : Hid (Sp.Fol L (Sp.stepMask x) → ∀ w', St base w' p bm (n + 1) (L ++ [Sp.stepMask x]) → TakeOut base p bm n L (x, en) 0 w') := hide (fun h w' hs => .inr (.inr ⟨unhide HOK, unhide HGO, .inr ⟨h, rfl, hs⟩⟩))
      generalize Sp.stepMask x = m at *
      go_wp2_with fail
      refine (unhide HF).mono ?_
      rintro e w2 ⟨r, rfl, hr, hb2⟩
      have HRR := hide hr
      clear hr
      have hbb2 : Below base w w2 := hbb1.trans (hb2.mono (Nat.le_trans hbs hb1.size))
      have hfr2 : Frame bm w w2 := hfr1.trans (Frame.below hb2)
      cases r
      · have HFN := hide (unhide HT1 (fun h => by have := (unhide HRR).2 h; cases this))
        go_wp2
        go_ret
        exact ⟨8, rfl, unhide HFN _, hbb2, hfr2⟩
      · have HFN := hide (unhide HT2 ((unhide HRR).1 rfl))
        go_wp2_with fail
        refine (unhide HAD w2 hb2).mono ?_
        rintro e w3 ⟨rfl, hs3, hb3, hf3⟩
        have HS3 := hide hs3
        clear hs3
        go_wp2
        go_ret
        exact ⟨0, rfl, unhide HFN _ (unhide HS3), hbb2.trans hb3, hfr2.trans hf3⟩
    · have HGO := hide hgo
      clear hgo
      have HDR := hide (drop_any base p bm n (Sp.stepMask x) L w1 (unhide HS1) (by omega) (by omega) hml)
      have HT1 : Hid (Sp.stepMask x ∉ L → ∀ w', TakeOut base p bm n L (x, en) 7 w') := hide (fun h w' => .inr (.inl ⟨unhide HOK, unhide HGO, .inl ⟨h, rfl⟩⟩))
      have HT2 : Hid (Sp.stepMask x ∈ L → ∀ w', St base w' p bm n (L.erase (Sp.stepMask x)) → TakeOut base p bm n L (x, en) 0 w') := hide (fun h w' hs => .inr (.inl ⟨unhide HOK, unhide HGO, .inr ⟨h, rfl, hs.more⟩⟩))
      generalize Sp.stepMask x = m at *
      go_wp2_with fail
      refine (unhide HDR).mono ?_
      rintro e w2 ⟨r, rfl, hr, hs2, hb2, hf2⟩
      have HRR := hide hr
      have HS2 := hide hs2
      clear hr hs2
      cases r
      · have HFN := hide (unhide HT1 (fun h => by have := (unhide HRR).2 h; cases this))
        go_wp2
        go_ret
        exact ⟨7, rfl, unhide HFN _, hbb1.trans hb2, hfr1.trans hf2⟩
      · have HFN := hide (unhide HT2 ((unhide HRR).1 rfl))
        go_wp2
        go_ret
        exact ⟨0, rfl, unhide HFN _ (unhide HS2), hbb1.trans hb2, hfr1.trans hf2⟩

end Go.Proofs.YtekkkoipcghlmaaDoor
