import Derived.Test.YtekkkoipcghlmaaGreatDoorA29
set_option linter.all false
namespace Go.Proofs.YtekkkoipcghlmaaGreatDoor
open Go.RowKit
attribute [local go_sem ↓] Go.wp_at_zero Go.wp_at_succ

section
variable {base : Nat} {w : World} {m : Mem}
theorem QS.heaped (h : QS base w m) {w4 : World} {g cap : Nat} {x : Int} (hown : w4.ownsRow base 3 1 (.slice (some ⟨g, 0, none⟩) (m.all.length + 1) cap) (m.all.length + 1) (ints m.all ++ [.int .i64 x])) {wz : World} (hz : Below w.heap.size w wz) (hgr : wz.grownBy w4 m.al.ownBlock) (hloc : m.al.ownBlock = some g ∨ g = wz.heap.size) :
    PMut base w m.qrows (w4.setCell ⟨m.q, 2, none⟩ (.slice (some ⟨g, 0, none⟩) (m.all.length + 1) cap)) (m.heaped (.slice (some ⟨g, 0, none⟩) (m.all.length + 1) cap) (m.all ++ [x])).qrows ∧ w4.cell? ⟨m.q, 2, none⟩ = some m.al ∧ w4.frozen? ⟨m.q, 2, none⟩ = false := by
  have h1 := PMut.below h.pack hz
  have hzs := hz.size
  have h2 := PMut.row h1.pack (i := 2) (r' := intRow (.slice (some ⟨g, 0, none⟩) (m.all.length + 1) cap) (m.all ++ [x])) rfl (by
    unfold Row.ok intRow
    simp only [List.length_append, List.length_cons, List.length_nil, ints_snoc]
    exact hown) hgr (by
    rcases hloc with h | h
    · exact .inr (.inl h.symm)
    · exact .inr (.inr ⟨g, rfl, by omega⟩))
  have h3 := PMut.store h2.pack (i := 0) rfl rfl 2 (.slice (some ⟨g, 0, none⟩) (m.all.length + 1) cap)
  exact ⟨h1.trans (h2.trans h3), World.ownsRow.cellAt (h2.pack.rows 0 _ rfl) 2 (by simp [structRow, Mem.qCells]), World.ownsRow.frozenAt (h2.pack.rows 0 _ rfl) 2⟩
theorem QS.placeSet (h : QS base w m) {g cap : Nat} (hv : m.pl = .slice (some ⟨g, 0, none⟩) 13 cap) (j : Nat) (x : Int) : PMut base w m.qrows (w.setCell ⟨g, j, none⟩ (.int .i64 x)) (m.placeSet j x).qrows := by
  have h1 := PMut.store h.pack (i := 4) (r := intRow m.pl m.places) rfl (g := g) (cap := cap) (by show m.pl = _; rw [hv]; show _ = Value.slice _ m.places.length _; rw [h.places]) j (.int .i64 x)
  have e : m.qrows.set 4 ⟨3, 1, m.pl, m.places.length, (ints m.places).set j (.int .i64 x)⟩ = (m.placeSet j x).qrows := by
    unfold Mem.qrows Mem.placeSet intRow
    simp only [List.set, List.length_set, ints_set]
    rfl
  rw [← e]
  exact h1
end

set_option maxRecDepth 100000 in
set_option maxHeartbeats 6400000 in
theorem put0_any (base : Nat) (m0 : Mem) (v : Nat) (w : World) (hS : QS base w m0) (hv : v = m0.all.length + 1) (hv12 : v ≤ 12) (hpv : m0.places[v]? = some 0) (hbd : ∀ v, v ∈ m0.all → 1 ≤ v ∧ v ≤ 12) (hbs : base ≤ w.heap.size) :
    Calls Tryz.prog 109 #[.pointer (some ⟨m0.q, 0, none⟩), .int .i64 v] w fun e w' => e = .returned (.tuple #[]) ∧ ∃ al, PMut base w m0.qrows w' ((m0.heaped al (m0.all ++ [(v : Int)])).placeSet v (v : Int)).qrows := by
  obtain ⟨g4, cap4, hpl, hg4, hcell4, hfz4⟩ := row_read (hS.pack.rows 4 _ rfl) hS.places (by omega)
  have hpl' : m0.pl = .slice (some ⟨g4, 0, none⟩) 13 cap4 := hpl
  have hq1 : w.cell? ⟨m0.q, 1, none⟩ = some (.func (.func 108) #[] #[.pointer (some ⟨m0.qb, 0, none⟩)]) := by rw [hS.cell 1 (by decide)]; rfl
  have hq2 : w.cell? ⟨m0.q, 2, none⟩ = some m0.al := by rw [hS.cell 2 (by decide)]; rfl
  have hq4 : w.cell? ⟨m0.q, 4, none⟩ = some (.slice (some ⟨g4, 0, none⟩) 13 cap4) := by rw [hS.cell 4 (by decide), ← hpl']; rfl
  have hqb := hS.bcell
  have hcv := hcell4 v _ hpv
  have HC := hide (place_any m0.q m0.qb g4 cap4 v w hqb hq4 hv12)
  have HROW : Hid (w.ownsRow base 3 1 m0.al m0.all.length (ints m0.all)) := hide (hS.pack.rows 2 _ rfl)
  obtain ⟨ao, cp, hsh⟩ := owns_shape (unhide HROW)
  have HROWB : Hid (∀ wx, Below w.heap.size w wx → wx.ownsRow base 3 1 m0.al m0.all.length (ints m0.all)) := hide (fun wx hb => owns_below (unhide HROW) hb)
  have HO : Hid (∀ (wz w4 : World) (g cap : Nat), w4.ownsRow base 3 1 (.slice (some ⟨g, 0, none⟩) (m0.all.length + 1) cap) (m0.all.length + 1) (ints m0.all ++ [.int .i64 (v : Int)]) → Below w.heap.size w wz → wz.grownBy w4 m0.al.ownBlock → (m0.al.ownBlock = some g ∨ g = wz.heap.size) →
      PMut base w m0.qrows (w4.setCell ⟨m0.q, 2, none⟩ (.slice (some ⟨g, 0, none⟩) (m0.all.length + 1) cap)) (m0.heaped (.slice (some ⟨g, 0, none⟩) (m0.all.length + 1) cap) (m0.all ++ [(v : Int)])).qrows ∧ w4.cell? ⟨m0.q, 2, none⟩ = some m0.al ∧ w4.frozen? ⟨m0.q, 2, none⟩ = false) := hide (fun wz w4 g cap ho hz hg hl => hS.heaped ho hz hg hl)
  have HQ : Hid (∀ (w1 : World) (al : Value), PMut base w m0.qrows w1 (m0.heaped al (m0.all ++ [(v : Int)])).qrows → ∃ ao2 cp2, w1.cell? ⟨m0.q, 1, none⟩ = some (.func (.func 108) #[] #[.pointer (some ⟨m0.qb, 0, none⟩)]) ∧ w1.cell? ⟨m0.q, 2, none⟩ = some (.slice ao2 (m0.all.length + 1) cp2) ∧ w1.cell? ⟨g4, v, none⟩ = some (.int .i64 0) ∧ w1.frozen? ⟨g4, v, none⟩ = false ∧
      (∀ wx, (∃ n, wx = w1.drewN n) → Calls Tryz.prog 108 #[.int .i64 v, .pointer (some ⟨m0.qb, 0, none⟩)] wx fun e w' => e = .returned (.pointer (some ⟨g4, v, none⟩)) ∧ ∃ n, w' = wx.drewN n) ∧
      ∀ wq, Below w1.heap.size w1 wq → PMut base w m0.qrows (wq.setCell ⟨g4, v, none⟩ (.int .i64 ((m0.all.length : Int) + 1))) ((m0.heaped al (m0.all ++ [(v : Int)])).placeSet v ((m0.all.length : Int) + 1)).qrows) := hide (by
    intro w1 al hm1
    have hS1 : QS base w1 (m0.heaped al (m0.all ++ [(v : Int)])) := ⟨hm1.pack, hS.counts, hS.places, hS.zero⟩
    obtain ⟨ao2, cp2, hsh2⟩ := owns_shape (hS1.pack.rows 2 _ rfl)
    obtain ⟨g5, cap5, hpl5, -, hcell5, hfz5⟩ := row_read (hS1.pack.rows 4 _ rfl) hS1.places (by omega)
    have hpl5' : m0.pl = .slice (some ⟨g5, 0, none⟩) 13 cap5 := hpl5
    rw [hpl'] at hpl5'
    simp only [Value.slice.injEq, Option.some.injEq, Addr.mk.injEq, and_true, true_and] at hpl5'
    obtain ⟨rfl, rfl⟩ := hpl5'
    refine ⟨ao2, cp2, by have := hS1.cell 1 (by decide); exact this, ?_, hcell5 v _ hpv, hfz5 v, fun wx hx => ?_, fun wq hq => ?_⟩
    · have := hS1.cell 2 (by decide)
      rw [show m0.q = (m0.heaped al (m0.all ++ [(v : Int)])).q from rfl, this]
      show some al = _
      rw [show al = _ from hsh2]
      simp [intRow, Mem.heaped]
    · obtain ⟨n, rfl⟩ := hx
      exact place_any m0.q m0.qb g4 cap4 v (w1.drewN n) hS1.bcell (by have := hS1.cell 4 (by decide); rw [show m0.q = (m0.heaped al (m0.all ++ [(v : Int)])).q from rfl]; exact this.trans (by show some m0.pl = _; rw [hpl'])) hv12
    · have hb := PMut.below hm1.pack hq
      have hSq : QS base wq (m0.heaped al (m0.all ++ [(v : Int)])) := ⟨hb.pack, hS.counts, hS.places, hS.zero⟩
      exact (hm1.trans hb).trans (hSq.placeSet hpl' v _))
  have HR : Hid (∀ (w2 : World) (al : Value), PMut base w m0.qrows w2 ((m0.heaped al (m0.all ++ [(v : Int)])).placeSet v ((m0.all.length : Int) + 1)).qrows → Calls Tryz.prog 154 #[.pointer (some ⟨m0.q, 0, none⟩), .int .i64 v] w2 fun e w' => e = .returned (.tuple #[]) ∧ ∃ al, PMut base w m0.qrows w' ((m0.heaped al (m0.all ++ [(v : Int)])).placeSet v (v : Int)).qrows) := hide (by
    intro w2 al hm2
    have hS2 : QS base w2 ((m0.heaped al (m0.all ++ [(v : Int)])).placeSet v ((m0.all.length : Int) + 1)) := ⟨hm2.pack, hS.counts, by show (m0.places.set _ _).length = 13; rw [List.length_set]; exact hS.places, hS.zero⟩
    have hlen : ((m0.heaped al (m0.all ++ [(v : Int)])).placeSet v ((m0.all.length : Int) + 1)).all.length = m0.all.length + 1 := by show (m0.all ++ [(v : Int)]).length = _; simp
    have := rise0_any base _ v w2 hS2 hv12 (by
      rw [hlen]
      show (m0.places.set v _)[v]? = _
      rw [List.getElem?_set_self (by rw [hS.places]; omega)]
      simp) (by rw [hlen]; omega) (fun u hu => by
      have hu' : u ∈ m0.all ++ [(v : Int)] := hu
      rcases List.mem_append.1 hu' with h | h
      · exact hbd u h
      · simp at h; subst h; omega) (by rw [hlen]; omega)
    refine this.mono (fun e w' hh => ?_)
    obtain ⟨he, hb⟩ := hh
    refine ⟨he, al, ?_⟩
    have e1 : ((v : Nat) : Int) = (m0.all.length : Int) + 1 := by omega
    rw [e1]
    have h3 := hm2.trans (PMut.below hm2.pack hb)
    rw [e1] at h3
    exact h3)
  clear hS hpl hpl' hcell4 hfz4 hpv hbd
  generalize hN : m0.all.length = N at *
  have hN12 : N ≤ 12 := by omega
  clear hv hN
  generalize ints m0.all = io at *
  generalize m0.al = ov at *
  subst hsh
  go_enter Tryz.func109, Tryz.ntmps109
  go_wp2_with fail
  refine (unhide HC).mono ?_
  rintro e w1 ⟨rfl, n1, rfl⟩
  go_wp2_with (at_builtin; refine append_cell (base := base) rfl _ _ 25 3 rfl Tryz.underlying25 Tryz.infoInt rfl (by decide) (unhide HROWB _ (belowDrew (Below.refl _ _) _)) rfl rfl rfl (by omega) hbs ?_; intro g' cap' w4 hown4 hgr4 hloc; have HMID := hide (unhide HO _ _ _ _ hown4 ((belowDrew (Below.refl _ _) _).alloc (Nat.le_refl _) _) hgr4 hloc); clear hown4 hgr4 hloc; have hc04 := (unhide HMID).2.1; have hf04 := (unhide HMID).2.2)
  obtain ⟨ao2, cp2, k1, k2, k3, k4, k5, k6⟩ := unhide HQ _ _ (unhide HMID).1
  have HK5 := hide k5
  have HK6 := hide k6
  generalize hw5 : w4.setCell ⟨m0.q, 2, none⟩ (.slice (some ⟨g', 0, none⟩) (N + 1) cap') = w5 at *
  clear hw5 k5 k6 hc04 hf04
  go_cut [] (fun wx => Hid (∃ al, PMut base w m0.qrows wx ((m0.heaped al (m0.all ++ [(v : Int)])).placeSet v ((N : Int) + 1)).qrows))
  case first =>
    go_region_with (go_at_call 108; refine (unhide HK5 _ (by first | exact ⟨0, rfl⟩ | exact ⟨1, rfl⟩ | exact ⟨2, rfl⟩)).mono ?_; rintro e w3 ⟨rfl, n3, rfl⟩)
    all_goals go_wp2_with fail
    all_goals go_meet
    all_goals exact hide ⟨_, unhide HK6 _ (belowDrew (Below.refl _ _) _)⟩
  case rest =>
    obtain ⟨w6, rfl⟩ : ∃ w6, w6 = wc := ⟨wc, rfl⟩
    obtain ⟨al6, hm6⟩ := unhide hcut
    have HR6 := hide (unhide HR _ _ hm6)
    clear hm6 hcut
    go_wp2_with fail
    refine (unhide HR6).mono ?_
    rintro e w7 ⟨rfl, hp7⟩
    have HP7 := hide hp7
    clear hp7
    go_wp2
    try go_end0
    exact ⟨rfl, unhide HP7⟩

end Go.Proofs.YtekkkoipcghlmaaGreatDoor
