import Derived.Test.YtekkkoipcghlmaaGreatDoorC08
set_option linter.all false
namespace Go.Proofs.YtekkkoipcghlmaaGreatDoor
open Go.RowKit
attribute [local go_sem ↓] Go.wp_at_zero Go.wp_at_succ

/-- .. and how far what comes is known. -/
def KeptP (m0 m : Mem) : Prop := m = { m0.but m with passed := m.passed }
theorem KeptP.refl (m : Mem) : KeptP m m := rfl
theorem KeptP.trans {a b c : Mem} (h : KeptP a b) (h' : KeptP b c) : KeptP a c := by
  unfold KeptP at h h' ⊢
  rw [h] at h'
  exact h'
theorem Kept.keptP {a b : Mem} (h : Kept a b) : KeptP a b := by
  unfold Kept at h
  unfold KeptP
  have : b.passed = a.passed := by rw [h]; rfl
  rw [this]; exact h
def Mem.past (m : Mem) (n : Int) : Mem := { m with passed := n }
theorem Mut.past {base : Nat} {w : World} {m : Mem} (h : SAt base w m) (n : Int) : Mut base w m (w.setCell ⟨m.s, 6, none⟩ (.int .i64 n)) (m.past n) := ⟨h.field 6 (.int .i64 n), h.ws, h.ls, h.counts, h.places, rfl, rfl, rfl⟩

/-- What propagation comes to. -/
def PropRes (base : Nat) (w : World) (m0 : Mem) (cls0 : List Cl) (tr0 : Tr) (e : Ending) (w' : World) : Prop :=
  ∃ m cls wat tr bad, e = .returned (.int .i64 bad) ∧ Mut base w m0 w' m ∧ Rep m cls tr ∧ WatAt m wat ∧ KeptP m0 m ∧ Went cls0 tr0 cls tr ∧ m.store.length = m0.store.length ∧ ((bad = -1 ∧ m.passed = (tr.length : Int) ∧ Rest tr.length cls wat tr) ∨ (bad ≠ -1 ∧ ∃ n : Nat, m.passed = (n : Int) + 1 ∧ Struck cls wat tr n bad))
structure PAt (base : Nat) (w : World) (m0 : Mem) (cls0 : List Cl) (tr0 : Tr) (wr : World) (n : Nat) (m : Mem) (cls : List Cl) (wat : Int → List Int) (tr : Tr) : Prop where
  mu : Mut base w m0 wr m
  rep : Rep m cls tr
  wats : WatAt m wat
  kept : KeptP m0 m
  went : Went cls0 tr0 cls tr
  size : m.store.length = m0.store.length
  passed : m.passed = (n : Int)
  rest : Rest n cls wat tr

def passedOf (s : Nat) (w : World) : Nat := (intOf ((w.cell? ⟨s, 6, none⟩).getD (.int .i64 0))).toNat
theorem PAt.passedOf {base : Nat} {w : World} {m0 : Mem} {cls0 : List Cl} {tr0 : Tr} {wr : World} {n : Nat} {m : Mem} {cls : List Cl} {wat : Int → List Int} {tr : Tr} (h : PAt base w m0 cls0 tr0 wr n m cls wat tr) : passedOf m0.s wr = n := by
  have hc : wr.cell? ⟨m.s, 6, none⟩ = some (.int .i64 m.passed) := by rw [h.mu.at.cell 6 (by decide)]; rfl
  rw [h.mu.s, h.passed] at hc
  unfold Go.Proofs.YtekkkoipcghlmaaGreatDoor.passedOf
  rw [hc]
  simp [intOf]
set_option maxRecDepth 100000 in
set_option maxHeartbeats 3200000 in
theorem propagate_any (base : Nat) (m0 : Mem) (cls0 : List Cl) (wat0 : Int → List Int) (tr0 : Tr) (n0 : Nat) (w : World) (hS : SAt base w m0) (hR : Rep m0 cls0 tr0) (hW : WatAt m0 wat0) (hI : Rest n0 cls0 wat0 tr0) (hpa : m0.passed = (n0 : Int)) (hsz : m0.store.length ≤ 9000000) (hbs : base ≤ w.heap.size) :
    Calls Tryz.prog 117 #[.pointer (some ⟨m0.s, 0, none⟩)] w fun e w' => PropRes base w m0 cls0 tr0 e w' := by
  have HST : Hid (∃ n m cls wat tr, PAt base w m0 cls0 tr0 w n m cls wat tr) := hide ⟨n0, m0, cls0, wat0, tr0, Mut.refl hS, hR, hW, KeptP.refl _, Went.refl _ _, rfl, hpa, hI⟩
  clear hS hR hW hI hpa
  go_enter Tryz.func117, Tryz.ntmps117
  go_wp2
  go_loopw [] (fun wr => ∃ n : Nat, n ≤ 12 ∧ Hid (∃ m cls wat tr, PAt base w m0 cls0 tr0 wr n m cls wat tr)) (fun wr => 13 - passedOf m0.s wr)
  case atStart =>
    obtain ⟨n, m, cls, wat, tr, h⟩ := unhide HST
    exact ⟨n, by have := h.rest.le; have := h.rest.trok.len; omega, hide ⟨m, cls, wat, tr, h⟩⟩
  case round =>
    obtain ⟨n, hn12, HP⟩ := hrel
    obtain ⟨m, cls, wat, tr, hP⟩ := unhide HP
    have hS := hP.mu.at
    have hms : m.s = m0.s := hP.mu.s
    have hc4 : wr.cell? ⟨m0.s, 4, none⟩ = some m.od := by rw [← hms, hS.cell 4 (by decide)]; rfl
    have hc6 : wr.cell? ⟨m0.s, 6, none⟩ = some (.int .i64 (n : Int)) := by rw [← hms, hS.cell 6 (by decide), ← hP.passed]; rfl
    have hf6 : wr.frozen? ⟨m0.s, 6, none⟩ = false := by rw [← hms]; exact hS.free 6
    have hss : m0.s < wr.heap.size := by rw [← hms]; exact hS.lt.1
    have hol : m.order.length = tr.length := by rw [hP.rep.order, List.length_map]
    have hrow := hS.pack.rows 6 _ rfl
    unfold Row.ok intRow at hrow
    simp only [hP.rep.odr, hP.rep.ordr] at hrow
    rw [hol] at hrow
    obtain ⟨ao, cp, hsh⟩ := owns_shape hrow
    rw [hsh] at hc4 hrow
    have htl := hP.rest.trok.len
    by_cases hlt : n < tr.length
    · obtain ⟨g, cap2, hv, -, hg⟩ := World.ownsRow.form hrow (by omega)
      simp only [Value.slice.injEq, true_and] at hv
      obtain ⟨rfl, rfl⟩ := hv
      have hcn : wr.cell? ⟨g, n, none⟩ = some (.int .i64 tr[n].1) := by
        rw [hrow.cellAt n (by omega), hP.rep.order]
        simp [ints, hlt]
      have hxn : tr[n]? = some (tr[n].1, tr[n].2) := List.getElem?_eq_getElem hlt
      have hbn := hP.rest.trok.bd n _ hxn
      simp only at hbn
      have HMS : Hid (∀ wq, Below wr.heap.size wr wq → Mut base w m0 (wq.setCell ⟨m0.s, 6, none⟩ (.int .i64 ((n : Int) + 1))) (m.past ((n : Int) + 1))) := hide (by
        intro wq hq
        have := Mut.past (hS.below hq) ((n : Int) + 1)
        rw [hms] at this
        exact (hP.mu.trans (Mut.below hS hq)).trans this)
      have HVI : Hid (∀ wx, Mut base w m0 wx (m.past ((n : Int) + 1)) → Calls Tryz.prog 158 #[.pointer (some ⟨m0.s, 0, none⟩), .int .i64 (-tr[n].1)] wx fun e w' => VisitRes base wx (m.past ((n : Int) + 1)) cls tr n e w') := hide (fun wx hm => by
        have := visit_any base (m.past ((n : Int) + 1)) cls wat tr n tr[n].1 tr[n].2 wx hm.at ⟨hP.rep.store, hP.rep.order, hP.rep.starts, hP.rep.len, hP.rep.taken, hP.rep.free, hP.rep.odr, hP.rep.ordr⟩ hP.wats hP.rest hxn (by show m.store.length ≤ 9000000; rw [hP.size]; exact hsz) (Nat.le_trans hbs hm.to.only.size)
        have e : (m.past ((n : Int) + 1)).s = m0.s := hms
        rw [e] at this
        exact this)
      have HPP := hide hP
      have HOL := hide (And.intro hlt htl)
      clear hP hS hms hol hrow hxn HP
      clear hsh
      generalize tr[n].1 = x at *
      generalize htn : tr.length = N at *
      clear htn
      go_wp2_with fail
      go_quiet (fail)
      go_wp2_with fail
      go_quiet (fail)
      go_wp2_with fail
      refine (unhide HVI _ (by first | exact unhide HMS _ (belowDrew (belowDrew (Below.refl _ _) _) _) | exact unhide HMS _ (belowDrew (Below.refl _ _) _))).mono ?_
      rintro e w2 ⟨m2, cls2, wat2, tr2, bad2, rfl, hmu2, hrep2, hwat2, hkept2, hwent2, hsz2, hres⟩
      have HALL : Hid (Mut base w m0 w2 m2 ∧ KeptP m0 m2 ∧ Went cls0 tr0 cls2 tr2 ∧ m2.store.length = m0.store.length ∧ m2.passed = (n : Int) + 1) := hide (by
        have h := unhide HPP
        refine ⟨Mut.trans (by first | exact unhide HMS _ (belowDrew (belowDrew (Below.refl _ _) _) _) | exact unhide HMS _ (belowDrew (Below.refl _ _) _)) hmu2, h.kept.trans (KeptP.trans (b := m.past ((n : Int) + 1)) rfl hkept2.keptP), h.went.trans hwent2, by rw [hsz2]; exact h.size, by rw [hkept2]; rfl⟩)
      have HRW := hide (And.intro hrep2 hwat2)
      clear hmu2 hrep2 hwat2 hkept2 hwent2 hsz2
      rcases hres with ⟨rfl, hrest⟩ | ⟨hb, hst⟩
      · have HR := hide hrest
        clear hrest
        go_wp2
        go_roundw
        case rel =>
          obtain ⟨a1, a2, a3, a4, a5⟩ := unhide HALL
          obtain ⟨a6, a7⟩ := unhide HRW
          exact ⟨n + 1, by have := (unhide HR).le; have := (unhide HR).trok.len; omega, hide ⟨m2, cls2, wat2, tr2, a1, a6, a7, a2, a3, a4, by rw [a5]; omega, unhide HR⟩⟩
        case measure =>
          obtain ⟨a1, a2, a3, a4, a5⟩ := unhide HALL
          obtain ⟨a6, a7⟩ := unhide HRW
          have p1 := (unhide HPP).passedOf
          have p2 : passedOf m0.s w2 = n + 1 := PAt.passedOf (base := base) (w := w) (m0 := m0) (cls0 := cls0) (tr0 := tr0) (wr := w2) (n := n + 1) (m := m2) (cls := cls2) (wat := wat2) (tr := tr2) ⟨a1, a6, a7, a2, a3, a4, by rw [a5]; omega, unhide HR⟩
          rw [p1, p2]; omega
      · have HR := hide hst
        have hq : (bad2 == -1) = false := by simpa using hb
        have HB := hide hb
        clear hst hb
        go_wp2
        try go_ret
        obtain ⟨a1, a2, a3, a4, a5⟩ := unhide HALL
        obtain ⟨a6, a7⟩ := unhide HRW
        exact ⟨m2, cls2, wat2, tr2, bad2, rfl, a1, a6, a7, a2, a3, a4, .inr ⟨unhide HB, n, a5, unhide HR⟩⟩
    · have hnl : n = tr.length := by have := hP.rest.le; omega
      have HPP := hide hP
      clear hP hS hol hrow HP
      have HN := hide hnl
      generalize htn : tr.length = N at *
      have HTN := hide htn
      clear htn hsh
      go_wp2_with fail
      go_quiet (fail)
      go_wp2
      try go_ret
      have h := unhide HPP
      have e1 := unhide HN
      have e2 := unhide HTN
      exact ⟨m, cls, wat, tr, -1, rfl, h.mu.trans (Mut.below h.mu.at (belowDrew (Below.refl _ _) _)), h.rep, h.wats, h.kept, h.went, h.size, .inl ⟨rfl, by rw [h.passed, e2, e1], by rw [e2, ← e1]; exact h.rest⟩⟩

end Go.Proofs.YtekkkoipcghlmaaGreatDoor

namespace Go.Proofs.YtekkkoipcghlmaaGreatDoor
open Go.RowKit
attribute [local go_sem ↓] Go.wp_at_zero Go.wp_at_succ

/-- The heap: which variables are in it, and where each stands. -/
structure HeapOK (all places : List Int) : Prop where
  nodup : all.Nodup
  bd : ∀ v, v ∈ all → 1 ≤ v ∧ v ≤ 12
  len : places.length = 13
  there : ∀ (i : Nat) v, all[i]? = some v → places[v.toNat]? = some ((i : Int) + 1)
  gone : ∀ v : Nat, 0 < v → v < 13 → (v : Int) ∉ all → places[v]? = some 0

section
variable {base : Nat} {w : World} {m : Mem}
theorem SAt.heap (h : SAt base w m) (hn : 0 < m.all.length) : ∃ g cap, m.al = .slice (some ⟨g, 0, none⟩) m.all.length cap ∧ g < w.heap.size ∧ (∀ j (hj : j < m.all.length), w.cell? ⟨g, j, none⟩ = some (.int .i64 m.all[j])) ∧ ∀ j, w.frozen? ⟨g, j, none⟩ = false := by
  have hr := h.pack.rows 8 _ rfl
  unfold Row.ok intRow at hr
  simp only at hr
  obtain ⟨g, cap, hv, hb, hlt⟩ := World.ownsRow.form hr hn
  rw [hv] at hr
  refine ⟨g, cap, hv, hlt, fun j hj => ?_, fun j => hr.frozenAt j⟩
  rw [hr.cellAt j (by omega)]
  simp [ints, hj]
theorem SAt.countsAt (h : SAt base w m) : ∃ g cap, m.co = .slice (some ⟨g, 0, none⟩) 13 cap ∧ g < w.heap.size ∧ (∀ j (hj : j < m.counts.length), w.cell? ⟨g, j, none⟩ = some (.int .i64 m.counts[j])) ∧ ∀ j, w.frozen? ⟨g, j, none⟩ = false := by
  have hr := h.pack.rows 9 _ rfl
  unfold Row.ok intRow at hr
  simp only [h.counts] at hr
  obtain ⟨g, cap, hv, hb, hlt⟩ := World.ownsRow.form hr (by decide)
  rw [hv] at hr
  refine ⟨g, cap, hv, hlt, fun j hj => ?_, fun j => hr.frozenAt j⟩
  rw [hr.cellAt j (by have := h.counts; omega)]
  simp [ints, hj]
theorem SAt.placesAt (h : SAt base w m) : ∃ g cap, m.pl = .slice (some ⟨g, 0, none⟩) 13 cap ∧ g < w.heap.size ∧ (∀ j (hj : j < m.places.length), w.cell? ⟨g, j, none⟩ = some (.int .i64 m.places[j])) ∧ ∀ j, w.frozen? ⟨g, j, none⟩ = false := by
  have hr := h.pack.rows 10 _ rfl
  unfold Row.ok intRow at hr
  simp only [h.places] at hr
  obtain ⟨g, cap, hv, hb, hlt⟩ := World.ownsRow.form hr (by decide)
  rw [hv] at hr
  refine ⟨g, cap, hv, hlt, fun j hj => ?_, fun j => hr.frozenAt j⟩
  rw [hr.cellAt j (by have := h.places; omega)]
  simp [ints, hj]
end

set_option maxRecDepth 100000 in
theorem first_any (q qb g2 cap2 x y : Nat) (cx cy : Int) (w : World) (hqb : w.cell? ⟨qb, 0, none⟩ = some (.pointer (some ⟨q, 0, none⟩))) (hq3 : w.cell? ⟨q, 3, none⟩ = some (.slice (some ⟨g2, 0, none⟩) 13 cap2)) (hx : x ≤ 12) (hy : y ≤ 12) (hcx : w.cell? ⟨g2, x, none⟩ = some (.int .i64 cx)) (hcy : w.cell? ⟨g2, y, none⟩ = some (.int .i64 cy)) :
    Calls Tryz.prog 107 #[.int .i64 x, .int .i64 y, .pointer (some ⟨qb, 0, none⟩)] w fun e w' => e = .returned (.bool (decide (cy < cx))) ∧ ∃ n, w' = w.drewN n := by
  have hx1 : (x : Int) < 13 := by omega
  have hy1 : (y : Int) < 13 := by omega
  go_enter Tryz.func107, Tryz.ntmps107
  go_wp2
  go_quiet (fail)
  go_wp2
  go_ret
  exact ⟨rfl, _, rfl⟩

set_option maxRecDepth 100000 in
set_option maxHeartbeats 1600000 in
theorem ahead_any (base : Nat) (m : Mem) (a b : Nat) (w : World) (hS : SAt base w m) (ha : 0 < a) (ha' : a ≤ m.all.length) (hb : 0 < b) (hb' : b ≤ m.all.length) (hbd : ∀ v, v ∈ m.all → 1 ≤ v ∧ v ≤ 12) (hl : m.all.length ≤ 12) :
    Calls Tryz.prog 183 #[.pointer (some ⟨m.q, 0, none⟩), .int .i64 a, .int .i64 b] w fun e w' => (∃ t : Bool, e = .returned (.bool t)) ∧ Below w.heap.size w w' := by
  obtain ⟨g, cap, hal, hg, hcell, -⟩ := hS.heap (by omega)
  obtain ⟨g2, cap2, hco, hg2, hcell2, -⟩ := hS.countsAt
  have hq0 : w.cell? ⟨m.q, 0, none⟩ = some (.func (.func 107) #[] #[.pointer (some ⟨m.qb, 0, none⟩)]) := by rw [hS.qcell 0 (by decide)]; rfl
  have hq2 : w.cell? ⟨m.q, 2, none⟩ = some (.slice (some ⟨g, 0, none⟩) m.all.length cap) := by rw [hS.qcell 2 (by decide), ← hal]; rfl
  have hq3 : w.cell? ⟨m.q, 3, none⟩ = some (.slice (some ⟨g2, 0, none⟩) 13 cap2) := by rw [hS.qcell 3 (by decide), ← hco]; rfl
  have hqb := hS.bcell
  obtain ⟨a', rfl⟩ : ∃ a', a = a' + 1 := ⟨a - 1, by omega⟩
  obtain ⟨b', rfl⟩ : ∃ b', b = b' + 1 := ⟨b - 1, by omega⟩
  have hca := hcell a' (by omega)
  have hcb := hcell b' (by omega)
  have ba := hbd _ (List.getElem_mem (show a' < m.all.length by omega))
  have bb := hbd _ (List.getElem_mem (show b' < m.all.length by omega))
  generalize m.all[a'] = x at *
  generalize m.all[b'] = y at *
  have hl2 := hS.counts
  have hc1 := hcell2 x.toNat (by omega)
  have hc2 := hcell2 y.toNat (by omega)
  generalize m.counts[x.toNat] = cx at *
  generalize m.counts[y.toNat] = cy at *
  obtain ⟨x', rfl⟩ : ∃ x' : Nat, x = x' := ⟨x.toNat, by omega⟩
  obtain ⟨y', rfl⟩ : ∃ y' : Nat, y = y' := ⟨y.toNat, by omega⟩
  simp only [Int.toNat_natCast] at hc1 hc2
  clear hcell hcell2 hbd hal hco hl2 hS
  generalize m.all.length = N at *
  have hwa : IntKind.i64.wrap (a' : Int) = a' := by rw [IntKind.wrap_i64]; omega
  have hwb : IntKind.i64.wrap (b' : Int) = b' := by rw [IntKind.wrap_i64]; omega
  have hia : (a' : Int) < (N : Int) := by omega
  have hib : (b' : Int) < (N : Int) := by omega
  have hka : a' < N := by omega
  have hkb : b' < N := by omega
  go_enter Tryz.func183, Tryz.ntmps183
  have HC := hide (fun n => first_any m.q m.qb g2 cap2 x' y' cx cy (w.drewN n) hqb hq3 (by omega) (by omega) hc1 hc2)
  go_wp2_with fail
  go_quiet ((go_at_call 107; refine Calls.quiet_of (unhide HC _)))
  go_wp2
  go_ret
  exact ⟨⟨_, rfl⟩, belowDrew (Below.refl _ _) _⟩

end Go.Proofs.YtekkkoipcghlmaaGreatDoor

namespace Go.Proofs.YtekkkoipcghlmaaGreatDoor
open Go.RowKit
attribute [local go_sem ↓] Go.wp_at_zero Go.wp_at_succ

set_option maxRecDepth 100000 in
theorem place_any (q qb g4 cap4 x : Nat) (w : World) (hqb : w.cell? ⟨qb, 0, none⟩ = some (.pointer (some ⟨q, 0, none⟩))) (hq4 : w.cell? ⟨q, 4, none⟩ = some (.slice (some ⟨g4, 0, none⟩) 13 cap4)) (hx : x ≤ 12) :
    Calls Tryz.prog 108 #[.int .i64 x, .pointer (some ⟨qb, 0, none⟩)] w fun e w' => e = .returned (.pointer (some ⟨g4, x, none⟩)) ∧ ∃ n, w' = w.drewN n := by
  have hx1 : (x : Int) < 13 := by omega
  go_enter Tryz.func108, Tryz.ntmps108
  go_wp2
  first | (go_quiet (fail); go_wp2; go_ret; exact ⟨rfl, _, rfl⟩) | (go_ret; exact ⟨rfl, 0, rfl⟩)

def Mem.allSet (m : Mem) (j : Nat) (x : Int) : Mem := { m with all := m.all.set j x }
def Mem.placeSet (m : Mem) (j : Nat) (x : Int) : Mem := { m with places := m.places.set j x }
section
variable {base : Nat} {w : World} {m : Mem}
theorem Mut.allSet (h : SAt base w m) {g cap : Nat} (hv : m.al = .slice (some ⟨g, 0, none⟩) m.all.length cap) (j : Nat) (x : Int) : Mut base w m (w.setCell ⟨g, j, none⟩ (.int .i64 x)) (m.allSet j x) := by
  refine ⟨?_, h.ws, h.ls, h.counts, h.places, rfl, rfl, rfl⟩
  show PMut base w m.rows _ (m.rows.set 8 (intRow m.al (m.all.set j x)))
  unfold intRow
  rw [ints_set, List.length_set]
  exact PMut.store h.pack (i := 8) rfl hv j _
theorem Mut.placeSet (h : SAt base w m) {g cap : Nat} (hv : m.pl = .slice (some ⟨g, 0, none⟩) 13 cap) (j : Nat) (x : Int) : Mut base w m (w.setCell ⟨g, j, none⟩ (.int .i64 x)) (m.placeSet j x) := by
  refine ⟨?_, h.ws, h.ls, h.counts, by simp [Mem.placeSet, h.places], rfl, rfl, rfl⟩
  show PMut base w m.rows _ (m.rows.set 10 (intRow m.pl (m.places.set j x)))
  unfold intRow
  rw [ints_set, List.length_set]
  exact PMut.store h.pack (i := 10) rfl (by show m.pl = _; rw [hv]; show _ = Value.slice _ m.places.length _; rw [h.places]) j _
/-- What is read of the queue. -/
theorem SAt.queueAt (h : SAt base w m) (hn : 0 < m.all.length) : ∃ g cap g4 cap4, m.al = .slice (some ⟨g, 0, none⟩) m.all.length cap ∧ m.pl = .slice (some ⟨g4, 0, none⟩) 13 cap4 ∧ g < w.heap.size ∧ g4 < w.heap.size ∧ m.q < w.heap.size ∧ w.cell? ⟨m.q, 1, none⟩ = some (.func (.func 108) #[] #[.pointer (some ⟨m.qb, 0, none⟩)]) ∧ w.cell? ⟨m.q, 2, none⟩ = some (.slice (some ⟨g, 0, none⟩) m.all.length cap) ∧ w.cell? ⟨m.q, 4, none⟩ = some (.slice (some ⟨g4, 0, none⟩) 13 cap4) ∧ w.cell? ⟨m.qb, 0, none⟩ = some (.pointer (some ⟨m.q, 0, none⟩)) ∧
    (∀ j (hj : j < m.all.length), w.cell? ⟨g, j, none⟩ = some (.int .i64 m.all[j])) ∧ (∀ j, w.frozen? ⟨g, j, none⟩ = false) ∧ (∀ j (hj : j < m.places.length), w.cell? ⟨g4, j, none⟩ = some (.int .i64 m.places[j])) ∧ ∀ j, w.frozen? ⟨g4, j, none⟩ = false := by
  obtain ⟨g, cap, hal, hg, hcell, hfz⟩ := h.heap hn
  obtain ⟨g4, cap4, hpl, hg4, hcell4, hfz4⟩ := h.placesAt
  have hq2 : w.cell? ⟨m.q, 2, none⟩ = some (.slice (some ⟨g, 0, none⟩) m.all.length cap) := by rw [h.qcell 2 (by decide), ← hal]; rfl
  exact ⟨g, cap, g4, cap4, hal, hpl, hg, hg4, World.block_lt_of_cell? w ⟨m.q, 2, none⟩ hq2, by rw [h.qcell 1 (by decide)]; rfl, hq2, by rw [h.qcell 4 (by decide), ← hpl]; rfl, h.bcell, hcell, hfz, hcell4, hfz4⟩
end
/-- Two things in the heap change places. -/
def Mem.swapped (m : Mem) (a b : Nat) (x y : Int) : Mem := (((m.allSet a y).allSet b x).placeSet y.toNat ((a : Int) + 1)).placeSet x.toNat ((b : Int) + 1)

set_option maxRecDepth 100000 in
set_option maxHeartbeats 6400000 in
theorem swap_any (base : Nat) (m : Mem) (a' b' : Nat) (x y : Int) (w : World) (hS : SAt base w m) (hxa : m.all[a']? = some x) (hyb : m.all[b']? = some y) (hbd : ∀ v, v ∈ m.all → 1 ≤ v ∧ v ≤ 12) (hl : m.all.length ≤ 12) :
    Calls Tryz.prog 168 #[.pointer (some ⟨m.q, 0, none⟩), .int .i64 ((a' : Int) + 1), .int .i64 ((b' : Int) + 1)] w fun e w' => e = .returned (.tuple #[]) ∧ Mut base w m w' (m.swapped a' b' x y) := by
  have ha' := (List.getElem?_eq_some_iff.1 hxa).1
  have hb' := (List.getElem?_eq_some_iff.1 hyb).1
  have eax : m.all[a'] = x := (List.getElem?_eq_some_iff.1 hxa).2
  have eby : m.all[b'] = y := (List.getElem?_eq_some_iff.1 hyb).2
  obtain ⟨g, cap, hal, hg, hcell, hfz⟩ := hS.heap (by omega)
  have hq2 : w.cell? ⟨m.q, 2, none⟩ = some (.slice (some ⟨g, 0, none⟩) m.all.length cap) := by rw [hS.qcell 2 (by decide), ← hal]; rfl
  have hca := hcell a' ha'
  have hcb := hcell b' hb'
  have hfa := hfz a'
  have hfb := hfz b'
  have ba := hbd _ (List.getElem_mem ha')
  have bb := hbd _ (List.getElem_mem hb')
  have hset : (w.setCell ⟨g, a', none⟩ (.int .i64 m.all[b'])).cell? ⟨g, b', none⟩ = some (.int .i64 m.all[b']) := by
    have hr := hS.pack.rows 8 _ rfl
    unfold Row.ok intRow at hr
    simp only [hal] at hr
    rw [(hr.stored a' (.int .i64 m.all[b'])).1.cellAt b' (by omega), List.getElem?_set]
    split
    · rw [if_pos (by rw [ints_len]; exact ha')]
    · simp [ints, hb']
  rw [eax] at hca ba
  rw [eby] at hcb bb hset
  have HM1 : Hid (Mut base w m ((w.setCell ⟨g, a', none⟩ (.int .i64 y)).setCell ⟨g, b', none⟩ (.int .i64 x)).drew ((m.allSet a' y).allSet b' x)) := hide (by
    have h1 := Mut.allSet hS hal a' y
    have h2 := Mut.allSet (m := m.allSet a' y) h1.at (g := g) (cap := cap) (by show m.al = Value.slice _ (m.all.set a' y).length _; rw [List.length_set]; exact hal) b' x
    exact (h1.trans h2).drew)
  obtain ⟨x', rfl⟩ : ∃ x' : Nat, x = x' := ⟨x.toNat, by omega⟩
  obtain ⟨y', rfl⟩ : ∃ y' : Nat, y = y' := ⟨y.toNat, by omega⟩
  -- the rest, from whatever world has the two in their new places
  have HQ : Hid (∀ (m1 : Mem) (w1 : World), Mut base w m w1 m1 → m1.all = (m.all.set a' y').set b' x' → ∃ g cap g4 cap4, m1.pl = .slice (some ⟨g4, 0, none⟩) 13 cap4 ∧ w1.cell? ⟨m.q, 1, none⟩ = some (.func (.func 108) #[] #[.pointer (some ⟨m.qb, 0, none⟩)]) ∧ w1.cell? ⟨m.q, 2, none⟩ = some (.slice (some ⟨g, 0, none⟩) m.all.length cap) ∧ w1.cell? ⟨m.q, 4, none⟩ = some (.slice (some ⟨g4, 0, none⟩) 13 cap4) ∧ w1.cell? ⟨m.qb, 0, none⟩ = some (.pointer (some ⟨m.q, 0, none⟩)) ∧ w1.cell? ⟨g, a', none⟩ = some (.int .i64 y') ∧ w1.cell? ⟨g, b', none⟩ = some (.int .i64 x') ∧ (∀ j, j ≤ 12 → ∃ z, w1.cell? ⟨g4, j, none⟩ = some (.int .i64 z)) ∧ ∀ j, w1.frozen? ⟨g4, j, none⟩ = false) := hide (by
    intro m1 w1 hm hal1
    have hlen : m1.all.length = m.all.length := by rw [hal1]; simp
    obtain ⟨g, cap, g4, cap4, h1, h2, h3, h4, h5, h6, h7, h8, h9, h10, h11, h12, h13⟩ := hm.at.queueAt (by omega)
    rw [hlen] at h7
    rw [hm.q] at h6 h7 h8 h9
    rw [hm.qb] at h6 h9
    have geta : m1.all[a']? = some (y' : Int) := by
      rw [hal1, List.getElem?_set]
      split
      · rename_i e
        subst e
        rw [if_pos (by simpa using hb')]
        rw [hxa] at hyb; exact hyb
      · rw [List.getElem?_set_self ha']
    have getb : m1.all[b']? = some (x' : Int) := by rw [hal1, List.getElem?_set_self (by simpa using hb')]
    refine ⟨g, cap, g4, cap4, h2, h6, h7, h8, h9, ?_, ?_, fun j hj => ⟨_, h12 j (by have := hm.places; omega)⟩, h13⟩
    · have hj := (List.getElem?_eq_some_iff.1 geta)
      rw [h10 a' hj.1, hj.2]
    · have hj := (List.getElem?_eq_some_iff.1 getb)
      rw [h10 b' hj.1, hj.2])
  have HP1 : Hid (∀ (w1 : World) (g4 cap4 : Nat) (wq : World), Mut base w m w1 ((m.allSet a' y').allSet b' x') → m.pl = .slice (some ⟨g4, 0, none⟩) 13 cap4 → Below w1.heap.size w1 wq → Mut base w m (wq.setCell ⟨g4, y', none⟩ (.int .i64 ((a' : Int) + 1))) (((m.allSet a' y').allSet b' x').placeSet y' ((a' : Int) + 1))) := hide (by
    intro w1 g4 cap4 wq hm hpl hq
    have h1 := Mut.below hm.at hq
    exact (hm.trans h1).trans (Mut.placeSet h1.at hpl y' ((a' : Int) + 1)))
  have HP2 : Hid (∀ (w1 : World) (g4 cap4 : Nat) (wq : World), Mut base w m w1 (((m.allSet a' y').allSet b' x').placeSet y' ((a' : Int) + 1)) → m.pl = .slice (some ⟨g4, 0, none⟩) 13 cap4 → Below w1.heap.size w1 wq → Mut base w m (wq.setCell ⟨g4, x', none⟩ (.int .i64 ((b' : Int) + 1))) (m.swapped a' b' x' y')) := hide (by
    intro w1 g4 cap4 wq hm hpl hq
    have h1 := Mut.below hm.at hq
    have := (hm.trans h1).trans (Mut.placeSet h1.at hpl x' ((b' : Int) + 1))
    unfold Mem.swapped
    rw [Int.toNat_natCast, Int.toNat_natCast]
    exact this)
  have HPL : Hid (∀ g4 cap4 g5 cap5, m.pl = Value.slice (some ⟨g4, 0, none⟩) 13 cap4 → m.pl = Value.slice (some ⟨g5, 0, none⟩) 13 cap5 → g4 = g5) := hide (by
    intro g4 cap4 g5 cap5 h1 h2
    rw [h1] at h2
    simp only [Value.slice.injEq, Option.some.injEq, Addr.mk.injEq, and_true, true_and] at h2
    exact h2.1)
  clear hcell hbd hal hS hfz hxa hyb eax eby
  generalize m.all.length = N at *
  have hwa : IntKind.i64.wrap (a' : Int) = a' := by rw [IntKind.wrap_i64]; omega
  have hwb : IntKind.i64.wrap (b' : Int) = b' := by rw [IntKind.wrap_i64]; omega
  have hia : (a' : Int) < (N : Int) := by omega
  have hib : (b' : Int) < (N : Int) := by omega
  go_enter Tryz.func168, Tryz.ntmps168
  go_upto_region 0 with fail
  go_cut [] (fun wx => Hid (Mut base w m wx ((m.allSet a' y').allSet b' x')))
  case first =>
    go_region
    all_goals go_wp2_with fail
    all_goals go_meet
    all_goals exact HM1
  case rest =>
    obtain ⟨w1, rfl⟩ : ∃ w1, w1 = wc := ⟨wc, rfl⟩
    have HMA := hcut
    obtain ⟨g1, cap1, g4, cap4, q0, q1, q2, q4, qb0, qa, qb', qpl, qfz⟩ := unhide HQ _ w1 (unhide HMA) rfl
    have HPLV := hide q0
    have HC := hide (fun n => place_any m.q m.qb g4 cap4 y' (w1.drewN n) qb0 q4 (by omega))
    have HC' := hide (fun wx (hx : ∃ n, wx = w1.drewN n) => (by obtain ⟨n, rfl⟩ := hx; exact place_any m.q m.qb g4 cap4 y' (w1.drewN n) qb0 q4 (by omega) : Calls Tryz.prog 108 #[.int .i64 y', .pointer (some ⟨m.qb, 0, none⟩)] wx fun e w' => e = .returned (.pointer (some ⟨g4, y', none⟩)) ∧ ∃ n, w' = wx.drewN n))
    obtain ⟨z1, hz1⟩ := qpl y' (by omega)
    have hf1 := qfz y'
    clear hcut HM1 hq2 hca hcb hfa hfb hset q0 qpl qfz hg
    go_upto_region 1 with fail
    go_cut [] (fun wx => Hid (Mut base w m wx (((m.allSet a' y').allSet b' x').placeSet y' ((a' : Int) + 1))))
    case first =>
      go_region_with (go_at_call 108; refine (unhide HC' _ (by first | exact ⟨0, rfl⟩ | exact ⟨1, rfl⟩ | exact ⟨2, rfl⟩)).mono ?_; rintro e w3 ⟨rfl, n3, rfl⟩)
      all_goals go_wp2_with fail
      all_goals go_meet
      all_goals exact hide (unhide HP1 w1 g4 cap4 _ (unhide HMA) (unhide HPLV) (belowDrew (Below.refl _ _) _))
    case rest =>
      obtain ⟨w2, rfl⟩ : ∃ w2, w2 = wc := ⟨wc, rfl⟩
      have HMB := hcut
      obtain ⟨g5, cap5, g6, cap6, r0, r1, r2, r4, rb0, ra, rb', rpl, rfz⟩ := unhide HQ _ w2 (unhide HMB) rfl
      obtain rfl : g4 = g6 := unhide HPL g4 cap4 g6 cap6 (unhide HPLV) r0
      have HC2 := hide (fun wx (hx : ∃ n, wx = w2.drewN n) => (by obtain ⟨n, rfl⟩ := hx; exact place_any m.q m.qb g4 cap6 x' (w2.drewN n) rb0 r4 (by omega) : Calls Tryz.prog 108 #[.int .i64 x', .pointer (some ⟨m.qb, 0, none⟩)] wx fun e w' => e = .returned (.pointer (some ⟨g4, x', none⟩)) ∧ ∃ n, w' = wx.drewN n))
      obtain ⟨z2, hz2⟩ := rpl x' (by omega)
      have hf2 := rfz x'
      clear hcut q1 q2 q4 qb0 qa qb' hz1 hf1 HC HC' r0 rpl rfz HMA
      go_upto_region 2 with fail
      go_region_with (go_at_call 108; refine (unhide HC2 _ (by first | exact ⟨0, rfl⟩ | exact ⟨1, rfl⟩ | exact ⟨2, rfl⟩)).mono ?_; rintro e w3 ⟨rfl, n3, rfl⟩)
      all_goals go_wp2
      all_goals try go_end0
      all_goals exact ⟨rfl, unhide HP2 w2 g4 cap4 _ (unhide HMB) (unhide HPLV) (belowDrew (Below.refl _ _) _)⟩

end Go.Proofs.YtekkkoipcghlmaaGreatDoor
