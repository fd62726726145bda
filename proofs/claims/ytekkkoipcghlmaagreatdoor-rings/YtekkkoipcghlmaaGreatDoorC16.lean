import Derived.Test.YtekkkoipcghlmaaGreatDoorC15
import Derived.Deep.OwnRows
set_option linter.all false
namespace Go.Proofs.YtekkkoipcghlmaaGreatDoor
open Go.RowKit
attribute [local go_sem ↓] Go.wp_at_zero Go.wp_at_succ

theorem Tryz.infoBool : (Tryz.prog.info? 4).map (fun i => (i.zero, i.size, i.bytes)) = some (some (.bool false), 1, 1) := by kernel_rfl
theorem Tryz.underBools : Tryz.prog.underlying 172 = some (.slice 4) := by kernel_rfl
theorem Tryz.make13 (w : World) : (Instr.makeSlice 172 (.int .i64 13) (.int .i64 13)).run Tryz.prog w = .ok (.slice (some ⟨w.heap.size, 0, none⟩) 13 13) (w.alloc (.cells (madeCells #[.bool false] 13) 4)) :=
  run_make_row' (P := Tryz.prog) 172 4 (.bool false) 1 Tryz.underBools Tryz.infoBool rfl .i64 .i64 13 (by decide) (by decide) w
theorem made13 : (madeCells #[.bool false] 13).toList = bools (List.replicate 13 false) := by rw [toList_madeCells_one]; rfl
section
variable {base : Nat} {w w' : World} {m : Mem} {E : List Row} {r : Row}
theorem Pack.pull {L L' : List Row} (h : Pack base w L) (f : Nat → Nat) (hf : ∀ i q, L'[i]? = some q → L[f i]? = some q) (hi : ∀ i j, i < L'.length → j < L'.length → f i = f j → i = j) : Pack base w L' :=
  ⟨fun i q hq => h.rows _ q (hf i q hq), fun i j q q' g h1 h2 h3 h4 => hi i j (List.getElem?_eq_some_iff.1 h1).1 (List.getElem?_eq_some_iff.1 h2).1 (h.apart _ _ q q' g (hf i q h1) (hf j q' h2) h3 h4)⟩
/-- The last row beside comes first. -/
theorem EMut.front (h : EAt base w m (E ++ [r])) : EMut base w m (E ++ [r]) w m (r :: E) := by
  have hp := h.pack
  have ix : ∀ (i : Nat) (q : Row), (m.rows ++ r :: E)[i]? = some q → (m.rows ++ (E ++ [r]))[if i < m.rows.length then i else if i = m.rows.length then m.rows.length + E.length else i - 1]? = some q := by
    intro i q hi
    by_cases hl : i < m.rows.length
    · rw [if_pos hl]
      rw [List.getElem?_append_left hl] at hi ⊢
      exact hi
    · rw [if_neg hl]
      rw [List.getElem?_append_right (by omega)] at hi
      by_cases he : i = m.rows.length
      · rw [if_pos he]
        subst he
        rw [Nat.sub_self] at hi
        rw [List.getElem?_append_right (by omega), Nat.add_sub_cancel_left]
        simpa using hi
      · rw [if_neg he]
        rw [show i - m.rows.length = (i - 1 - m.rows.length) + 1 from by omega, List.getElem?_cons_succ] at hi
        rw [List.getElem?_append_right (by omega), List.getElem?_append_left (List.getElem?_eq_some_iff.1 hi).1]
        exact hi
  refine ⟨⟨hp.pull _ ix (fun i j hi hj he => ?_), Only.refl _ _, fun k hk => .inl ?_⟩, h.ws, h.ls, h.counts, h.places, rfl, rfl, rfl⟩
  · simp only [List.length_append, List.length_cons] at hi hj
    split at he <;> split at he <;> (try split at he) <;> (try split at he) <;> omega
  · obtain ⟨i, q, hi, hq⟩ := hk
    exact ⟨_, q, ix i q hi, hq⟩
theorem EMut.addFront (h : EAt base w m E) (hr : r.ok base w') (hb : Below w.heap.size w w') (hn : ∀ g, r.v.ownBlock = some g → w.heap.size ≤ g) : EMut base w m E w' m (r :: E) := by
  have h1 := EMut.add h hr hb hn
  exact h1.trans (EMut.front h1.eat)
theorem owns_new (base : Nat) (w : World) (hb : base ≤ w.heap.size) (t : TypeId) (cs : Array Value) (n : Nat) (hn : cs.size = n) (hm : n ≤ 1000) : (w.alloc (.cells cs t)).ownsRow base t 1 (.slice (some ⟨w.heap.size, 0, none⟩) n n) n cs.toList :=
  ⟨by simp [hn], .inr ⟨w.heap.size, n, cs, rfl, hb, heap_alloc_new w _, Nat.le_refl _, by unfold maxLen; omega, by omega, List.take_of_length_le (by simp; omega)⟩⟩
end

/-- Between the literals that were met. -/
structure IAt (base : Nat) (w : World) (m0 : Mem) (cls0 : List Cl) (tr : Tr) (wr : World) (m : Mem) (cls : List Cl) (mv : Value) (met : List Bool) (lv : Value) (lits : List Int) (fv : Value) (fr : List Int) : Prop where
  mu : EMut base w m0 [] wr m [boolRow mv met, intRow lv lits, intRow fv fr]
  rep : Rep m cls tr
  same : dbOf cls = dbOf cls0
  ok : HeapOK m.all m.places
  all : ∀ v, v ∈ m.all ↔ v ∈ m0.all
  kept : KeptL m0 m
  size : m.store.length = m0.store.length
section
variable {base : Nat} {w : World} {m0 : Mem} {cls0 : List Cl} {tr : Tr} {wr wr' : World} {m : Mem} {cls : List Cl} {mv : Value} {met : List Bool} {lv : Value} {low lits : List Int} {left i b : Nat} {fv : Value} {fr : List Int}
theorem LAt.below (h : LAt base w m0 cls0 tr wr m cls mv met lv low left i b) (hb : Below wr.heap.size wr wr') : LAt base w m0 cls0 tr wr' m cls mv met lv low left i b := ⟨h.mu.trans (EMut.below h.mu.eat hb), h.rep, h.same, h.ok, h.all, h.kept, h.mc, h.size⟩
theorem IAt.below (h : IAt base w m0 cls0 tr wr m cls mv met lv lits fv fr) (hb : Below wr.heap.size wr wr') : IAt base w m0 cls0 tr wr' m cls mv met lv lits fv fr := ⟨h.mu.trans (EMut.below h.mu.eat hb), h.rep, h.same, h.ok, h.all, h.kept, h.size⟩
/-- A clause was met. -/
theorem LAt.meets (h : LAt base w m0 cls0 tr wr m cls mv met lv low left i b) {c : Nat} {cl : Cl} (hc : cls[c]? = some cl) {e : Ending} {w' : World} (hm : MeetRes base wr m (pos cls c) mv met [intRow lv (0 :: low)] (freshOf m met cl.lits) e w') : ∃ m' cls' fv, e = .returned fv ∧ IAt base w m0 cls0 tr w' m' cls' mv (marks met ((freshOf m0 met cl.lits).map Int.natAbs)) lv (0 :: low) fv (freshOf m0 met cl.lits) := by
  obtain ⟨m', fv, rfl, hA⟩ := hm
  rw [h.kept.fresh] at hA
  have hlt := (List.getElem?_eq_some_iff.1 hc).1
  have hcl : cls[c] = cl := by rw [List.getElem?_eq_getElem hlt] at hc; simpa using hc
  have hk1 : KeptL m (m.cell (pos cls c + 1) 1) := rfl
  have hk2 := hk1.trans hA.kept.keptL
  have hst : m'.store = flat (cls.set c ⟨true, cl.lits⟩) := by
    have : m'.store = (m.cell (pos cls c + 1) 1).store := by rw [hA.kept]
    rw [this]
    show m.store.set (pos cls c + 1) 1 = _
    rw [h.rep.store, flat_set_used cls c hlt, hcl]
  refine ⟨m', cls.set c ⟨true, cl.lits⟩, fv, rfl, h.mu.trans hA.mu, hk2.rep h.rep hst, (db_used cls hc).trans h.same, hA.ok, fun v => (hA.same v).trans (h.all v), h.kept.trans hk2, ?_⟩
  have : m'.store = (m.cell (pos cls c + 1) 1).store := by rw [hA.kept]
  rw [this]
  show (m.store.set _ _).length = _
  rw [List.length_set]; exact h.size
theorem IAt.done (h : IAt base w m0 cls0 tr wr m cls mv met lv (0 :: low) fv fr) (hmc : MC m0 (dbOf cls0) tr met low left i b) : LAt base w m0 cls0 tr wr m cls mv met lv low left i b :=
  ⟨h.mu.trans (EMut.drop (E := [boolRow mv met, intRow lv (0 :: low)]) h.mu.eat), h.rep, h.same, h.ok, h.all, h.kept, hmc, h.size⟩
theorem IAt.lrow (h : IAt base w m0 cls0 tr wr m cls mv met lv lits fv fr) : wr.ownsRow base 3 1 lv lits.length (ints lits) := h.mu.eat.row (i := 1) (r := intRow lv lits) rfl
theorem IAt.frow (h : IAt base w m0 cls0 tr wr m cls mv met lv lits fv fr) : wr.ownsRow base 3 1 fv fr.length (ints fr) := h.mu.eat.row (i := 2) (r := intRow fv fr) rfl
theorem LAt.lrow (h : LAt base w m0 cls0 tr wr m cls mv met lv low left i b) : wr.ownsRow base 3 1 lv (low.length + 1) (ints (0 :: low)) := h.mu.eat.row (i := 1) (r := intRow lv (0 :: low)) rfl
theorem IAt.push (h : IAt base w m0 cls0 tr wr m cls mv met lv lits fv fr) {wz w4 : World} {g cap : Nat} {x : Int} (hz : Below wr.heap.size wr wz) (hown : w4.ownsRow base 3 1 (.slice (some ⟨g, 0, none⟩) (lits.length + 1) cap) (lits.length + 1) (ints lits ++ [.int .i64 x])) (hgr : wz.grownBy w4 lv.ownBlock) (hloc : lv.ownBlock = some g ∨ g = wz.heap.size) : IAt base w m0 cls0 tr w4 m cls mv met (.slice (some ⟨g, 0, none⟩) (lits.length + 1) cap) (lits ++ [x]) fv fr := by
  have h1 := h.mu.trans (EMut.below h.mu.eat hz)
  have hzs := hz.size
  have h2 := EMut.row h1.eat (i := 1) (r := intRow lv lits) (r' := intRow (.slice (some ⟨g, 0, none⟩) (lits.length + 1) cap) (lits ++ [x])) rfl (by unfold Row.ok intRow; rw [ints_snoc, List.length_append]; exact hown) hgr (by
    rcases hloc with hl | hl
    · exact .inr (.inl hl.symm)
    · exact .inr (.inr ⟨g, rfl, by omega⟩))
  exact ⟨h1.trans h2, h.rep, h.same, h.ok, h.all, h.kept, h.size⟩
/-- The point is laid first. -/
theorem LAt.ends (h : LAt base w m0 cls0 tr wr m cls mv met lv low left i b) {g cap : Nat} (hv : lv = .slice (some ⟨g, 0, none⟩) (low.length + 1) cap) {x : Int} (hl : Lesson (dbOf cls0) tr (x :: low)) : LessonRes base w m0 cls0 tr (.returned lv) (wr.setCell ⟨g, 0, none⟩ (.int .i64 x)) := by
  have h2 := EMut.store h.mu.eat (i := 1) (r := intRow lv (0 :: low)) rfl (g := g) (cap := cap) hv 0 (.int .i64 x)
  have h3 := EMut.tail (E := [intRow lv (x :: low)]) h2.eat
  exact ⟨m, cls, lv, x :: low, rfl, (h.mu.trans h2).trans h3, h.rep, h.same, h.ok, h.all, h.kept, hl, h.size⟩
end

end Go.Proofs.YtekkkoipcghlmaaGreatDoor

namespace Go.Proofs.YtekkkoipcghlmaaGreatDoor
open Go.RowKit
attribute [local go_sem ↓] Go.wp_at_zero Go.wp_at_succ

set_option maxRecDepth 100000 in
set_option maxHeartbeats 3200000 in
theorem lesson_any (base : Nat) (m0 : Mem) (cls0 : List Cl) (tr : Tr) (c0 : Nat) (cl0 : Cl) (w : World) (hS : SAt base w m0) (hR : Rep m0 cls0 tr) (hT : TrOK cls0 tr) (hwf : ∀ (c : Nat) cl, cls0[c]? = some cl → wfLits cl.lits) (hc0 : cls0[c0]? = some cl0) (hf : ∀ x, x ∈ cl0.lits → Tru tr (-x)) (hh : ∃ y, y ∈ cl0.lits ∧ ∃ j r, tr[j]? = some (-y, r) ∧ lev tr j = levels tr) (hpos : 0 < levels tr) (hok : HeapOK m0.all m0.places) (hsz : m0.store.length ≤ 9900000) (hbs : base ≤ w.heap.size) :
    Calls Tryz.prog 119 #[.pointer (some ⟨m0.s, 0, none⟩), .int .i64 (pos cls0 c0 : Int)] w fun e w' => LessonRes base w m0 cls0 tr e w' := by
  obtain ⟨b, cap, hfa, hlt, -, hc⟩ := hS.facts
  have hc3 : w.cell? ⟨m0.s, 3, none⟩ = some (.slice (some ⟨b, 0, none⟩) 13 cap) := by rw [hS.cell 3 (by decide), ← hfa]; rfl
  have hsl : m0.s < w.heap.size := World.block_lt_of_cell? w ⟨m0.s, 3, none⟩ hc3
  have htl : 0 < tr.length := by obtain ⟨y, -, j, r, hj, -⟩ := hh; have := (List.getElem?_eq_some_iff.1 hj).1; omega
  obtain ⟨g, cap4, hod, hc4, hcap, hg, -⟩ := hR.orderAt hS htl
  have hl12 := hT.len
  have HST : Hid (LAt base w m0 cls0 tr ((w.alloc (.cells #[.int .i64 0] 3)).alloc (.cells (madeCells #[.bool false] 13) 4)) m0 cls0 (.slice (some ⟨w.heap.size + 1, 0, none⟩) 13 13) (List.replicate 13 false) (.slice (some ⟨w.heap.size, 0, none⟩) 1 1) [] 0 tr.length (tr.length + 1) ∧ HeadOK (dbOf cls0) tr (List.replicate 13 false) 0 tr.length cl0.lits) := hide (by
    have e1 : (w.alloc (.cells #[.int .i64 0] 3)).heap.size = w.heap.size + 1 := by simp
    have h1 := EMut.addFront hS.eat (r := intRow (.slice (some ⟨w.heap.size, 0, none⟩) 1 1) [0]) (owns_new base w hbs 3 #[.int .i64 0] 1 rfl (by omega)) ((Below.refl _ _).alloc (Nat.le_refl _) _) (fun k hk => by cases hk; exact Nat.le_refl _)
    have h2 := EMut.addFront h1.eat (r := boolRow (.slice (some ⟨w.heap.size + 1, 0, none⟩) 13 13) (List.replicate 13 false)) (by
      have := owns_new base (w.alloc (.cells #[.int .i64 0] 3)) (by rw [e1]; omega) 4 (madeCells #[.bool false] 13) 13 (by rw [← Array.length_toList, made13]; rfl) (by omega)
      rw [e1, made13] at this
      exact this) ((Below.refl _ _).alloc (Nat.le_refl _) _) (fun k hk => by cases hk; rw [e1]; exact Nat.le_refl _)
    exact ⟨⟨h1.trans h2, hR, rfl, hok, fun _ => Iff.rfl, KeptL.refl _, MC.begin _ _ _, rfl⟩, .inl ⟨rfl, rfl, hf, hh⟩⟩)
  have HMEET : Hid (∀ wr m cls mv met lv low left i c cl, LAt base w m0 cls0 tr wr m cls mv met lv low left i (i + 1) → cls[c]? = some cl → HeadOK (dbOf cls0) tr met left i cl.lits → Calls Tryz.prog 160 #[.pointer (some ⟨m0.s, 0, none⟩), .int .i64 (pos cls c : Int), mv] wr fun e w' => ∃ fv met' low' fr left', e = .returned fv ∧ (∃ m' cls', IAt base w m0 cls0 tr w' m' cls' mv met' lv (0 :: low) fv fr) ∧ low' = low ++ fr.filter (fun x => !topOf m0 tr x) ∧ left' = left + (fr.filter (topOf m0 tr)).length ∧ (∀ x, x ∈ fr → x ≠ 0 ∧ -12 ≤ x ∧ x ≤ 12) ∧ fr.length ≤ 12 ∧ low.length ≤ 12 ∧ left' ≤ 12 ∧ MC m0 (dbOf cls0) tr met' low' left' i i ∧ 1 ≤ left' ∧ ∃ l0, l0 ∈ dbOf cls0 ∧ ∀ y, y ∈ l0 → Seen tr met' tr.length y) := hide (by
    intro wr m cls mv met lv low left i c cl h hc hd
    obtain ⟨cl', hc', hll⟩ := db_get h.same hc
    have hwfc : wfLits cl.lits := by rw [← hll]; exact hwf c cl' hc'
    have hin : cl.lits ∈ dbOf cls0 := by rw [← hll]; exact db_mem hc'
    have hnv : ∀ l : List Int, (l.map Int.natAbs).Nodup → (∀ x, x ∈ l → x ≠ 0 ∧ -12 ≤ x ∧ x ≤ 12) → l.length ≤ 12 := fun l h1 h2 => by
      have := nodup_bound 13 (0 :: l.map Int.natAbs) (List.nodup_cons.2 ⟨fun h0 => by obtain ⟨x, hx, he⟩ := List.mem_map.1 h0; have := h2 x hx; omega, h1⟩) (fun v hv => by
        rcases List.mem_cons.1 hv with rfl | hv
        · omega
        · obtain ⟨x, hx, rfl⟩ := List.mem_map.1 hv; have := h2 x hx; omega)
      simp at this; omega
    have := meet_any base m cls c cl mv met [intRow lv (0 :: low)] wr h.mu.eat h.rep.store hc hwfc h.mc.len h.ok (by rw [h.size]; exact hsz) (Nat.le_trans hbs h.mu.pm.only.size)
    rw [h.mu.s] at this
    refine this.mono (fun e w' hr => ?_)
    obtain ⟨m', cls', fv, he, hI⟩ := h.meets hc hr
    obtain ⟨g1, g2, g3⟩ := head_mid h.mc hR hT hwfc hin hpos hd
    have hfr : ∀ x, x ∈ freshOf m0 met cl.lits → x ≠ 0 ∧ -12 ≤ x ∧ x ≤ 12 := fun x hx => hwfc.2 x (List.mem_filter.1 hx).1
    refine ⟨fv, _, _, _, _, he, ⟨m', cls', hI⟩, rfl, rfl, hfr, ?_, ?_, ?_, g1, g2, g3⟩
    · exact hnv _ (hwfc.1.sublist (List.Sublist.map _ List.filter_sublist)) hfr
    · refine hnv _ h.mc.nd (fun x hx => ?_)
      obtain ⟨-, j, r, hj, -⟩ := (h.mc.lows x).1 hx
      have := hT.bd j _ hj
      simp only at this
      omega
    · rw [g1.cnt]
      have h5 := g1.bd
      exact Nat.le_trans (List.length_filter_le _ _) (by rw [List.length_take]; omega))
  have HIN : Hid (∀ wr m cls mv met lv lits fv fr q x, IAt base w m0 cls0 tr wr m cls mv met lv lits fv fr → fr[q]? = some x → (x ≠ 0 ∧ -12 ≤ x ∧ x ≤ 12) → (∃ gf cf, fv = .slice (some ⟨gf, 0, none⟩) fr.length cf ∧ wr.cell? ⟨gf, q, none⟩ = some (.int .i64 x)) ∧ ∃ t r, ∀ wx, Below wr.heap.size wr wx → (Calls Tryz.prog 128 #[.pointer (some ⟨m0.s, 3, none⟩), .int .i64 x] wx fun e w' => e = .returned (.agg #[.int .i64 t, .int .i64 (m0.level x.natAbs), .int .i64 r]) ∧ Below wr.heap.size wr w') ∧ Calls Tryz.prog 73 #[.pointer (some ⟨m0.s, 3, none⟩)] wx fun e w' => e = .returned (.int .i64 (levels tr : Int)) ∧ w' = wx) := hide (by
    intro wr m cls mv met lv lits fv fr q x h hx hb
    have hq := (List.getElem?_eq_some_iff.1 hx).1
    refine ⟨?_, m.truth x.natAbs, m.reason x.natAbs, fun wx hbx => ⟨?_, ?_⟩⟩
    · have hrow := h.frow
      obtain ⟨gf, cf, hv, -, -⟩ := World.ownsRow.form hrow (by omega)
      rw [hv] at hrow
      refine ⟨gf, cf, hv, ?_⟩
      rw [hrow.cellAt q (by omega)]
      simp [ints, hx]
    · have := fact_any base m x wx (h.mu.at.below hbx) hb.2.1 hb.2.2
      rw [h.mu.s, h.kept.level] at this
      exact this.mono (fun e w' hh => ⟨hh.1, hbx.trans (hh.2.mono hbx.size)⟩)
    · have := level_any base m wx (h.mu.at.below hbx)
      rw [h.mu.s, h.rep.levels] at this
      exact this)
  have HLAST : Hid (∀ wr m cls mv met lv low left i, LAt base w m0 cls0 tr wr m cls mv met lv low left i i → 1 ≤ left → Calls Tryz.prog 161 #[.pointer (some ⟨m0.s, 0, none⟩), .int .i64 (i : Int), mv] wr fun e w' => ∃ k f, e = .returned (.int .i64 ((k : Nat) : Int)) ∧ k < i ∧ i ≤ tr.length ∧ tr[k]? = some f ∧ marked met f.1.natAbs = true ∧ (∀ j f, k < j → j < i → tr[j]? = some f → marked met f.1.natAbs = false) ∧ LAt base w m0 cls0 tr w' m cls mv met lv low left i i ∧ w'.cell? ⟨m0.s, 4, none⟩ = some (.slice (some ⟨g, 0, none⟩) tr.length cap4) ∧ w'.cell? ⟨g, k, none⟩ = some (.int .i64 f.1)) := hide (by
    intro wr m cls mv met lv low left i h h1
    obtain ⟨j, f, a1, a2, a3, -⟩ := h.mc.any (by omega)
    have := lastMet_any base m cls tr _ 0 mv met i wr h.mu.eat rfl h.mc.len h.rep (hT.same h.same.symm) h.mc.bd ⟨j, f, a1, a2, a3⟩
    rw [h.mu.s] at this
    refine this.mono (fun e w' hr => ?_)
    obtain ⟨k, f, he, b1, b2, b3, b4, b5⟩ := hr
    have hS' := (h.mu.trans (EMut.below h.mu.eat b5)).at
    obtain ⟨g', cap', d1, d2, -, -, d5⟩ := h.rep.orderAt hS' htl
    have hodm : m.od = m0.od := by rw [h.kept]
    rw [hodm, hod] at d1
    cases d1
    rw [h.mu.s] at d2
    exact ⟨k, f, he, b1, h.mc.bd, b2, b3, b4, h.below b5, d2, d5 k f b2⟩)
  have HNEXT : Hid (∀ wr m cls mv met lv low left i k f, LAt base w m0 cls0 tr wr m cls mv met lv low left i i → 2 ≤ left → k < i → tr[k]? = some f → marked met f.1.natAbs = true → (∀ j f, k < j → j < i → tr[j]? = some f → marked met f.1.natAbs = false) → (∃ l0, l0 ∈ dbOf cls0 ∧ ∀ y, y ∈ l0 → Seen tr met tr.length y) → ∃ (c : Nat) (cl : Cl) (t lvl : Int), cls[c]? = some cl ∧ HeadOK (dbOf cls0) tr met (left - 1) k cl.lits ∧ ∀ wx, Below wr.heap.size wr wx → Calls Tryz.prog 128 #[.pointer (some ⟨m0.s, 3, none⟩), .int .i64 f.1] wx fun e w' => e = .returned (.agg #[.int .i64 t, .int .i64 lvl, .int .i64 (pos cls c : Int)]) ∧ LAt base w m0 cls0 tr w' m cls mv met lv low (left - 1) k (k + 1)) := hide (by
    intro wr m cls mv met lv low left i k f h h2 hki hk hm hlast hcf
    obtain ⟨c1, c, cl, c2, c3, c4⟩ := mid_head h.mc hR hT h2 hki hk hm hlast hcf
    have hb := hT.bd k f hk
    obtain ⟨cl', e1, e2⟩ := db_get h.same.symm c2
    refine ⟨c, cl', m.truth f.1.natAbs, m.level f.1.natAbs, e1, by rw [e2]; exact c4, fun wx hbx => ?_⟩
    have := fact_any base m f.1 wx (h.mu.at.below hbx) hb.2.1 hb.2.2
    rw [h.mu.s, (h.rep.taken k f hk).2.2, c3, ← db_pos h.same] at this
    refine this.mono (fun e w' hh => ⟨hh.1, ?_⟩)
    have h' := h.below (hbx.trans (hh.2.mono hbx.size))
    exact ⟨h'.mu, h'.rep, h'.same, h'.ok, h'.all, h'.kept, c1, h'.size⟩)
  have HEND : Hid (∀ wr m cls mv met lv low i k f, LAt base w m0 cls0 tr wr m cls mv met lv low 1 i i → k < i → tr[k]? = some f → marked met f.1.natAbs = true → (∀ j f, k < j → j < i → tr[j]? = some f → marked met f.1.natAbs = false) → (∃ l0, l0 ∈ dbOf cls0 ∧ ∀ y, y ∈ l0 → Seen tr met tr.length y) → (-12 ≤ f.1 ∧ f.1 ≤ 12) ∧ ∃ g0 cap0, lv = .slice (some ⟨g0, 0, none⟩) (low.length + 1) cap0 ∧ wr.cell? ⟨g0, 0, none⟩ = some (.int .i64 0) ∧ wr.frozen? ⟨g0, 0, none⟩ = false ∧ LessonRes base w m0 cls0 tr (.returned lv) (wr.setCell ⟨g0, 0, none⟩ (.int .i64 (-f.1)))) := hide (by
    intro wr m cls mv met lv low i k f h hki hk hm hlast hcf
    obtain ⟨l0, hl0, hs0⟩ := hcf
    have hb := hT.bd k f hk
    have hL := h.mc.lesson hR hT (fun c cl hc => db_mem hc) hpos hki hk hm hlast hl0 hs0
    have hrow := h.lrow
    obtain ⟨g0, cap0, hv, -, -⟩ := World.ownsRow.form hrow (by omega)
    rw [hv] at hrow
    refine ⟨hb.2, g0, cap0, hv, ?_, hrow.frozenAt 0, h.ends hv hL⟩
    rw [hrow.cellAt 0 (by omega)]
    rfl)
  have HC0 := hide hc0
  have mk := Tryz.make13
  have f1 := Tryz.field1
  have f2 := Tryz.field2
  clear hc hS hR hT hwf hc0 hf hh hok hfa hod
  generalize hp0 : pos cls0 c0 = p0 at *
  have HP0 := hide hp0
  clear hp0
  generalize hL : tr.length = L at *
  clear hL
  go_enter Tryz.func119, Tryz.ntmps119
  go_wp2
  go_quiet (fail)
  go_wp2
  go_loopw [5, 7, 8, 9] (fun v5 v7 v8 v9 wr => ∃ (lv : Value) (left i p : Nat), lv = v5 ∧ v7 = .int .i64 (left : Int) ∧ v8 = .int .i64 (p : Int) ∧ v9 = .int .i64 (i : Int) ∧ left ≤ 12 ∧ Hid (∃ m cls met low c cl, LAt base w m0 cls0 tr wr m cls (.slice (some ⟨w.heap.size + 1, 0, none⟩) 13 13) met lv low left i (i + 1) ∧ cls[c]? = some cl ∧ p = pos cls c ∧ HeadOK (dbOf cls0) tr met left i cl.lits)) (fun _ _ _ v9 _ => (intOf v9).toNat)
  case atStart => exact ⟨_, 0, L, p0, rfl, rfl, rfl, rfl, by omega, hide ⟨m0, cls0, _, [], c0, cl0, (unhide HST).1.below (belowDrew (Below.refl _ _) _), unhide HC0, (unhide HP0).symm, (unhide HST).2⟩⟩
  case round =>
    obtain ⟨lv, left, i, p, rfl, rfl, rfl, rfl, hleft, HH⟩ := hrel
    obtain ⟨m, cls, met, low, c, cl, hA, hcc, rfl, hHd⟩ := unhide HH
    have HME := hide (unhide HMEET _ _ _ _ _ _ _ _ _ _ _ hA hcc hHd)
    clear hA hcc hHd HH HST HMEET
    generalize pos cls c = p at *
    go_wp2_with fail
    refine (unhide HME).mono ?_
    rintro e w1 ⟨fv, met', low', fr, left', rfl, ⟨m1, cls1, hI⟩, hlow, hlf, hfr, hfl, hll, hl12', hMC, h1, hcf⟩
    have hfsh := owns_shape hI.frow
    obtain ⟨fo, fc, hfv⟩ := hfsh
    have HI := hide hI
    have HLW := hide (And.intro hlow hlf)
    have HFR := hide hfr
    have HMC := hide hMC
    have HCF := hide hcf
    have hl1 : 1 ≤ left' := h1
    have hlb : left' ≤ 24 := by rw [hlf]; have := List.length_filter_le (topOf m0 tr) fr; omega
    clear hI hlow hlf hfr hMC hcf HME h1
    generalize hn : fr.length = n at *
    have HN := hide hn
    clear hn
    subst hfv
    go_wp2
    go_loopw [5, 7, 33] (fun v5 v7 v33 wr => ∃ (q : Nat) (lv2 : Value) (lf2 : Nat) (lits2 : List Int), q ≤ n ∧ lv2 = v5 ∧ v7 = .int .i64 (lf2 : Int) ∧ v33 = .int .i64 (q : Int) ∧ lf2 ≤ 100 ∧ lits2.length ≤ 100 ∧ Hid (lf2 = left + ((fr.take q).filter (topOf m0 tr)).length) ∧ Hid (lits2 = 0 :: low ++ (fr.take q).filter (fun x => !topOf m0 tr x)) ∧ Hid (IAt base w m0 cls0 tr wr m1 cls1 (.slice (some ⟨w.heap.size + 1, 0, none⟩) 13 13) met' lv2 lits2 (.slice fo n fc) fr)) (fun _ _ v33 _ => n - (intOf v33).toNat)
    case atStart => exact ⟨0, _, left, 0 :: low, Nat.zero_le _, rfl, rfl, rfl, by omega, by simp; omega, hide (by simp), hide (by simp), HI⟩
    case round =>
      obtain ⟨q, lv2, lf2, lits2, hq, rfl, rfl, rfl, hlf2, hll2, HLF, HLT, HIA⟩ := hrel
      by_cases hqn : q < n
      · have hql : q < fr.length := by rw [unhide HN]; exact hqn
        have hx : fr[q]? = some fr[q] := List.getElem?_eq_getElem hql
        have HTK : Hid (fr.take (q + 1) = fr.take q ++ [fr[q]]) := hide (List.take_succ_eq_append_getElem hql)
        have HCN : Hid (lf2 ≤ 24 ∧ lits2.length ≤ 25) := hide (by
          rw [unhide HLF, unhide HLT]
          have h1 := List.length_filter_le (topOf m0 tr) (fr.take q)
          have h2 := List.length_filter_le (fun x => !topOf m0 tr x) (fr.take q)
          rw [List.length_take] at h1 h2
          simp only [List.length_append, List.length_cons]
          omega)
        have hxb := unhide HFR _ (List.mem_of_getElem? hx)
        generalize fr[q] = x at *
        obtain ⟨⟨gf, cf, hfv, hcx⟩, tx, rx, hcalls⟩ := unhide HIN _ _ _ _ _ _ _ _ _ _ _ (unhide HIA) hx hxb
        simp only [Value.slice.injEq] at hfv
        obtain ⟨rfl, -, rfl⟩ := hfv
        have HCALL := hide hcalls
        have hqi : (q : Int) < (n : Int) := by omega
        have HX := hide hx
        have HIB : Hid (∀ wx, Below wr.heap.size wr wx → base ≤ wx.heap.size ∧ wx.ownsRow base 3 1 lv2 lits2.length (ints lits2) ∧ IAt base w m0 cls0 tr wx m1 cls1 (.slice (some ⟨w.heap.size + 1, 0, none⟩) 13 13) met' lv2 lits2 (.slice (some ⟨gf, 0, none⟩) n fc) fr) := hide (fun wx hb => by
          have h1 := (unhide HIA).below hb
          exact ⟨Nat.le_trans hbs h1.mu.pm.only.size, h1.lrow, h1⟩)
        clear hx hcalls HIA hxb
        by_cases ht : m0.level x.natAbs = (levels tr : Int)
        · have HTOP : Hid (topOf m0 tr x = true) := hide (by unfold topOf; simpa using ht)
          have hqe : (m0.level x.natAbs == (levels tr : Int)) = true := by simpa using ht
          clear ht
          generalize m0.level x.natAbs = lvx at *
          generalize (levels tr : Int) = lvt at *
          go_wp2_with fail
          go_region_with first | (go_at_call 128; refine (unhide HCALL _ (by first | exact Below.refl _ _ | exact (Below.refl _ _).drew)).1.mono ?_; rintro e w3 ⟨rfl, hb3⟩; have HB3 := hide hb3; clear hb3) | (go_at_call 73; refine (unhide HCALL _ (by first | exact Below.refl _ _ | exact unhide HB3)).2.mono ?_; rintro e w4 ⟨rfl, rfl⟩)
          all_goals (
            have HIN3 := hide (unhide HIB _ (unhide HB3))
            clear HB3 HIB
            go_wp2
            go_roundw
            case rel => exact ⟨q + 1, _, lf2 + 1, lits2, by omega, rfl, by go_num, by go_num, by have := (unhide HCN).1; omega, by omega, hide (by rw [unhide HLF, unhide HTK, List.filter_append, List.length_append]; simp [unhide HTOP]; omega), hide (by rw [unhide HLT, unhide HTK, List.filter_append]; simp [unhide HTOP]), hide (unhide HIN3).2.2⟩
            case measure => simp [intOf]; omega)
        · have HTOP : Hid (topOf m0 tr x = false) := hide (by unfold topOf; simpa using ht)
          have hqe : (m0.level x.natAbs == (levels tr : Int)) = false := by simpa using ht
          clear ht
          generalize m0.level x.natAbs = lvx at *
          generalize (levels tr : Int) = lvt at *
          go_wp2_with fail
          go_region_with first | (go_at_call 128; refine (unhide HCALL _ (by first | exact Below.refl _ _ | exact (Below.refl _ _).drew)).1.mono ?_; rintro e w3 ⟨rfl, hb3⟩; have HB3 := hide hb3; clear hb3) | (go_at_call 73; refine (unhide HCALL _ (by first | exact Below.refl _ _ | exact unhide HB3)).2.mono ?_; rintro e w4 ⟨rfl, rfl⟩)
          all_goals (
            obtain ⟨hb5, hrow5, hI5⟩ := unhide HIB _ (unhide HB3)
            have HROW5 := hide hrow5
            have HI5 := hide hI5
            clear HB3 HIB hrow5 hI5
            go_wp2_with (at_builtin; refine append_cell (base := base) rfl _ _ 25 3 rfl Tryz.underlying25 Tryz.infoInt rfl (by decide) (unhide HROW5) rfl rfl rfl (by omega) hb5 ?_; intro g' cap' w6 hown6 hgr6 hloc; have HMID := hide ((unhide HI5).push ((Below.refl _ _).alloc (Nat.le_refl _) _) hown6 hgr6 hloc); clear hown6 hgr6 hloc)
            go_roundw
            case rel => exact ⟨q + 1, _, lf2, lits2 ++ [x], by omega, rfl, rfl, by go_num, by omega, by have := (unhide HCN).2; simp; omega, hide (by rw [unhide HLF, unhide HTK, List.filter_append, List.length_append]; simp [unhide HTOP]), hide (by rw [unhide HLT, unhide HTK, List.filter_append]; simp [unhide HTOP]), HMID⟩
            case measure => simp [intOf]; omega)
      · have hqe : q = n := by omega
        have HLAT : Hid (lf2 = left' ∧ LAt base w m0 cls0 tr wr m1 cls1 (.slice (some ⟨w.heap.size + 1, 0, none⟩) 13 13) met' lv2 low' left' i i) := hide (by
          have h1 := unhide HLT
          have h2 := unhide HLF
          obtain ⟨h3, h4⟩ := unhide HLW
          rw [List.take_of_length_le (by rw [unhide HN]; omega)] at h1 h2
          have h5 := unhide HIA
          rw [h1] at h5
          refine ⟨by rw [h2, h4], ?_⟩
          have h6 : 0 :: low ++ fr.filter (fun x => !topOf m0 tr x) = 0 :: low' := by rw [h3]; rfl
          rw [h6] at h5
          exact h5.done (unhide HMC))
        have hlf' := (unhide HLAT).1
        subst hlf'
        have HLA := hide (unhide HLAT).2
        have HLM := hide (unhide HLAST _ _ _ _ _ _ _ _ _ (unhide HLA) hl1)
        have hqi : ¬ (q : Int) < (n : Int) := by omega
        clear HLAT HIA HLF HLT HIN HLAST HLW HMC HI HN HFR
        go_wp2_with fail
        refine (unhide HLM).mono ?_
        rintro e w7 ⟨k, f, rfl, hki, hiL, hk, hmk, hlast, hA7, hc47, hck7⟩
        by_cases h1 : lf2 = 1
        · subst h1
          obtain ⟨hfb, g0, cap0, hlv, hcg, hfg, hres⟩ := unhide HEND _ _ _ _ _ _ _ _ _ _ hA7 hki hk hmk hlast (unhide HCF)
          subst hlv
          have HRES := hide hres
          have hkL : (k : Int) < (L : Int) := by omega
          clear hA7 hk hmk hlast hres HLA HLM HCF HNEXT HEND
          generalize f.1 = x at *
          go_wp2
          try go_ret
          exact unhide HRES
        · obtain ⟨c2, cl2, tz, lvz, hcc2, hhd2, hfc⟩ := unhide HNEXT _ _ _ _ _ _ _ _ _ _ _ hA7 (by omega) hki hk hmk hlast (unhide HCF)
          have HFC := hide (hfc w7 (Below.refl _ _))
          have HD2 := hide (And.intro hcc2 hhd2)
          have hkL : (k : Int) < (L : Int) := by omega
          have hne1 : ((lf2 : Int) == 1) = false := by simp; omega
          clear hA7 hk hmk hlast hfc hcc2 hhd2 HLA HLM HCF HNEXT HEND
          generalize f.1 = x at *
          generalize hp2 : pos cls1 c2 = p2 at *
          have HP2 := hide hp2
          clear hp2
          go_wp2_with fail
          refine (unhide HFC).mono ?_
          rintro e w8 ⟨rfl, hA8⟩
          have HA8 := hide hA8
          clear hA8
          go_wp2
          go_roundw
          case rel => exact ⟨_, lf2 - 1, k, p2, rfl, by go_num, rfl, rfl, by omega, hide ⟨_, _, _, _, c2, cl2, unhide HA8, (unhide HD2).1, (unhide HP2).symm, (unhide HD2).2⟩⟩
          case measure => simp [intOf]; omega

end Go.Proofs.YtekkkoipcghlmaaGreatDoor
