import Derived.Test.YtekkkoipcghlmaaGreatDoorA17
import Derived.Deep.OwnRows
set_option linter.all false
namespace Go.Proofs.YtekkkoipcghlmaaGreatDoor
open Go.RowKit

theorem db_get {a b : List Cl} (h : dbOf a = dbOf b) {c : Nat} {cl : Cl} (hc : a[c]? = some cl) : ∃ cl', b[c]? = some cl' ∧ cl'.lits = cl.lits := by
  have h1 : (dbOf a)[c]? = some cl.lits := by unfold dbOf; rw [List.getElem?_map, hc]; rfl
  rw [h] at h1
  unfold dbOf at h1
  rw [List.getElem?_map] at h1
  cases hb : b[c]? with
  | none => rw [hb] at h1; cases h1
  | some cl' => rw [hb] at h1; exact ⟨cl', rfl, by simpa using h1⟩
theorem db_pos {a b : List Cl} (h : dbOf a = dbOf b) (c : Nat) : pos a c = pos b c := by
  have e : ∀ l : List Cl, (flat l).length = ((dbOf l).map (fun x => x.length + 2)).sum := by
    intro l
    induction l with
    | nil => rfl
    | cons x r ih => rw [flat_cons, List.length_append, Cl.cells_len, ih]; simp [dbOf]
  have t : ∀ l : List Cl, dbOf (l.take c) = (dbOf l).take c := fun l => by unfold dbOf; rw [List.map_take]
  unfold pos
  rw [e, e, t, t, h]
theorem db_mem {cls : List Cl} {c : Nat} {cl : Cl} (hc : cls[c]? = some cl) : cl.lits ∈ dbOf cls := List.mem_map.2 ⟨cl, List.mem_of_getElem? hc, rfl⟩
theorem TrOK.same {a b : List Cl} {tr : Tr} (h : TrOK a tr) (he : dbOf a = dbOf b) : TrOK b tr := by
  refine ⟨h.vars, h.bd, fun i e hi hd => ?_⟩
  obtain ⟨c, cl, rest, g1, g2, g3, g4⟩ := h.reason i e hi hd
  obtain ⟨cl', h1, h2⟩ := db_get he g1
  exact ⟨c, cl', rest, h1, by rw [g2, db_pos he], by rw [h2]; exact g3, g4⟩
theorem db_used (cls : List Cl) {c : Nat} {cl : Cl} (hc : cls[c]? = some cl) : dbOf (cls.set c ⟨true, cl.lits⟩) = dbOf cls := by
  unfold dbOf
  rw [List.map_set]
  exact set_same (by rw [List.getElem?_map, hc]; rfl)
/-- All but the clauses' flags and the queue is as it was. -/
def KeptL (m0 m : Mem) : Prop := m = { m0 with store := m.store, al := m.al, all := m.all, places := m.places, counts := m.counts, qc := m.qc }
theorem KeptL.refl (m : Mem) : KeptL m m := rfl
theorem KeptL.trans {a b c : Mem} (h : KeptL a b) (h' : KeptL b c) : KeptL a c := by
  unfold KeptL at h h' ⊢
  rw [h] at h'
  exact h'
theorem KeptC.keptL {a b : Mem} (h : KeptC a b) : KeptL a b := by
  unfold KeptC at h
  unfold KeptL
  have h1 : b.store = a.store := by rw [h]
  rw [h1]; exact h
theorem KeptL.level {a b : Mem} (h : KeptL a b) (v : Nat) : b.level v = a.level v := by unfold Mem.level; rw [h]
theorem KeptL.fresh {a b : Mem} (h : KeptL a b) (met : List Bool) (l : List Int) : freshOf b met l = freshOf a met l := by
  unfold freshOf
  simp only [h.level]
theorem KeptL.rep {a b : Mem} {cls cls' : List Cl} {tr : Tr} (h : KeptL a b) (hR : Rep a cls tr) (hs : b.store = flat cls') : Rep b cls' tr := by
  have hf : b.facts = a.facts := by rw [h]
  have ho : b.order = a.order := by rw [h]
  have hst : b.starts = a.starts := by rw [h]
  have h1 : b.odr = a.odr := by rw [h]
  have h2 : b.od = a.od := by rw [h]
  have h3 : b.ordr = a.ordr := by rw [h]
  refine ⟨hs, by rw [ho]; exact hR.order, by rw [hst]; exact hR.starts, by rw [hf]; exact hR.len, fun i e hi => ?_, fun v a1 a2 a3 => ?_, by rw [h1, h2]; exact hR.odr, by rw [h3, ho]; exact hR.ordr⟩
  · have := hR.taken i e hi
    unfold Mem.truth Mem.level Mem.reason at *
    rw [hf]; exact this
  · have := hR.free v a1 a2 a3
    unfold Mem.truth at *
    rw [hf]; exact this

/-- Ahead of a clause that is to be met. -/
def HeadOK (DB : List (List Int)) (tr : Tr) (met : List Bool) (left i : Nat) (l : List Int) : Prop :=
  (i = tr.length ∧ met = List.replicate 13 false ∧ (∀ y, y ∈ l → Tru tr (-y)) ∧ ∃ y, y ∈ l ∧ ∃ j r, tr[j]? = some (-y, r) ∧ lev tr j = levels tr) ∨
  (∃ x r rest, tr[i]? = some (x, r) ∧ l = x :: rest ∧ (∀ y, y ∈ rest → ∃ j s, j < i ∧ tr[j]? = some (-y, s)) ∧ marked met x.natAbs = true ∧ 1 ≤ left ∧ ∃ l0, l0 ∈ DB ∧ ∀ y, y ∈ l0 → Seen tr met tr.length y)
theorem head_mid {m : Mem} {cls : List Cl} {DB : List (List Int)} {tr : Tr} {met : List Bool} {low l : List Int} {left i : Nat} (h : MC m DB tr met low left i (i + 1)) (hR : Rep m cls tr) (hT : TrOK cls tr) (hwf : wfLits l) (hl : l ∈ DB) (hpos : 0 < levels tr) (hd : HeadOK DB tr met left i l) :
    MC m DB tr (marks met ((freshOf m met l).map Int.natAbs)) (low ++ (freshOf m met l).filter (fun x => !topOf m tr x)) (left + ((freshOf m met l).filter (topOf m tr)).length) i i ∧ 1 ≤ left + ((freshOf m met l).filter (topOf m tr)).length ∧ ∃ l0, l0 ∈ DB ∧ ∀ y, y ∈ l0 → Seen tr (marks met ((freshOf m met l).map Int.natAbs)) tr.length y := by
  rcases hd with ⟨rfl, rfl, hf, y0, hy0, hj0⟩ | ⟨x, r, rest, hx, rfl, hrest, hm, h1, l0, hl0, hs0⟩
  · have hlt : ∀ y, y ∈ l → ∃ j r, j < tr.length ∧ tr[j]? = some (-y, r) := fun y hy => by
      obtain ⟨j, r, hj⟩ := hf y hy
      exact ⟨j, r, (List.getElem?_eq_some_iff.1 hj).1, hj⟩
    obtain ⟨c1, c2, c3, c4⟩ := h.clause hR hT (by omega) hwf (fun y hy => .inr (hlt y hy))
    have seen : ∀ y, y ∈ l → Seen tr (marks (List.replicate 13 false) ((freshOf m (List.replicate 13 false) l).map Int.natAbs)) tr.length y := fun y hy => by
      obtain ⟨j, r, hj, hjr⟩ := hlt y hy
      exact c3 y hy j r hj hjr
    refine ⟨c1.finish hl (fun e he => ?_), ?_, l, hl, seen⟩
    · have := (List.getElem?_eq_some_iff.1 he).1; omega
    · have hz : marked (List.replicate 13 false) y0.natAbs = false := by
        unfold marked
        rw [List.getElem?_replicate]
        split <;> rfl
      have := c4 y0 hy0 hz hj0 hpos
      omega
  · obtain ⟨c1, c2, c3, c4⟩ := h.clause hR hT (by omega) hwf (fun y hy => by
      rcases List.mem_cons.1 hy with rfl | hy
      · exact .inl hm
      · exact .inr (hrest y hy))
    refine ⟨c1.finish hl (fun e he y hy => ?_), by omega, l0, hl0, fun y hy => (hs0 y hy).mono c2 (Nat.le_refl _)⟩
    rw [hx] at he
    cases he
    rcases List.mem_cons.1 hy with rfl | hy'
    · exact .inl rfl
    · obtain ⟨j, s, hj, hjs⟩ := hrest y hy'
      exact .inr (c3 y hy j s hj hjs)
theorem mid_head {m : Mem} {cls : List Cl} {DB : List (List Int)} {tr : Tr} {met : List Bool} {low : List Int} {left i k : Nat} {e : Int × Int} (h : MC m DB tr met low left i i) (hR : Rep m cls tr) (hT : TrOK cls tr) (hl : 2 ≤ left) (hki : k < i) (hk : tr[k]? = some e) (hm : marked met e.1.natAbs = true) (hlast : ∀ j e, k < j → j < i → tr[j]? = some e → marked met e.1.natAbs = false)
    (hc : ∃ l0, l0 ∈ DB ∧ ∀ y, y ∈ l0 → Seen tr met tr.length y) : MC m DB tr met low (left - 1) k (k + 1) ∧ ∃ c cl, cls[c]? = some cl ∧ e.2 = (pos cls c : Int) ∧ HeadOK DB tr met (left - 1) k cl.lits := by
  have hd := h.reason hR hl hki hk hm hlast
  obtain ⟨c, cl, rest, g1, g2, g3, g4⟩ := hT.reason k e hk hd
  refine ⟨h.down hR (by omega) hki hk hm hlast, c, cl, g1, g2, .inr ⟨e.1, e.2, rest, hk, g3, fun y hy => ?_, hm, by omega, hc⟩⟩
  obtain ⟨j, r, hj, hjr⟩ := g4 y hy
  exact ⟨j, r, hj, hjr⟩
section
variable {base : Nat} {w : World} {m : Mem} {E : List Row} {r : Row}
/-- The first row beside is let go. -/
theorem EMut.tail (h : EAt base w m (r :: E)) : EMut base w m (r :: E) w m E := by
  have hp := h.pack
  have ix : ∀ (i : Nat) (q : Row), (m.rows ++ E)[i]? = some q → (m.rows ++ r :: E)[if i < m.rows.length then i else i + 1]? = some q := by
    intro i q hi
    by_cases hl : i < m.rows.length
    · rw [if_pos hl]
      rw [List.getElem?_append_left hl] at hi ⊢
      exact hi
    · rw [if_neg hl]
      rw [List.getElem?_append_right (by omega)] at hi ⊢
      rw [show i + 1 - m.rows.length = (i - m.rows.length) + 1 from by omega, List.getElem?_cons_succ]
      exact hi
  refine ⟨⟨⟨fun i q hi => hp.rows _ q (ix i q hi), fun i j q q' g hi hj hq hq' => ?_⟩, Only.refl _ _, fun k hk => .inl ?_⟩, h.ws, h.ls, h.counts, h.places, rfl, rfl, rfl⟩
  · have := hp.apart _ _ q q' g (ix i q hi) (ix j q' hj) hq hq'
    split at this <;> split at this <;> omega
  · obtain ⟨i, q, hi, hq⟩ := hk
    exact ⟨_, q, ix i q hi, hq⟩
end
/-- A lesson under way. -/
structure LAt (base : Nat) (w : World) (m0 : Mem) (cls0 : List Cl) (tr : Tr) (wr : World) (m : Mem) (cls : List Cl) (mv : Value) (met : List Bool) (lv : Value) (low : List Int) (left i b : Nat) : Prop where
  mu : EMut base w m0 [] wr m [boolRow mv met, intRow lv (0 :: low)]
  rep : Rep m cls tr
  same : dbOf cls = dbOf cls0
  ok : HeapOK m.all m.places
  all : ∀ v, v ∈ m.all ↔ v ∈ m0.all
  kept : KeptL m0 m
  mc : MC m0 (dbOf cls0) tr met low left i b
  size : m.store.length = m0.store.length
def LessonRes (base : Nat) (w : World) (m0 : Mem) (cls0 : List Cl) (tr : Tr) (e : Ending) (w' : World) : Prop :=
  ∃ m cls lv lits, e = .returned lv ∧ EMut base w m0 [] w' m [intRow lv lits] ∧ Rep m cls tr ∧ dbOf cls = dbOf cls0 ∧ HeapOK m.all m.places ∧ (∀ v, v ∈ m.all ↔ v ∈ m0.all) ∧ KeptL m0 m ∧ Lesson (dbOf cls0) tr lits ∧ m.store.length = m0.store.length

end Go.Proofs.YtekkkoipcghlmaaGreatDoor

namespace Go.Proofs.YtekkkoipcghlmaaGreatDoor
open Go.RowKit
attribute [local go_sem ↓] Go.wp_at_zero Go.wp_at_succ

theorem Tryz.infoBool : (Tryz.prog.info? 4).map (fun i => (i.zero, i.size, i.bytes)) = some (some (.bool false), 1, 1) := by kernel_rfl
theorem Tryz.underBools : Tryz.prog.underlying 172 = some (.slice 4) := by kernel_rfl
theorem Tryz.make13 (w : World) : (Instr.makeSlice 172 (.int .i64 13) (.int .i64 13)).run Tryz.prog w = .ok (.slice (some ⟨w.heap.size, 0, none⟩) 13 13) (w.alloc (.cells (madeCells #[.bool false] 13) 4)) :=
  run_make_row' (P := Tryz.prog) 172 4 (.bool false) 1 Tryz.underBools Tryz.infoBool rfl .i64 .i64 13 (by decide) (by decide) w
theorem made13 : (madeCells #[.bool false] 13).toList = bools (List.replicate 13 false) := by rw [toList_madeCells_one]; rfl
section
variable {base : Nat} {w w' : World} {m : Mem} {E : List Row} {r : Row}
theorem Pack.pull {L L' : List Row} (h : Pack base w L) (f : Nat → Nat) (hf : ∀ i q, L'[i]? = some q → L[f i]? = some q) (hi : ∀ i j, i < L'.length → j < L'.length → f i = f j → i = j) : Pack base w L' :=
  ⟨fun i q hq => h.rows _ q (hf i q hq), fun i j q q' g h1 h2 h3 h4 => hi i j (List.getElem?_eq_some_iff.1 h1).1 (List.getElem?_eq_some_iff.1 h2).1 (h.apart _ _ q q' g (hf i q h1) (hf j q' h2) h3 h4)⟩
/-- The last row beside comes first. -/
theorem EMut.front (h : EAt base w m (E ++ [r])) : EMut base w m (E ++ [r]) w m (r :: E) := by
  have hp := h.pack
  have ix : ∀ (i : Nat) (q : Row), (m.rows ++ r :: E)[i]? = some q → (m.rows ++ (E ++ [r]))[if i < m.rows.length then i else if i = m.rows.length then m.rows.length + E.length else i - 1]? = some q := by
    intro i q hi
    by_cases hl : i < m.rows.length
    · rw [if_pos hl]
      rw [List.getElem?_append_left hl] at hi ⊢
      exact hi
    · rw [if_neg hl]
      rw [List.getElem?_append_right (by omega)] at hi
      by_cases he : i = m.rows.length
      · rw [if_pos he]
        subst he
        rw [Nat.sub_self] at hi
        rw [List.getElem?_append_right (by omega), Nat.add_sub_cancel_left]
        simpa using hi
      · rw [if_neg he]
        rw [show i - m.rows.length = (i - 1 - m.rows.length) + 1 from by omega, List.getElem?_cons_succ] at hi
        rw [List.getElem?_append_right (by omega), List.getElem?_append_left (List.getElem?_eq_some_iff.1 hi).1]
        exact hi
  refine ⟨⟨hp.pull _ ix (fun i j hi hj he => ?_), Only.refl _ _, fun k hk => .inl ?_⟩, h.ws, h.ls, h.counts, h.places, rfl, rfl, rfl⟩
  · simp only [List.length_append, List.length_cons] at hi hj
    split at he <;> split at he <;> (try split at he) <;> (try split at he) <;> omega
  · obtain ⟨i, q, hi, hq⟩ := hk
    exact ⟨_, q, ix i q hi, hq⟩
theorem EMut.addFront (h : EAt base w m E) (hr : r.ok base w') (hb : Below w.heap.size w w') (hn : ∀ g, r.v.ownBlock = some g → w.heap.size ≤ g) : EMut base w m E w' m (r :: E) := by
  have h1 := EMut.add h hr hb hn
  exact h1.trans (EMut.front h1.eat)
theorem owns_new (base : Nat) (w : World) (hb : base ≤ w.heap.size) (t : TypeId) (cs : Array Value) (n : Nat) (hn : cs.size = n) (hm : n ≤ 1000) : (w.alloc (.cells cs t)).ownsRow base t 1 (.slice (some ⟨w.heap.size, 0, none⟩) n n) n cs.toList :=
  ⟨by simp [hn], .inr ⟨w.heap.size, n, cs, rfl, hb, heap_alloc_new w _, Nat.le_refl _, by unfold maxLen; omega, by omega, List.take_of_length_le (by simp; omega)⟩⟩
end

/-- Between the literals that were met. -/
structure IAt (base : Nat) (w : World) (m0 : Mem) (cls0 : List Cl) (tr : Tr) (wr : World) (m : Mem) (cls : List Cl) (mv : Value) (met : List Bool) (lv : Value) (lits : List Int) (fv : Value) (fr : List Int) : Prop where
  mu : EMut base w m0 [] wr m [boolRow mv met, intRow lv lits, intRow fv fr]
  rep : Rep m cls tr
  same : dbOf cls = dbOf cls0
  ok : HeapOK m.all m.places
  all : ∀ v, v ∈ m.all ↔ v ∈ m0.all
  kept : KeptL m0 m
  size : m.store.length = m0.store.length
section
variable {base : Nat} {w : World} {m0 : Mem} {cls0 : List Cl} {tr : Tr} {wr wr' : World} {m : Mem} {cls : List Cl} {mv : Value} {met : List Bool} {lv : Value} {low lits : List Int} {left i b : Nat} {fv : Value} {fr : List Int}
theorem LAt.below (h : LAt base w m0 cls0 tr wr m cls mv met lv low left i b) (hb : Below wr.heap.size wr wr') : LAt base w m0 cls0 tr wr' m cls mv met lv low left i b := ⟨h.mu.trans (EMut.below h.mu.eat hb), h.rep, h.same, h.ok, h.all, h.kept, h.mc, h.size⟩
theorem IAt.below (h : IAt base w m0 cls0 tr wr m cls mv met lv lits fv fr) (hb : Below wr.heap.size wr wr') : IAt base w m0 cls0 tr wr' m cls mv met lv lits fv fr := ⟨h.mu.trans (EMut.below h.mu.eat hb), h.rep, h.same, h.ok, h.all, h.kept, h.size⟩
/-- A clause was met. -/
theorem LAt.meets (h : LAt base w m0 cls0 tr wr m cls mv met lv low left i b) {c : Nat} {cl : Cl} (hc : cls[c]? = some cl) {e : Ending} {w' : World} (hm : MeetRes base wr m (pos cls c) mv met [intRow lv (0 :: low)] (freshOf m met cl.lits) e w') : ∃ m' cls' fv, e = .returned fv ∧ IAt base w m0 cls0 tr w' m' cls' mv (marks met ((freshOf m0 met cl.lits).map Int.natAbs)) lv (0 :: low) fv (freshOf m0 met cl.lits) := by
  obtain ⟨m', fv, rfl, hA⟩ := hm
  rw [h.kept.fresh] at hA
  have hlt := (List.getElem?_eq_some_iff.1 hc).1
  have hcl : cls[c] = cl := by rw [List.getElem?_eq_getElem hlt] at hc; simpa using hc
  have hk1 : KeptL m (m.cell (pos cls c + 1) 1) := rfl
  have hk2 := hk1.trans hA.kept.keptL
  have hst : m'.store = flat (cls.set c ⟨true, cl.lits⟩) := by
    have : m'.store = (m.cell (pos cls c + 1) 1).store := by rw [hA.kept]
    rw [this]
    show m.store.set (pos cls c + 1) 1 = _
    rw [h.rep.store, flat_set_used cls c hlt, hcl]
  refine ⟨m', cls.set c ⟨true, cl.lits⟩, fv, rfl, h.mu.trans hA.mu, hk2.rep h.rep hst, (db_used cls hc).trans h.same, hA.ok, fun v => (hA.same v).trans (h.all v), h.kept.trans hk2, ?_⟩
  have : m'.store = (m.cell (pos cls c + 1) 1).store := by rw [hA.kept]
  rw [this]
  show (m.store.set _ _).length = _
  rw [List.length_set]; exact h.size
theorem IAt.done (h : IAt base w m0 cls0 tr wr m cls mv met lv (0 :: low) fv fr) (hmc : MC m0 (dbOf cls0) tr met low left i b) : LAt base w m0 cls0 tr wr m cls mv met lv low left i b :=
  ⟨h.mu.trans (EMut.drop (E := [boolRow mv met, intRow lv (0 :: low)]) h.mu.eat), h.rep, h.same, h.ok, h.all, h.kept, hmc, h.size⟩
theorem IAt.lrow (h : IAt base w m0 cls0 tr wr m cls mv met lv lits fv fr) : wr.ownsRow base 3 1 lv lits.length (ints lits) := h.mu.eat.row (i := 1) (r := intRow lv lits) rfl
theorem IAt.frow (h : IAt base w m0 cls0 tr wr m cls mv met lv lits fv fr) : wr.ownsRow base 3 1 fv fr.length (ints fr) := h.mu.eat.row (i := 2) (r := intRow fv fr) rfl
theorem LAt.lrow (h : LAt base w m0 cls0 tr wr m cls mv met lv low left i b) : wr.ownsRow base 3 1 lv (low.length + 1) (ints (0 :: low)) := h.mu.eat.row (i := 1) (r := intRow lv (0 :: low)) rfl
theorem IAt.push (h : IAt base w m0 cls0 tr wr m cls mv met lv lits fv fr) {wz w4 : World} {g cap : Nat} {x : Int} (hz : Below wr.heap.size wr wz) (hown : w4.ownsRow base 3 1 (.slice (some ⟨g, 0, none⟩) (lits.length + 1) cap) (lits.length + 1) (ints lits ++ [.int .i64 x])) (hgr : wz.grownBy w4 lv.ownBlock) (hloc : lv.ownBlock = some g ∨ g = wz.heap.size) : IAt base w m0 cls0 tr w4 m cls mv met (.slice (some ⟨g, 0, none⟩) (lits.length + 1) cap) (lits ++ [x]) fv fr := by
  have h1 := h.mu.trans (EMut.below h.mu.eat hz)
  have hzs := hz.size
  have h2 := EMut.row h1.eat (i := 1) (r := intRow lv lits) (r' := intRow (.slice (some ⟨g, 0, none⟩) (lits.length + 1) cap) (lits ++ [x])) rfl (by unfold Row.ok intRow; rw [ints_snoc, List.length_append]; exact hown) hgr (by
    rcases hloc with hl | hl
    · exact .inr (.inl hl.symm)
    · exact .inr (.inr ⟨g, rfl, by omega⟩))
  exact ⟨h1.trans h2, h.rep, h.same, h.ok, h.all, h.kept, h.size⟩
/-- The point is laid first. -/
theorem LAt.ends (h : LAt base w m0 cls0 tr wr m cls mv met lv low left i b) {g cap : Nat} (hv : lv = .slice (some ⟨g, 0, none⟩) (low.length + 1) cap) {x : Int} (hl : Lesson (dbOf cls0) tr (x :: low)) : LessonRes base w m0 cls0 tr (.returned lv) (wr.setCell ⟨g, 0, none⟩ (.int .i64 x)) := by
  have h2 := EMut.store h.mu.eat (i := 1) (r := intRow lv (0 :: low)) rfl (g := g) (cap := cap) hv 0 (.int .i64 x)
  have h3 := EMut.tail (E := [intRow lv (x :: low)]) h2.eat
  exact ⟨m, cls, lv, x :: low, rfl, (h.mu.trans h2).trans h3, h.rep, h.same, h.ok, h.all, h.kept, hl, h.size⟩
end

end Go.Proofs.YtekkkoipcghlmaaGreatDoor
