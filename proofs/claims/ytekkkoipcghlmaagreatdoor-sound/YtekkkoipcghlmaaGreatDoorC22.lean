import Derived.Test.YtekkkoipcghlmaaGreatDoorC21
import Derived.Test.YtekkkoipcghlmaaGreatDoorC05
set_option linter.all false
namespace Go.Proofs.YtekkkoipcghlmaaGreatDoor
open Go.RowKit
attribute [local go_sem ↓] Go.wp_at_zero Go.wp_at_succ

/-- What learning comes to. -/
structure Learned (base : Nat) (w : World) (m0 : Mem) (cls0 : List Cl) (tr0 : Tr) (w' : World) (m : Mem) (cls : List Cl) (wat : Int → List Int) (tr : Tr) (n : Nat) (v : Value) (lits : List Int) : Prop where
  mu : Mut base w m0 w' m
  rep : Rep m cls tr
  watAt : WatAt m wat
  still : Rest n cls wat tr
  passed : m.passed = (n : Int)
  heap : HeapOK m.all m.places
  free : Free m tr
  core : m.core = m0.core
  db : dbOf cls = dbOf cls0 ++ [lits]
  wf : wfLits lits
  some_ : lits ≠ []
  fol : FolI (dbOf cls0) lits
  new : ∀ d, d ∈ dbOf cls0 → ¬ ∀ x, x ∈ d ↔ x ∈ lits
  nsteps : m.nsteps = m0.nsteps + 1
  steps : m.steps = m0.steps ++ [v, .bool false]
  step : StepAt base w' m v lits
  trail : ∃ s e, tr = tr0.take s ++ [e] ∧ dec e = false
def LearnRes (base : Nat) (w : World) (m0 : Mem) (cls0 : List Cl) (tr0 : Tr) (w' : World) : Prop := ∃ m cls wat tr n v lits, Learned base w m0 cls0 tr0 w' m cls wat tr n v lits

def L2 (base : Nat) (w : World) (m0 : Mem) (cls0 : List Cl) (tr : Tr) (g cap : Nat) (x0 : Int) (rest : List Int) (w2 : World) : Prop :=
  ∃ m1 cls1, EMut base w m0 [] w2 m1 [intRow (.slice (some ⟨g, 0, none⟩) (rest.length + 1) cap) (x0 :: rest)] ∧ Rep m1 cls1 tr ∧ dbOf cls1 = dbOf cls0 ∧ HeapOK m1.all m1.places ∧ (∀ v, v ∈ m1.all ↔ v ∈ m0.all) ∧ KeptL m0 m1 ∧ Taught (dbOf cls0) tr (x0 :: rest) ∧ m1.store.length = m0.store.length
def L3 (base : Nat) (w : World) (m0 : Mem) (cls0 : List Cl) (tr : Tr) (g cap N : Nat) (L : Nat) (w3 : World) : Prop :=
  ∃ m1 cls1 x0 rest rest', N = rest'.length + 1 ∧ EMut base w m0 [] w3 m1 [intRow (.slice (some ⟨g, 0, none⟩) N cap) (x0 :: rest')] ∧ Rep m1 cls1 tr ∧ dbOf cls1 = dbOf cls0 ∧ HeapOK m1.all m1.places ∧ (∀ v, v ∈ m1.all ↔ v ∈ m0.all) ∧ KeptL m0 m1 ∧ Taught (dbOf cls0) tr (x0 :: rest) ∧ rest'.Perm rest ∧ m1.store.length = m0.store.length ∧ L < levels tr ∧
  ∀ s, (startsOf tr)[L]? = some s → (¬ Tru (tr.take s) x0) ∧ (¬ Tru (tr.take s) (-x0)) ∧ (∀ y, y ∈ rest' → Tru (tr.take s) (-y)) ∧ (rest' = [] → levels (tr.take s) = 0) ∧ ∀ b r, rest' = b :: r → ∀ (j : Nat) (q : Int), (tr.take s)[j]? = some (-b, q) → levels (tr.take s) ≤ lev (tr.take s) j
def L4 (base : Nat) (w : World) (m0 : Mem) (cls0 : List Cl) (wat : Int → List Int) (tr : Tr) (g cap N : Nat) (w4 : World) : Prop :=
  ∃ m4 cls1 s x0 rest, N = rest.length + 1 ∧ LPure cls0 wat cls1 (tr.take s) x0 rest ∧ LMem base w m0 w4 m4 cls1 (tr.take s) wat (tr.take s).length (.slice (some ⟨g, 0, none⟩) N cap) (x0 :: rest) m0.told ∧ m4.store.length = m0.store.length

section
variable {base : Nat} {w : World} {m0 : Mem} {cls0 : List Cl} {tr : Tr} {wat : Int → List Int} {n : Nat} {bad : Int}
theorem learn2 (hst : Struck cls0 wat tr n bad) (hsz : m0.store.length ≤ 9000000) (hbs : base ≤ w.heap.size) {e : Ending} {w1 : World} (h : LessonRes base w m0 cls0 tr e w1) :
    ∃ lv, e = .returned lv ∧ Calls Tryz.prog 118 #[.pointer (some ⟨m0.s, 0, none⟩), lv] w1 fun e w2 => ∃ g cap x0 rest, e = .returned (.slice (some ⟨g, 0, none⟩) (rest.length + 1) cap) ∧ L2 base w m0 cls0 tr g cap x0 rest w2 := by
  obtain ⟨m1, cls1, lv, lits, he, hem, hR, hdb, hheap, hall, hk, hL, hsize⟩ := h
  refine ⟨lv, he, ?_⟩
  have hst1 := hst.same hdb.symm
  have := shorten_any base m1 cls1 tr lv lits w1 hem.eat hR hst1.trok hst1.wf (by rw [hdb]; exact hL) (by omega) (Nat.le_trans hbs hem.pm.only.size)
  rw [hem.s] at this
  refine this.mono (fun e w2 hh => ?_)
  obtain ⟨g, cap, short, he2, hem2, ht, -⟩ := hh
  obtain ⟨p, rest, i, r, hl, -⟩ := ht.head
  subst hl
  rw [hdb] at ht
  exact ⟨g, cap, -p, rest, he2, m1, cls1, hem.trans hem2, hR, hdb, hheap, hall, hk, ht, hsize⟩
theorem learn3 (hst : Struck cls0 wat tr n bad) (hpos : 0 < levels tr) {g cap : Nat} {x0 : Int} {rest : List Int} {w2 : World} (h : L2 base w m0 cls0 tr g cap x0 rest w2) :
    Calls Tryz.prog 121 #[.pointer (some ⟨m0.s, 0, none⟩), .slice (some ⟨g, 0, none⟩) (rest.length + 1) cap] w2 fun e w3 => ∃ L : Nat, e = .returned (.int .i64 (L : Int)) ∧ L3 base w m0 cls0 tr g cap (rest.length + 1) L w3 := by
  obtain ⟨m1, cls1, hem, hR, hdb, hheap, hall, hk, ht, hsize⟩ := h
  have := high_any base m1 g cap x0 rest w2 hem.eat ht.wf.2 (by have := wf_len ht.wf; simp at this; omega)
  rw [hem.s] at this
  refine this.mono (fun e w3 hh => ?_)
  obtain ⟨rest', lvl, he, hem2, hp, hl⟩ := hh
  obtain ⟨L, h1, h2, h3⟩ := learn_level (f := m1.level) hst (fun j e hj => (hR.taken j e hj).2.1) ht hp hl hpos
  subst h1
  exact ⟨L, he, m1, cls1, x0, rest, rest', by rw [hp.length_eq], hem.trans hem2, hR, hdb, hheap, hall, hk, ht, hp, hsize, h2, h3⟩
theorem learn4 (hst : Struck cls0 wat tr n bad) (hW : WatAt m0 wat) (hpa : m0.passed = (n : Int) + 1) (hfree : Free m0 tr) (hbs : base ≤ w.heap.size) {g cap N L : Nat} {w3 : World} (h : L3 base w m0 cls0 tr g cap N L w3) :
    Calls Tryz.prog 120 #[.pointer (some ⟨m0.s, 0, none⟩), .int .i64 (L : Int)] w3 fun e w4 => e = .returned (.tuple #[]) ∧ L4 base w m0 cls0 wat tr g cap N w4 := by
  obtain ⟨m1, cls1, x0, rest, rest', hN, hem, hR, hdb, hheap, hall, hk, ht, hp, hsize, hL, hs⟩ := h
  have hst1 := hst.same hdb.symm
  have hlev : levels tr ≤ 12 := by
    have := hst.trok.len
    have : levels tr ≤ tr.length := by unfold levels; exact List.length_filter_le _ _
    omega
  have := goBack_any base m1 cls1 tr L w3 hem.at hR hst1.trok hheap (by omega) (Nat.le_trans hbs hem.pm.only.size)
  rw [hem.s] at this
  refine this.mono (fun e w4 hh => ?_)
  obtain ⟨he, hb⟩ := hh
  obtain ⟨m4, s, h1, h2, h3⟩ := LMem.of hst hW hpa hfree hR hdb hall hk hsize ht hp hL hs hem hb
  exact ⟨he, m4, cls1, s, x0, rest', hN, h1, h2, h3⟩
end

set_option maxRecDepth 100000 in
set_option maxHeartbeats 32000000 in
theorem learn_any (base : Nat) (m0 : Mem) (cls0 : List Cl) (wat : Int → List Int) (tr : Tr) (n : Nat) (bad : Int) (w : World) (hS : SAt base w m0) (hR : Rep m0 cls0 tr) (hW : WatAt m0 wat) (hst : Struck cls0 wat tr n bad) (hpa : m0.passed = (n : Int) + 1) (hpos : 0 < levels tr) (hok : HeapOK m0.all m0.places) (hfree : Free m0 tr) (hsz : m0.store.length ≤ 8999000) (hns : m0.nsteps ≤ 10000000) (hbs : base ≤ w.heap.size) :
    Calls Tryz.prog 75 #[.pointer (some ⟨m0.s, 0, none⟩), .int .i64 bad] w fun e w' => e = .returned (.tuple #[]) ∧ LearnRes base w m0 cls0 tr w' := by
  obtain ⟨c0, cl0, hc0, hbad, hfalls⟩ := hst.falls
  have hhigh := hst.high hc0 hfalls hpos
  have HLE := hide (lesson_any base m0 cls0 tr c0 cl0 w hS hR hst.trok hst.wf hc0 hfalls hhigh hpos hok (by omega) hbs)
  rw [← hbad] at HLE
  have H2 := hide (fun e w1 => learn2 (base := base) (w := w) (m0 := m0) (e := e) (w1 := w1) hst (by omega) hbs)
  have H3 := hide (fun g cap x0 rest w2 => learn3 (base := base) (w := w) (m0 := m0) (g := g) (cap := cap) (x0 := x0) (rest := rest) (w2 := w2) hst hpos)
  have H4 := hide (fun g cap N L w3 => learn4 (base := base) (w := w) (m0 := m0) (g := g) (cap := cap) (N := N) (L := L) (w3 := w3) hst hW hpa hfree hbs)
  clear hS hR hW hst hpa hpos hok hfree hc0 hfalls hhigh hbad
  go_enter Tryz.func75, Tryz.ntmps75
  go_wp2_with fail
  refine (unhide HLE).mono ?_
  intro e w1 h1
  obtain ⟨lv, rfl, h2⟩ := unhide H2 e w1 h1
  have HS := hide h2
  clear h1 h2 HLE H2
  go_wp2_with fail
  refine (unhide HS).mono ?_
  rintro e w2 ⟨g, cap, x0, rest, rfl, h2⟩
  have HX := hide (unhide H3 g cap x0 rest w2 h2)
  clear h2 HS H3
  generalize rest.length + 1 = N at *
  go_wp2_with fail
  refine (unhide HX).mono ?_
  rintro e w3 ⟨L, rfl, h3⟩
  have HX4 := hide (unhide H4 g cap N L w3 h3)
  clear h3 HX H4
  go_wp2_with fail
  refine (unhide HX4).mono ?_
  rintro e w4 ⟨rfl, m4, cls1, s, y0, rest', hN, hPu, hMe, hsize⟩
  have hSa := hMe.em.at
  have hs4 := hMe.em.s
  have ht1 : m4.steps = m0.steps := congrArg (fun x => x.1) hMe.told
  have ht2 : m4.nsteps = m0.nsteps := congrArg (fun x => x.2.1) hMe.told
  have ht3 : m4.sp = m0.sp := congrArg (fun x => x.2.2) hMe.told
  have hc14 : w4.cell? ⟨m0.s, 14, none⟩ = some m0.sp := by rw [← hs4, hSa.cell 14 (by decide), ← ht3]; rfl
  have hrow : w4.ownsRow base 131 2 m0.sp m0.nsteps m0.steps := by rw [← ht1, ← ht2, ← ht3]; exact hSa.pack.rows 12 _ rfl
  have hb4 : base ≤ w4.heap.size := Nat.le_trans hbs hMe.em.pm.only.size
  have hsl : m0.s < w4.heap.size := by rw [← hs4]; exact hSa.lt.1
  have HO : Hid (∀ (g' cap' : Nat) (w5 : World) (val : Value) (tt : TypeId), w5.ownsRow base 131 2 (.slice (some ⟨g', 0, none⟩) (m0.nsteps + 1) cap') (m0.nsteps + 1) (m0.steps ++ [val, .bool false]) → (w4.alloc (.cells #[val, .bool false] tt)).grownBy w5 m0.sp.ownBlock → (m0.sp.ownBlock = some g' ∨ g' = (w4.alloc (.cells #[val, .bool false] tt)).heap.size) →
      Mut base w4 m4 (w5.setCell ⟨m0.s, 14, none⟩ (.slice (some ⟨g', 0, none⟩) (m0.nsteps + 1) cap')) (m4.stepped (.slice (some ⟨g', 0, none⟩) (m0.nsteps + 1) cap') (m0.steps ++ [val, .bool false]) (m0.nsteps + 1)) ∧ w5.cell? ⟨m0.s, 14, none⟩ = some m0.sp ∧ w5.frozen? ⟨m0.s, 14, none⟩ = false) := hide (by
    intro g' cap' w5 val tt h1 h2 h3
    have := Mut.steps hSa (g := g') (cap := cap') (n := m0.nsteps + 1) (l := m0.steps ++ [val, .bool false]) h1 (wz := w4.alloc (.cells #[val, .bool false] tt)) ((Below.refl _ _).alloc (Nat.le_refl _) _) (by rw [ht3]; exact h2) (by rw [ht3]; exact h3)
    rw [hs4, ht3] at this
    exact this)
  have HROW := hide hrow
  have HL4 := hide (And.intro hPu (And.intro hMe (And.intro hsize hN)))
  clear hPu hMe hsize hN ht1 ht2 ht3 hSa hs4 HX4 hrow
  have hsp : ∃ ao k c, m0.sp = .slice ao k c := by
    rcases (unhide HROW).2 with ⟨h, -⟩ | ⟨g', c', cur, h, -⟩
    · exact ⟨_, _, _, h⟩
    · exact ⟨_, _, _, h⟩
  go_wp2_with (at_builtin; refine append_step (base := base) rfl _ _ 82 131 rfl Tryz.underlying82 Tryz.infoStep rfl (by decide) (unhide HROW) rfl rfl rfl rfl (by omega) (by omega) ?_; intro g' cap' w5 hown5 hgr5 hloc; have HMID := hide (unhide HO _ _ _ _ _ hown5 hgr5 hloc); clear hown5 hgr5 hloc; have hc54 := (unhide HMID).2.1; have hf54 := (unhide HMID).2.2)
  obtain ⟨hPu, hMe, hsize, hN⟩ := unhide HL4
  have hMe5 := hMe.step (unhide HMID).1
  have hPl := hPu.still.lists
  have HK := hide (hMe5.keep hPu.wf hPl (by show m4.store.length ≤ 9000000; omega) hbs)
  have hlen12 := wf_len hPu.wf
  have HP := hide hPu
  have HSZ := hide hsize
  clear hMe hMe5 hPu HL4 hPl hsize HMID HO HROW
  refine (unhide HK).mono ?_
  rintro e w6 ⟨rfl, m6, hMe6, hs6⟩
  have hc60 : w6.cell? ⟨m0.s, 0, none⟩ = some m6.cl := by rw [← hMe6.em.s, hMe6.em.at.cell 0 (by decide)]; rfl
  have hsz6 : m6.store.length ≤ 9000000 := by rw [hs6]; show m4.store.length + 2 + _ ≤ _; have := unhide HSZ; omega
  have HU := hide (hMe6.use (by omega))
  clear hMe6 HK hs6
  go_wp2_with fail
  refine (unhide HU).mono ?_
  rintro e w7 ⟨rfl, m7, hMe7, hs7⟩
  have HF := hide (hMe7.force (unhide HP).still.trok (unhide HP).wf (unhide HP).open1 (unhide HP).open2 (by omega) hbs)
  clear hMe7 HU
  go_wp2_with fail
  refine (unhide HF).mono ?_
  rintro e w8 ⟨rfl, m8, hMe8, hs8⟩
  have hc87 : w8.cell? ⟨m0.s, 7, none⟩ = some (.pointer (some ⟨m0.q, 0, none⟩)) := by rw [← hMe8.em.s, ← hMe8.em.q, hMe8.em.at.cell 7 (by decide)]; rfl
  have HD := hide hMe8.fade
  clear hMe8 HF
  go_wp2_with fail
  refine (unhide HD).mono ?_
  rintro e w9 ⟨rfl, m9, hMe9, hs9⟩
  have HR : Hid (LearnRes base w m0 cls0 tr w9) := hide (by
    have hP := unhide HP
    have hd : EMut base w9 m9 [intRow (.slice (some ⟨g, 0, none⟩) N cap) (y0 :: rest')] w9 m9 [] := EMut.drop (E := []) hMe9.em.eat
    have he1 : m9.steps = m0.steps ++ [.slice (some ⟨g, 0, none⟩) N cap, .bool false] := congrArg (fun x => x.1) hMe9.told
    have he2 : m9.nsteps = m0.nsteps + 1 := congrArg (fun x => x.2.1) hMe9.told
    refine ⟨m9, _, _, _, _, .slice (some ⟨g, 0, none⟩) N cap, y0 :: rest', ⟨(hMe9.em.trans hd).mut, hMe9.rep, hMe9.watAt, Rest.learn hP.still rfl rfl hP.wf hP.open1 hP.open2 hP.false_ hP.zero hP.high, hMe9.passed, hMe9.heap, hMe9.free, hMe9.core, ?_, hP.wf, by simp, hP.fol, hP.new, he2, he1, hMe9.em.eat.beside, s, _, rfl, ?_⟩⟩
    · rw [db_snoc, hP.db]
    · simp [dec])
  clear hMe9 HD
  go_wp2
  try go_end0
  exact ⟨rfl, unhide HR⟩

end Go.Proofs.YtekkkoipcghlmaaGreatDoor

namespace Go.Proofs.YtekkkoipcghlmaaGreatDoor
open Go.RowKit

section

/-- A row of clauses that is no search's any more. -/
theorem row_cells (base : Nat) (v : Value) (cls : List Cl) (c : Nat) (cl : Cl) (w : World) (hS : w.ownsRow base 3 1 v (flat cls).length (ints (flat cls))) (hc : cls[c]? = some cl) : ∃ g cap, v = .slice (some ⟨g, 0, none⟩) (flat cls).length cap ∧ (flat cls).length ≤ cap ∧ g < w.heap.size ∧ pos cls c + 2 + cl.lits.length ≤ (flat cls).length ∧ w.cell? ⟨g, pos cls c, none⟩ = some (.int .i64 (cl.lits.length : Int)) ∧ w.cell? ⟨g, pos cls c + 1, none⟩ = some (.int .i64 (if cl.used then 1 else 0)) ∧
    (∀ k (hk : k < cl.lits.length), w.cell? ⟨g, pos cls c + 2 + k, none⟩ = some (.int .i64 cl.lits[k])) := by
  have hlt := (List.getElem?_eq_some_iff.1 hc).1
  have hcl : cls[c] = cl := by rw [List.getElem?_eq_getElem hlt] at hc; simpa using hc
  have hroom := flat_room cls c hlt
  rw [hcl] at hroom
  have hr := hS
  obtain ⟨g, cap, hv, hb, hg⟩ := World.ownsRow.form hr (by omega)
  rw [hv] at hr
  have get : ∀ j x, (flat cls)[j]? = some x → w.cell? ⟨g, j, none⟩ = some (.int .i64 x) := by
    intro j x hx
    obtain ⟨hj, e⟩ := List.getElem?_eq_some_iff.1 hx
    rw [hr.cellAt j (by omega)]
    unfold ints
    rw [List.getElem?_map, hx]
    rfl
  refine ⟨g, cap, hv, ?_, hg, hroom, ?_, ?_, fun k hk => ?_⟩
  · rcases hr.2 with ⟨h0, _⟩ | ⟨g', cap', cur, hv', _, _, hle, _⟩
    · cases h0
    · cases hv'; exact hle
  · have := get _ _ (flat_len cls c hlt); rw [hcl] at this; exact this
  · have := get _ _ (flat_used cls c hlt); rw [hcl] at this; exact this
  · have := get _ _ (flat_lit cls c k hlt (by rw [hcl]; exact hk)); simp only [hcl] at this; exact this

set_option maxRecDepth 100000 in
theorem behindV_any (base : Nat) (v : Value) (cls : List Cl) (c : Nat) (cl : Cl) (w : World) (hS : w.ownsRow base 3 1 v (flat cls).length (ints (flat cls))) (hc : cls[c]? = some cl) (hsz : (flat cls).length ≤ 1000000000) : Calls Tryz.prog 156 #[v, .int .i64 (pos cls c : Int)] w fun e w' => e = .returned (.int .i64 ((pos cls c + 2 + cl.lits.length : Nat) : Int)) ∧ w' = w := by
  obtain ⟨g, cap, hv, -, hg, hroom, h1, -, -⟩ := row_cells base v cls c cl w hS hc
  rw [hv]
  clear hv hS hc
  generalize pos cls c = p at *
  generalize cl.lits.length = n at *
  generalize (flat cls).length = N at *
  go_enter Tryz.func156, Tryz.ntmps156
  go_wp2
  go_ret
  refine ⟨?_, rfl⟩
  go_num

set_option maxRecDepth 100000 in
theorem literalsV_any (base : Nat) (v : Value) (cls : List Cl) (c : Nat) (cl : Cl) (w : World) (hS : w.ownsRow base 3 1 v (flat cls).length (ints (flat cls))) (hc : cls[c]? = some cl) (hsz : (flat cls).length ≤ 1000000000) : Calls Tryz.prog 112 #[v, .int .i64 (pos cls c : Int)] w fun e w' => (∃ g, e = .returned (litsV g (pos cls c) cl.lits.length) ∧ v.ownBlock = some g) ∧ w' = w := by
  have HB := hide (behindV_any base v cls c cl w hS hc hsz)
  obtain ⟨g, cap, hv, hcap, hg, hroom, h1, -, -⟩ := row_cells base v cls c cl w hS hc
  rw [hv] at HB ⊢
  clear hv hS hc
  generalize pos cls c = p at *
  generalize cl.lits.length = n at *
  generalize (flat cls).length = N at *
  go_enter Tryz.func112, Tryz.ntmps112
  go_wp2_with fail
  refine (unhide HB).mono ?_
  rintro e w3 ⟨rfl, rfl⟩
  go_wp2
  all_goals go_ret
  · have h0 : n = 0 := by omega
    exact ⟨⟨g, by unfold litsV; rw [if_pos h0]; rfl, rfl⟩, rfl⟩
  · exact ⟨⟨g, by unfold litsV; rw [if_neg (by omega)]; rfl, rfl⟩, rfl⟩

set_option maxRecDepth 100000 in
theorem isUsedV_any (base : Nat) (v : Value) (cls : List Cl) (c : Nat) (cl : Cl) (w : World) (hS : w.ownsRow base 3 1 v (flat cls).length (ints (flat cls))) (hc : cls[c]? = some cl) (hsz : (flat cls).length ≤ 1000000000) : Calls Tryz.prog 165 #[v, .int .i64 (pos cls c : Int)] w fun e w' => e = .returned (.bool cl.used) ∧ w' = w := by
  obtain ⟨g, cap, hv, -, hg, hroom, h1, h2, -⟩ := row_cells base v cls c cl w hS hc
  have hu : ((if cl.used = true then (1 : Int) else 0) == 1) = cl.used := by cases cl.used <;> rfl
  have HU := hide hu
  rw [hv]
  clear hv hS hc hu
  generalize (if cl.used = true then (1 : Int) else 0) = uv at *
  generalize pos cls c = p at *
  generalize cl.lits.length = n at *
  generalize (flat cls).length = N at *
  go_enter Tryz.func165, Tryz.ntmps165
  go_wp2
  go_ret
  exact ⟨by rw [← unhide HU]; rfl, rfl⟩
end

end Go.Proofs.YtekkkoipcghlmaaGreatDoor

namespace Go.Proofs.YtekkkoipcghlmaaGreatDoor
open Go.RowKit
attribute [local go_sem ↓] Go.wp_at_zero Go.wp_at_succ

theorem Tryz.store_nil (a : Addr) (n c : Nat) (w : World) : (binOp .eql 118 (.slice (some a) n c) (.slice none 0 0)).run Tryz.prog w = .ok (.bool false) w := by kernel_rfl

set_option maxRecDepth 100000 in
set_option maxHeartbeats 1600000 in
theorem clone_any (base b off cap : Nat) (xs : List Int) (w : World) (hn : 0 < xs.length) (hl : xs.length ≤ 10000000) (hv : Lies w (.slice (some ⟨b, off, none⟩) xs.length cap) (ints xs)) (hbs : base ≤ w.heap.size) :
    Calls Tryz.prog 163 #[.slice (some ⟨b, off, none⟩) xs.length cap] w fun e w' => ∃ v, e = .returned v ∧ w'.ownsRow base 3 1 v xs.length (ints xs) ∧ (∀ g, v.ownBlock = some g → w.heap.size ≤ g) ∧ Below w.heap.size w w' := by
  have HL := hide hv
  have H1C : Hid (∀ u, u ∈ ints xs → u.oneCell' = true) := hide (by
    intro u hu
    obtain ⟨x, -, rfl⟩ := List.mem_map.1 hu
    rfl)
  have HLL := hide (ints_len xs)
  clear hv
  generalize hN : xs.length = N at *
  have hnil := Tryz.store_nil
  have HOWN : Hid ((w.alloc (.cells #[] 3)).ownsRow base 3 1 (.slice (some ⟨w.heap.size, 0, none⟩) 0 0) 0 []) := hide ⟨rfl, .inr ⟨w.heap.size, 0, #[], rfl, hbs, heap_alloc_new w _, Nat.le_refl _, by unfold maxLen; omega, by simp, by simp⟩⟩
  have HLI : Hid (Lies (w.alloc (.cells #[] 3)) (.slice (some ⟨b, off, none⟩) N cap) (ints xs)) := hide ((unhide HL).below ((Below.refl _ _).alloc (Nat.le_refl _) _))
  have HBA : Hid (Below w.heap.size w (w.alloc (.cells #[] 3))) := hide ((Below.refl _ _).alloc (Nat.le_refl _) _)
  have hba : base ≤ (w.alloc (.cells #[] 3)).heap.size := Nat.le_trans hbs (unhide HBA).size
  have HFIN : Hid (∀ (v' : Value) (w' : World), w'.ownsRow base 3 1 v' (0 + (ints xs).length) ([] ++ ints xs) → (w.alloc (.cells #[] 3)).grownBy w' (Value.slice (some ⟨w.heap.size, 0, none⟩) 0 0).ownBlock → (v'.ownBlock = (Value.slice (some ⟨w.heap.size, 0, none⟩) 0 0).ownBlock ∨ v'.ownBlock = some (w.alloc (.cells #[] 3)).heap.size) → w'.ownsRow base 3 1 v' N (ints xs) ∧ (∀ g, v'.ownBlock = some g → w.heap.size ≤ g) ∧ Below w.heap.size w w') := hide (by
    intro v' w' h1 h2 h3
    rw [Nat.zero_add, List.nil_append, unhide HLL] at h1
    refine ⟨h1, fun g hg => ?_, ?_⟩
    · rcases h3 with h3 | h3
      · rw [h3] at hg; simp [Value.ownBlock] at hg; omega
      · rw [h3] at hg
        have := (unhide HBA).size
        simp at hg
        simp at this
        omega
    · have hsz := (unhide HBA).size
      have h4 := Only.grown (F := fun k => k = w.heap.size) h2 (fun k hk => by simp [Value.ownBlock] at hk; omega)
      exact (unhide HBA).trans (h4.below (fun k hk => by omega) hsz))
  clear HL HBA
  go_enter Tryz.func163, Tryz.ntmps163
  go_wp2_with (at_builtin; refine append_list (base := base) rfl _ _ 118 118 3 3 rfl Tryz.underlying118 Tryz.underlying118 Tryz.infoInt rfl (by decide) (unhide HOWN) rfl rfl (unhide HLI) (unhide H1C) (by rw [unhide HLL]; omega) hba ?_; intro v5 w5 hown5 hgr5 hloc5 hnn5 hnil5; have HF := hide (unhide HFIN v5 w5 hown5 hgr5 hloc5); clear hown5 hgr5 hloc5 hnn5 hnil5)
  try go_ret
  exact ⟨v5, rfl, unhide HF⟩

end Go.Proofs.YtekkkoipcghlmaaGreatDoor

namespace Go.Proofs.YtekkkoipcghlmaaGreatDoor
open Go.RowKit

theorem Rep.stored {m : Mem} {cls : List Cl} {tr : Tr} (h : Rep m cls tr) (v : Value) (l : List Int) {cls' : List Cl} (hl : l = flat cls') : Rep (m.stored v l) cls' tr := ⟨hl, h.order, h.starts, h.len, h.taken, h.free, h.odr, h.ordr⟩
/-- A reason lies elsewhere now. -/
theorem Rep.reasoned {m : Mem} {cls : List Cl} {tr : Tr} (h : Rep m cls tr) {i : Nat} {x r0 r : Int} (hi : tr[i]? = some (x, r0)) (hx : x ≠ 0 ∧ -12 ≤ x ∧ x ≤ 12) (hd : ∀ (j : Nat) (e : Int × Int), tr[j]? = some e → dec e = false) (hr : dec (x, r) = false) (hone : ∀ (j : Nat) (e : Int × Int), tr[j]? = some e → e.1.natAbs = x.natAbs → j = i) : Rep (m.reasoned x.natAbs r) cls (tr.set i (x, r)) := by
  have hil := (List.getElem?_eq_some_iff.1 hi).1
  have hd' : ∀ (j : Nat) (e : Int × Int), (tr.set i (x, r))[j]? = some e → dec e = false := fun j e hj => by
    rcases set_get hj with ⟨rfl, _, rfl⟩ | ⟨_, hj⟩
    · exact hr
    · exact hd j e hj
  have z1 := levels_zero hd
  have z2 := levels_zero hd'
  have s1 : startsOf tr = [] := List.length_eq_zero_iff.1 (by rw [startsOf_len]; exact z1)
  have s2 : startsOf (tr.set i (x, r)) = [] := List.length_eq_zero_iff.1 (by rw [startsOf_len]; exact z2)
  have l0 : ∀ j, Go.Proofs.YtekkkoipcghlmaaGreatDoor.lev tr j = 0 := fun j => by have := lev_le tr j; omega
  have l1 : ∀ j, Go.Proofs.YtekkkoipcghlmaaGreatDoor.lev (tr.set i (x, r)) j = 0 := fun j => by have := lev_le (tr.set i (x, r)) j; omega
  have hlen := h.len
  have t0 : ∀ v, v < 13 → (m.reasoned x.natAbs r).truth v = m.truth v ∧ (m.reasoned x.natAbs r).level v = m.level v ∧ (m.reasoned x.natAbs r).reason v = if v = x.natAbs then r else m.reason v := fun v hv => by
    show (((m.facts.set (x.natAbs * 3 + 2) r)[v * 3]?).getD 0 = _) ∧ (((m.facts.set (x.natAbs * 3 + 2) r)[v * 3 + 1]?).getD 0 = _) ∧ (((m.facts.set (x.natAbs * 3 + 2) r)[v * 3 + 2]?).getD 0 = _)
    rw [List.getElem?_set_ne (by omega), List.getElem?_set_ne (by omega)]
    refine ⟨rfl, rfl, ?_⟩
    by_cases e : v = x.natAbs
    · rw [if_pos e, e, List.getElem?_set_self (by omega)]; rfl
    · rw [if_neg e, List.getElem?_set_ne (by omega)]; rfl
  refine ⟨h.store, ?_, ?_, ?_, fun j e hj => ?_, fun v a b c => ?_, h.odr, h.ordr⟩
  · show m.order = _
    rw [h.order, List.map_set, set_same]
    rw [List.getElem?_map, hi]; rfl
  · show m.starts = _
    rw [h.starts, s1, s2]
  · show (m.facts.set _ _).length = 39
    rw [List.length_set]; exact hlen
  · rcases set_get hj with ⟨rfl, _, rfl⟩ | ⟨hne, hj⟩
    · obtain ⟨a1, a2, a3⟩ := t0 x.natAbs (by omega)
      obtain ⟨b1, b2, b3⟩ := h.taken j _ hi
      show (m.reasoned x.natAbs r).truth x.natAbs = x ∧ (m.reasoned x.natAbs r).level x.natAbs = _ ∧ (m.reasoned x.natAbs r).reason x.natAbs = r
      rw [a1, a2, a3, if_pos rfl, l1]
      rw [l0] at b2
      exact ⟨b1, b2, rfl⟩
    · obtain ⟨b1, b2, b3⟩ := h.taken j e hj
      have hne' : e.1.natAbs ≠ x.natAbs := fun he => hne (hone j e hj he)
      have hlt : e.1.natAbs < 13 := by
        rcases Nat.lt_or_ge e.1.natAbs 13 with h' | h'
        · exact h'
        · have : m.truth e.1.natAbs = 0 := by
            unfold Mem.truth
            rw [List.getElem?_eq_none (by omega)]; rfl
          omega
      obtain ⟨a1, a2, a3⟩ := t0 e.1.natAbs hlt
      rw [a1, a2, a3, if_neg hne', l1]
      rw [l0] at b2
      exact ⟨b1, b2, b3⟩
  · obtain ⟨a1, -, -⟩ := t0 v b
    rw [a1]
    refine h.free v a b (fun j e hj he => ?_)
    by_cases hji : j = i
    · subst hji
      rw [hi] at hj
      cases hj
      exact c j (x, r) (by rw [List.getElem?_set_self hil]) he
    · exact c j e (by rw [List.getElem?_set_ne (fun h => hji h.symm)]; exact hj) he

/-- While clauses go. -/
structure DUAt (base : Nat) (w : World) (m0 : Mem) (old : List Cl) (ov : Value) (ng : Nat) (tr0 : Tr) (G : List Nat) (k : Nat) (wr : World) (m : Mem) (new : List Cl) (tr : Tr) (S : List (Bool × List Int)) : Prop where
  em : EMut base w m0 [] wr m [intRow ov (flat old)]
  rep : Rep m new tr
  du : DU old ng tr0 k new tr
  all : m.all = m0.all
  places : m.places = m0.places
  core : m.core = m0.core
  passed : m.passed = m0.passed
  steps : StepsAt base wr m S
  chain : Chain G (stepMasks S) (((dbOf new).drop ng).map Sp.maskOf ++ ((dbOf old).drop (ng + k)).map Sp.maskOf)
  nst : m.nsteps + new.length = m0.nsteps + ng + k
  swf : ∀ s, s ∈ S → wfLits s.2
section
variable {base : Nat} {w wr wr' wr2 : World} {m0 m : Mem} {old new : List Cl} {ov : Value} {ng k : Nat} {tr0 tr : Tr} {G : List Nat} {S : List (Bool × List Int)} {cl : Cl} {c : Nat}
theorem EMut.rowMut {m m' : Mem} {r : Row} (h : EMut base w m [] wr m' [r]) : Mut base w m wr m' := (h.trans (EMut.drop (E := []) h.eat)).mut
theorem DUAt.row (h : DUAt base w m0 old ov ng tr0 G k wr m new tr S) : wr.ownsRow base 3 1 ov (flat old).length (ints (flat old)) := h.em.eat.row (i := 0) rfl
theorem DUAt.below (h : DUAt base w m0 old ov ng tr0 G k wr m new tr S) (hb : Below wr.heap.size wr wr') : DUAt base w m0 old ov ng tr0 G k wr' m new tr S :=
  ⟨h.em.trans (EMut.below h.em.eat hb), h.rep, h.du, h.all, h.places, h.core, h.passed, h.steps.keep (PMut.below h.em.at.pack hb) rfl, h.chain, h.nst, h.swf⟩
/-- A clause of the old row. -/
theorem DUAt.lits (h : DUAt base w m0 old ov ng tr0 G k wr m new tr S) (hc : old[c]? = some cl) (hn : cl.lits ≠ []) : ∃ g cap, ov = .slice (some ⟨g, 0, none⟩) (flat old).length cap ∧ StepAt base wr m (litsV g (pos old c) cl.lits.length) cl.lits := by
  obtain ⟨g, cap, hv, hcap, hg, hroom, -, -, hl⟩ := row_cells base ov old c cl wr h.row hc
  have hp : 0 < cl.lits.length := List.length_pos_iff.2 hn
  refine ⟨g, cap, hv, ?_, fun k hk => ?_, fun k hk => ?_⟩
  · unfold litsV
    rw [if_neg (by omega)]
    refine .inr ⟨g, pos old c + 2, cl.lits.length, by rw [ints_len]; exact hp, by rw [ints_len], hg, fun j x hx => ?_⟩
    have hj := (List.getElem?_eq_some_iff.1 hx).1
    rw [ints_len] at hj
    rw [hl j hj, ← hx]
    unfold ints
    rw [List.getElem?_map, List.getElem?_eq_getElem hj]
    rfl
  · have : k = g := by
      unfold litsV at hk
      split at hk <;> (simp [Value.ownBlock] at hk; exact hk.symm)
    subst this
    exact ⟨fun hf => h.em.eat.pack.not_both hf ⟨0, _, rfl, by show ov.ownBlock = _; rw [hv]; rfl⟩, hg⟩
  · have : k = g := by
      unfold litsV at hk
      split at hk <;> (simp [Value.ownBlock] at hk; exact hk.symm)
    subst this
    have hro := h.row
    exact (hro.lt k (by rw [hv]; rfl)).1
theorem drop_one (hc : old[ng + k]? = some cl) : ((dbOf old).drop (ng + k)).map Sp.maskOf = Sp.maskOf cl.lits :: ((dbOf old).drop (ng + (k + 1))).map Sp.maskOf := by
  have hlt := (List.getElem?_eq_some_iff.1 hc).1
  have hd : ng + k < (dbOf old).length := by unfold dbOf; rw [List.length_map]; exact hlt
  have he : (dbOf old)[ng + k] = cl.lits := by
    have : (dbOf old)[ng + k]? = some cl.lits := by unfold dbOf; rw [List.getElem?_map, hc]; rfl
    rw [List.getElem?_eq_getElem hd] at this
    simpa using this
  rw [List.drop_eq_getElem_cons hd, he]
  rfl
/-- It goes. -/
theorem DUAt.goes (h : DUAt base w m0 old ov ng tr0 G k wr m new tr S) (hc : old[ng + k]? = some cl) (hn : ¬ ∃ (i : Nat) (e0 : Int × Int), tr0[i]? = some e0 ∧ e0.2 = (pos old (ng + k) : Int)) {v val : Value} (hwf : wfLits cl.lits) (hv : StepAt base wr m val cl.lits) (hm : Mut base wr m wr' (m.stepped v (m.steps ++ [val, .bool true]) (m.nsteps + 1))) :
    DUAt base w m0 old ov ng tr0 G (k + 1) wr' (m.stepped v (m.steps ++ [val, .bool true]) (m.nsteps + 1)) new tr (S ++ [(true, cl.lits)]) := by
  refine ⟨h.em.trans (EMut.call h.em.eat hm), ⟨h.rep.store, h.rep.order, h.rep.starts, h.rep.len, h.rep.taken, h.rep.free, h.rep.odr, h.rep.ordr⟩, h.du.drop hc hn, h.all, h.places, h.core, h.passed, h.steps.add hm.to rfl rfl (hv.keep hm.to), ?_, ?_, fun s hs => ?_⟩
  rotate_right
  · rcases List.mem_append.1 hs with h' | h'
    · exact h.swf s h'
    · simp at h'; subst h'; exact hwf
  · have := h.chain
    rw [drop_one hc] at this
    rw [stepMasks_snoc]
    exact Chain.go this
  · show m.nsteps + 1 + new.length = _
    have := h.nst
    omega
theorem new_flat (new : List Cl) (l : List Int) : flat new ++ [(l.length : Int), 0] ++ l = flat (new ++ [⟨false, l⟩]) := by
  rw [flat_append, flat_cons, flat_nil, List.append_nil]
  simp [Cl.cells]
theorem chain_more (hc : old[ng + k]? = some cl) (hng : ng ≤ new.length) : ((dbOf (new ++ [⟨false, cl.lits⟩])).drop ng).map Sp.maskOf ++ ((dbOf old).drop (ng + (k + 1))).map Sp.maskOf = ((dbOf new).drop ng).map Sp.maskOf ++ ((dbOf old).drop (ng + k)).map Sp.maskOf := by
  rw [drop_one hc, db_snoc, drop_snoc (by unfold dbOf; rw [List.length_map]; exact hng), List.map_append, List.append_assoc]
  rfl
/-- It stays. -/
theorem DUAt.stays (h : DUAt base w m0 old ov ng tr0 G k wr m new tr S) (hc : old[ng + k]? = some cl) (hn : ¬ ∃ (i : Nat) (e0 : Int × Int), tr0[i]? = some e0 ∧ e0.2 = (pos old (ng + k) : Int)) {v : Value} (hm : Mut base wr m wr' (m.stored v (m.store ++ [(cl.lits.length : Int), 0] ++ cl.lits))) :
    DUAt base w m0 old ov ng tr0 G (k + 1) wr' (m.stored v (m.store ++ [(cl.lits.length : Int), 0] ++ cl.lits)) (new ++ [⟨false, cl.lits⟩]) tr S := by
  refine ⟨h.em.trans (EMut.call h.em.eat hm), h.rep.stored _ _ (by rw [h.rep.store, new_flat]), h.du.keep hc hn, h.all, h.places, h.core, h.passed, h.steps.keep hm.to rfl, ?_, ?_, h.swf⟩
  · rw [chain_more hc h.du.ngle]; exact h.chain
  · show m.nsteps + (new ++ [(⟨false, cl.lits⟩ : Cl)]).length = _
    have := h.nst
    simp
    omega
/-- It stays, and its place is told. -/
theorem DUAt.moves (h : DUAt base w m0 old ov ng tr0 G k wr m new tr S) (hT : TrOK old tr0) (h0 : levels tr0 = 0) (hc : old[ng + k]? = some cl) {i : Nat} {x : Int} (hi : tr[i]? = some (x, (pos old (ng + k) : Int))) {v : Value} (hm : Mut base wr m wr' (m.stored v (m.store ++ [(cl.lits.length : Int), 0] ++ cl.lits))) (hm2 : Mut base wr' (m.stored v (m.store ++ [(cl.lits.length : Int), 0] ++ cl.lits)) wr2 ((m.stored v (m.store ++ [(cl.lits.length : Int), 0] ++ cl.lits)).reasoned x.natAbs ((flat new).length : Int))) :
    DUAt base w m0 old ov ng tr0 G (k + 1) wr2 ((m.stored v (m.store ++ [(cl.lits.length : Int), 0] ++ cl.lits)).reasoned x.natAbs ((flat new).length : Int)) (new ++ [⟨false, cl.lits⟩]) (tr.set i (x, ((flat new).length : Int))) S := by
  have hm3 := hm.trans hm2
  obtain ⟨e0, he0⟩ := get_len h.du.len hi
  have hx : x ≠ 0 ∧ -12 ≤ x ∧ x ≤ 12 := by
    have h1 := h.du.fst i _ e0 hi he0
    have h2 := hT.bd i e0 he0
    simp only at h1
    rw [h1]; exact h2
  refine ⟨h.em.trans (EMut.call h.em.eat hm3), (h.rep.stored v _ (cls' := new ++ [⟨false, cl.lits⟩]) (by rw [h.rep.store, new_flat])).reasoned hi hx (h.du.level hT h0) (by simp [dec]) (fun j e hj he => ?_), h.du.move hT h0 hc hi, h.all, h.places, h.core, h.passed, h.steps.keep hm3.to rfl, ?_, ?_, h.swf⟩
  · obtain ⟨f0, hf0⟩ := get_len h.du.len hj
    refine hT.one hf0 he0 ?_
    have h1 := h.du.fst i _ e0 hi he0
    have h2 := h.du.fst j e f0 hj hf0
    simp only at h1
    rw [← h1, ← h2, he]
  · rw [chain_more hc h.du.ngle]; exact h.chain
  · show m.nsteps + (new ++ [(⟨false, cl.lits⟩ : Cl)]).length = _
    have := h.nst
    simp
    omega
end

end Go.Proofs.YtekkkoipcghlmaaGreatDoor
