import Derived.Test.YtekkkoipcghlmaaGreatDoorA05
import Derived.Deep.RegionHeld3
import Derived.Deep.RegionLaw
import Derived.Deep.DrawnRows
set_option linter.all false
namespace Go.Proofs.YtekkkoipcghlmaaGreatDoor
open Go.RowKit

theorem SAt.store {base : Nat} {w : World} {m : Mem} (h : SAt base w m) (hn : 0 < m.store.length) : ∃ g cap, m.cl = .slice (some ⟨g, 0, none⟩) m.store.length cap ∧ m.store.length ≤ cap ∧ g < w.heap.size ∧ (∀ j (hj : j < m.store.length), w.cell? ⟨g, j, none⟩ = some (.int .i64 m.store[j])) ∧ ∀ j, w.frozen? ⟨g, j, none⟩ = false := by
  have hr := h.pack.rows 3 _ rfl
  unfold Row.ok intRow at hr
  simp only at hr
  obtain ⟨g, cap, hv, hb, hlt⟩ := World.ownsRow.form hr hn
  rw [hv] at hr
  refine ⟨g, cap, hv, ?_, hlt, fun j hj => ?_, fun j => hr.frozenAt j⟩
  · rcases hr.2 with ⟨h0, _⟩ | ⟨g', cap', cur, hv', _, _, hle, _⟩
    · cases h0
    · cases hv'; exact hle
  · rw [hr.cellAt j (by omega)]
    simp [ints, hj]

set_option maxRecDepth 100000 in
theorem end_any (v : Value) (ao : Option Addr) (n cap : Nat) (w : World) (hv : v = .slice ao n cap) :
    Calls Tryz.prog 68 #[v] w fun e w' => e = .returned (.int .i64 (n : Int)) ∧ w' = w := by
  subst hv
  go_enter Tryz.func68, Tryz.ntmps68
  go_wp2
  go_ret
  exact ⟨rfl, rfl⟩

/-- A clause's literals where they lie. -/
def litsV (g p n : Nat) : Value := if n = 0 then .slice (some ⟨g, 0, none⟩) 0 0 else .slice (some ⟨g, p + 2, none⟩) n n

section

theorem cls_cells (base : Nat) (m : Mem) (cls : List Cl) (c : Nat) (cl : Cl) (w : World) (hS : SAt base w m) (hf : m.store = flat cls) (hc : cls[c]? = some cl) : ∃ g cap, m.cl = .slice (some ⟨g, 0, none⟩) m.store.length cap ∧ m.store.length ≤ cap ∧ g < w.heap.size ∧ pos cls c + 2 + cl.lits.length ≤ m.store.length ∧ w.cell? ⟨g, pos cls c, none⟩ = some (.int .i64 (cl.lits.length : Int)) ∧ w.cell? ⟨g, pos cls c + 1, none⟩ = some (.int .i64 (if cl.used then 1 else 0)) ∧
    (∀ k (hk : k < cl.lits.length), w.cell? ⟨g, pos cls c + 2 + k, none⟩ = some (.int .i64 cl.lits[k])) ∧ ∀ j, w.frozen? ⟨g, j, none⟩ = false := by
  have hlt := (List.getElem?_eq_some_iff.1 hc).1
  have hcl : cls[c] = cl := by rw [List.getElem?_eq_getElem hlt] at hc; simpa using hc
  have hroom := flat_room cls c hlt
  rw [hcl, ← hf] at hroom
  obtain ⟨g, cap, hv, hcap, hg, hcell, hfz⟩ := hS.store (by omega)
  have get : ∀ j x, (flat cls)[j]? = some x → w.cell? ⟨g, j, none⟩ = some (.int .i64 x) := by
    intro j x hx
    rw [← hf] at hx
    obtain ⟨hj, e⟩ := List.getElem?_eq_some_iff.1 hx
    rw [hcell j hj, e]
  refine ⟨g, cap, hv, hcap, hg, hroom, ?_, ?_, fun k hk => ?_, hfz⟩
  · have := get _ _ (flat_len cls c hlt); rw [hcl] at this; exact this
  · have := get _ _ (flat_used cls c hlt); rw [hcl] at this; exact this
  · have := get _ _ (flat_lit cls c k hlt (by rw [hcl]; exact hk)); simp only [hcl] at this; exact this

set_option maxRecDepth 100000 in
theorem behind_any (base : Nat) (m : Mem) (cls : List Cl) (c : Nat) (cl : Cl) (w : World) (hS : SAt base w m) (hf : m.store = flat cls) (hc : cls[c]? = some cl) (hsz : m.store.length ≤ 1000000000) : Calls Tryz.prog 156 #[m.cl, .int .i64 (pos cls c : Int)] w fun e w' => e = .returned (.int .i64 ((pos cls c + 2 + cl.lits.length : Nat) : Int)) ∧ w' = w := by
  obtain ⟨g, cap, hv, -, hg, hroom, h1, -, -, -⟩ := cls_cells base m cls c cl w hS hf hc
  rw [hv]
  clear hv hS hf hc
  generalize pos cls c = p at *
  generalize cl.lits.length = n at *
  generalize m.store.length = N at *
  go_enter Tryz.func156, Tryz.ntmps156
  go_wp2
  go_ret
  refine ⟨?_, rfl⟩
  go_num

set_option maxRecDepth 100000 in
theorem literals_any (base : Nat) (m : Mem) (cls : List Cl) (c : Nat) (cl : Cl) (w : World) (hS : SAt base w m) (hf : m.store = flat cls) (hc : cls[c]? = some cl) (hsz : m.store.length ≤ 1000000000) : Calls Tryz.prog 112 #[m.cl, .int .i64 (pos cls c : Int)] w fun e w' => (∃ g, e = .returned (litsV g (pos cls c) cl.lits.length) ∧ m.cl.ownBlock = some g) ∧ w' = w := by
  have HB := hide (fun wx (hb : Below w.heap.size w wx) => behind_any base m cls c cl wx (hS.below hb) hf hc hsz)
  obtain ⟨g, cap, hv, hcap, hg, hroom, h1, -, -, -⟩ := cls_cells base m cls c cl w hS hf hc
  rw [hv] at HB ⊢
  clear hv hS hf hc
  generalize pos cls c = p at *
  generalize cl.lits.length = n at *
  generalize m.store.length = N at *
  go_enter Tryz.func112, Tryz.ntmps112
  go_wp2_with fail
  refine (unhide HB _ (Below.refl _ _)).mono ?_
  rintro e w3 ⟨rfl, rfl⟩
  go_wp2
  all_goals go_ret
  · have h0 : n = 0 := by omega
    exact ⟨⟨g, by unfold litsV; rw [if_pos h0]; rfl, rfl⟩, rfl⟩
  · exact ⟨⟨g, by unfold litsV; rw [if_neg (by omega)]; rfl, rfl⟩, rfl⟩
end

end Go.Proofs.YtekkkoipcghlmaaGreatDoor

namespace Go.Proofs.YtekkkoipcghlmaaGreatDoor
open Go.RowKit
attribute [local go_sem ↓] Go.wp_at_zero Go.wp_at_succ

section
variable {base : Nat} {w w' : World} {m : Mem}
/-- Behind the append to the starts. -/
theorem Mut.starts (h : SAt base w m) {w4 : World} {g cap : Nat} {x : Int} (hown : w4.ownsRow base 3 1 (.slice (some ⟨g, 0, none⟩) (m.starts.length + 1) cap) (m.starts.length + 1) (ints m.starts ++ [.int .i64 x])) {wz : World} (hz : Below w.heap.size w wz) (hgr : wz.grownBy w4 m.st.ownBlock) (hloc : m.st.ownBlock = some g ∨ g = wz.heap.size) :
    Mut base w m (w4.setCell ⟨m.s, 5, none⟩ (.slice (some ⟨g, 0, none⟩) (m.starts.length + 1) cap)) { m with st := .slice (some ⟨g, 0, none⟩) (m.starts.length + 1) cap, starts := m.starts ++ [x] } ∧ w4.cell? ⟨m.s, 5, none⟩ = some m.st ∧ w4.frozen? ⟨m.s, 5, none⟩ = false ∧ w4.cell? ⟨m.s, 4, none⟩ = some m.od := by
  have h1 := PMut.below h.pack hz
  have hzs := hz.size
  have h2 := PMut.row h1.pack (i := 7) (r' := intRow (.slice (some ⟨g, 0, none⟩) (m.starts.length + 1) cap) (m.starts ++ [x])) rfl (by unfold Row.ok intRow; rw [ints_snoc, List.length_append]; exact hown) hgr (by
    rcases hloc with h | h
    · exact .inr (.inl h.symm)
    · exact .inr (.inr ⟨g, rfl, by omega⟩))
  have h3 := PMut.store h2.pack (i := 0) rfl rfl 5 (.slice (some ⟨g, 0, none⟩) (m.starts.length + 1) cap)
  refine ⟨⟨?_, h.ws, h.ls, h.counts, h.places, rfl, rfl, rfl⟩, ?_, ?_, ?_⟩
  · exact h1.trans (h2.trans h3)
  · exact World.ownsRow.cellAt (h2.pack.rows 0 _ rfl) 5 (by simp [structRow, Mem.sCells])
  · exact World.ownsRow.frozenAt (h2.pack.rows 0 _ rfl) 5
  · exact World.ownsRow.cellAt (h2.pack.rows 0 _ rfl) 4 (by simp [structRow, Mem.sCells])
end

def Mem.decided (m : Mem) (x : Int) (st od : Value) : Mem := ({ m with starts := m.starts ++ [(m.order.length : Int)], st := st } : Mem).taken x (-1) od

set_option maxRecDepth 100000 in
set_option maxHeartbeats 1600000 in
theorem decide_any (base : Nat) (m : Mem) (x : Int) (w : World) (hS : SAt base w m) (h0 : -12 ≤ x) (h1 : x ≤ 12) (hbs : base ≤ w.heap.size) (hol : m.order.length ≤ 1000) (hsl : m.starts.length ≤ 1000) (hod : m.odr = m.od) (hor : m.ordr = m.order) :
    Calls Tryz.prog 82 #[.pointer (some ⟨m.s, 3, none⟩), .int .i64 x] w fun e w' => e = .returned (.tuple #[]) ∧ ∃ st od, Mut base w m w' (m.decided x st od) := by
  have hc4 : w.cell? ⟨m.s, 4, none⟩ = some m.od := by rw [hS.cell 4 (by decide)]; rfl
  have hc5 : w.cell? ⟨m.s, 5, none⟩ = some m.st := by rw [hS.cell 5 (by decide)]; rfl
  have hss := hS.lt.1
  have HROW : Hid (w.ownsRow base 3 1 m.st m.starts.length (ints m.starts)) := hide (hS.pack.rows 7 _ rfl)
  obtain ⟨ao, cp, hsh⟩ := owns_shape (unhide HROW)
  obtain ⟨ao2, cp2, hsh2⟩ := owns_shape (hS.pack.rows 6 _ rfl)
  have hsh2' : m.od = .slice ao2 m.order.length cp2 := by rw [← hod, ← hor]; exact hsh2
  have HO : Hid (∀ (wz w4 : World) (g cap : Nat), w4.ownsRow base 3 1 (.slice (some ⟨g, 0, none⟩) (m.starts.length + 1) cap) (m.starts.length + 1) (ints m.starts ++ [.int .i64 (m.order.length : Int)]) → Below w.heap.size w wz → wz.grownBy w4 m.st.ownBlock → (m.st.ownBlock = some g ∨ g = wz.heap.size) → Mut base w m (w4.setCell ⟨m.s, 5, none⟩ (.slice (some ⟨g, 0, none⟩) (m.starts.length + 1) cap)) { m with st := .slice (some ⟨g, 0, none⟩) (m.starts.length + 1) cap, starts := m.starts ++ [(m.order.length : Int)] } ∧ w4.cell? ⟨m.s, 5, none⟩ = some m.st ∧ w4.frozen? ⟨m.s, 5, none⟩ = false ∧ w4.cell? ⟨m.s, 4, none⟩ = some m.od) := hide (fun wz w4 g cap ho hz hg hl => Mut.starts hS ho hz hg hl)
  have HT : Hid (∀ (wx : World) (st : Value), Mut base w m wx { m with st := st, starts := m.starts ++ [(m.order.length : Int)] } → Calls Tryz.prog 114 #[.pointer (some ⟨m.s, 3, none⟩), .int .i64 x, .int .i64 (-1)] wx fun e w' => e = .returned (.tuple #[]) ∧ ∃ st od, Mut base w m w' (m.decided x st od)) := hide (fun wx st hm => (take_any base { m with st := st, starts := m.starts ++ [(m.order.length : Int)] } x (-1) wx hm.at h0 h1 (Nat.le_trans hbs hm.to.only.size) hol hod hor).mono (fun e w' h => by
    obtain ⟨he, od, hh⟩ := h
    exact ⟨he, st, od, hm.trans hh⟩))
  have HROWB : Hid (∀ wx, Below w.heap.size w wx → wx.ownsRow base 3 1 m.st m.starts.length (ints m.starts)) := hide (fun wx hb => owns_below (unhide HROW) hb)
  rw [hsh2'] at hc4
  clear hsh2 hsh2' hS hod hor
  generalize hn : m.order.length = n at hc4 HO HT hol
  generalize m.starts.length = k at *
  generalize ints m.starts = io at *
  generalize m.st = ov at *
  subst hsh
  go_enter Tryz.func82, Tryz.ntmps82
  go_upto_region 0 with fail
  go_cut [] (fun wx => Hid (∃ st, Mut base w m wx { m with st := st, starts := m.starts ++ [(n : Int)] }))
  case first =>
    go_region_law ((refine step_cell (base := base) (by rfl) _ _ 25 3 (by rfl) Tryz.underlying25 Tryz.infoInt rfl (by decide) (unhide HROWB _ (by go_grown)) (by rfl) (by rfl) (heap_alloc_new _ _) rfl (by omega) (by simp; omega) ?_; intro g' cap' w4 hown4 hgr4 hloc; have HMID := hide (unhide HO _ _ _ _ hown4 (by go_grown) hgr4 hloc); clear hown4 hgr4 hloc; have hc04 := (unhide HMID).2.1; have hf04 := (unhide HMID).2.2.1))
    all_goals (go_wp2_with fail; go_meet; exact hide ⟨_, (unhide HMID).1⟩)
  case rest =>
    obtain ⟨w1, rfl⟩ : ∃ w1, w1 = wc := ⟨wc, rfl⟩
    obtain ⟨st, hm⟩ := unhide hcut
    have HT1 := hide (unhide HT _ _ hm)
    clear hm hcut
    go_wp2_with fail
    refine (unhide HT1).mono ?_
    rintro e w5 ⟨rfl, st5, od5, hm5⟩
    have HM5 := hide hm5
    clear hm5
    go_wp2
    go_end0
    exact ⟨rfl, _, _, unhide HM5⟩

end Go.Proofs.YtekkkoipcghlmaaGreatDoor

namespace Go.Proofs.YtekkkoipcghlmaaGreatDoor
open Go.RowKit
attribute [local go_sem ↓] Go.wp_at_zero Go.wp_at_succ

/-- A clause that was of use. -/
def Mem.cell (m : Mem) (j : Nat) (x : Int) : Mem := { m with store := m.store.set j x }
theorem Mut.store1 {base : Nat} {w : World} {m : Mem} (h : SAt base w m) {g cap : Nat} (hv : m.cl = .slice (some ⟨g, 0, none⟩) m.store.length cap) (j : Nat) (x : Int) : Mut base w m (w.setCell ⟨g, j, none⟩ (.int .i64 x)) (m.cell j x) := by
  refine ⟨?_, h.ws, h.ls, h.counts, h.places, rfl, rfl, rfl⟩
  show PMut base w m.rows _ (m.rows.set 3 (intRow m.cl (m.store.set j x)))
  unfold intRow
  rw [ints_set, List.length_set]
  exact PMut.store h.pack (i := 3) rfl hv j _

section
set_option maxRecDepth 100000 in
theorem use_any (base : Nat) (m : Mem) (cls : List Cl) (c : Nat) (cl : Cl) (w : World) (hS : SAt base w m) (hf : m.store = flat cls) (hc : cls[c]? = some cl) (hsz : m.store.length ≤ 1000000000) : Calls Tryz.prog 122 #[m.cl, .int .i64 (pos cls c : Int)] w fun e w' => e = .returned (.tuple #[]) ∧ Mut base w m w' (m.cell (pos cls c + 1) 1) := by
  obtain ⟨g, cap, hv, -, hg, hroom, h1, h2, -, hfz⟩ := cls_cells base m cls c cl w hS hf hc
  have hf1 := hfz (pos cls c + 1)
  have HM := hide (Mut.store1 hS hv (pos cls c + 1) 1)
  rw [hv]
  clear hv hS hf hc hfz
  generalize pos cls c = p at *
  generalize cl.lits.length = n at *
  generalize m.store.length = N at *
  go_enter Tryz.func122, Tryz.ntmps122
  go_wp2
  go_end0
  exact ⟨rfl, unhide HM⟩
end

set_option maxRecDepth 100000 in
theorem isForced_any (base : Nat) (m : Mem) (x r : Int) (w : World) (hS : SAt base w m) (h0 : -12 ≤ x) (h1 : x ≤ 12) :
    Calls Tryz.prog 164 #[.pointer (some ⟨m.s, 3, none⟩), .int .i64 x, .int .i64 r] w fun e w' => e = .returned (.bool (m.truth x.natAbs == x && m.reason x.natAbs == r)) ∧ Below w.heap.size w w' := by
  have HT := hide (isTrue_any base m x w hS h0 h1)
  have HF := hide (fun wx (hb : Below w.heap.size w wx) => fact_any base m x wx (hS.below hb) h0 h1)
  have f2 := Tryz.field2
  generalize m.truth x.natAbs = t at *
  generalize m.level x.natAbs = l at *
  generalize m.reason x.natAbs = ro at *
  clear hS
  go_enter Tryz.func164, Tryz.ntmps164
  go_wp2_with fail
  refine (unhide HT).mono ?_
  rintro e w3 ⟨rfl, hb⟩
  by_cases hq : (t == x) = true
  · rw [hq]
    go_wp2_with fail
    refine (unhide HF _ hb).mono ?_
    rintro e w4 ⟨rfl, hb4⟩
    go_wp2
    go_ret
    exact ⟨by rw [hq]; rfl, hb.trans (hb4.mono hb.size)⟩
  · have hq' : (t == x) = false := by simpa using hq
    rw [hq']
    go_wp2
    go_ret
    exact ⟨by rw [hq']; rfl, hb⟩

def Mem.reasoned (m : Mem) (v : Nat) (r : Int) : Mem := { m with facts := m.facts.set (v * 3 + 2) r }
set_option maxRecDepth 100000 in
set_option maxHeartbeats 1600000 in
theorem setReason_any (base : Nat) (m : Mem) (x r : Int) (w : World) (hS : SAt base w m) (h0 : -12 ≤ x) (h1 : x ≤ 12) :
    Calls Tryz.prog 166 #[.pointer (some ⟨m.s, 3, none⟩), .int .i64 x, .int .i64 r] w fun e w' => e = .returned (.tuple #[]) ∧ Mut base w m w' (m.reasoned x.natAbs r) := by
  have HV := hide (fun wx => variableOf_any x wx h0 h1)
  obtain ⟨b, cap, hfa, hlt, -, hc⟩ := hS.facts
  have hc3 : w.cell? ⟨m.s, 3, none⟩ = some (.slice (some ⟨b, 0, none⟩) 13 cap) := by rw [hS.cell 3 (by decide), ← hfa]; rfl
  have hx : x.natAbs < 13 := by omega
  have hsl : m.s < w.heap.size := World.block_lt_of_cell? w ⟨m.s, 3, none⟩ hc3
  obtain ⟨c0, c1, c2⟩ := hc x.natAbs hx
  have f2 := hS.facts_free hfa (x.natAbs * 3 + 2)
  have HM : Hid (Mut base w m (w.setCell ⟨b, x.natAbs * 3 + 2, none⟩ (.int .i64 r)) (m.reasoned x.natAbs r)) := hide (Mut.fact1 hS hfa _ _)
  clear hc hS hfa c0 c1
  generalize m.reasoned x.natAbs r = m1 at *
  generalize x.natAbs = v at *
  generalize m.reason v = ro at *
  go_enter Tryz.func166, Tryz.ntmps166
  go_wp2_with fail
  go_region_with (go_at_call 129; refine (unhide HV _).mono ?_; rintro e w3 ⟨rfl, rfl⟩)
  all_goals go_wp2
  all_goals go_end0
  all_goals first | exact ⟨rfl, (unhide HM).drew⟩ | exact ⟨rfl, unhide HM⟩ | exact ⟨rfl, (unhide HM).drew.drew⟩

end Go.Proofs.YtekkkoipcghlmaaGreatDoor

namespace Go.Proofs.YtekkkoipcghlmaaGreatDoor
open Go.RowKit
attribute [local go_sem ↓] Go.wp_at_zero Go.wp_at_succ

section
variable {base : Nat} {w w' : World} {m : Mem}
def Mem.stored (m : Mem) (v : Value) (l : List Int) : Mem := { m with cl := v, store := l }
/-- Behind an append to the store. -/
theorem Mut.clauses (h : SAt base w m) {w4 : World} {g cap n : Nat} {l : List Int} (hown : w4.ownsRow base 3 1 (.slice (some ⟨g, 0, none⟩) n cap) n (ints l)) (hn : l.length = n) {wz : World} (hz : Below w.heap.size w wz) (hgr : wz.grownBy w4 m.cl.ownBlock) (hloc : m.cl.ownBlock = some g ∨ g = wz.heap.size) :
    Mut base w m (w4.setCell ⟨m.s, 0, none⟩ (.slice (some ⟨g, 0, none⟩) n cap)) (m.stored (.slice (some ⟨g, 0, none⟩) n cap) l) ∧ w4.cell? ⟨m.s, 0, none⟩ = some m.cl ∧ w4.frozen? ⟨m.s, 0, none⟩ = false := by
  subst hn
  have h1 := PMut.below h.pack hz
  have hzs := hz.size
  have h2 := PMut.row h1.pack (i := 3) (r' := intRow (.slice (some ⟨g, 0, none⟩) l.length cap) l) rfl hown hgr (by
    rcases hloc with h | h
    · exact .inr (.inl h.symm)
    · exact .inr (.inr ⟨g, rfl, by omega⟩))
  have h3 := PMut.store h2.pack (i := 0) rfl rfl 0 (.slice (some ⟨g, 0, none⟩) l.length cap)
  refine ⟨⟨?_, h.ws, h.ls, h.counts, h.places, rfl, rfl, rfl⟩, ?_, ?_⟩
  · exact h1.trans (h2.trans h3)
  · exact World.ownsRow.cellAt (h2.pack.rows 0 _ rfl) 0 (by simp [structRow, Mem.sCells])
  · exact World.ownsRow.frozenAt (h2.pack.rows 0 _ rfl) 0
end

set_option maxRecDepth 100000 in
set_option maxHeartbeats 1600000 in
theorem storeAdd_any (base : Nat) (m : Mem) (v : Value) (lits : List Int) (w : World) (hS : SAt base w m) (hbs : base ≤ w.heap.size) (hl : lits.length ≤ 1000) (hsz : m.store.length ≤ 9900000) (hv : Lies w v (ints lits)) (hnf : ∀ k, v.ownBlock = some k → ¬ foot m.rows k) :
    Calls Tryz.prog 110 #[.pointer (some ⟨m.s, 0, none⟩), v] w fun e w' => e = .returned (.int .i64 (m.store.length : Int)) ∧ ∃ cl, Mut base w m w' (m.stored cl (m.store ++ [(lits.length : Int), 0] ++ lits)) := by
  have hc0 : w.cell? ⟨m.s, 0, none⟩ = some m.cl := by rw [hS.cell 0 (by decide)]; rfl
  obtain ⟨ao, cp, hsh⟩ := owns_shape (hS.pack.rows 3 _ rfl)
  have hsh' : m.cl = .slice ao m.store.length cp := hsh
  obtain ⟨vo, vc, hvs⟩ : ∃ vo vc, v = .slice vo lits.length vc := by
    rcases hv with ⟨h0, ao, cap, rfl⟩ | ⟨b, off, cap, hp, rfl, hb, hc⟩
    · have : lits = [] := by simpa [ints] using h0
      subst this; exact ⟨_, _, rfl⟩
    · exact ⟨_, _, by rw [ints_len]⟩
  have HE := hide (fun wx => end_any m.cl ao m.store.length cp wx hsh')
  have HROW : Hid (w.ownsRow base 3 1 m.cl m.store.length (ints m.store)) := hide (hS.pack.rows 3 _ rfl)
  have hss := hS.lt.1
  have HO : Hid (∀ (wz w4 : World) (g cap : Nat), w4.ownsRow base 3 1 (.slice (some ⟨g, 0, none⟩) (m.store.length + 2) cap) (m.store.length + 2) (ints m.store ++ [.int .i64 (lits.length : Int), .int .i64 0]) → Below w.heap.size w wz → wz.grownBy w4 m.cl.ownBlock → (m.cl.ownBlock = some g ∨ g = wz.heap.size) →
      Mut base w m (w4.setCell ⟨m.s, 0, none⟩ (.slice (some ⟨g, 0, none⟩) (m.store.length + 2) cap)) (m.stored (.slice (some ⟨g, 0, none⟩) (m.store.length + 2) cap) (m.store ++ [(lits.length : Int), 0])) ∧ w4.cell? ⟨m.s, 0, none⟩ = some m.cl ∧ w4.frozen? ⟨m.s, 0, none⟩ = false ∧ (w4.setCell ⟨m.s, 0, none⟩ (.slice (some ⟨g, 0, none⟩) (m.store.length + 2) cap)).ownsRow base 3 1 (.slice (some ⟨g, 0, none⟩) (m.store.length + 2) cap) (m.store.length + 2) (ints (m.store ++ [(lits.length : Int), 0]))) := hide (by
    intro wz w4 g cap ho hz hg hl
    have e : ints m.store ++ [.int .i64 (lits.length : Int), .int .i64 0] = ints (m.store ++ [(lits.length : Int), 0]) := by simp [ints]
    rw [e] at ho
    have hh := Mut.clauses hS ho (by simp) hz hg hl
    have hr := hh.1.at.pack.rows 3 _ rfl
    have e2 : (m.store ++ [(lits.length : Int), 0]).length = m.store.length + 2 := by simp
    unfold Row.ok intRow at hr
    simp only [Mem.stored, e2] at hr
    exact ⟨hh.1, hh.2.1, hh.2.2, hr⟩)
  have HO2 : Hid (∀ (w1 w4 : World) (c1 v' : Value), Mut base w m w1 (m.stored c1 (m.store ++ [(lits.length : Int), 0])) → w4.ownsRow base 3 1 v' (m.store.length + 2 + lits.length) (ints (m.store ++ [(lits.length : Int), 0]) ++ ints lits) → w1.grownBy w4 c1.ownBlock → (v'.ownBlock = c1.ownBlock ∨ v'.ownBlock = some w1.heap.size) →
      (∃ cl, Mut base w m (w4.setCell ⟨m.s, 0, none⟩ v') (m.stored cl (m.store ++ [(lits.length : Int), 0] ++ lits))) ∧ w4.cell? ⟨m.s, 0, none⟩ = some c1 ∧ w4.frozen? ⟨m.s, 0, none⟩ = false) := hide (by
    intro w1 w4 c1 v' hm ho hg hl
    obtain ⟨g, cap, hv', -, -⟩ := World.ownsRow.form ho (by omega)
    subst hv'
    have e : ints (m.store ++ [(lits.length : Int), 0]) ++ ints lits = ints (m.store ++ [(lits.length : Int), 0] ++ lits) := by simp [ints]
    rw [e] at ho
    have hh := Mut.clauses hm.at ho (by simp; omega) (Below.refl _ _) hg (by
      rcases hl with h | h
      · exact .inl h.symm
      · exact .inr (by simpa [Value.ownBlock] using h))
    exact ⟨⟨_, hm.trans hh.1⟩, hh.2⟩)
  have HLIES : Hid (∀ (w1 : World) (m1 : Mem), Mut base w m w1 m1 → Lies w1 v (ints lits)) := hide (fun w1 m1 hm => hm.to.lies hv hnf)
  rw [hsh'] at hc0 HE
  rw [hvs] at HLIES ⊢
  clear hS hsh hv
  go_enter Tryz.func110, Tryz.ntmps110
  go_wp2_with fail
  refine (unhide HE _).mono ?_
  rintro e w3 ⟨rfl, rfl⟩
  rw [hsh'] at HROW HO
  clear hvs hsh'
  have H1C : Hid (∀ u, u ∈ ints lits → u.oneCell' = true) := hide (by
    intro u hu
    unfold ints at hu
    obtain ⟨x, -, rfl⟩ := List.mem_map.1 hu
    rfl)
  have HLL : Hid ((ints lits).length = lits.length) := hide (ints_len _)
  go_wp2_with first
    | (at_builtin; (refine append_two (base := base) rfl _ _ 118 3 rfl Tryz.underlying118 Tryz.infoInt rfl (by decide) (unhide HROW) (by rfl) (by rfl) (by rfl) (by rfl) (by omega) hbs ?_; intro g' cap' w4 hown4 hgr4 hloc; have HMID := hide (unhide HO _ _ _ _ hown4 (by go_grown) hgr4 hloc); clear hown4 hgr4 hloc; have hc04 := (unhide HMID).2.1; have hf04 := (unhide HMID).2.2.1))
    | (at_builtin; (refine append_list (base := base) rfl _ _ 118 25 3 3 rfl Tryz.underlying118 Tryz.underlying25 Tryz.infoInt rfl (by decide) (unhide HMID).2.2.2 (by rfl) (by rfl) (unhide HLIES _ _ (unhide HMID).1) (unhide H1C) (by rw [unhide HLL]; omega) (Nat.le_trans hbs (unhide HMID).1.to.only.size) ?_; rw [unhide HLL]; intro v5 w5 hown5 hgr5 hloc5 hnn5 hnil5; obtain ⟨ao5, cp5, rfl⟩ := owns_shape hown5; have HFIN := hide (unhide HO2 _ _ _ _ (unhide HMID).1 hown5 hgr5 hloc5); clear hown5 hgr5 hloc5 hnn5 hnil5; have hc05 := (unhide HFIN).2.1; have hf05 := (unhide HFIN).2.2))
  go_ret
  exact ⟨rfl, (unhide HFIN).1⟩

end Go.Proofs.YtekkkoipcghlmaaGreatDoor

namespace Go.Proofs.YtekkkoipcghlmaaGreatDoor
open Go.RowKit
attribute [local go_sem ↓] Go.wp_at_zero Go.wp_at_succ

theorem Tryz.infoPlace : (Tryz.prog.info? 117).map (fun i => (i.zero, i.size, i.bytes)) = some (some (.int .i64 0), 1, 8) := by kernel_rfl
/-- A place more in a watch's list. -/
def Mem.watch1 (m : Mem) (k : Nat) (v : Value) (p : Int) : Mem := { m with ws := m.ws.set k v, lists := m.lists.set k ((m.lists[k]?).getD [] ++ [p]) }
theorem zip_set {α β : Type} (f : α × β → Row) : ∀ (l : List α) (r : List β) (k : Nat) (x : α) (y : β), ((l.set k x).zip (r.set k y)).map f = ((l.zip r).map f).set k (f (x, y))
  | [], r, k, x, y => by simp
  | a :: l, [], k, x, y => by cases k <;> simp
  | a :: l, b :: r, 0, x, y => by simp
  | a :: l, b :: r, k + 1, x, y => by simp [zip_set f l r k x y]
section
variable {base : Nat} {w w' : World} {m : Mem}
theorem rows_watch (m : Mem) (k : Nat) (v : Value) (l : List Int) : ({ m with ws := m.ws.set k v, lists := m.lists.set k l } : Mem).rows = (m.rows.set (k + 13) (listRow (v, l))).set 4 ⟨227, 1, m.wl, (m.ws.set k v).length, m.ws.set k v⟩ := by
  have h := zip_set listRow m.ws m.lists k v l
  unfold Mem.rows
  simp only [h]
  rfl
theorem SAt.list (h : SAt base w m) {k : Nat} (hk : k < 25) : ∃ v l, m.ws[k]? = some v ∧ m.lists[k]? = some l ∧ w.ownsRow base 117 1 v l.length (ints l) ∧ m.rows[k + 13]? = some (listRow (v, l)) := by
  have h1 : k < m.ws.length := by rw [h.ws]; exact hk
  have h2 : k < m.lists.length := by rw [h.ls]; exact hk
  have hr : m.rows[k + 13]? = some (listRow (m.ws[k], m.lists[k])) := by
    show ((m.ws.zip m.lists).map listRow)[k]? = _
    rw [List.getElem?_map, (List.getElem?_zip_eq_some (z := (m.ws[k], m.lists[k]))).2 ⟨List.getElem?_eq_getElem h1, List.getElem?_eq_getElem h2⟩]
    rfl
  exact ⟨m.ws[k], m.lists[k], List.getElem?_eq_getElem h1, List.getElem?_eq_getElem h2, h.pack.rows _ _ hr, hr⟩
theorem SAt.wl (h : SAt base w m) : ∃ b cap, m.wl = .slice (some ⟨b, 0, none⟩) 25 cap ∧ b < w.heap.size ∧ (∀ k (v : Value), m.ws[k]? = some v → w.cell? ⟨b, k, none⟩ = some v) ∧ ∀ j, w.frozen? ⟨b, j, none⟩ = false := by
  have hr := h.pack.rows 4 _ rfl
  unfold Row.ok at hr
  simp only [h.ws] at hr
  obtain ⟨b, cap, hv, hb, hlt⟩ := World.ownsRow.form hr (by decide)
  rw [hv] at hr
  refine ⟨b, cap, hv, hlt, fun k v hk => ?_, fun j => hr.frozenAt j⟩
  have hk' : k < 25 := by have := (List.getElem?_eq_some_iff.1 hk).1; rw [h.ws] at this; exact this
  rw [hr.cellAt k (by omega)]; exact hk
/-- Behind the append to a watch's list. -/
theorem Mut.list (h : SAt base w m) {k : Nat} {v : Value} {l : List Int} (hk : k < 25) (hv : m.ws[k]? = some v) (hl : m.lists[k]? = some l) {b cap0 : Nat} (hwl : m.wl = .slice (some ⟨b, 0, none⟩) 25 cap0) {w4 : World} {g cap : Nat} {p : Int} (hown : w4.ownsRow base 117 1 (.slice (some ⟨g, 0, none⟩) (l.length + 1) cap) (l.length + 1) (ints l ++ [.int .i64 p])) {wz : World} (hz : Below w.heap.size w wz) (hgr : wz.grownBy w4 v.ownBlock) (hloc : v.ownBlock = some g ∨ g = wz.heap.size) :
    Mut base w m (w4.setCell ⟨b, k, none⟩ (.slice (some ⟨g, 0, none⟩) (l.length + 1) cap)) (m.watch1 k (.slice (some ⟨g, 0, none⟩) (l.length + 1) cap) p) ∧ w4.cell? ⟨b, k, none⟩ = some v ∧ w4.frozen? ⟨b, k, none⟩ = false := by
  obtain ⟨v', l', e1, e2, -, hr⟩ := h.list hk
  rw [hv] at e1; cases e1
  rw [hl] at e2; cases e2
  have h1 := PMut.below h.pack hz
  have hzs := hz.size
  have h2 := PMut.row h1.pack (i := k + 13) (r' := listRow (.slice (some ⟨g, 0, none⟩) (l.length + 1) cap, l ++ [p])) hr (by unfold Row.ok listRow; simp only [ints_snoc, List.length_append]; exact hown) hgr (by
    rcases hloc with h | h
    · exact .inr (.inl h.symm)
    · exact .inr (.inr ⟨g, rfl, by omega⟩))
  have hr4 : (m.rows.set (k + 13) (listRow (.slice (some ⟨g, 0, none⟩) (l.length + 1) cap, l ++ [p])))[4]? = some ⟨227, 1, m.wl, m.ws.length, m.ws⟩ := rfl
  have h3 := PMut.store h2.pack (i := 4) hr4 (g := b) (cap := cap0) (by simp only [h.ws]; exact hwl) k (.slice (some ⟨g, 0, none⟩) (l.length + 1) cap)
  have hr5 := h2.pack.rows 4 _ hr4
  unfold Row.ok at hr5
  simp only [h.ws] at hr5
  rw [hwl] at hr5
  refine ⟨⟨?_, by simp [Mem.watch1, h.ws], by simp [Mem.watch1, h.ls], h.counts, h.places, rfl, rfl, rfl⟩, ?_, hr5.frozenAt k⟩
  · unfold Mem.watch1
    rw [hl]
    show PMut base w m.rows _ ({ m with ws := m.ws.set k (.slice (some ⟨g, 0, none⟩) (l.length + 1) cap), lists := m.lists.set k (l ++ [p]) } : Mem).rows
    rw [rows_watch, List.length_set]
    exact h1.trans (h2.trans h3)
  · rw [hr5.cellAt k (by omega)]; exact hv
end

set_option maxRecDepth 100000 in
theorem of_any (base : Nat) (m : Mem) (x : Int) (k : Nat) (w : World) (hS : SAt base w m) (hk : (k : Int) = x + 12) (hk25 : k < 25) :
    Calls Tryz.prog 184 #[.pointer (some ⟨m.s, 1, none⟩), .int .i64 x] w fun e w' => (∃ b cap, m.wl = .slice (some ⟨b, 0, none⟩) 25 cap ∧ e = .returned (.pointer (some ⟨b, k, none⟩))) ∧ Below w.heap.size w w' := by
  obtain ⟨b, cap, hwl, hb, -, -⟩ := hS.wl
  have hc1 : w.cell? ⟨m.s, 1, none⟩ = some (.int .i64 12) := by rw [hS.cell 1 (by decide)]; rfl
  have hc2 : w.cell? ⟨m.s, 2, none⟩ = some (.slice (some ⟨b, 0, none⟩) 25 cap) := by rw [hS.cell 2 (by decide), ← hwl]; rfl
  have HW := hide hwl
  obtain rfl : x = (k : Int) - 12 := by omega
  clear hS hwl hk
  have hw : IntKind.i64.wrap (12 + ((k : Int) - 12)) = (k : Int) := by rw [IntKind.wrap_i64]; omega
  go_enter Tryz.func184, Tryz.ntmps184
  go_wp2
  go_quiet (fail)
  go_wp2
  go_ret
  exact ⟨⟨b, cap, unhide HW, rfl⟩, belowDrew (Below.refl _ _) _⟩

set_option maxRecDepth 100000 in
set_option maxHeartbeats 1600000 in
theorem watchAdd_any (base : Nat) (m : Mem) (x p : Int) (k : Nat) (l : List Int) (w : World) (hS : SAt base w m) (hk : (k : Int) = x + 12) (hk25 : k < 25) (hbs : base ≤ w.heap.size) (hl : m.lists[k]? = some l) (hll : l.length ≤ 9500000) :
    Calls Tryz.prog 155 #[.pointer (some ⟨m.s, 1, none⟩), .int .i64 x, .int .i64 p] w fun e w' => e = .returned (.tuple #[]) ∧ ∃ v, Mut base w m w' (m.watch1 k v p) := by
  have HOF := hide (of_any base m x k w hS hk hk25)
  obtain ⟨b, cap, hwl, hb, hcell, hfz⟩ := hS.wl
  obtain ⟨v, l', hv, e2, hrow, hr⟩ := hS.list hk25
  rw [hl] at e2; cases e2
  have hcv := hcell k v hv
  have hfk := hfz k
  have HROW := hide hrow
  obtain ⟨ao, cp, hsh⟩ := owns_shape hrow
  have HO : Hid (∀ (wz w4 : World) (g cap : Nat), w4.ownsRow base 117 1 (.slice (some ⟨g, 0, none⟩) (l.length + 1) cap) (l.length + 1) (ints l ++ [.int .i64 p]) → Below w.heap.size w wz → wz.grownBy w4 v.ownBlock → (v.ownBlock = some g ∨ g = wz.heap.size) →
      Mut base w m (w4.setCell ⟨b, k, none⟩ (.slice (some ⟨g, 0, none⟩) (l.length + 1) cap)) (m.watch1 k (.slice (some ⟨g, 0, none⟩) (l.length + 1) cap) p) ∧ w4.cell? ⟨b, k, none⟩ = some v ∧ w4.frozen? ⟨b, k, none⟩ = false) := hide (fun wz w4 g cap ho hz hg hlo => Mut.list hS hk25 hv hl hwl ho hz hg hlo)
  have HWL := hide hwl
  have HROWB : Hid (∀ wx, Below w.heap.size w wx → wx.ownsRow base 117 1 v l.length (ints l)) := hide (fun wx hb => owns_below (unhide HROW) hb)
  clear hS hwl hcell hfz hrow hr hl hv
  subst hsh
  go_enter Tryz.func155, Tryz.ntmps155
  go_wp2_with fail
  refine (unhide HOF).mono ?_
  rintro e w1 ⟨⟨b', cap', hw', rfl⟩, hb1⟩
  rw [unhide HWL] at hw'
  simp only [Value.slice.injEq, Option.some.injEq, Addr.mk.injEq, and_true, true_and] at hw'
  obtain ⟨rfl, rfl⟩ := hw'
  have hcv1 : w1.cell? ⟨b, k, none⟩ = some (.slice ao l.length cp) := (hb1.cell (p := ⟨b, k, none⟩) hb).trans hcv
  have hs1 := hb1.size
  have HR1 := hide (unhide HROWB _ hb1)
  go_wp2_with (at_builtin; refine append_cell (base := base) rfl _ _ 227 117 rfl Tryz.underlying227 Tryz.infoPlace rfl (by decide) (unhide HR1) rfl rfl rfl (by omega) (by omega) ?_; intro g' cap' w4 hown4 hgr4 hloc; have HMID := hide (unhide HO _ _ _ _ hown4 (hb1.alloc (by omega) _) hgr4 hloc); clear hown4 hgr4 hloc; have hc04 := (unhide HMID).2.1; have hf04 := (unhide HMID).2.2)
  go_end0
  exact ⟨rfl, _, (unhide HMID).1⟩

end Go.Proofs.YtekkkoipcghlmaaGreatDoor
