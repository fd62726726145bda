import Derived.Test.YtekkkoipcghlmaaGreatDoorA21
import Derived.Lib.QuietBelow
set_option linter.all false
namespace Go.Proofs.YtekkkoipcghlmaaGreatDoor
open Go.RowKit
attribute [local go_sem ↓] Go.wp_at_zero Go.wp_at_succ

/-- What putting the highest second comes to. -/
def HighRes (base : Nat) (w : World) (m : Mem) (lv : Value) (x0 : Int) (rest : List Int) (e : Ending) (w' : World) : Prop :=
  ∃ rest' lvl, e = .returned (.int .i64 lvl) ∧ EMut base w m [intRow lv (x0 :: rest)] w' m [intRow lv (x0 :: rest')] ∧ rest'.Perm rest ∧ ((rest' = [] ∧ lvl = 0) ∨ ∃ y r, rest' = y :: r ∧ lvl = m.level y.natAbs ∧ ∀ z, z ∈ r → m.level z.natAbs ≤ m.level y.natAbs)
theorem swap_perm {l : List Int} {h : Nat} {a b : Int} (ha : l[0]? = some a) (hb : l[h]? = some b) : ((l.set 0 b).set h a).Perm l := by
  cases l with
  | nil => simp at ha
  | cons x r =>
    simp at ha; subst ha
    simp only [List.set_cons_zero]
    cases h with
    | zero =>
      simp at hb; subst hb
      simp
    | succ k =>
      rw [List.getElem?_cons_succ] at hb
      simp only [List.set_cons_succ]
      exact set_perm r k hb

set_option maxRecDepth 100000 in
set_option maxHeartbeats 32000000 in
theorem high_any (base : Nat) (m : Mem) (g cap : Nat) (x0 : Int) (rest : List Int) (w : World) (hE : EAt base w m [intRow (.slice (some ⟨g, 0, none⟩) (rest.length + 1) cap) (x0 :: rest)]) (hb : ∀ x, x ∈ x0 :: rest → x ≠ 0 ∧ -12 ≤ x ∧ x ≤ 12) (hl : rest.length ≤ 12) :
    Calls Tryz.prog 121 #[.pointer (some ⟨m.s, 0, none⟩), .slice (some ⟨g, 0, none⟩) (rest.length + 1) cap] w fun e w' => HighRes base w m (.slice (some ⟨g, 0, none⟩) (rest.length + 1) cap) x0 rest e w' := by
  cases hrest : rest with
  | nil =>
    subst hrest
    have HR : Hid (HighRes base w m (.slice (some ⟨g, 0, none⟩) 1 cap) x0 [] (.returned (.int .i64 0)) w) := hide ⟨[], 0, rfl, EMut.refl hE, List.Perm.refl _, .inl ⟨rfl, rfl⟩⟩
    clear hE hb hl
    go_enter Tryz.func121, Tryz.ntmps121
    go_wp2
    try go_ret
    exact unhide HR
  | cons y0 r0 =>
    rw [← hrest]
    have hpos : 1 ≤ rest.length := by rw [hrest]; simp
    have HRD : Hid (∀ wr, Below w.heap.size w wr → ∀ q x, (x0 :: rest)[q]? = some x → (x ≠ 0 ∧ -12 ≤ x ∧ x ≤ 12) ∧ wr.cell? ⟨g, q, none⟩ = some (.int .i64 x) ∧ wr.frozen? ⟨g, q, none⟩ = false) := hide (by
      intro wr hbx q x hx
      have hrow := (EMut.below hE hbx).eat.row (i := 0) rfl
      unfold Row.ok intRow at hrow
      simp only [List.length_cons] at hrow
      have hq := (List.getElem?_eq_some_iff.1 hx).1
      rw [List.length_cons] at hq
      refine ⟨hb x (List.mem_of_getElem? hx), ?_, hrow.frozenAt _⟩
      rw [hrow.cellAt q (by omega)]
      unfold ints
      rw [List.getElem?_map, hx]
      rfl)
    have HFC : Hid (∀ x, (x ≠ 0 ∧ -12 ≤ x ∧ x ≤ 12) → ∀ wx, Below w.heap.size w wx → Calls Tryz.prog 128 #[.pointer (some ⟨m.s, 3, none⟩), .int .i64 x] wx fun e w' => e = .returned (.agg #[.int .i64 (m.truth x.natAbs), .int .i64 (m.level x.natAbs), .int .i64 (m.reason x.natAbs)]) ∧ Below wx.heap.size wx w') := hide (fun x hx wx hbx => fact_any base m x wx (hE.at.below hbx) hx.2.1 hx.2.2)
    have HFIN : Hid (∀ wr (h : Nat) (y a : Int), Below w.heap.size w wr → rest[0]? = some a → rest[h]? = some y → (∀ (q : Nat) (z : Int), rest[q]? = some z → m.level z.natAbs ≤ m.level y.natAbs) → ((wr.setCell ⟨g, 1, none⟩ (.int .i64 y)).setCell ⟨g, h + 1, none⟩ (.int .i64 a)).cell? ⟨g, 1, none⟩ = some (.int .i64 y) ∧ ∀ w', Below ((wr.setCell ⟨g, 1, none⟩ (.int .i64 y)).setCell ⟨g, h + 1, none⟩ (.int .i64 a)).heap.size ((wr.setCell ⟨g, 1, none⟩ (.int .i64 y)).setCell ⟨g, h + 1, none⟩ (.int .i64 a)) w' → HighRes base w m (.slice (some ⟨g, 0, none⟩) (rest.length + 1) cap) x0 rest (.returned (.int .i64 (m.level y.natAbs))) w') := hide (by
      intro wr h y a hbx ha hh hmax
      have h1 := EMut.below hE hbx
      have h2 := EMut.store h1.eat (i := 0) (r := intRow (.slice (some ⟨g, 0, none⟩) (rest.length + 1) cap) (x0 :: rest)) rfl (g := g) (cap := cap) rfl 1 (.int .i64 y)
      have h3 := EMut.store h2.eat (i := 0) rfl (g := g) (cap := cap) rfl (h + 1) (.int .i64 a)
      have e : ((ints (x0 :: rest)).set 1 (.int .i64 y)).set (h + 1) (.int .i64 a) = ints (x0 :: (rest.set 0 y).set h a) := by
        rw [← ints_set, ← ints_set]
        simp
      have hlen : ((rest.set 0 y).set h a).length = rest.length := by simp
      have h4 : EMut base w m [intRow (.slice (some ⟨g, 0, none⟩) (rest.length + 1) cap) (x0 :: rest)] ((wr.setCell ⟨g, 1, none⟩ (.int .i64 y)).setCell ⟨g, h + 1, none⟩ (.int .i64 a)) m [intRow (.slice (some ⟨g, 0, none⟩) (rest.length + 1) cap) (x0 :: (rest.set 0 y).set h a)] := by
        have h5 := h1.trans (h2.trans h3)
        have e2 : (⟨3, 1, .slice (some ⟨g, 0, none⟩) (rest.length + 1) cap, (x0 :: rest).length, ((ints (x0 :: rest)).set 1 (.int .i64 y)).set (h + 1) (.int .i64 a)⟩ : Row) = intRow (.slice (some ⟨g, 0, none⟩) (rest.length + 1) cap) (x0 :: (rest.set 0 y).set h a) := by
          unfold intRow
          rw [e]
          simp [hlen]
        rw [← e2]
        exact h5
      have hhl := (List.getElem?_eq_some_iff.1 hh).1
      have hfirst : ∃ r, (rest.set 0 y).set h a = y :: r := by
        rw [hrest]
        cases h with
        | zero =>
          rw [hrest] at ha hh
          simp at ha hh
          subst ha hh
          exact ⟨r0, by simp⟩
        | succ k => exact ⟨_, by simp; rfl⟩
      obtain ⟨r, hr⟩ := hfirst
      have hperm := swap_perm ha hh
      rw [hr] at h4 hperm
      refine ⟨?_, fun w' hw' => ⟨y :: r, _, rfl, h4.trans (EMut.below h4.eat hw'), hperm, .inr ⟨y, r, rfl, rfl, fun z hz => ?_⟩⟩⟩
      · have hrow := h4.eat.row (i := 0) rfl
        unfold Row.ok intRow at hrow
        have hl2 : (x0 :: y :: r).length = rest.length + 1 := by have := hperm.length_eq; simp at this ⊢; omega
        simp only [hl2] at hrow
        rw [hrow.cellAt 1 (by omega)]
        rfl
      · have hz2 : z ∈ rest := hperm.mem_iff.1 (List.mem_cons_of_mem _ hz)
        obtain ⟨q, hq⟩ := List.getElem?_of_mem hz2
        exact hmax q z hq)
    have HFIN2 : Hid (∀ wr (H : Nat) (y a : Int), Below w.heap.size w wr → 1 ≤ H → (x0 :: rest)[1]? = some a → (x0 :: rest)[H]? = some y → (∀ (j : Nat) (z : Int), 1 ≤ j → (x0 :: rest)[j]? = some z → m.level z.natAbs ≤ m.level y.natAbs) →
        ((wr.setCell ⟨g, 1, none⟩ (.int .i64 y)).setCell ⟨g, H, none⟩ (.int .i64 a)).cell? ⟨g, 1, none⟩ = some (.int .i64 y) ∧ (∀ wx, Below ((wr.setCell ⟨g, 1, none⟩ (.int .i64 y)).setCell ⟨g, H, none⟩ (.int .i64 a)).heap.size ((wr.setCell ⟨g, 1, none⟩ (.int .i64 y)).setCell ⟨g, H, none⟩ (.int .i64 a)) wx → Calls Tryz.prog 128 #[.pointer (some ⟨m.s, 3, none⟩), .int .i64 y] wx fun e w' => e = .returned (.agg #[.int .i64 (m.truth y.natAbs), .int .i64 (m.level y.natAbs), .int .i64 (m.reason y.natAbs)]) ∧ Below wx.heap.size wx w') ∧
        (∀ w', Below ((wr.setCell ⟨g, 1, none⟩ (.int .i64 y)).setCell ⟨g, H, none⟩ (.int .i64 a)).heap.size ((wr.setCell ⟨g, 1, none⟩ (.int .i64 y)).setCell ⟨g, H, none⟩ (.int .i64 a)) w' → HighRes base w m (.slice (some ⟨g, 0, none⟩) (rest.length + 1) cap) x0 rest (.returned (.int .i64 (m.level y.natAbs))) w') ∧ (wr.setCell ⟨g, 1, none⟩ (.int .i64 y)).cell? ⟨g, H, none⟩ = some (.int .i64 y)) := hide (by
      intro wr H y a hbx hH ha hy hmax
      obtain ⟨h, rfl⟩ : ∃ h, H = h + 1 := ⟨H - 1, by omega⟩
      rw [List.getElem?_cons_succ] at ha hy
      obtain ⟨f1, f2⟩ := unhide HFIN wr h y a hbx ha hy (fun q z hz => hmax (q + 1) z (by omega) (by rw [List.getElem?_cons_succ]; exact hz))
      refine ⟨f1, fun wx hwx => ?_, f2, ?_⟩
      rotate_left
      · have h2 := EMut.store (EMut.below hE hbx).eat (i := 0) (r := intRow (.slice (some ⟨g, 0, none⟩) (rest.length + 1) cap) (x0 :: rest)) rfl (g := g) (cap := cap) rfl 1 (.int .i64 y)
        have hrow := h2.eat.row (i := 0) rfl
        have hl2 := (List.getElem?_eq_some_iff.1 hy).1
        rw [World.ownsRow.cellAt hrow (h + 1) (by simp [intRow]; omega)]
        show ((ints (x0 :: rest)).set 1 (.int .i64 y))[h + 1]? = _
        rw [← ints_set]
        unfold ints
        rw [List.getElem?_map, List.getElem?_set]
        split
        · rw [if_pos (by simp; omega)]; rfl
        · rw [List.getElem?_cons_succ, hy]; rfl
      obtain ⟨_, _, _, hem, _⟩ := f2 wx hwx
      have hyb := hb y (List.mem_cons_of_mem _ (List.mem_of_getElem? hy))
      exact fact_any base m y wx hem.at hyb.2.1 hyb.2.2)
    have f1 := Tryz.field1
    have hgl : g < w.heap.size := by
      have hrow := hE.row (i := 0) rfl
      exact ((hrow : w.ownsRow base 3 1 (.slice (some ⟨g, 0, none⟩) (rest.length + 1) cap) _ _).lt g rfl).2
    clear hE hb hrest
    generalize hn : rest.length = n at *
    have HN := hide hn
    clear hn
    go_enter Tryz.func121, Tryz.ntmps121
    have hne1 : (((n : Int) + 1) == 1) = false := by simp; omega
    have hne2 : ((((n + 1 : Nat)) : Int) == 1) = false := by simp; omega
    go_wp2
    go_loopw [5, 6] (fun v5 v6 wr => ∃ (H Q : Nat), 1 ≤ H ∧ H ≤ n ∧ H < Q ∧ Q ≤ n + 1 ∧ v5 = .int .i64 (H : Int) ∧ v6 = .int .i64 (Q : Int) ∧ Hid (Below w.heap.size w wr) ∧ Hid (∀ y, (x0 :: rest)[H]? = some y → ∀ (j : Nat) (z : Int), 1 ≤ j → j < Q → (x0 :: rest)[j]? = some z → m.level z.natAbs ≤ m.level y.natAbs)) (fun _ v6 _ => n + 1 - (intOf v6).toNat)
    case atStart => exact ⟨1, 2, by omega, by omega, by omega, by omega, rfl, rfl, hide (Below.refl _ _), hide (fun y hy j z hj1 hj hz => by
      have : j = 1 := by omega
      subst this
      rw [hy] at hz; cases hz
      exact Int.le_refl _)⟩
    case round =>
      obtain ⟨H, Q, hH1, hHn, hHQ, hQ, rfl, rfl, HB, HMX⟩ := hrel
      have HLL : Hid ((x0 :: rest).length = n + 1) := hide (by rw [List.length_cons, unhide HN])
      have hhx : (x0 :: rest)[H]? = some ((x0 :: rest)[H]'(by rw [unhide HLL]; omega)) := List.getElem?_eq_getElem _
      obtain ⟨hyb, hcy, hfy⟩ := unhide HRD _ (unhide HB) H _ hhx
      have HHX := hide hhx
      clear hhx
      generalize ((x0 :: rest)[H]'(by rw [unhide HLL]; omega)) = y at *
      have HHi : (H : Int) < (n : Int) + 1 := by omega
      have HHi2 : (H : Int) < ((n + 1 : Nat) : Int) := by omega
      by_cases hqn : Q < n + 1
      · have hqx : (x0 :: rest)[Q]? = some ((x0 :: rest)[Q]'(by rw [unhide HLL]; omega)) := List.getElem?_eq_getElem _
        obtain ⟨hxb, hcx, hfx⟩ := unhide HRD _ (unhide HB) Q _ hqx
        have HQX := hide hqx
        clear hqx
        generalize ((x0 :: rest)[Q]'(by rw [unhide HLL]; omega)) = x at *
        have HFX : Hid (∀ d os, Calls Tryz.prog 128 #[.pointer (some ⟨m.s, 3, none⟩), .int .i64 x] (Go.Sort.grow (redrawn wr d) os) fun e w'' => e = .returned (.agg #[.int .i64 (m.truth x.natAbs), .int .i64 (m.level x.natAbs), .int .i64 (m.reason x.natAbs)]) ∧ ∃ p : Regrown, w'' = Go.Sort.grow (redrawn wr p.d) p.os) := hide (fun d os => Calls.regrown_of (unhide HFC x hxb _ ((unhide HB).trans ((below_regrown wr d os).mono (unhide HB).size))))
        have HFY : Hid (∀ d os, Calls Tryz.prog 128 #[.pointer (some ⟨m.s, 3, none⟩), .int .i64 y] (Go.Sort.grow (redrawn wr d) os) fun e w'' => e = .returned (.agg #[.int .i64 (m.truth y.natAbs), .int .i64 (m.level y.natAbs), .int .i64 (m.reason y.natAbs)]) ∧ ∃ p : Regrown, w'' = Go.Sort.grow (redrawn wr p.d) p.os) := hide (fun d os => Calls.regrown_of (unhide HFC y hyb _ ((unhide HB).trans ((below_regrown wr d os).mono (unhide HB).size))))
        have hqi : (Q : Int) < (n : Int) + 1 := by omega
        have hqi2 : (Q : Int) < ((n + 1 : Nat) : Int) := by omega
        have HUP : Hid (∀ y', (x0 :: rest)[H]? = some y' → ∀ (j : Nat) (z : Int), 1 ≤ j → j < Q + 1 → (x0 :: rest)[j]? = some z → m.level x.natAbs ≤ m.level y'.natAbs → m.level z.natAbs ≤ m.level y'.natAbs) := hide (fun y' hy' j z h1 h2 hz hle => by
          by_cases hjQ : j = Q
          · subst hjQ
            rw [unhide HQX] at hz; cases hz
            exact hle
          · exact unhide HMX y' hy' j z h1 (by omega) hz)
        clear HRD HFC HFIN
        by_cases hlt : m.level y.natAbs < m.level x.natAbs
        · have HNX : Hid (∀ y', (x0 :: rest)[Q]? = some y' → ∀ (j : Nat) (z : Int), 1 ≤ j → j < Q + 1 → (x0 :: rest)[j]? = some z → m.level z.natAbs ≤ m.level y'.natAbs) := hide (fun y' hy' j z h1 h2 hz => by
            rw [unhide HQX] at hy'; cases hy'
            by_cases hjQ : j = Q
            · subst hjQ
              rw [unhide HQX] at hz; cases hz
              exact Int.le_refl _
            · have := unhide HMX y (unhide HHX) j z h1 (by omega) hz
              omega)
          clear HUP HMX
          generalize m.truth x.natAbs = tx at *
          generalize m.level x.natAbs = lx at *
          generalize m.reason x.natAbs = rx at *
          generalize m.truth y.natAbs = ty at *
          generalize m.level y.natAbs = ly at *
          generalize m.reason y.natAbs = ry at *
          go_wp2_with fail
          have k0 := cell_regrown hcx
          have k1 := cell_regrown hcy
          refine wp_region_quiet_below (by kernel_rfl) (by kernel_rfl) ?_
          iterate 9 (quiet_step (exact unhide HFX _ _))
          iterate 10 (quiet_step (exact unhide HFY _ _))
          refine wpQuiet_nil ?_
          intro _ hw'
          obtain ⟨⟨dq, osq⟩, hw''⟩ := hw'
          subst hw''
          have HBQ : Hid (Below w.heap.size w (Go.Sort.grow (redrawn wr dq) osq)) := hide ((unhide HB).trans ((below_regrown wr dq osq).mono (unhide HB).size))
          go_wp2
          refine ⟨⟨Q, Q + 1, by omega, by omega, by omega, by omega, rfl, by go_num, HBQ, HNX⟩, ?_⟩
          simp only [intOf]
          omega
        · have HLE : Hid (m.level x.natAbs ≤ m.level y.natAbs) := hide (by omega)
          have HUP2 : Hid (∀ y', (x0 :: rest)[H]? = some y' → ∀ (j : Nat) (z : Int), 1 ≤ j → j < Q + 1 → (x0 :: rest)[j]? = some z → m.level z.natAbs ≤ m.level y'.natAbs) := hide (fun y' hy' j z h1 h2 hz => unhide HUP y' hy' j z h1 h2 hz (by
            rw [unhide HHX] at hy'
            cases hy'
            exact unhide HLE))
          clear HMX HUP HLE
          generalize m.truth x.natAbs = tx at *
          generalize m.level x.natAbs = lx at *
          generalize m.reason x.natAbs = rx at *
          generalize m.truth y.natAbs = ty at *
          generalize m.level y.natAbs = ly at *
          generalize m.reason y.natAbs = ry at *
          go_wp2_with fail
          have k0 := cell_regrown hcx
          have k1 := cell_regrown hcy
          refine wp_region_quiet_below (by kernel_rfl) (by kernel_rfl) ?_
          iterate 9 (quiet_step (exact unhide HFX _ _))
          iterate 10 (quiet_step (exact unhide HFY _ _))
          refine wpQuiet_nil ?_
          intro _ hw'
          obtain ⟨⟨dq, osq⟩, hw''⟩ := hw'
          subst hw''
          have HBQ : Hid (Below w.heap.size w (Go.Sort.grow (redrawn wr dq) osq)) := hide ((unhide HB).trans ((below_regrown wr dq osq).mono (unhide HB).size))
          go_wp2
          refine ⟨⟨H, Q + 1, by omega, by omega, by omega, by omega, rfl, by go_num, HBQ, HUP2⟩, ?_⟩
          simp only [intOf]
          omega
      · have hqe : Q = n + 1 := by omega
        subst hqe
        have hax : (x0 :: rest)[1]? = some ((x0 :: rest)[1]'(by rw [unhide HLL]; omega)) := List.getElem?_eq_getElem _
        obtain ⟨hab, hca, hfa⟩ := unhide HRD _ (unhide HB) 1 _ hax
        have HFI := hide (unhide HFIN2 wr H y _ (unhide HB) hH1 hax (unhide HHX) (fun j z h1 hz => unhide HMX y (unhide HHX) j z h1 (by have := (List.getElem?_eq_some_iff.1 hz).1; rw [unhide HLL] at this; omega) hz))
        clear hax
        generalize ((x0 :: rest)[1]'(by rw [unhide HLL]; omega)) = a at *
        have hc1 := (unhide HFI).1
        have hc2 := (unhide HFI).2.2.2
        have HFC2 : Hid (∀ wx, Below ((wr.setCell ⟨g, 1, none⟩ (.int .i64 y)).setCell ⟨g, H, none⟩ (.int .i64 a)).heap.size ((wr.setCell ⟨g, 1, none⟩ (.int .i64 y)).setCell ⟨g, H, none⟩ (.int .i64 a)) wx → Calls Tryz.prog 128 #[.pointer (some ⟨m.s, 3, none⟩), .int .i64 y] wx fun e w' => e = .returned (.agg #[.int .i64 (m.truth y.natAbs), .int .i64 (m.level y.natAbs), .int .i64 (m.reason y.natAbs)]) ∧ Below wx.heap.size wx w') := hide (fun wx hwx => (unhide HFI).2.1 wx hwx)
        clear HFC HRD HFIN HFIN2 HMX HHX
        go_wp2_with fail
        go_region
        go_wp2_with fail
        have HQ : Hid (∀ d os, Below ((wr.setCell ⟨g, 1, none⟩ (.int .i64 y)).setCell ⟨g, H, none⟩ (.int .i64 a)).heap.size ((wr.setCell ⟨g, 1, none⟩ (.int .i64 y)).setCell ⟨g, H, none⟩ (.int .i64 a)) (Go.Sort.grow (redrawn ((wr.setCell ⟨g, 1, none⟩ (.int .i64 y)).setCell ⟨g, H, none⟩ (.int .i64 a)).drew d) os)) := hide (fun d os => (Below.refl _ _).drew.trans ((below_regrown ((wr.setCell ⟨g, 1, none⟩ (.int .i64 y)).setCell ⟨g, H, none⟩ (.int .i64 a)).drew d os).mono (Nat.le_refl _)))
        have HFX : Hid (∀ d os, Calls Tryz.prog 128 #[.pointer (some ⟨m.s, 3, none⟩), .int .i64 y] (Go.Sort.grow (redrawn ((wr.setCell ⟨g, 1, none⟩ (.int .i64 y)).setCell ⟨g, H, none⟩ (.int .i64 a)).drew d) os) fun e w'' => e = .returned (.agg #[.int .i64 (m.truth y.natAbs), .int .i64 (m.level y.natAbs), .int .i64 (m.reason y.natAbs)]) ∧ ∃ p : Regrown, w'' = Go.Sort.grow (redrawn ((wr.setCell ⟨g, 1, none⟩ (.int .i64 y)).setCell ⟨g, H, none⟩ (.int .i64 a)).drew p.d) p.os) := hide (fun d os => Calls.regrown_of (unhide HFC2 _ (unhide HQ d os)))
        have HRS : Hid (∀ d os, HighRes base w m (.slice (some ⟨g, 0, none⟩) (n + 1) cap) x0 rest (.returned (.int .i64 (m.level y.natAbs))) (Go.Sort.grow (redrawn ((wr.setCell ⟨g, 1, none⟩ (.int .i64 y)).setCell ⟨g, H, none⟩ (.int .i64 a)).drew d) os)) := hide (fun d os => (unhide HFI).2.2.1 _ (unhide HQ d os))
        have hc1' : ((wr.setCell ⟨g, 1, none⟩ (.int .i64 y)).setCell ⟨g, H, none⟩ (.int .i64 a)).drew.cell? ⟨g, 1, none⟩ = some (.int .i64 y) := hc1
        have h1n : (1 : Int) < (n : Int) + 1 := by omega
        clear HFI HFC2 HQ hc1 hc2 hca hcy hfa hfy
        generalize ((wr.setCell ⟨g, 1, none⟩ (.int .i64 y)).setCell ⟨g, H, none⟩ (.int .i64 a)).drew = W at *
        generalize m.truth y.natAbs = ty at *
        generalize m.level y.natAbs = ly at *
        generalize m.reason y.natAbs = ry at *
        have k0 := cell_regrown hc1'
        refine wp_region_quiet_below (by kernel_rfl) (by kernel_rfl) ?_
        iterate 9 (quiet_step (exact unhide HFX _ _))
        refine wpQuiet_nil ?_
        intro _ hw'
        obtain ⟨⟨dq, osq⟩, hw''⟩ := hw'
        subst hw''
        go_wp2
        try go_ret
        exact unhide HRS _ _

end Go.Proofs.YtekkkoipcghlmaaGreatDoor
