import Derived.Test.YtekkkoipcghlmaaGreatDoorA14
set_option linter.all false
namespace Go.Proofs.YtekkkoipcghlmaaGreatDoor
open Go.RowKit
attribute [local go_sem ↓] Go.wp_at_zero Go.wp_at_succ

/-- All but the trail and the heap is as it was. -/
def KeptG (m0 m : Mem) : Prop := m = { m0 with facts := m.facts, od := m.od, odr := m.odr, order := m.order, ordr := m.ordr, st := m.st, starts := m.starts, passed := m.passed, al := m.al, all := m.all, places := m.places }
theorem KeptG.refl (m : Mem) : KeptG m m := rfl
theorem KeptG.trans {a b c : Mem} (h : KeptG a b) (h' : KeptG b c) : KeptG a c := by
  unfold KeptG at h h' ⊢
  rw [h] at h'
  exact h'
theorem KeptQ.keptG {a b : Mem} (h : KeptQ a b) : KeptG a b := by
  unfold KeptQ at h
  unfold KeptG
  rw [h]
/-- What goBack comes to. -/
def BackRes (base : Nat) (w : World) (m : Mem) (cls : List Cl) (tr : Tr) (l : Nat) (w' : World) : Prop :=
  (levels tr ≤ l ∧ Mut base w m w' m) ∨
  ∃ s m', (startsOf tr)[l]? = some s ∧ Mut base w m w' m' ∧ Rep m' cls (tr.take s) ∧ HeapOK m'.all m'.places ∧ (∀ u, u ∈ m'.all ↔ u ∈ m.all ∨ ∃ (i : Nat) (e : Int × Int), s ≤ i ∧ tr[i]? = some e ∧ u = (e.1.natAbs : Int)) ∧ KeptG m m' ∧ m'.passed = min m.passed (s : Int)

structure GAt (base : Nat) (w : World) (m : Mem) (mz : Mem) (tr : Tr) (s k : Nat) (wr : World) (mk : Mem) : Prop where
  mu : Mut base w m wr mk
  ok : HeapOK mk.all mk.places
  same : ∀ u, u ∈ mk.all ↔ u ∈ m.all ∨ ∃ (i : Nat) (e : Int × Int), s ≤ i ∧ i < s + k ∧ tr[i]? = some e ∧ u = (e.1.natAbs : Int)
  kept : KeptQ mz mk
theorem GAt.fin {base : Nat} {w : World} {m : Mem} {cls : List Cl} {tr : Tr} {s l g cap k : Nat} {f : List Int} {st : Value} {wr : World} {mk : Mem} (hR : Rep m cls tr) (hT : TrOK cls tr) (hs : (startsOf tr)[l]? = some s) (hod : m.od = .slice (some ⟨g, 0, none⟩) tr.length cap) (hf : f = blank m.facts ((m.order.drop s).map Int.natAbs)) (h : GAt base w m (m.undone f s l (.slice (some ⟨g, 0, none⟩) s cap) st) tr s k wr mk) (hk : k = tr.length - s) : BackRes base w m cls tr l wr := by
  subst hf
  obtain ⟨hlt, -, -, -⟩ := starts_cut hs
  have hol : m.order.length = tr.length := by rw [hR.order, List.length_map]
  have hkk := h.kept
  have e1 : mk.od = .slice (some ⟨g, 0, none⟩) s cap := by rw [hkk]; rfl
  have e2 : mk.order = m.order.take s := by rw [hkk]; rfl
  have e3 : mk.odr = m.od := by rw [hkk]; exact hR.odr
  have e4 : mk.ordr = m.order := by rw [hkk]; exact hR.ordr
  have hlen : mk.order.length = s := by rw [e2, List.length_take]; omega
  have ht := Mut.tidy h.mu.at (g := g) (cap := cap) (by rw [e3, e4, hol]; exact hod) (by rw [hlen]; exact e1) (by rw [hlen, e4]; exact e2) (by rw [hlen, e4, hol]; omega)
  have hrep := hR.undone hT hs (.slice (some ⟨g, 0, none⟩) s cap) st
  refine .inr ⟨s, mk.tidy, hs, h.mu.trans ht, ?_, h.ok, fun u => ?_, ?_, ?_⟩
  · have e5 : mk.store = m.store := by rw [hkk]; rfl
    have e6 : mk.starts = m.starts.take l := by rw [hkk]; rfl
    have e7 : mk.facts = blank m.facts ((m.order.drop s).map Int.natAbs) := by rw [hkk]; rfl
    refine ⟨?_, ?_, ?_, ?_, fun i e hi => ?_, fun v h0 h13 hn => ?_, rfl, rfl⟩
    · show mk.store = _; rw [e5]; exact hrep.store
    · show mk.order = _; rw [e2]; exact hrep.order
    · show mk.starts = _; rw [e6]; exact hrep.starts
    · show mk.facts.length = _; rw [e7]; exact hrep.len
    · have := hrep.taken i e hi
      have t1 : ∀ u, mk.tidy.truth u = (m.undone (blank m.facts ((m.order.drop s).map Int.natAbs)) s l (.slice (some ⟨g, 0, none⟩) s cap) st).tidy.truth u := fun u => by show (mk.facts[u * 3]?).getD 0 = _; rw [e7]; rfl
      have t2 : ∀ u, mk.tidy.level u = (m.undone (blank m.facts ((m.order.drop s).map Int.natAbs)) s l (.slice (some ⟨g, 0, none⟩) s cap) st).tidy.level u := fun u => by show (mk.facts[u * 3 + 1]?).getD 0 = _; rw [e7]; rfl
      have t3 : ∀ u, mk.tidy.reason u = (m.undone (blank m.facts ((m.order.drop s).map Int.natAbs)) s l (.slice (some ⟨g, 0, none⟩) s cap) st).tidy.reason u := fun u => by show (mk.facts[u * 3 + 2]?).getD 0 = _; rw [e7]; rfl
      rw [t1, t2, t3]; exact this
    · have t1 : mk.tidy.truth v = (m.undone (blank m.facts ((m.order.drop s).map Int.natAbs)) s l (.slice (some ⟨g, 0, none⟩) s cap) st).tidy.truth v := by show (mk.facts[v * 3]?).getD 0 = _; rw [e7]; rfl
      rw [t1]; exact hrep.free v h0 h13 hn
  · show u ∈ mk.all ↔ _
    rw [h.same]
    constructor
    · rintro (h1 | ⟨i, e, h1, _, h2, h3⟩)
      · exact .inl h1
      · exact .inr ⟨i, e, h1, h2, h3⟩
    · rintro (h1 | ⟨i, e, h1, h2, h3⟩)
      · exact .inl h1
      · have := (List.getElem?_eq_some_iff.1 h2).1
        exact .inr ⟨i, e, h1, by omega, h2, h3⟩
  · exact KeptG.trans (b := m.undone (blank m.facts ((m.order.drop s).map Int.natAbs)) s l (.slice (some ⟨g, 0, none⟩) s cap) st) rfl (KeptG.trans hkk.keptG rfl)
  · show mk.passed = _; rw [hkk]; rfl

set_option maxRecDepth 100000 in
set_option maxHeartbeats 3200000 in
theorem goBack_any (base : Nat) (m : Mem) (cls : List Cl) (tr : Tr) (l : Nat) (w : World) (hS : SAt base w m) (hR : Rep m cls tr) (hT : TrOK cls tr) (hok : HeapOK m.all m.places) (hl12 : l ≤ 12) (hbs : base ≤ w.heap.size) :
    Calls Tryz.prog 120 #[.pointer (some ⟨m.s, 0, none⟩), .int .i64 l] w fun e w' => e = .returned (.tuple #[]) ∧ BackRes base w m cls tr l w' := by
  have HU := hide (undo_any base m cls tr l w hS hR hT hl12)
  have HALL := hide (And.intro hS (And.intro hR (And.intro hT hok)))
  have hll := hT.len
  clear hS hR hT hok
  go_enter Tryz.func120, Tryz.ntmps120
  go_wp2_with fail
  refine (unhide HU).mono ?_
  rintro e w1 (⟨h1, rfl, h2⟩ | ⟨s, g, cap, st, hs, hod, rfl, hm⟩)
  · have HB : Hid (BackRes base w m cls tr l w1) := hide (.inl ⟨h1, h2⟩)
    clear h1 h2
    go_wp2
    refine wp_loop_rounds 1 ?_
    rw [rounds_succ]
    go_wp2
    try go_end0
    exact ⟨rfl, unhide HB⟩
  · obtain ⟨hlt, -, -, -⟩ := starts_cut hs
    have H0 : Hid (∃ mk, GAt base w m (m.undone (blank m.facts ((m.order.drop s).map Int.natAbs)) s l (.slice (some ⟨g, 0, none⟩) s cap) st) tr s 0 w1 mk) := hide ⟨_, hm, (unhide HALL).2.2.2, fun u => ⟨.inl, fun h => h.elim id (fun ⟨i, e, h1, h2, _⟩ => by omega)⟩, KeptQ.refl _⟩
    have HFIN : Hid (∀ wr mk k, GAt base w m (m.undone (blank m.facts ((m.order.drop s).map Int.natAbs)) s l (.slice (some ⟨g, 0, none⟩) s cap) st) tr s k wr mk → k = tr.length - s → BackRes base w m cls tr l wr) := hide (fun wr mk k h hk => h.fin (unhide HALL).2.1 (unhide HALL).2.2.1 hs hod rfl hk)
    have HRD : Hid (∀ wr mk k, GAt base w m (m.undone (blank m.facts ((m.order.drop s).map Int.natAbs)) s l (.slice (some ⟨g, 0, none⟩) s cap) st) tr s k wr mk → s + k < tr.length → ∃ x, (x ≠ 0 ∧ -12 ≤ x ∧ x ≤ 12) ∧ wr.cell? ⟨g, s + k, none⟩ = some (.int .i64 x) ∧ wr.cell? ⟨m.s, 7, none⟩ = some (.pointer (some ⟨m.q, 0, none⟩)) ∧ ∀ wx, Below wr.heap.size wr wx → Calls Tryz.prog 109 #[.pointer (some ⟨m.q, 0, none⟩), .int .i64 ((x.natAbs : Nat) : Int)] wx fun e w' => e = .returned (.tuple #[]) ∧ ∃ mk', GAt base w m (m.undone (blank m.facts ((m.order.drop s).map Int.natAbs)) s l (.slice (some ⟨g, 0, none⟩) s cap) st) tr s (k + 1) w' mk') := hide (by
      obtain ⟨hS, hR, hT, hok⟩ := unhide HALL
      intro wr mk k h hk
      obtain ⟨e, he⟩ : ∃ e, tr[s + k]? = some e := ⟨_, List.getElem?_eq_getElem hk⟩
      have hb := hT.bd _ e he
      have hkk := h.kept
      have e3 : mk.odr = m.od := by rw [hkk]; exact hR.odr
      have e4 : mk.ordr = m.order := by rw [hkk]; exact hR.ordr
      have hol : m.order.length = tr.length := by rw [hR.order, List.length_map]
      have hrow := h.mu.at.pack.rows 6 _ rfl
      unfold Row.ok intRow at hrow
      simp only [e3, e4, hod, hol] at hrow
      refine ⟨e.1, hb, ?_, ?_, fun wx hbx => ?_⟩
      · rw [hrow.cellAt (s + k) (by omega), hR.order]
        simp [ints, he]
      · rw [← h.mu.s, h.mu.at.cell 7 (by decide), ← h.mu.q]; rfl
      · have := put_any base mk e.1.natAbs wx (h.mu.at.below hbx) h.ok (by omega) (by omega) (Nat.le_trans hbs (Nat.le_trans h.mu.to.only.size hbx.size))
        rw [h.mu.q] at this
        refine this.mono (fun e' w' hh => ?_)
        obtain ⟨he', m', hm', hok', hsame, hkept⟩ := hh
        refine ⟨he', m', (h.mu.trans (Mut.below h.mu.at hbx)).trans hm', hok', fun u => ?_, h.kept.trans hkept⟩
        rw [hsame, h.same]
        constructor
        · rintro ((h1 | ⟨i, e2, a1, a2, a3, a4⟩) | h1)
          · exact .inl h1
          · exact .inr ⟨i, e2, a1, by omega, a3, a4⟩
          · exact .inr ⟨s + k, e, by omega, by omega, he, h1⟩
        · rintro (h1 | ⟨i, e2, a1, a2, a3, a4⟩)
          · exact .inl (.inl h1)
          · by_cases hi : i = s + k
            · subst hi
              rw [he] at a3; cases a3
              exact .inr a4
            · exact .inl (.inr ⟨i, e2, a1, by omega, a3, a4⟩))
    clear hs hod hm HALL HU
    generalize hn : tr.length = n at *
    go_wp2
    go_loopw [12] (fun i wr => ∃ k : Nat, k ≤ n - s ∧ i = .int .i64 (k : Int) ∧ Hid (∃ mk, GAt base w m (m.undone (blank m.facts ((m.order.drop s).map Int.natAbs)) s l (.slice (some ⟨g, 0, none⟩) s cap) st) tr s k wr mk)) (fun i _ => n - s - (intOf i).toNat)
    case atStart => exact ⟨0, Nat.zero_le _, rfl, H0⟩
    case round =>
      obtain ⟨k, hk, rfl, HM⟩ := hrel
      obtain ⟨mk, hM⟩ := unhide HM
      by_cases hkn : k < n - s
      · obtain ⟨x, hxb, hck, hc7, hput⟩ := unhide HRD wr mk k hM (by omega)
        have HV := hide (fun wx => variableOf_any x wx hxb.2.1 hxb.2.2)
        have HP := hide hput
        have hki : (k : Int) < ((n - s : Nat) : Int) := by omega
        clear hput hM
        generalize x.natAbs = v at *
        go_wp2_with fail
        go_region_with first | (go_at_call 129; refine (unhide HV _).mono ?_; rintro e w3 ⟨rfl, rfl⟩) | (go_at_call 109; refine (unhide HP _ (by first | exact Below.refl _ _ | exact (Below.refl _ _).drew | exact (Below.refl _ _).drew.drew)).mono ?_; rintro e w4 ⟨rfl, mk4, hM4⟩; have HM4 := hide hM4; clear hM4)
        all_goals (
          go_wp2
          go_roundw
          case rel => exact ⟨k + 1, by omega, by go_num, hide ⟨mk4, unhide HM4⟩⟩
          case measure => simp [intOf]; omega)
      · have hkk : k = n - s := by omega
        have HF := hide (unhide HFIN wr mk k hM hkk)
        have hki : ¬ (k : Int) < ((n - s : Nat) : Int) := by omega
        clear hM
        go_wp2
        try go_end0
        exact ⟨rfl, unhide HF⟩

end Go.Proofs.YtekkkoipcghlmaaGreatDoor

namespace Go.Proofs.YtekkkoipcghlmaaGreatDoor
open Go.RowKit
attribute [local go_sem ↓] Go.wp_at_zero Go.wp_at_succ

set_option maxRecDepth 100000 in
theorem conflict_any (base : Nat) (m0 : Mem) (cls0 : List Cl) (wat0 : Int → List Int) (tr0 : Tr) (n0 : Nat) (w : World) (hS : SAt base w m0) (hR : Rep m0 cls0 tr0) (hW : WatAt m0 wat0) (hI : Rest n0 cls0 wat0 tr0) (hpa : m0.passed = (n0 : Int)) (hsz : m0.store.length ≤ 9000000) (hbs : base ≤ w.heap.size) (hbr : m0.broken = -1) :
    Calls Tryz.prog 72 #[.pointer (some ⟨m0.s, 0, none⟩)] w fun e w' => PropRes base w m0 cls0 tr0 e w' := by
  have HP := hide (propagate_any base m0 cls0 wat0 tr0 n0 w hS hR hW hI hpa hsz hbs)
  have hc : w.cell? ⟨m0.s, 11, none⟩ = some (.int .i64 (-1)) := by rw [hS.cell 11 (by decide), ← hbr]; rfl
  clear hS hR hW hI hpa hsz hbs hbr
  go_enter Tryz.func72, Tryz.ntmps72
  go_wp2_with fail
  refine (unhide HP).mono ?_
  rintro e w1 ⟨m, cls, wat, tr, bad, rfl, hh⟩
  have HH := hide hh
  clear hh
  go_wp2
  try go_ret
  exact ⟨m, cls, wat, tr, bad, rfl, unhide HH⟩
set_option maxRecDepth 100000 in
theorem broken_any (base : Nat) (m0 : Mem) (w : World) (hS : SAt base w m0) (hbr : m0.broken ≠ -1) :
    Calls Tryz.prog 72 #[.pointer (some ⟨m0.s, 0, none⟩)] w fun e w' => e = .returned (.int .i64 m0.broken) ∧ w' = w := by
  have hc : w.cell? ⟨m0.s, 11, none⟩ = some (.int .i64 m0.broken) := by rw [hS.cell 11 (by decide)]; rfl
  have hq : (m0.broken != -1) = true := by simpa using hbr
  clear hS hbr
  go_enter Tryz.func72, Tryz.ntmps72
  go_wp2
  try go_ret
  exact ⟨rfl, rfl⟩

def Mem.metSet (m : Mem) (n : Int) : Mem := { m with rmet := n }
def Mem.lenSet (m : Mem) (n : Int) : Mem := { m with rlen := n }
section
variable {base : Nat} {w : World} {m : Mem}
theorem Mut.metSet (h : SAt base w m) (n : Int) : Mut base w m (w.setCell ⟨m.s, 9, none⟩ (.int .i64 n)) (m.metSet n) := ⟨h.field 9 (.int .i64 n), h.ws, h.ls, h.counts, h.places, rfl, rfl, rfl⟩
theorem Mut.lenSet (h : SAt base w m) (n : Int) : Mut base w m (w.setCell ⟨m.s, 8, none⟩ (.int .i64 n)) (m.lenSet n) := ⟨h.field 8 (.int .i64 n), h.ws, h.ls, h.counts, h.places, rfl, rfl, rfl⟩
end
set_option maxRecDepth 100000 in
theorem over_any (base : Nat) (m : Mem) (w : World) (hS : SAt base w m) (hm0 : 0 ≤ m.rmet) (hm : m.rmet ≤ 1000000000) :
    Calls Tryz.prog 76 #[.pointer (some ⟨m.s, 8, none⟩)] w fun e w' => e = .returned (.bool (decide (m.rlen ≤ m.rmet + 1))) ∧ Mut base w m w' (m.metSet (m.rmet + 1)) := by
  have hc8 : w.cell? ⟨m.s, 8, none⟩ = some (.int .i64 m.rlen) := by rw [hS.cell 8 (by decide)]; rfl
  have hc9 : w.cell? ⟨m.s, 9, none⟩ = some (.int .i64 m.rmet) := by rw [hS.cell 9 (by decide)]; rfl
  have hf9 := hS.free 9
  have HM := hide (Mut.metSet hS (m.rmet + 1))
  clear hS
  generalize m.metSet (m.rmet + 1) = m1 at *
  generalize m.rmet = rm at *
  generalize m.rlen = rl at *
  go_enter Tryz.func76, Tryz.ntmps76
  go_wp2_with fail
  go_quiet (fail)
  go_wp2
  try go_ret
  exact ⟨rfl, (unhide HM).trans (Mut.below (unhide HM).at (belowDrew (Below.refl _ _) _))⟩
set_option maxRecDepth 100000 in
theorem roundsNext_any (base : Nat) (m : Mem) (w : World) (hS : SAt base w m) (hm0 : 0 ≤ m.rlen) (hm : m.rlen ≤ 1000000000) :
    Calls Tryz.prog 125 #[.pointer (some ⟨m.s, 8, none⟩)] w fun e w' => e = .returned (.tuple #[]) ∧ Mut base w m w' ((m.lenSet (m.rlen + m.rlen / 2)).metSet 0) := by
  have hc8 : w.cell? ⟨m.s, 8, none⟩ = some (.int .i64 m.rlen) := by rw [hS.cell 8 (by decide)]; rfl
  have hc9 : w.cell? ⟨m.s, 9, none⟩ = some (.int .i64 m.rmet) := by rw [hS.cell 9 (by decide)]; rfl
  have hf8 := hS.free 8
  have hf9 := hS.free 9
  have HM : Hid (∀ wq, Below w.heap.size w wq → Mut base w m ((wq.setCell ⟨m.s, 8, none⟩ (.int .i64 (m.rlen + m.rlen / 2))).setCell ⟨m.s, 9, none⟩ (.int .i64 0)) ((m.lenSet (m.rlen + m.rlen / 2)).metSet 0)) := hide (fun wq hq => by
    have h1 := Mut.lenSet (hS.below hq) (m.rlen + m.rlen / 2)
    have h2 := Mut.metSet h1.at 0
    exact (Mut.below hS hq).trans (h1.trans h2))
  clear hS
  generalize (m.lenSet (m.rlen + m.rlen / 2)).metSet 0 = m1 at *
  generalize m.rlen = rl at *
  go_enter Tryz.func125, Tryz.ntmps125
  go_wp2_with fail
  go_region
  all_goals go_wp2
  all_goals try go_end0
  all_goals first | exact ⟨rfl, (unhide HM _ (Below.refl _ _)).drew⟩ | exact ⟨rfl, unhide HM _ (Below.refl _ _)⟩ | exact ⟨rfl, unhide HM _ (Below.refl _ _).drew⟩

end Go.Proofs.YtekkkoipcghlmaaGreatDoor

namespace Go.Proofs.YtekkkoipcghlmaaGreatDoor
open Go.RowKit
attribute [local go_sem ↓] Go.wp_at_zero Go.wp_at_succ

theorem take_shorter {l l' : List Int} (h : l.Nodup) (h' : l'.Nodup) {v : Int} (hv : v ∈ l) (hm : ∀ u, u ∈ l' ↔ u ∈ l ∧ u ≠ v) : l'.length + 1 = l.length := by
  have hp : (v :: l').Perm l := (List.perm_ext_iff_of_nodup (List.nodup_cons.2 ⟨fun hx => ((hm v).1 hx).2 rfl, h'⟩) h).2 (fun a => by
    rw [List.mem_cons, hm]
    constructor
    · rintro (rfl | h1)
      · exact hv
      · exact h1.1
    · intro ha
      by_cases e : a = v
      · exact .inl e
      · exact .inr ⟨ha, e⟩)
  have := hp.length_eq
  simpa using this
def heapLen (q : Nat) (w : World) : Nat := match w.cell? ⟨q, 2, none⟩ with
  | some (.slice _ n _) => n
  | _ => 0
theorem SAt.heapLen {base : Nat} {w : World} {m : Mem} (h : SAt base w m) : heapLen m.q w = m.all.length := by
  have hc : w.cell? ⟨m.q, 2, none⟩ = some m.al := by rw [h.qcell 2 (by decide)]; rfl
  obtain ⟨ao, cp, hsh⟩ := owns_shape (h.pack.rows 8 _ rfl)
  have hsh' : m.al = .slice ao m.all.length cp := hsh
  unfold Go.Proofs.YtekkkoipcghlmaaGreatDoor.heapLen
  rw [hc, hsh']

/-- What comes next. -/
def NextRes (base : Nat) (w : World) (m : Mem) (tr : Tr) (e : Ending) (w' : World) : Prop :=
  (∃ x, x ∈ m.assumed ∧ ¬ Tru tr x ∧ e = .returned (.int .i64 x) ∧ Mut base w m w' m) ∨
  ((∀ x, x ∈ m.assumed → Tru tr x) ∧ ∃ m', Mut base w m w' m' ∧ HeapOK m'.all m'.places ∧ KeptQ m m' ∧
    ((e = .returned (.int .i64 0) ∧ ∀ v : Nat, 0 < v → v ≤ 12 → m.truth v ≠ 0) ∨
     (∃ v : Nat, 0 < v ∧ v ≤ 12 ∧ m.truth v = 0 ∧ e = .returned (.int .i64 (-(v : Int))) ∧ ∀ u : Nat, 0 < u → u ≤ 12 → m.truth u = 0 → u ≠ v → (u : Int) ∈ m'.all)))
/-- While variables that are not open go. -/
structure NAt (base : Nat) (w : World) (m : Mem) (wr : World) (mk : Mem) : Prop where
  mu : Mut base w m wr mk
  ok : HeapOK mk.all mk.places
  kept : KeptQ m mk
  free : ∀ u : Nat, 0 < u → u ≤ 12 → m.truth u = 0 → (u : Int) ∈ mk.all

set_option maxRecDepth 100000 in
set_option maxHeartbeats 3200000 in
theorem next_any (base : Nat) (m : Mem) (cls : List Cl) (tr : Tr) (w : World) (hS : SAt base w m) (hR : Rep m cls tr) (hok : HeapOK m.all m.places) (hfree : ∀ u : Nat, 0 < u → u ≤ 12 → m.truth u = 0 → (u : Int) ∈ m.all) (has : ∀ x, x ∈ m.assumed → x ≠ 0 ∧ -12 ≤ x ∧ x ≤ 12) (hal : m.assumed.length ≤ 10000000) :
    Calls Tryz.prog 78 #[.pointer (some ⟨m.s, 0, none⟩)] w fun e w' => NextRes base w m tr e w' := by
  have hc12 : w.cell? ⟨m.s, 12, none⟩ = some m.asm := by rw [hS.cell 12 (by decide)]; rfl
  obtain ⟨ao, cp, hsh⟩ := owns_shape (hS.pack.rows 11 _ rfl)
  have hsh' : m.asm = .slice ao m.assumed.length cp := hsh
  rw [hsh'] at hc12
  have HRD : Hid (∀ wr k, Below w.heap.size w wr → k < m.assumed.length → ∃ g x, ao = some ⟨g, 0, none⟩ ∧ m.assumed[k]? = some x ∧ wr.cell? ⟨g, k, none⟩ = some (.int .i64 x) ∧ ∀ wx, Below w.heap.size w wx → Calls Tryz.prog 126 #[.pointer (some ⟨m.s, 3, none⟩), .int .i64 x] wx fun e w' => e = .returned (.bool (m.truth x.natAbs == x)) ∧ Below w.heap.size w w') := hide (by
    intro wr k hb hk
    have hrow := (hS.below hb).pack.rows 11 _ rfl
    unfold Row.ok intRow at hrow
    simp only [hsh'] at hrow
    obtain ⟨g, cap2, hv, -, -⟩ := World.ownsRow.form hrow (by omega)
    simp only [Value.slice.injEq, true_and] at hv
    obtain ⟨rfl, rfl⟩ := hv
    have hx : m.assumed[k]? = some m.assumed[k] := List.getElem?_eq_getElem hk
    have hb2 := has _ (List.mem_of_getElem? hx)
    refine ⟨g, m.assumed[k], rfl, hx, ?_, fun wx hbx => ?_⟩
    · rw [hrow.cellAt k (by omega)]
      simp [ints, hk]
    · exact (isTrue_any base m _ wx (hS.below hbx) hb2.2.1 hb2.2.2).mono (fun e w' hh => And.intro hh.1 (hbx.trans (hh.2.mono hbx.size))))
  have HA : Hid (∀ w' x k, m.assumed[k]? = some x → m.truth x.natAbs ≠ x → Below w.heap.size w w' → NextRes base w m tr (.returned (.int .i64 x)) w') := hide (fun w' x k hx ht hb => by
    have hm := List.mem_of_getElem? hx
    have hb2 := has x hm
    exact .inl ⟨x, hm, fun hT => ht ((hR.is_true x hb2.1 hb2.2.1 hb2.2.2).2 hT), rfl, Mut.below hS hb⟩)
  have HN0 : Hid (∀ wr, Below w.heap.size w wr → NAt base w m wr m) := hide (fun wr hb => ⟨Mut.below hS hb, hok, KeptQ.refl _, hfree⟩)
  have HTA : Hid ((∀ x, x ∈ m.assumed → m.truth x.natAbs = x) → ∀ x, x ∈ m.assumed → Tru tr x) := hide (fun h x hx => by
    have hb2 := has x hx
    exact (hR.is_true x hb2.1 hb2.2.1 hb2.2.2).1 (h x hx))
  have HTK : Hid (∀ wr mk, NAt base w m wr mk → ∀ wx, Below wr.heap.size wr wx → wr.cell? ⟨m.s, 7, none⟩ = some (.pointer (some ⟨m.q, 0, none⟩)) ∧ Calls Tryz.prog 127 #[.pointer (some ⟨m.q, 0, none⟩)] wx fun e w' => (∃ mk', e = .returned (.tuple #[.int .i64 0, .bool false]) ∧ NAt base w m w' mk' ∧ ∀ v : Nat, 0 < v → v ≤ 12 → m.truth v ≠ 0) ∨ (∃ (v : Nat) (mk' : Mem), 0 < v ∧ v ≤ 12 ∧ e = .returned (.tuple #[.int .i64 v, .bool true]) ∧ Mut base w m w' mk' ∧ HeapOK mk'.all mk'.places ∧ KeptQ m mk' ∧ (∀ u : Nat, 0 < u → u ≤ 12 → m.truth u = 0 → u ≠ v → (u : Int) ∈ mk'.all) ∧ mk'.all.length + 1 = mk.all.length)) := hide (by
    intro wr mk h wx hbx
    refine ⟨by rw [← h.mu.s, h.mu.at.cell 7 (by decide), ← h.mu.q]; rfl, ?_⟩
    have := take1_any base mk wx (h.mu.at.below hbx) h.ok
    rw [h.mu.q] at this
    refine this.mono (fun e w' hh => ?_)
    rcases hh with ⟨h1, rfl, h3⟩ | ⟨v, m', h1, rfl, h3, h4, h5, h6⟩
    · refine .inl ⟨mk, rfl, ⟨(h.mu.trans (Mut.below h.mu.at hbx)).trans h3, h.ok, h.kept, h.free⟩, fun v h0 h12 hz => ?_⟩
      have := h.free v h0 h12 hz
      rw [h1] at this
      cases this
    · have hb := h.ok.bd _ h1
      refine .inr ⟨v, m', by omega, by omega, rfl, (h.mu.trans (Mut.below h.mu.at hbx)).trans h3, h4, h.kept.trans h6, fun u h0 h12 hz hne => ?_, take_shorter h.ok.nodup h4.nodup h1 h5⟩
      exact (h5 u).2 ⟨h.free u h0 h12 hz, by omega⟩)
  have HOP : Hid (∀ wr mk v, Mut base w m wr mk → KeptQ m mk → v ≤ 12 → Calls Tryz.prog 113 #[.pointer (some ⟨m.s, 3, none⟩), .int .i64 ((v : Nat) : Int)] wr fun e w' => e = .returned (.bool (m.truth v == 0)) ∧ Mut base w m w' mk) := hide (by
    intro wr mk v hm hk hv
    have := isOpen_any base mk (v : Int) wr hm.at (by omega) (by omega)
    rw [hm.s, Int.natAbs_natCast] at this
    have e : mk.truth v = m.truth v := by unfold Mem.truth; rw [hk]
    rw [e] at this
    exact this.mono (fun e w' hh => ⟨hh.1, hm.trans (Mut.below hm.at hh.2)⟩))
  have HHL : Hid (∀ wr mk, Mut base w m wr mk → heapLen m.q wr = mk.all.length) := hide (fun wr mk h => by rw [← h.q]; exact h.at.heapLen)
  have hss := hS.lt.1
  clear hS hR hok hfree has hsh hsh'
  generalize hN : m.assumed.length = N at *
  go_enter Tryz.func78, Tryz.ntmps78
  go_wp2
  go_loopw [12] (fun i wr => ∃ k : Nat, k ≤ N ∧ i = .int .i64 (k : Int) ∧ Hid (Below w.heap.size w wr) ∧ Hid (∀ x, x ∈ m.assumed.take k → m.truth x.natAbs = x)) (fun i _ => N - (intOf i).toNat)
  case atStart => exact ⟨0, Nat.zero_le _, rfl, hide (Below.refl _ _), hide (fun x hx => by simp at hx)⟩
  case round =>
    obtain ⟨k, hk, rfl, HB, HT⟩ := hrel
    have hbr := unhide HB
    by_cases hkN : k < N
    · obtain ⟨g, x, rfl, hx, hck, hist⟩ := unhide HRD wr k hbr (by omega)
      have HX := hide hx
      have HTS : Hid (∀ y, y ∈ m.assumed.take (k + 1) → y ∈ m.assumed.take k ∨ y = x) := hide (fun y hy => by
        have hlt := (List.getElem?_eq_some_iff.1 hx)
        rw [List.take_succ_eq_append_getElem hlt.1, hlt.2] at hy
        rcases List.mem_append.1 hy with h | h
        · exact .inl h
        · exact .inr (by simpa using h))
      have HIT := hide (hist wr hbr)
      have hki : (k : Int) < (N : Int) := by omega
      clear hx hist
      by_cases ht : m.truth x.natAbs = x
      · have hq : (m.truth x.natAbs == x) = true := by simpa using ht
        rw [hq] at HIT
        have HTX := hide ht
        clear hq ht
        go_wp2_with fail
        refine (unhide HIT).mono ?_
        rintro e w2 ⟨rfl, hb2⟩
        have HB2 := hide hb2
        clear hb2
        go_wp2
        go_roundw
        case rel => exact ⟨k + 1, by omega, by go_num, HB2, hide (fun y hy => by
          rcases unhide HTS y hy with h | h
          · exact unhide HT y h
          · rw [h]; exact unhide HTX)⟩
        case measure => simp [intOf]; omega
      · have hq : (m.truth x.natAbs == x) = false := by simpa using ht
        rw [hq] at HIT
        have HAX := hide (fun w' => unhide HA w' x k (unhide HX) ht)
        clear hq ht
        go_wp2_with fail
        refine (unhide HIT).mono ?_
        rintro e w2 ⟨rfl, hb2⟩
        have HB2 := hide hb2
        clear hb2
        go_wp2
        try go_ret
        exact unhide HAX _ (unhide HB2)
    · have hki : ¬ (k : Int) < (N : Int) := by omega
      have HALL : Hid (∀ x, x ∈ m.assumed → Tru tr x) := hide (unhide HTA (fun x hx => unhide HT x (by rw [List.take_of_length_le (by omega)]; exact hx)))
      have HN1 := hide (unhide HN0 wr hbr)
      clear hbr HT HRD HA HTA
      go_wp2
      go_loopw [] (fun wr => Hid (∃ mk, NAt base w m wr mk)) (fun wr => heapLen m.q wr)
      case atStart => exact hide ⟨m, unhide HN1⟩
      case round =>
        obtain ⟨mk, hn⟩ := unhide hrel
        obtain ⟨c7, htake⟩ := unhide HTK _ mk hn _ (Below.refl _ _)
        have HHM := hide (unhide HHL _ mk hn.mu)
        have HTAKE := hide htake
        clear htake hn hrel
        go_wp2_with fail
        refine (unhide HTAKE).mono ?_
        rintro e w3 (⟨mk3, rfl, hn3, hall⟩ | ⟨v, mk3, hv0, hv12, rfl, hm3, hok3, hk3, hf3, hl3⟩)
        · have HR : Hid (NextRes base w m tr (.returned (.int .i64 0)) w3) := hide (.inr ⟨unhide HALL, mk3, hn3.mu, hn3.ok, hn3.kept, .inl ⟨rfl, hall⟩⟩)
          clear hn3 hall
          go_wp2
          try go_ret
          exact unhide HR
        · have HO := hide (unhide HOP w3 mk3 v hm3 hk3 hv12)
          have HL3 := hide hl3
          have HK3 := hide (And.intro hok3 (And.intro hk3 hf3))
          clear hl3 hok3 hk3 hf3 hm3
          by_cases hz : m.truth v = 0
          · have hq : (m.truth v == 0) = true := by rw [hz]; rfl
            rw [hq] at HO
            have HZ := hide hz
            clear hq hz
            go_wp2_with fail
            refine (unhide HO).mono ?_
            rintro e w4 ⟨rfl, hm4⟩
            have HR : Hid (NextRes base w m tr (.returned (.int .i64 (-(v : Int)))) w4) := hide (.inr ⟨unhide HALL, mk3, hm4, (unhide HK3).1, (unhide HK3).2.1, .inr ⟨v, hv0, hv12, unhide HZ, rfl, (unhide HK3).2.2⟩⟩)
            clear hm4
            go_wp2
            try go_ret
            exact unhide HR
          · have hq : (m.truth v == 0) = false := by simpa using hz
            rw [hq] at HO
            have HZ := hide hz
            clear hq hz
            go_wp2_with fail
            refine (unhide HO).mono ?_
            rintro e w4 ⟨rfl, hm4⟩
            have HM4 := hide hm4
            clear hm4
            go_wp2
            go_roundw
            case rel => exact hide ⟨mk3, unhide HM4, (unhide HK3).1, (unhide HK3).2.1, fun u h0 h12 hu => (unhide HK3).2.2 u h0 h12 hu (fun e => unhide HZ (by rw [← e]; exact hu))⟩
            case measure =>
              have h1 := unhide HHL _ mk3 (unhide HM4)
              have h2 := unhide HHM
              have h3 := unhide HL3
              rw [h1, h2]; omega

end Go.Proofs.YtekkkoipcghlmaaGreatDoor
