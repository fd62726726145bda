import Derived.Test.YtekkkoipcghlmaaDoorQ7
import Derived.Deep.AppendLies
import Derived.WalkSmall
namespace Go.Proofs.YtekkkoipcghlmaaDoor
open Go.RowKit Go.Maps

theorem Tryd.infoEntry : (Tryd.prog.info? 102).map (fun i => (i.zero, i.size, i.bytes)) = some (some (.agg #[.int .u32 0, .int .i64 0]), 2, 16) := by kernel_rfl

theorem Places.put {D : DataW Unit} {E : List (Nat × Nat)} (h : Places D E) (hD : IsMap D) {m : Nat} (hno : ∀ x, x ∈ E → x.1 ≠ m) : Places (D.put (Key m) (.lit (.int .i64 (E.length : Int)))) (E ++ [(m, 0)]) := by
  have hk : WideAt.IsKeyLit (Key m) := trivial
  have hne : ∀ c : Nat, c ≠ m → Key c ≠ Key m := fun c hc e => hc (by unfold Key at e; simp at e; omega)
  refine ⟨fun i x hx => ?_, fun c hc => ?_⟩
  · rcases Nat.lt_trichotomy i E.length with hi | hi | hi
    · rw [List.getElem?_append_left hi] at hx
      have hxm := hno x (List.mem_of_getElem? hx)
      rw [has_put_other (hne _ hxm), atKey_put_other (hne _ hxm)]
      exact h.there i x hx
    · subst hi
      simp at hx
      subst hx
      exact ⟨has_put_same hD hk _, atKey_put_same hD hk _ _⟩
    · rw [List.getElem?_eq_none (by simp; omega)] at hx; cases hx
  · have hcm : c ≠ m := fun e => hc (m, 0) (by simp) e.symm
    rw [has_put_other (hne _ hcm)]
    exact h.not c (fun x hx => hc x (by simp [hx]))

theorem ListAt.afterPut {base : Nat} {w w1 : World} {p bm : Nat} {ev : Value} {D : DataW Unit} {E : List (Nat × Nat)} (h : ListAt base w p bm ev D E) (hg : w.grownBy w1 (some bm)) :
    w1.heap[p]? = some (.cells #[ev, .map (some bm)] 86 (0, 0)) ∧ w1.ownsRow base 102 2 ev E.length (ents E) ∧ Below base w w1 ∧ Frame bm w w1 := by
  have hsz : base ≤ w.heap.size := Nat.le_trans h.lep (Nat.le_of_lt (block_lt h.block))
  refine ⟨?_, h.row.kept hg (.inr (fun e => h.row_not_map e.symm)), (Below.refl _ _).grown hg hsz (fun k hk => by simp at hk; subst hk; exact h.lem), Frame.grown hg (fun k o hk _ => .inl (by simpa using hk.symm))⟩
  rw [hg.block p (block_lt h.block) (by simpa using fun e => h.map_not_p e.symm)]
  exact h.block

theorem ListAt.added {base : Nat} {w w1 w2 : World} {p bm : Nat} {ev : Value} {D : DataW Unit} {E : List (Nat × Nat)} (h : ListAt base w p bm ev D E) {m g' cap' : Nat} {o : Obj} (hno : ∀ x, x ∈ E → x.1 ≠ m)
    (hown1 : w1.ownsMap Tryd.prog 50 (plainElem Tryd.prog 3) bm (E.length + 1) (D.put (Key m) (.lit (.int .i64 (E.length : Int))))) (hg1 : w.grownBy w1 (some bm))
    (hown2 : w2.ownsRow base 102 2 (.slice (some ⟨g', 0, none⟩) (E.length + 1) cap') (E.length + 1) (ents E ++ [.int .u32 (m : Int), .int .i64 0]))
    (hg2 : (w1.alloc o).grownBy w2 ev.ownBlock) (hloc : ev.ownBlock = some g' ∨ g' = (w1.alloc o).heap.size) :
    w2.heap[p]? = some (.cells #[ev, .map (some bm)] 86 (0, 0)) ∧
    ListAt base (w2.setCell ⟨p, 0, none⟩ (.slice (some ⟨g', 0, none⟩) (E.length + 1) cap')) p bm (.slice (some ⟨g', 0, none⟩) (E.length + 1) cap') (D.put (Key m) (.lit (.int .i64 (E.length : Int)))) (E ++ [(m, 0)]) ∧
    Below base w (w2.setCell ⟨p, 0, none⟩ (.slice (some ⟨g', 0, none⟩) (E.length + 1) cap')) ∧ Frame bm w (w2.setCell ⟨p, 0, none⟩ (.slice (some ⟨g', 0, none⟩) (E.length + 1) cap')) := by
  obtain ⟨hp1, hr1, hb1, hf1⟩ := h.afterPut hg1
  have hp1' : (w1.alloc o).heap[p]? = some (.cells #[ev, .map (some bm)] 86 (0, 0)) := by rw [Below.heap_alloc _ _ _ (block_lt hp1)]; exact hp1
  have hp2 : w2.heap[p]? = some (.cells #[ev, .map (some bm)] 86 (0, 0)) := by
    rw [hg2.block p (block_lt hp1') (fun e => h.row_not_p e.symm)]; exact hp1'
  have hgp : g' ≠ p := by
    rcases hloc with hl | hl
    · intro e; subst e; exact h.row_not_p hl
    · have := block_lt hp1; simp at hl; omega
  have hm2 := ((hown1.alloc o).kept hg2 h.row_not_map)
  refine ⟨hp2, ⟨?_, h.lep, h.lem, ?_, ?_, ?_⟩, ?_, ((hf1.trans (Frame.below ((Below.refl _ w1).alloc (Nat.le_refl _) o))).trans (Frame.grown hg2 (fun k o' hk ho => .inr (row_frame (hr1.alloc o) k o' hk ho)))).trans (Frame.set hp2 (.inl rfl) _)⟩
  · rw [heap_setCell_same w2 p 0 _ _ _ hp2]; rfl
  · rw [List.length_append, ents_snoc]
    exact ownsRow_setCell_other hown2 (a := ⟨p, 0, none⟩) (by simp [Value.ownBlock]; exact hgp) _
  · rw [List.length_append]
    exact hm2.setCell (a := ⟨p, 0, none⟩) h.map_not_p _
  · exact h.places.put h.map.isMap hno
  · have hsz1 : base ≤ (w1.alloc o).heap.size := Nat.le_trans h.lep (Nat.le_of_lt (block_lt hp1'))
    have hsz0 : base ≤ w1.heap.size := Nat.le_trans h.lep (Nat.le_of_lt (block_lt hp1))
    exact ((hb1.alloc hsz0 o).grown hg2 hsz1 (fun k hk => (h.row.lt k hk).1)).setCell (p := ⟨p, 0, none⟩) h.lep _

theorem ListAt.lastCell {base : Nat} {w : World} {p bm g' cap' m : Nat} {D : DataW Unit} {E : List (Nat × Nat)} (h : ListAt base w p bm (.slice (some ⟨g', 0, none⟩) (E.length + 1) cap') D (E ++ [(m, 0)])) : w.cell? ⟨g', E.length * 2 + 1, none⟩ = some (.int .i64 0) := by
  have hr := h.row
  rw [List.length_append, List.length_singleton] at hr
  rw [hr.cellAt (E.length * 2 + 1) (by omega)]
  exact (ents_get (E ++ [(m, 0)]) E.length (m, 0) (by simp)).2
theorem ListAt.lastFree {base : Nat} {w : World} {p bm g' cap' m : Nat} {D : DataW Unit} {E : List (Nat × Nat)} (h : ListAt base w p bm (.slice (some ⟨g', 0, none⟩) (E.length + 1) cap') D (E ++ [(m, 0)])) : w.frozen? ⟨g', E.length * 2 + 1, none⟩ = false := by
  have hr := h.row
  rw [List.length_append, List.length_singleton] at hr
  exact hr.frozenAt (E.length * 2 + 1)

theorem append_entry {ops : Array Oper} {rest : List Oper} {o : Oper} {a : Act} {Q : Exit → Act → World → Prop} {w1 : World} {base n m : Nat} {v : Value} {xs : List Value} {tt : TypeId}
    (hgd : o.guard = none) (s x : Operand) (ho : o.op = .call { callee := .builtin .append, args := #[s, x], argTypes := #[84, 84] })
    (hown : w1.ownsRow base 102 2 v n xs) (hs : a.eval s = v) (hx : a.eval x = .slice (some ⟨w1.heap.size, 0, none⟩) 1 1) (hn : n ≤ 20000000) (hbase : base ≤ w1.heap.size)
    (h : ∀ (g cap : Nat) (w' : World), w'.ownsRow base 102 2 (.slice (some ⟨g, 0, none⟩) (n + 1) cap) (n + 1) (xs ++ [.int .u32 (m : Int), .int .i64 0]) → (w1.alloc (.cells #[.int .u32 (m : Int), .int .i64 0] tt)).grownBy w' v.ownBlock → (v.ownBlock = some g ∨ g = (w1.alloc (.cells #[.int .u32 (m : Int), .int .i64 0] tt)).heap.size) → wpList Tryd.prog ops Q rest (a.put o.dst (.slice (some ⟨g, 0, none⟩) (n + 1) cap)) w') :
    wpList Tryd.prog ops Q (o :: rest) a (w1.alloc (.cells #[.int .u32 (m : Int), .int .i64 0] tt)) := by
  obtain ⟨i0, hi0, hz0, hz1, hz2⟩ := info_parts Tryd.infoEntry
  refine wpList_append_lies (P := Tryd.prog) _ hgd s x 84 ho base 102 i0 _ 2 16 Tryd.underlying84 hi0 hz0 hz1 hz2 rfl (by decide) v n xs hs (hown.alloc _) ⟨w1.heap.size, 0, none⟩ 1 1 [.int .u32 (m : Int), .int .i64 0] hx rfl (cell_two_new _ _ _ _) ?_ (by decide) (by unfold maxLen; omega) (by omega) (by simp; omega) _ rfl ?_
  · intro u hu; simp at hu; rcases hu with rfl | rfl <;> rfl
  · intro g cap w' h1 h2 h3 _
    exact h g cap w' h1 h2 h3

def AddRes (base p bm n m : Nat) (L : List Nat) (w : World) (w' : World) : Prop := St base w' p bm (n + 1) (L ++ [m]) ∧ Below base w w' ∧ Frame bm w w'

set_option maxRecDepth 100000 in
set_option maxHeartbeats 1600000 in
theorem add_any (base p bm n m : Nat) (L : List Nat) (w : World) (hst : St base w p bm n L) (hn : n ≤ 10000000) (hl : L.length ≤ 10000000) (hm : m < 2 ^ 24) :
    Calls Tryd.prog 43 #[.pointer (some ⟨p, 0, none⟩), .int .u32 m] w fun e w' => e = .returned (.tuple #[]) ∧ AddRes base p bm n m L w w' := by
  obtain ⟨ev, D, E, hla, hbag, hEn⟩ := hst
  have hc0 := hla.cell0
  have hc1 := hla.cell1
  have HMAP := hide hla.map
  have HLA := hide hla
  have HBAG := hide hbag
  rcases find_entry E m with hno | ⟨i, t, hi⟩
  · have HHAS := hide (hla.places.not m hno)
    have HNO := hide hno
    obtain ⟨eo, ec, hes⟩ : ∃ ao cap, ev = .slice ao E.length cap := ents_shape hla.lies
    subst hes
    have hEl : E.length ≤ 10000000 := by omega
    have hsz : base ≤ w.heap.size := Nat.le_trans hla.lep (Nat.le_of_lt (block_lt hla.block))
    have HFB : Hid (Bag (E ++ [(m, 1)]) (L ++ [m])) := hide (hbag.new hno)
    clear hla hbag hno
    go_enter Tryd.func43, Tryd.ntmps43
    go_wp2_with (first
      | (at_lookup; refine wpList_lookup_own_ok_int _ rfl _ _ 83 rfl 50 3 .i64 Tryd.keyLaw Tryd.underlying83 Tryd.underlying3 (Tryd.zeroInt _) bm _ D rfl (unhide HMAP) _ _ rfl (keyOf_clause hm) ?_; rw [unhide HHAS]; intro c hat hwc; clear hat hwc)
      | (at_mapUpdate; refine wpList_mapUpdate_own _ rfl _ _ _ 83 rfl 50 3 Tryd.keyLaw Tryd.underlying83 _ bm E.length D rfl (unhide HMAP) (by unfold maxLen; omega) _ _ _ rfl rfl (keyOf_clause hm) (.lit (.int .i64 (E.length : Int))) [] (plainElem_int Tryd.underlying3 (WalkArith.wf_i64 (by omega))) ?_; intro w1 hown1 hgrow1; have HOWN1 := hide hown1; have HG1 := hide hgrow1; have HP1 := hide (ListAt.afterPut (unhide HLA) hgrow1); clear hown1 hgrow1; have hc01 : w1.cell? ⟨p, 0, none⟩ = some (.slice eo E.length ec) := by simp [World.cell?, (unhide HP1).1])
      | (at_builtin; refine append_entry (m := m) rfl _ _ rfl (unhide HP1).2.1 rfl rfl (by omega) (Nat.le_trans hsz (unhide HP1).2.2.1.size) ?_; intro g' cap' w2 hown2 hgr2 hloc; have HADD := hide (ListAt.added (unhide HLA) (unhide HNO) (unhide HOWN1) (unhide HG1) hown2 hgr2 hloc); clear hown2 hgr2 hloc; have hc02 : w2.cell? ⟨p, 0, none⟩ = some (.slice eo E.length ec) := (by simp [World.cell?, (unhide HADD).1]); have hf02 : w2.frozen? ⟨p, 0, none⟩ = false := frozen_of_row w2 p 0 _ _ (unhide HADD).1; have hct3 := ListAt.lastCell (unhide HADD).2.1; have hfr3 := ListAt.lastFree (unhide HADD).2.1)
      | go_in)
    go_end0
    obtain ⟨_, f1, f2⟩ := unhide HADD
    have f3 := f1.times (g := g') (cap := cap') (i := E.length) (c := m) (t := 0) (t' := 1) (by rw [List.length_append]; rfl) (by simp)
    have e2 : (E ++ [(m, 0)]).set E.length (m, 1) = E ++ [(m, 1)] := by simp
    rw [e2] at f3
    exact ⟨rfl, ⟨_, _, _, f3.1, unhide HFB, by simp; omega⟩, f2.1.trans f3.2.1, f2.2.trans f3.2.2⟩
  · have hil : i < E.length := (List.getElem?_eq_some_iff.1 hi).1
    have hcnt := hbag.count (m, t) (List.mem_of_getElem? hi)
    simp only at hcnt
    have htl : t ≤ 10000000 := by rw [← hcnt]; exact Nat.le_trans List.count_le_length hl
    obtain ⟨hhas, hat0⟩ := hla.places.there i (m, t) hi
    have HHAS := hide hhas
    have HAT := hide hat0
    have HI := hide hi
    obtain ⟨g, cap, hsh⟩ : ∃ g cap, ev = .slice (some ⟨g, 0, none⟩) E.length cap := by
      rcases hla.row.2 with ⟨_, hn0⟩ | ⟨g, cap, cur, hv, _⟩
      · omega
      · exact ⟨g, cap, hv⟩
    subst hsh
    have hct : w.cell? ⟨g, i * 2 + 1, none⟩ = some (.int .i64 (t : Int)) := by rw [hla.row.cellAt (i * 2 + 1) (by omega)]; exact (ents_get E i (m, t) hi).2
    have hfr := hla.row.frozenAt (i * 2 + 1)
    clear hla hbag hhas hat0 hi hcnt
    have HFIN := hide (ListAt.times (unhide HLA) (t' := t + 1) rfl (unhide HI))
    go_enter Tryd.func43, Tryd.ntmps43
    go_wp2_with (first | (at_lookup; refine wpList_lookup_own_ok_int _ rfl _ _ 83 rfl 50 3 .i64 Tryd.keyLaw Tryd.underlying83 Tryd.underlying3 (Tryd.zeroInt _) bm _ D rfl (unhide HMAP) _ _ rfl (keyOf_clause hm) ?_; rw [unhide HHAS]; intro c hat hwc; obtain rfl : c = (i : Int) := at_inj hat (unhide HAT); clear hat hwc) | go_in)
    go_end0
    have e1 : ((t : Int) + 1) = ((t + 1 : Nat) : Int) := by omega
    obtain ⟨f1, f2⟩ := unhide HFIN
    rw [← e1] at f1 f2
    exact ⟨rfl, ⟨_, D, _, f1, (unhide HBAG).add (unhide HI), by rw [List.length_set]; omega⟩, f2.1, f2.2⟩

end Go.Proofs.YtekkkoipcghlmaaDoor
