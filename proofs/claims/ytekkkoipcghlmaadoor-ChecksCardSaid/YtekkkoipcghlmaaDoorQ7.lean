import Derived.Test.YtekkkoipcghlmaaDoorQ6
namespace Go.Proofs.YtekkkoipcghlmaaDoor
open Go.RowKit Go.Maps

theorem row_below {w w' : World} {base : Nat} {e : TypeId} {s : Nat} {v : Value} {n : Nat} {xs : List Value} (h : w.ownsRow base e s v n xs) (hb : Below w.heap.size w w') : w'.ownsRow base e s v n xs := by
  refine h.kept (grown_of_below hb) ?_
  cases hv : v.ownBlock with
  | none => exact .inl rfl
  | some g => exact .inr (by simp)

theorem block_lt {w : World} {p : Nat} {o : Obj} (h : w.heap[p]? = some o) : p < w.heap.size := (Array.getElem?_eq_some_iff.1 h).1

theorem ListAt.below {base : Nat} {w w' : World} {p bm : Nat} {ev : Value} {D : DataW Unit} {E : List (Nat × Nat)} (h : ListAt base w p bm ev D E) (hb : Below w.heap.size w w') : ListAt base w' p bm ev D E :=
  ⟨by rw [hb.block p (block_lt h.block)]; exact h.block, h.lep, h.lem, row_below h.row hb, h.map.kept (grown_of_below hb) (by simp), h.places⟩
theorem St.below {base : Nat} {w w' : World} {p bm n : Nat} {L : List Nat} (h : St base w p bm n L) (hb : Below w.heap.size w w') : St base w' p bm n L := by
  obtain ⟨ev, D, E, h1, h2, h3⟩ := h
  exact ⟨ev, D, E, h1.below hb, h2, h3⟩

/-- What a call on the list leaves alone: all that is neither the list's own row, nor an entries' row, nor its map. -/
def Foreign (o : Obj) : Prop := ∀ cs fz, o ≠ .cells cs 86 fz ∧ o ≠ .cells cs 102 fz
structure Frame (bm : Nat) (w w' : World) : Prop where
  size : w.heap.size ≤ w'.heap.size
  same : ∀ k o, w.heap[k]? = some o → Foreign o → k ≠ bm → w'.heap[k]? = some o
theorem Frame.refl (bm : Nat) (w : World) : Frame bm w w := ⟨Nat.le_refl _, fun _ _ h _ _ => h⟩
theorem Frame.trans {bm : Nat} {a b c : World} (h : Frame bm a b) (h' : Frame bm b c) : Frame bm a c := ⟨Nat.le_trans h.size h'.size, fun k o hk hf hn => h'.same k o (h.same k o hk hf hn) hf hn⟩
theorem Frame.below {bm : Nat} {a b : World} (h : Below a.heap.size a b) : Frame bm a b := ⟨h.size, fun k _ hk _ _ => (h.block k (block_lt hk)).trans hk⟩
theorem Frame.set {bm : Nat} {a : World} {g j : Nat} {cs : Array Value} {t : TypeId} {fz : Nat × Nat} (hg : a.heap[g]? = some (.cells cs t fz)) (ht : t = 86 ∨ t = 102) (u : Value) : Frame bm a (a.setCell ⟨g, j, none⟩ u) :=
  ⟨by simp, fun k o hk hf _ => (Below.heap_setCell a _ _ _ (fun e => by
    simp only at e
    subst e
    rw [hg] at hk
    cases hk
    rcases ht with rfl | rfl
    · exact (hf cs fz).1 rfl
    · exact (hf cs fz).2 rfl)).trans hk⟩
theorem Frame.grown {bm : Nat} {a b : World} {row : Option Nat} (h : a.grownBy b row) (hr : ∀ k o, row = some k → a.heap[k]? = some o → k = bm ∨ ¬ Foreign o) : Frame bm a b :=
  ⟨h.size, fun k o hk hf hn => (h.block k (block_lt hk) (fun e => by rcases hr k o e.symm hk with h' | h'; exact hn h'; exact h' hf)).trans hk⟩
theorem row_frame {w : World} {base : Nat} {v : Value} {n : Nat} {xs : List Value} (h : w.ownsRow base 102 2 v n xs) : ∀ k o, v.ownBlock = some k → w.heap[k]? = some o → ¬ Foreign o := by
  intro k o hk ho hf
  rcases h.2 with ⟨hv, _⟩ | ⟨g, cap, cur, hv, _, hg, _⟩
  · rw [hv] at hk; cases hk
  · rw [hv] at hk
    simp [Value.ownBlock] at hk
    subst hk
    rw [hg] at ho
    cases ho
    exact (hf cur (0, 0)).2 rfl

section
variable {base : Nat} {w : World} {p bm : Nat} {ev : Value} {D : DataW Unit} {E : List (Nat × Nat)} (h : ListAt base w p bm ev D E)
include h
theorem ListAt.cell0 : w.cell? ⟨p, 0, none⟩ = some ev := by simp [World.cell?, h.block]
theorem ListAt.cell1 : w.cell? ⟨p, 1, none⟩ = some (.map (some bm)) := by simp [World.cell?, h.block]
theorem ListAt.lies : EntsLie w ev E := by
  by_cases h0 : E = []
  · subst h0
    refine .inl ⟨rfl, ?_⟩
    rcases h.row.2 with ⟨hv, _⟩ | ⟨g, cap, cur, hv, _⟩
    · exact ⟨_, _, hv⟩
    · exact ⟨_, _, hv⟩
  · have hp := List.length_pos_iff.2 h0
    rcases h.row.2 with ⟨hv, hn⟩ | ⟨g, cap, cur, rfl, _⟩
    · omega
    · refine .inr ⟨g, cap, hp, rfl, (h.row.lt g rfl).2, fun k x hx => ?_⟩
      have hk : k < E.length := (List.getElem?_eq_some_iff.1 hx).1
      obtain ⟨h1, h2⟩ := ents_get E k x hx
      exact ⟨by rw [h.row.cellAt (k * 2) (by omega)]; exact h1, by rw [h.row.cellAt (k * 2 + 1) (by omega)]; exact h2⟩
theorem ListAt.row_not_p : ev.ownBlock ≠ some p := by
  intro he
  rcases h.row.2 with ⟨hv, _⟩ | ⟨g, cap, cur, hv, _, hg, _⟩
  · rw [hv] at he; cases he
  · rw [hv] at he
    simp [Value.ownBlock] at he
    subst he
    rw [h.block] at hg
    simp at hg
theorem ListAt.row_not_map : some bm ≠ ev.ownBlock := by
  intro he
  obtain ⟨es, clock, hm, _⟩ := h.map
  rcases h.row.2 with ⟨hv, _⟩ | ⟨g, cap, cur, hv, _, hg, _⟩
  · rw [hv] at he; cases he
  · rw [hv] at he
    simp [Value.ownBlock] at he
    subst he
    rw [hm] at hg
    simp at hg
theorem ListAt.map_not_p : bm ≠ p := by
  intro he
  obtain ⟨es, clock, hm, _⟩ := h.map
  subst he
  rw [h.block] at hm
  simp at hm
/-- One entry's count is written. -/
theorem ListAt.times {g cap i c t t' : Nat} (hv : ev = .slice (some ⟨g, 0, none⟩) E.length cap) (hi : E[i]? = some (c, t)) :
    ListAt base (w.setCell ⟨g, i * 2 + 1, none⟩ (.int .i64 (t' : Int))) p bm ev D (E.set i (c, t')) ∧ Below base w (w.setCell ⟨g, i * 2 + 1, none⟩ (.int .i64 (t' : Int))) ∧ Frame bm w (w.setCell ⟨g, i * 2 + 1, none⟩ (.int .i64 (t' : Int))) := by
  subst hv
  have hs := h.row.stored (i * 2 + 1) (.int .i64 (t' : Int))
  have hgp : p ≠ g := fun e => h.row_not_p (by simp [Value.ownBlock, e])
  have hgm : some bm ≠ some g := fun e => h.row_not_map (by simp [Value.ownBlock]; simpa using e)
  obtain ⟨cur, hgc⟩ : ∃ cur, w.heap[g]? = some (.cells cur 102 (0, 0)) := by
    rcases h.row.2 with ⟨hv, _⟩ | ⟨g', cap', cur, hv, _, hg, _⟩
    · cases hv
    · simp at hv
      obtain ⟨rfl, -⟩ := hv
      exact ⟨cur, hg⟩
  refine ⟨⟨?_, h.lep, h.lem, ?_, ?_, ?_⟩, (Below.refl _ _).setCell (p := ⟨g, i * 2 + 1, none⟩) (h.row.lt g rfl).1 _, Frame.set hgc (.inr rfl) _⟩
  · rw [Below.heap_setCell _ _ _ _ hgp]; exact h.block
  · rw [ents_set E t' i c t hi] at hs
    rw [List.length_set]; exact hs.1
  · rw [List.length_set]; exact h.map.kept hs.2 hgm
  · have hval : ∀ (a : Nat) (x : Nat × Nat), (E.set i (c, t'))[a]? = some x → ∃ x', E[a]? = some x' ∧ x'.1 = x.1 := by
      intro a x hx
      by_cases e : a = i
      · subst e
        rw [List.getElem?_set_self', hi] at hx
        simp at hx
        exact ⟨(c, t), hi, by rw [← hx]⟩
      · rw [List.getElem?_set_ne (fun h => e h.symm)] at hx
        exact ⟨x, hx, rfl⟩
    refine ⟨fun a x hx => ?_, fun d hd => ?_⟩
    · obtain ⟨x', h1, h2⟩ := hval a x hx
      rw [← h2]; exact h.places.there a x' h1
    · refine h.places.not d (fun x hx e => ?_)
      obtain ⟨j, hj⟩ := List.getElem?_of_mem hx
      by_cases hji : j = i
      · subst hji
        rw [hi] at hj; cases hj
        exact hd (c, t') (List.mem_set (List.getElem?_eq_some_iff.1 hi).1 _) e
      · exact hd x (List.mem_of_getElem? (i := j) (by rw [List.getElem?_set_ne (fun h => hji h.symm)]; exact hj)) e
end

def DropRes (base p bm n m : Nat) (L : List Nat) (w : World) (e : Ending) (w' : World) : Prop := ∃ r : Bool, e = .returned (.bool r) ∧ (r = true ↔ m ∈ L) ∧ St base w' p bm n (L.erase m) ∧ Below base w w' ∧ Frame bm w w'

theorem at_inj {D : DataW Unit} {k : Lit} {c i : Int} (h1 : D.atKey k (.lit (.int .i64 0)) = .lit (.int .i64 c)) (h2 : D.atKey k Z0 = .lit (.int .i64 i)) : c = i := by
  have := h1.symm.trans h2
  simpa using this

theorem find_entry (E : List (Nat × Nat)) (m : Nat) : (∀ x, x ∈ E → x.1 ≠ m) ∨ ∃ (i t : Nat), E[i]? = some (m, t) := by
  by_cases h : ∃ x, x ∈ E ∧ x.1 = m
  · obtain ⟨x, hx, rfl⟩ := h
    obtain ⟨i, hi⟩ := List.getElem?_of_mem hx
    exact .inr ⟨i, x.2, hi⟩
  · exact .inl (fun x hx e => h ⟨x, hx, e⟩)

set_option maxRecDepth 100000 in
set_option maxHeartbeats 1600000 in
theorem drop_any (base p bm n m : Nat) (L : List Nat) (w : World) (hst : St base w p bm n L) (_hn : n ≤ 10000000) (hl : L.length ≤ 10000000) (hm : m < 2 ^ 24) :
    Calls Tryd.prog 45 #[.pointer (some ⟨p, 0, none⟩), .int .u32 m] w fun e w' => DropRes base p bm n m L w e w' := by
  obtain ⟨ev, D, E, hla, hbag, hEn⟩ := hst
  have HST : Hid (St base w p bm n L) := hide ⟨ev, D, E, hla, hbag, hEn⟩
  have hc0 := hla.cell0
  have hc1 := hla.cell1
  have HMAP := hide hla.map
  have HLA := hide hla
  have HBAG := hide hbag
  rcases find_entry E m with hno | ⟨i, t, hi⟩
  · have HNM : Hid (m ∉ L) := hide (List.count_eq_zero.1 (hbag.none m hno))
    have HHAS := hide (hla.places.not m hno)
    clear hla hbag hno
    go_enter Tryd.func45, Tryd.ntmps45
    go_wp2_with (first | (at_lookup; refine wpList_lookup_own_ok_int _ rfl _ _ 83 rfl 50 3 .i64 Tryd.keyLaw Tryd.underlying83 Tryd.underlying3 (Tryd.zeroInt _) bm _ D rfl (unhide HMAP) _ _ rfl (keyOf_clause hm) ?_; rw [unhide HHAS]; intro c hat hwc) | go_in)
    go_ret
    exact ⟨false, rfl, by simp [unhide HNM], by rw [List.erase_of_not_mem (unhide HNM)]; exact unhide HST, Below.refl _ _, Frame.refl _ _⟩
  · have hil : i < E.length := (List.getElem?_eq_some_iff.1 hi).1
    have hcnt := hbag.count (m, t) (List.mem_of_getElem? hi)
    simp only at hcnt
    have htl : t ≤ 10000000 := by rw [← hcnt]; exact Nat.le_trans List.count_le_length hl
    obtain ⟨hhas, hat0⟩ := hla.places.there i (m, t) hi
    have HHAS := hide hhas
    have HAT := hide hat0
    have HI := hide hi
    have HCNT := hide hcnt
    obtain ⟨g, cap, hsh⟩ : ∃ g cap, ev = .slice (some ⟨g, 0, none⟩) E.length cap := by
      rcases hla.row.2 with ⟨_, hn0⟩ | ⟨g, cap, cur, hv, _⟩
      · omega
      · exact ⟨g, cap, hv⟩
    subst hsh
    have hct : w.cell? ⟨g, i * 2 + 1, none⟩ = some (.int .i64 (t : Int)) := by rw [hla.row.cellAt (i * 2 + 1) (by omega)]; exact (ents_get E i (m, t) hi).2
    have hfr := hla.row.frozenAt (i * 2 + 1)
    clear hla hbag hhas hat0 hi hcnt
    rcases Nat.eq_zero_or_pos t with ht0 | ht0
    · subst ht0
      have HNM : Hid (m ∉ L) := hide (List.count_eq_zero.1 (unhide HCNT))
      go_enter Tryd.func45, Tryd.ntmps45
      go_wp2_with (first | (at_lookup; refine wpList_lookup_own_ok_int _ rfl _ _ 83 rfl 50 3 .i64 Tryd.keyLaw Tryd.underlying83 Tryd.underlying3 (Tryd.zeroInt _) bm _ D rfl (unhide HMAP) _ _ rfl (keyOf_clause hm) ?_; rw [unhide HHAS]; intro c hat hwc; obtain rfl : c = (i : Int) := at_inj hat (unhide HAT); clear hat hwc) | go_in)
      go_ret
      exact ⟨false, rfl, by simp [unhide HNM], by rw [List.erase_of_not_mem (unhide HNM)]; exact unhide HST, Below.refl _ _, Frame.refl _ _⟩
    · have HIM : Hid (m ∈ L) := hide (List.count_pos_iff.1 (by rw [unhide HCNT]; exact ht0))
      have hq : ((t : Int) == 0) = false := by rw [beq_eq_false_iff_ne]; omega
      have HFIN := hide (ListAt.times (unhide HLA) (t' := t - 1) rfl (unhide HI))
      go_enter Tryd.func45, Tryd.ntmps45
      go_wp2_with (first | (at_lookup; refine wpList_lookup_own_ok_int _ rfl _ _ 83 rfl 50 3 .i64 Tryd.keyLaw Tryd.underlying83 Tryd.underlying3 (Tryd.zeroInt _) bm _ D rfl (unhide HMAP) _ _ rfl (keyOf_clause hm) ?_; rw [unhide HHAS]; intro c hat hwc; obtain rfl : c = (i : Int) := at_inj hat (unhide HAT); clear hat hwc) | go_in)
      go_ret
      have e1 : ((t : Int) - 1) = ((t - 1 : Nat) : Int) := by omega
      obtain ⟨f1, f2⟩ := unhide HFIN
      rw [← e1] at f1 f2
      exact ⟨true, rfl, by simp [unhide HIM], ⟨_, D, _, f1, (unhide HBAG).drop (unhide HI), by rw [List.length_set]; exact hEn⟩, f2.1, f2.2⟩

end Go.Proofs.YtekkkoipcghlmaaDoor
