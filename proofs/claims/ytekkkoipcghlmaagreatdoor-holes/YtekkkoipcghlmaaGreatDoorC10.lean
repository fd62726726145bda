import Derived.Test.YtekkkoipcghlmaaGreatDoorC09
set_option linter.all false
namespace Go.Proofs.YtekkkoipcghlmaaGreatDoor
open Go.RowKit
attribute [local go_sem ↓] Go.wp_at_zero Go.wp_at_succ

theorem HeapOK.len12 {all places : List Int} (h : HeapOK all places) : all.length ≤ 12 := by
  have h1 : (all.map Int.toNat).Nodup := by
    rw [List.Nodup, List.pairwise_map]
    refine List.Pairwise.imp_of_mem ?_ h.nodup
    intro a b ha hb hab e
    have := h.bd a ha
    have := h.bd b hb
    exact hab (by omega)
  have := nodup_bound 13 (0 :: all.map Int.toNat) (List.nodup_cons.2 ⟨fun h0 => by
    obtain ⟨v, hv, e⟩ := List.mem_map.1 h0
    have := h.bd v hv; omega, h1⟩) (fun x hx => by
    rcases List.mem_cons.1 hx with rfl | hx
    · omega
    · obtain ⟨v, hv, rfl⟩ := List.mem_map.1 hx
      have := h.bd v hv; omega)
  simp at this
  omega
theorem swap_get {l : List Int} {a b : Nat} {x y : Int} (ha : l[a]? = some x) (hb : l[b]? = some y) (i : Nat) : ((l.set a y).set b x)[i]? = if i = b then some x else if i = a then some y else l[i]? := by
  have ha' := (List.getElem?_eq_some_iff.1 ha).1
  have hb' := (List.getElem?_eq_some_iff.1 hb).1
  by_cases e : i = b
  · subst e; rw [if_pos rfl, List.getElem?_set_self (by simpa using hb')]
  · rw [if_neg e, List.getElem?_set_ne (fun h => e h.symm)]
    by_cases e2 : i = a
    · subst e2; rw [if_pos rfl, List.getElem?_set_self ha']
    · rw [if_neg e2, List.getElem?_set_ne (fun h => e2 h.symm)]
theorem swap_mem {l : List Int} {a b : Nat} {x y : Int} (ha : l[a]? = some x) (hb : l[b]? = some y) (v : Int) : v ∈ (l.set a y).set b x ↔ v ∈ l := by
  constructor
  · intro h
    obtain ⟨i, hi⟩ := List.getElem?_of_mem h
    rw [swap_get ha hb] at hi
    split at hi
    · cases hi; exact List.mem_of_getElem? ha
    · split at hi
      · cases hi; exact List.mem_of_getElem? hb
      · exact List.mem_of_getElem? hi
  · intro h
    obtain ⟨i, hi⟩ := List.getElem?_of_mem h
    by_cases e : i = a
    · subst e
      rw [ha] at hi; cases hi
      exact List.mem_of_getElem? (i := b) (by rw [swap_get ha hb, if_pos rfl])
    · by_cases e2 : i = b
      · subst e2
        rw [hb] at hi; cases hi
        exact List.mem_of_getElem? (i := a) (by
          rw [swap_get ha hb]
          split
          · rename_i e3; subst e3; rw [ha] at hb; exact hb
          · rw [if_pos rfl])
      · exact List.mem_of_getElem? (i := i) (by rw [swap_get ha hb, if_neg e2, if_neg e]; exact hi)
theorem nodup_get {l : List Int} (hn : l.Nodup) {i j : Nat} {v : Int} (hi : l[i]? = some v) (hj : l[j]? = some v) : i = j := by
  obtain ⟨h1, e1⟩ := List.getElem?_eq_some_iff.1 hi
  obtain ⟨h2, e2⟩ := List.getElem?_eq_some_iff.1 hj
  exact (List.getElem_inj (h₀ := h1) (h₁ := h2) hn).1 (by rw [e1, e2])
theorem HeapOK.swap {all places : List Int} (h : HeapOK all places) {a b : Nat} {x y : Int} (ha : all[a]? = some x) (hb : all[b]? = some y) : HeapOK ((all.set a y).set b x) ((places.set y.toNat ((a : Int) + 1)).set x.toNat ((b : Int) + 1)) := by
  have bx := h.bd x (List.mem_of_getElem? ha)
  have by' := h.bd y (List.mem_of_getElem? hb)
  have ha' := (List.getElem?_eq_some_iff.1 ha).1
  have hb' := (List.getElem?_eq_some_iff.1 hb).1
  have hlen := h.len
  refine ⟨?_, fun v hv => h.bd v ((swap_mem ha hb v).1 hv), by simp [hlen], fun i v hi => ?_, fun v h0 h13 hn => ?_⟩
  · refine List.pairwise_iff_getElem.2 (fun i j hi hj hij e => ?_)
    have key : ∀ i, ((all.set a y).set b x)[i]? = all[if i = b then a else if i = a then b else i]? := by
      intro i
      rw [swap_get ha hb]
      split
      · exact ha.symm
      · split
        · exact hb.symm
        · rfl
    have h1 := key i
    have h2 := key j
    rw [List.getElem?_eq_getElem hi] at h1
    rw [List.getElem?_eq_getElem hj] at h2
    have := nodup_get h.nodup h1.symm (by rw [e]; exact h2.symm)
    split at this <;> split at this <;> (try split at this) <;> (try split at this) <;> omega
  · rw [swap_get ha hb] at hi
    rw [List.getElem?_set, List.getElem?_set]
    split at hi
    · rename_i e; subst e
      cases hi
      rw [if_pos rfl, if_pos (by simp; omega)]
    · rename_i hib
      split at hi
      · rename_i e; subst e
        cases hi
        have hne : x ≠ y := fun e => hib (nodup_get h.nodup ha (by rw [hb, e]))
        rw [if_neg (fun e => hne (by omega)), if_pos rfl, if_pos (by omega)]
      · rename_i hia
        have hv := h.bd v (List.mem_of_getElem? hi)
        have hvx : v ≠ x := fun e => hia (nodup_get h.nodup hi (by rw [ha, e]))
        have hvy : v ≠ y := fun e => hib (nodup_get h.nodup hi (by rw [hb, e]))
        rw [if_neg (fun e => hvx (by omega)), if_neg (fun e => hvy (by omega))]
        exact h.there i v hi
  · have hn' : (v : Int) ∉ all := fun hm => hn ((swap_mem ha hb v).2 hm)
    have hvx : (v : Int) ≠ x := fun e => hn' (by rw [e]; exact List.mem_of_getElem? ha)
    have hvy : (v : Int) ≠ y := fun e => hn' (by rw [e]; exact List.mem_of_getElem? hb)
    rw [List.getElem?_set_ne (by omega), List.getElem?_set_ne (by omega)]
    exact h.gone v h0 h13 hn'

/-- All but the heap is as it was. -/
def KeptQ (m0 m : Mem) : Prop := m = { m0 with al := m.al, all := m.all, places := m.places }
theorem KeptQ.refl (m : Mem) : KeptQ m m := rfl
theorem KeptQ.trans {a b c : Mem} (h : KeptQ a b) (h' : KeptQ b c) : KeptQ a c := by
  unfold KeptQ at h h' ⊢
  rw [h] at h'
  exact h'
structure HAt (base : Nat) (w : World) (m0 : Mem) (wr : World) (m : Mem) : Prop where
  mu : Mut base w m0 wr m
  ok : HeapOK m.all m.places
  same : ∀ v, v ∈ m.all ↔ v ∈ m0.all
  len : m.all.length = m0.all.length
  kept : KeptQ m0 m
theorem HAt.swap {base : Nat} {w : World} {m0 : Mem} {wr wr' : World} {m : Mem} (h : HAt base w m0 wr m) {a b : Nat} {x y : Int} (ha : m.all[a]? = some x) (hb : m.all[b]? = some y) (hm : Mut base wr m wr' (m.swapped a b x y)) : HAt base w m0 wr' (m.swapped a b x y) :=
  ⟨h.mu.trans hm, h.ok.swap ha hb, fun v => (swap_mem ha hb v).trans (h.same v), by
    show ((m.all.set a y).set b x).length = _
    simp [h.len], h.kept.trans rfl⟩
theorem HAt.below {base : Nat} {w : World} {m0 : Mem} {wr wr' : World} {m : Mem} (h : HAt base w m0 wr m) (hb : Below wr.heap.size wr wr') : HAt base w m0 wr' m := ⟨h.mu.trans (Mut.below h.mu.at hb), h.ok, h.same, h.len, h.kept⟩

set_option maxRecDepth 100000 in
set_option maxHeartbeats 3200000 in
theorem rise_any (base : Nat) (m0 : Mem) (v : Nat) (w : World) (hS : SAt base w m0) (hok : HeapOK m0.all m0.places) (hv0 : 0 < v) (hv : v ≤ 12) :
    Calls Tryz.prog 154 #[.pointer (some ⟨m0.q, 0, none⟩), .int .i64 v] w fun e w' => e = .returned (.tuple #[]) ∧ ∃ m, HAt base w m0 w' m := by
  obtain ⟨g4, cap4, hpl, hg4, hcell4, hfz4⟩ := hS.placesAt
  have hq1 : w.cell? ⟨m0.q, 1, none⟩ = some (.func (.func 108) #[] #[.pointer (some ⟨m0.qb, 0, none⟩)]) := by rw [hS.qcell 1 (by decide)]; rfl
  have hq4 : w.cell? ⟨m0.q, 4, none⟩ = some (.slice (some ⟨g4, 0, none⟩) 13 cap4) := by rw [hS.qcell 4 (by decide), ← hpl]; rfl
  have hqb := hS.bcell
  have hcv := hcell4 v (by rw [hS.places]; omega)
  have hat : ∃ j : Nat, j ≤ m0.all.length ∧ m0.places[v]'(by rw [hS.places]; omega) = (j : Int) := by
    have hg : m0.places[v]? = some (m0.places[v]'(by rw [hS.places]; omega)) := List.getElem?_eq_getElem _
    rcases Classical.em ((v : Int) ∈ m0.all) with hm | hm
    · obtain ⟨i, hi⟩ := List.getElem?_of_mem hm
      have h1 := hok.there i _ hi
      rw [Int.toNat_natCast, hg] at h1
      have hlt := (List.getElem?_eq_some_iff.1 hi).1
      exact ⟨i + 1, by omega, by simpa using h1⟩
    · have h1 := hok.gone v hv0 (by omega) hm
      rw [hg] at h1
      exact ⟨0, by omega, by simpa using h1⟩
  obtain ⟨j0, hj0, hpv⟩ := hat
  rw [hpv] at hcv
  have HC := hide (place_any m0.q m0.qb g4 cap4 v w hqb hq4 hv)
  have H0 : Hid (HAt base w m0 w m0) := hide ⟨Mut.refl hS, hok, fun _ => Iff.rfl, rfl, KeptQ.refl _⟩
  have hl12 := hok.len12
  have HAH : Hid (∀ (wr : World) (m : Mem) (j : Nat), HAt base w m0 wr m → 1 < j → j ≤ m0.all.length → Calls Tryz.prog 183 #[.pointer (some ⟨m0.q, 0, none⟩), .int .i64 (j : Int), .int .i64 ((j : Int) / 2)] wr fun e w' => (∃ t : Bool, e = .returned (.bool t)) ∧ HAt base w m0 w' m) := hide (by
    intro wr m j h h1 h2
    have hl := h.len
    have := ahead_any base m j (j / 2) wr h.mu.at (by omega) (by omega) (by omega) (by omega) h.ok.bd (by have := h.ok.len12; omega)
    rw [h.mu.q, show ((j / 2 : Nat) : Int) = (j : Int) / 2 from by omega] at this
    exact this.mono (fun e w' hh => ⟨hh.1, h.below hh.2⟩))
  have HSW : Hid (∀ (wr : World) (m : Mem) (j : Nat), HAt base w m0 wr m → 1 < j → j ≤ m0.all.length → Calls Tryz.prog 168 #[.pointer (some ⟨m0.q, 0, none⟩), .int .i64 (j : Int), .int .i64 ((j : Int) / 2)] wr fun e w' => e = .returned (.tuple #[]) ∧ ∃ m', HAt base w m0 w' m') := hide (by
    intro wr m j h h1 h2
    have hl := h.len
    have ha : m.all[j - 1]? = some m.all[j - 1] := List.getElem?_eq_getElem (by omega)
    have hb : m.all[j / 2 - 1]? = some m.all[j / 2 - 1] := List.getElem?_eq_getElem (by omega)
    have := swap_any base m (j - 1) (j / 2 - 1) _ _ wr h.mu.at ha hb h.ok.bd (by have := h.ok.len12; omega)
    rw [h.mu.q, show (((j - 1 : Nat) : Int) + 1) = (j : Int) from by omega, show (((j / 2 - 1 : Nat) : Int) + 1) = (j : Int) / 2 from by omega] at this
    exact this.mono (fun e w' hh => ⟨hh.1, _, h.swap ha hb hh.2⟩))
  clear hS hok hpl hcell4 hfz4 hpv
  generalize m0.all.length = N at *
  go_enter Tryz.func154, Tryz.ntmps154
  go_wp2_with fail
  refine (unhide HC).mono ?_
  rintro e w1 ⟨rfl, n1, rfl⟩
  have HS1 : Hid (∃ m, HAt base w m0 (w.drewN n1) m) := hide ⟨m0, (unhide H0).below (belowDrew (Below.refl _ _) _)⟩
  go_wp2
  go_loopw [4] (fun a wr => ∃ j : Nat, j ≤ N ∧ a = .int .i64 (j : Int) ∧ Hid (∃ m, HAt base w m0 wr m)) (fun a _ => (intOf a).toNat)
  case atStart => exact ⟨j0, hj0, rfl, HS1⟩
  case round =>
    obtain ⟨j, hj, rfl, HM⟩ := hrel
    obtain ⟨m, hM⟩ := unhide HM
    by_cases h1 : 1 < j
    · have HA := hide (unhide HAH wr m j hM h1 hj)
      clear hM
      go_wp2_with fail
      refine (unhide HA).mono ?_
      rintro e w2 ⟨⟨t, rfl⟩, hM2⟩
      have HM2 := hide hM2
      have HS2 := hide (unhide HSW w2 m j hM2 h1 hj)
      clear hM2
      cases t
      · go_wp2
        try go_end0
        exact ⟨rfl, m, unhide HM2⟩
      · go_wp2_with fail
        refine (unhide HS2).mono ?_
        rintro e w3 ⟨rfl, m3, hM3⟩
        have HM3 := hide hM3
        clear hM3
        go_wp2
        go_roundw
        case rel => exact ⟨j / 2, by omega, by go_num, hide ⟨m3, unhide HM3⟩⟩
        case measure => simp [intOf]; omega
    · have HM2 := hide hM
      clear hM
      go_wp2
      try go_end0
      exact ⟨rfl, m, unhide HM2⟩

end Go.Proofs.YtekkkoipcghlmaaGreatDoor

namespace Go.Proofs.YtekkkoipcghlmaaGreatDoor
open Go.RowKit
attribute [local go_sem ↓] Go.wp_at_zero Go.wp_at_succ

theorem HAt.lenCell {base : Nat} {w : World} {m0 : Mem} {wr : World} {m : Mem} (h : HAt base w m0 wr m) : ∃ ao cp, wr.cell? ⟨m0.q, 2, none⟩ = some (.slice ao m0.all.length cp) := by
  have hc : wr.cell? ⟨m.q, 2, none⟩ = some m.al := by rw [h.mu.at.qcell 2 (by decide)]; rfl
  obtain ⟨ao, cp, hsh⟩ := owns_shape (h.mu.at.pack.rows 8 _ rfl)
  have hsh' : m.al = .slice ao m.all.length cp := hsh
  rw [h.mu.q, hsh', h.len] at hc
  exact ⟨ao, cp, hc⟩

set_option maxRecDepth 100000 in
set_option maxHeartbeats 6400000 in
theorem sink_any (base : Nat) (m0 : Mem) (w : World) (hS : SAt base w m0) (hok : HeapOK m0.all m0.places) :
    Calls Tryz.prog 169 #[.pointer (some ⟨m0.q, 0, none⟩)] w fun e w' => e = .returned (.tuple #[]) ∧ ∃ m, HAt base w m0 w' m := by
  have H0 : Hid (HAt base w m0 w m0) := hide ⟨Mut.refl hS, hok, fun _ => Iff.rfl, rfl, KeptQ.refl _⟩
  have hl12 := hok.len12
  have HAH : Hid (∀ (wr : World) (m : Mem) (i j : Nat) (a b : Int), HAt base w m0 wr m → a = (i : Int) → b = (j : Int) → 0 < i → i ≤ m0.all.length → 0 < j → j ≤ m0.all.length → Calls Tryz.prog 183 #[.pointer (some ⟨m0.q, 0, none⟩), .int .i64 a, .int .i64 b] wr fun e w' => (∃ t : Bool, e = .returned (.bool t)) ∧ HAt base w m0 w' m) := hide (by
    intro wr m i j a b h ea eb h1 h2 h3 h4
    subst ea eb
    have hl := h.len
    have := ahead_any base m i j wr h.mu.at h1 (by omega) h3 (by omega) h.ok.bd (by have := h.ok.len12; omega)
    rw [h.mu.q] at this
    exact this.mono (fun e w' hh => ⟨hh.1, h.below hh.2⟩))
  have HSW : Hid (∀ (wr : World) (m : Mem) (i j : Nat) (a b : Int), HAt base w m0 wr m → a = (i : Int) → b = (j : Int) → 0 < i → i ≤ m0.all.length → 0 < j → j ≤ m0.all.length → Calls Tryz.prog 168 #[.pointer (some ⟨m0.q, 0, none⟩), .int .i64 a, .int .i64 b] wr fun e w' => e = .returned (.tuple #[]) ∧ ∃ m', HAt base w m0 w' m') := hide (by
    intro wr m i j a b h ea eb h1 h2 h3 h4
    subst ea eb
    have hl := h.len
    have ha : m.all[i - 1]? = some m.all[i - 1] := List.getElem?_eq_getElem (by omega)
    have hb : m.all[j - 1]? = some m.all[j - 1] := List.getElem?_eq_getElem (by omega)
    have := swap_any base m (i - 1) (j - 1) _ _ wr h.mu.at ha hb h.ok.bd (by have := h.ok.len12; omega)
    rw [h.mu.q, show (((i - 1 : Nat) : Int) + 1) = (i : Int) from by omega, show (((j - 1 : Nat) : Int) + 1) = (j : Int) from by omega] at this
    exact this.mono (fun e w' hh => ⟨hh.1, _, h.swap ha hb hh.2⟩))
  have HLC : Hid (∀ (wr : World) (m : Mem), HAt base w m0 wr m → ∃ ao cp, wr.cell? ⟨m0.q, 2, none⟩ = some (.slice ao m0.all.length cp)) := hide (fun wr m h => h.lenCell)
  clear hS hok
  generalize m0.all.length = N at *
  go_enter Tryz.func169, Tryz.ntmps169
  go_wp2
  go_loopw [2] (fun a wr => ∃ j : Nat, 1 ≤ j ∧ j ≤ 12 ∧ a = .int .i64 (j : Int) ∧ Hid (∃ m, HAt base w m0 wr m)) (fun a _ => 100 - (intOf a).toNat)
  case atStart => exact ⟨1, by omega, by omega, rfl, hide ⟨m0, unhide H0⟩⟩
  case round =>
    obtain ⟨j, hj1, hj12, rfl, HM⟩ := hrel
    obtain ⟨m, hM⟩ := unhide HM
    obtain ⟨ao, cp, hlc⟩ := unhide HLC wr m hM
    by_cases h2 : 2 * j ≤ N
    · have h2i : 2 * (j : Int) ≤ (N : Int) := by omega
      by_cases h3 : 2 * j < N
      · have h3i : 2 * (j : Int) < (N : Int) := by omega
        have HA := hide (unhide HAH wr m (2 * j + 1) (2 * j) (2 * (j : Int) + 1) (2 * (j : Int)) hM (by omega) (by omega) (by omega) (by omega) (by omega) (by omega))
        clear hM
        go_wp2_with fail
        refine (unhide HA).mono ?_
        rintro e w4 ⟨⟨t4, rfl⟩, hM4⟩
        have HMc := hide hM4
        clear hM4
        cases t4
        · have HA2 := hide (unhide HAH w4 m (2 * j) j (2 * (j : Int)) (j : Int) (unhide HMc) (by omega) rfl (by omega) (by omega) (by omega) (by omega))
          go_wp2_with fail
          refine (unhide HA2).mono ?_
          rintro e w5 ⟨⟨t5, rfl⟩, hM5⟩
          have HM5 := hide hM5
          have HS5 := hide (unhide HSW w5 m j (2 * j) (j : Int) (2 * (j : Int)) hM5 rfl (by omega) (by omega) (by omega) (by omega) (by omega))
          clear hM5
          cases t5
          · go_wp2
            try go_end0
            try (refine bodyPost_ret (results_none rfl _ _ _) rfl ?_)
            exact ⟨rfl, m, unhide HM5⟩
          · go_wp2_with fail
            refine (unhide HS5).mono ?_
            rintro e w6 ⟨rfl, m6, hM6⟩
            have HM6 := hide hM6
            clear hM6
            go_wp2
            go_roundw
            case rel => exact ⟨2 * j, by omega, by omega, by go_num, hide ⟨m6, unhide HM6⟩⟩
            case measure => simp [intOf]; omega
        · have HA2 := hide (unhide HAH w4 m (2 * j + 1) j (2 * (j : Int) + 1) (j : Int) (unhide HMc) (by omega) rfl (by omega) (by omega) (by omega) (by omega))
          go_wp2_with fail
          refine (unhide HA2).mono ?_
          rintro e w5 ⟨⟨t5, rfl⟩, hM5⟩
          have HM5 := hide hM5
          have HS5 := hide (unhide HSW w5 m j (2 * j + 1) (j : Int) (2 * (j : Int) + 1) hM5 rfl (by omega) (by omega) (by omega) (by omega) (by omega))
          clear hM5
          cases t5
          · go_wp2
            try go_end0
            try (refine bodyPost_ret (results_none rfl _ _ _) rfl ?_)
            exact ⟨rfl, m, unhide HM5⟩
          · go_wp2_with fail
            refine (unhide HS5).mono ?_
            rintro e w6 ⟨rfl, m6, hM6⟩
            have HM6 := hide hM6
            clear hM6
            go_wp2
            go_roundw
            case rel => exact ⟨2 * j + 1, by omega, by omega, by go_num, hide ⟨m6, unhide HM6⟩⟩
            case measure => simp [intOf]; omega
      · have h3i : ¬ 2 * (j : Int) < (N : Int) := by omega
        have HMc := hide hM
        clear hM
        have HA2 := hide (unhide HAH wr m (2 * j) j (2 * (j : Int)) (j : Int) (unhide HMc) (by omega) rfl (by omega) (by omega) (by omega) (by omega))
        go_wp2_with fail
        refine (unhide HA2).mono ?_
        rintro e w5 ⟨⟨t5, rfl⟩, hM5⟩
        have HM5 := hide hM5
        have HS5 := hide (unhide HSW w5 m j (2 * j) (j : Int) (2 * (j : Int)) hM5 rfl (by omega) (by omega) (by omega) (by omega) (by omega))
        clear hM5
        cases t5
        · go_wp2
          try go_end0
          try (refine bodyPost_ret (results_none rfl _ _ _) rfl ?_)
          exact ⟨rfl, m, unhide HM5⟩
        · go_wp2_with fail
          refine (unhide HS5).mono ?_
          rintro e w6 ⟨rfl, m6, hM6⟩
          have HM6 := hide hM6
          clear hM6
          go_wp2
          go_roundw
          case rel => exact ⟨2 * j, by omega, by omega, by go_num, hide ⟨m6, unhide HM6⟩⟩
          case measure => simp [intOf]; omega
    · have h2i : ¬ 2 * (j : Int) ≤ (N : Int) := by omega
      have HM2 := hide hM
      clear hM
      go_wp2
      try go_end0
      exact ⟨rfl, m, unhide HM2⟩

end Go.Proofs.YtekkkoipcghlmaaGreatDoor

namespace Go.Proofs.YtekkkoipcghlmaaGreatDoor
open Go.RowKit
attribute [local go_sem ↓] Go.wp_at_zero Go.wp_at_succ

theorem HeapOK.push {all places : List Int} (h : HeapOK all places) {v : Nat} (h0 : 0 < v) (h12 : v ≤ 12) (hn : (v : Int) ∉ all) : HeapOK (all ++ [(v : Int)]) (places.set v ((all.length : Int) + 1)) := by
  have hlen := h.len
  refine ⟨?_, fun u hu => ?_, by simp [hlen], fun i u hi => ?_, fun u hu0 hu13 hun => ?_⟩
  · rw [List.nodup_append]
    refine ⟨h.nodup, by simp, ?_⟩
    rintro a ha b hb rfl
    simp at hb; subst hb; exact hn ha
  · rcases List.mem_append.1 hu with hu | hu
    · exact h.bd u hu
    · simp at hu; omega
  · by_cases hi' : i < all.length
    · rw [List.getElem?_append_left hi'] at hi
      have hu := h.bd u (List.mem_of_getElem? hi)
      have hne : u ≠ v := fun e => hn (by rw [← e]; exact List.mem_of_getElem? hi)
      rw [List.getElem?_set_ne (by omega)]
      exact h.there i u hi
    · rw [List.getElem?_append_right (by omega)] at hi
      have hlt := (List.getElem?_eq_some_iff.1 hi).1
      simp at hlt
      have : i = all.length := by omega
      subst this
      simp at hi
      subst hi
      rw [Int.toNat_natCast, List.getElem?_set_self (by omega)]
  · have h1 : (u : Int) ∉ all := fun hm => hun (List.mem_append.2 (.inl hm))
    have h2 : u ≠ v := fun e => hun (by rw [e]; simp)
    rw [List.getElem?_set_ne (fun e => h2 e.symm)]
    exact h.gone u hu0 hu13 h1
theorem HeapOK.pop {all places : List Int} {x : Int} (h : HeapOK (all ++ [x]) places) : HeapOK all (places.set x.toNat 0) ∧ x ∉ all := by
  have hn := h.nodup
  rw [List.nodup_append] at hn
  have hx : x ∉ all := fun hm => hn.2.2 x hm x (by simp) rfl
  have bx := h.bd x (by simp)
  have hlen := h.len
  refine ⟨⟨hn.1, fun v hv => h.bd v (by simp [hv]), by simp [hlen], fun i v hi => ?_, fun v h0 h13 hv => ?_⟩, hx⟩
  · have hv := h.bd v (by simp [List.mem_of_getElem? hi])
    have hne : v ≠ x := fun e => hx (by rw [← e]; exact List.mem_of_getElem? hi)
    rw [List.getElem?_set_ne (by omega)]
    exact h.there i v (by rw [List.getElem?_append_left (List.getElem?_eq_some_iff.1 hi).1]; exact hi)
  · by_cases e : (v : Int) = x
    · have : x.toNat = v := by omega
      rw [this, List.getElem?_set_self (by omega)]
    · rw [List.getElem?_set_ne (by omega)]
      exact h.gone v h0 h13 (by simp [hv]; exact e)

section
variable {base : Nat} {w : World} {m : Mem}
def Mem.heaped (m : Mem) (v : Value) (l : List Int) : Mem := { m with al := v, all := l }
/-- Behind the append to the heap. -/
theorem Mut.heaped (h : SAt base w m) {w4 : World} {g cap : Nat} {x : Int} (hown : w4.ownsRow base 3 1 (.slice (some ⟨g, 0, none⟩) (m.all.length + 1) cap) (m.all.length + 1) (ints m.all ++ [.int .i64 x])) {wz : World} (hz : Below w.heap.size w wz) (hgr : wz.grownBy w4 m.al.ownBlock) (hloc : m.al.ownBlock = some g ∨ g = wz.heap.size) :
    Mut base w m (w4.setCell ⟨m.q, 2, none⟩ (.slice (some ⟨g, 0, none⟩) (m.all.length + 1) cap)) (m.heaped (.slice (some ⟨g, 0, none⟩) (m.all.length + 1) cap) (m.all ++ [x])) ∧ w4.cell? ⟨m.q, 2, none⟩ = some m.al ∧ w4.frozen? ⟨m.q, 2, none⟩ = false := by
  have h1 := PMut.below h.pack hz
  have hzs := hz.size
  have h2 := PMut.row h1.pack (i := 8) (r' := intRow (.slice (some ⟨g, 0, none⟩) (m.all.length + 1) cap) (m.all ++ [x])) rfl (by unfold Row.ok intRow; rw [ints_snoc, List.length_append]; exact hown) hgr (by
    rcases hloc with h | h
    · exact .inr (.inl h.symm)
    · exact .inr (.inr ⟨g, rfl, by omega⟩))
  have h3 := PMut.store h2.pack (i := 1) rfl rfl 2 (.slice (some ⟨g, 0, none⟩) (m.all.length + 1) cap)
  refine ⟨⟨h1.trans (h2.trans h3), h.ws, h.ls, h.counts, h.places, rfl, rfl, rfl⟩, ?_, ?_⟩
  · exact World.ownsRow.cellAt (h2.pack.rows 1 _ rfl) 2 (by simp [structRow, Mem.qCells])
  · exact World.ownsRow.frozenAt (h2.pack.rows 1 _ rfl) 2
/-- The heap is cut. -/
theorem Mut.cutHeap (h : SAt base w m) {g cap n : Nat} (hv : m.al = .slice (some ⟨g, 0, none⟩) m.all.length cap) (hn : n ≤ m.all.length) : Mut base w m (w.setCell ⟨m.q, 2, none⟩ (.slice (some ⟨g, 0, none⟩) n cap)) (m.heaped (.slice (some ⟨g, 0, none⟩) n cap) (m.all.take n)) := by
  have h2 := PMut.cut h.pack (i := 8) (r := intRow m.al m.all) rfl (g := g) (cap := cap) (m := n) hv hn
  have e : (⟨3, 1, .slice (some ⟨g, 0, none⟩) n cap, n, (ints m.all).take (n * 1)⟩ : Row) = intRow (.slice (some ⟨g, 0, none⟩) n cap) (m.all.take n) := by
    unfold intRow
    rw [Nat.mul_one, List.length_take, Nat.min_eq_left hn]
    congr 1
    simp [ints, List.map_take]
  have h2' : PMut base w m.rows w (m.rows.set 8 (intRow (.slice (some ⟨g, 0, none⟩) n cap) (m.all.take n))) := by rw [← e]; exact h2
  have h3 := PMut.store h2'.pack (i := 1) rfl rfl 2 (.slice (some ⟨g, 0, none⟩) n cap)
  exact ⟨h2'.trans h3, h.ws, h.ls, h.counts, h.places, rfl, rfl, rfl⟩
end

/-- What Put comes to. -/
def PutRes (base : Nat) (w : World) (m0 : Mem) (v : Nat) (w' : World) : Prop := ∃ m, Mut base w m0 w' m ∧ HeapOK m.all m.places ∧ (∀ u, u ∈ m.all ↔ u ∈ m0.all ∨ u = (v : Int)) ∧ KeptQ m0 m

set_option maxRecDepth 100000 in
set_option maxHeartbeats 6400000 in
theorem put_any (base : Nat) (m0 : Mem) (v : Nat) (w : World) (hS : SAt base w m0) (hok : HeapOK m0.all m0.places) (hv0 : 0 < v) (hv : v ≤ 12) (hbs : base ≤ w.heap.size) :
    Calls Tryz.prog 109 #[.pointer (some ⟨m0.q, 0, none⟩), .int .i64 v] w fun e w' => e = .returned (.tuple #[]) ∧ PutRes base w m0 v w' := by
  obtain ⟨g4, cap4, hpl, hg4, hcell4, hfz4⟩ := hS.placesAt
  have hq1 : w.cell? ⟨m0.q, 1, none⟩ = some (.func (.func 108) #[] #[.pointer (some ⟨m0.qb, 0, none⟩)]) := by rw [hS.qcell 1 (by decide)]; rfl
  have hq2 : w.cell? ⟨m0.q, 2, none⟩ = some m0.al := by rw [hS.qcell 2 (by decide)]; rfl
  have hq4 : w.cell? ⟨m0.q, 4, none⟩ = some (.slice (some ⟨g4, 0, none⟩) 13 cap4) := by rw [hS.qcell 4 (by decide), ← hpl]; rfl
  have hqb := hS.bcell
  have hcv := hcell4 v (by rw [hS.places]; omega)
  have HC := hide (place_any m0.q m0.qb g4 cap4 v w hqb hq4 hv)
  have hl12 := hok.len12
  have hgv : m0.places[v]? = some (m0.places[v]'(by rw [hS.places]; omega)) := List.getElem?_eq_getElem _
  by_cases hm : (v : Int) ∈ m0.all
  · obtain ⟨i, hi⟩ := List.getElem?_of_mem hm
    have h1 := hok.there i _ hi
    rw [Int.toNat_natCast, hgv] at h1
    simp only [Option.some.injEq] at h1
    rw [h1] at hcv
    have hne : (((i : Int) + 1) != 0) = true := by simp; omega
    have HR : Hid (∀ w', Below w.heap.size w w' → PutRes base w m0 v w') := hide (fun w' hb => ⟨m0, Mut.below hS hb, hok, fun u => ⟨.inl, fun h => h.elim id (fun e => by rw [e]; exact hm)⟩, KeptQ.refl _⟩)
    clear hS hok hpl hcell4 hfz4 hgv h1 hi hm
    go_enter Tryz.func109, Tryz.ntmps109
    go_wp2_with fail
    refine (unhide HC).mono ?_
    rintro e w1 ⟨rfl, n1, rfl⟩
    go_wp2
    try go_end0
    try (refine bodyPost_ret (results_none rfl _ _ _) rfl ?_)
    exact ⟨rfl, unhide HR _ (belowDrew (Below.refl _ _) _)⟩
  · have h1 := hok.gone v hv0 (by omega) hm
    rw [hgv] at h1
    simp only [Option.some.injEq] at h1
    rw [h1] at hcv
    have HROW : Hid (w.ownsRow base 3 1 m0.al m0.all.length (ints m0.all)) := hide (hS.pack.rows 8 _ rfl)
    obtain ⟨ao, cp, hsh⟩ := owns_shape (unhide HROW)
    have HROWB : Hid (∀ wx, Below w.heap.size w wx → wx.ownsRow base 3 1 m0.al m0.all.length (ints m0.all)) := hide (fun wx hb => owns_below (unhide HROW) hb)
    have HO : Hid (∀ (wz w4 : World) (g cap : Nat), w4.ownsRow base 3 1 (.slice (some ⟨g, 0, none⟩) (m0.all.length + 1) cap) (m0.all.length + 1) (ints m0.all ++ [.int .i64 (v : Int)]) → Below w.heap.size w wz → wz.grownBy w4 m0.al.ownBlock → (m0.al.ownBlock = some g ∨ g = wz.heap.size) →
        Mut base w m0 (w4.setCell ⟨m0.q, 2, none⟩ (.slice (some ⟨g, 0, none⟩) (m0.all.length + 1) cap)) (m0.heaped (.slice (some ⟨g, 0, none⟩) (m0.all.length + 1) cap) (m0.all ++ [(v : Int)])) ∧ w4.cell? ⟨m0.q, 2, none⟩ = some m0.al ∧ w4.frozen? ⟨m0.q, 2, none⟩ = false) := hide (fun wz w4 g cap ho hz hg hl => Mut.heaped hS ho hz hg hl)
    have HQ : Hid (∀ (w1 : World) (al : Value), Mut base w m0 w1 (m0.heaped al (m0.all ++ [(v : Int)])) → ∃ ao2 cp2, w1.cell? ⟨m0.q, 1, none⟩ = some (.func (.func 108) #[] #[.pointer (some ⟨m0.qb, 0, none⟩)]) ∧ w1.cell? ⟨m0.q, 2, none⟩ = some (.slice ao2 (m0.all.length + 1) cp2) ∧ w1.cell? ⟨g4, v, none⟩ = some (.int .i64 0) ∧ w1.frozen? ⟨g4, v, none⟩ = false ∧ (∀ wx, (∃ n, wx = w1.drewN n) → Calls Tryz.prog 108 #[.int .i64 v, .pointer (some ⟨m0.qb, 0, none⟩)] wx fun e w' => e = .returned (.pointer (some ⟨g4, v, none⟩)) ∧ ∃ n, w' = wx.drewN n) ∧ ∀ wq, Below w1.heap.size w1 wq → Mut base w m0 (wq.setCell ⟨g4, v, none⟩ (.int .i64 ((m0.all.length : Int) + 1))) ((m0.heaped al (m0.all ++ [(v : Int)])).placeSet v ((m0.all.length : Int) + 1))) := hide (by
      intro w1 al hm1
      have hlen : (m0.heaped al (m0.all ++ [(v : Int)])).all.length = m0.all.length + 1 := by show (m0.all ++ [(v : Int)]).length = _; simp
      obtain ⟨g, cap, g5, cap5, k1, k2, k3, k4, k5, k6, k7, k8, k9, k10, k11, k12, k13⟩ := hm1.at.queueAt (by rw [hlen]; omega)
      rw [hlen] at k7
      have hpl5 : m0.pl = .slice (some ⟨g5, 0, none⟩) 13 cap5 := k2
      have e5 := hpl5
      rw [hpl] at e5
      simp only [Value.slice.injEq, Option.some.injEq, Addr.mk.injEq, and_true, true_and] at e5
      obtain ⟨rfl, rfl⟩ := e5
      have k12v := k12 v (by rw [hm1.places]; omega)
      have hz : (m0.heaped al (m0.all ++ [(v : Int)])).places[v]'(by rw [hm1.places]; omega) = 0 := h1
      rw [hz] at k12v
      refine ⟨_, _, k6, k7, k12v, k13 v, fun wx hx => ?_, fun wq hq => ?_⟩
      · obtain ⟨n, rfl⟩ := hx
        exact place_any m0.q m0.qb g4 cap4 v (w1.drewN n) k9 k8 hv
      · have hb := Mut.below hm1.at hq
        exact (hm1.trans hb).trans (Mut.placeSet hb.at hpl v _))
    have HR : Hid (∀ (w2 : World) (al : Value), Mut base w m0 w2 ((m0.heaped al (m0.all ++ [(v : Int)])).placeSet v ((m0.all.length : Int) + 1)) → Calls Tryz.prog 154 #[.pointer (some ⟨m0.q, 0, none⟩), .int .i64 v] w2 fun e w' => e = .returned (.tuple #[]) ∧ PutRes base w m0 v w') := hide (by
      intro w2 al hm2
      have := rise_any base _ v w2 hm2.at (hok.push hv0 hv hm) hv0 hv
      refine this.mono (fun e w' hh => ?_)
      obtain ⟨he, m, hA⟩ := hh
      refine ⟨he, m, hm2.trans hA.mu, hA.ok, fun u => ?_, KeptQ.trans (b := (m0.heaped al (m0.all ++ [(v : Int)])).placeSet v ((m0.all.length : Int) + 1)) rfl hA.kept⟩
      rw [hA.same]
      show u ∈ m0.all ++ [(v : Int)] ↔ _
      simp)
    clear hS hok hpl hcell4 hfz4 hgv h1 hm
    generalize hN : m0.all.length = N at *
    clear hN
    generalize ints m0.all = io at *
    generalize m0.al = ov at *
    subst hsh
    go_enter Tryz.func109, Tryz.ntmps109
    go_wp2_with fail
    refine (unhide HC).mono ?_
    rintro e w1 ⟨rfl, n1, rfl⟩
    go_wp2_with (at_builtin; refine append_cell (base := base) rfl _ _ 25 3 rfl Tryz.underlying25 Tryz.infoInt rfl (by decide) (unhide HROWB _ (belowDrew (Below.refl _ _) _)) rfl rfl rfl (by omega) hbs ?_; intro g' cap' w4 hown4 hgr4 hloc; have HMID := hide (unhide HO _ _ _ _ hown4 ((belowDrew (Below.refl _ _) _).alloc (Nat.le_refl _) _) hgr4 hloc); clear hown4 hgr4 hloc; have hc04 := (unhide HMID).2.1; have hf04 := (unhide HMID).2.2)
    obtain ⟨ao2, cp2, k1, k2, k3, k4, k5, k6⟩ := unhide HQ _ _ (unhide HMID).1
    have HK5 := hide k5
    have HK6 := hide k6
    generalize hw5 : w4.setCell ⟨m0.q, 2, none⟩ (.slice (some ⟨g', 0, none⟩) (N + 1) cap') = w5 at *
    clear hw5 k5 k6 hc04 hf04
    go_cut [] (fun wx => Hid (∃ al, Mut base w m0 wx ((m0.heaped al (m0.all ++ [(v : Int)])).placeSet v ((N : Int) + 1))))
    case first =>
      go_region_with (go_at_call 108; refine (unhide HK5 _ (by first | exact ⟨0, rfl⟩ | exact ⟨1, rfl⟩ | exact ⟨2, rfl⟩)).mono ?_; rintro e w3 ⟨rfl, n3, rfl⟩)
      all_goals go_wp2_with fail
      all_goals go_meet
      all_goals exact hide ⟨_, unhide HK6 _ (belowDrew (Below.refl _ _) _)⟩
    case rest =>
      obtain ⟨w6, rfl⟩ : ∃ w6, w6 = wc := ⟨wc, rfl⟩
      obtain ⟨al6, hm6⟩ := unhide hcut
      have HR6 := hide (unhide HR _ _ hm6)
      clear hm6 hcut
      go_wp2_with fail
      refine (unhide HR6).mono ?_
      rintro e w7 ⟨rfl, hp7⟩
      have HP7 := hide hp7
      clear hp7
      go_wp2
      try go_end0
      exact ⟨rfl, unhide HP7⟩

/-- What Take comes to. -/
def TakeRes (base : Nat) (w : World) (m0 : Mem) (e : Ending) (w' : World) : Prop :=
  (m0.all = [] ∧ e = .returned (.tuple #[.int .i64 0, .bool false]) ∧ Mut base w m0 w' m0) ∨
  ∃ (v : Nat) (m : Mem), (v : Int) ∈ m0.all ∧ e = .returned (.tuple #[.int .i64 v, .bool true]) ∧ Mut base w m0 w' m ∧ HeapOK m.all m.places ∧ (∀ u, u ∈ m.all ↔ u ∈ m0.all ∧ u ≠ (v : Int)) ∧ KeptQ m0 m

end Go.Proofs.YtekkkoipcghlmaaGreatDoor
