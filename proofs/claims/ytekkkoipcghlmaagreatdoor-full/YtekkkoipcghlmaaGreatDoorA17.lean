import Derived.Test.YtekkkoipcghlmaaGreatDoorA16
set_option linter.all false
namespace Go.Proofs.YtekkkoipcghlmaaGreatDoor
open Go.RowKit

/-- All clauses, as lists of literals. -/
def dbOf (cls : List Cl) : List (List Int) := cls.map Cl.lits
/-- It is false, for something that was met or is on level 0. -/
def Seen (tr : Tr) (met : List Bool) (b : Nat) (y : Int) : Prop := ∃ (j : Nat) (r : Int), j < b ∧ tr[j]? = some (-y, r) ∧ (marked met y.natAbs = true ∨ lev tr j = 0)
def cntOf (m : Mem) (tr : Tr) (met : List Bool) (i : Nat) : Nat := ((tr.take i).filter (fun e => marked met e.1.natAbs && (m.level e.1.natAbs == (levels tr : Int)))).length
/-- How far a lesson has come. -/
structure MC (m : Mem) (DB : List (List Int)) (tr : Tr) (met : List Bool) (low : List Int) (left i b : Nat) : Prop where
  len : met.length = 13
  bd : i ≤ tr.length
  mtr : ∀ v, marked met v = true → ∃ (j : Nat) (e : Int × Int), tr[j]? = some e ∧ e.1.natAbs = v ∧ 0 < lev tr j
  lows : ∀ x, x ∈ low ↔ (marked met x.natAbs = true ∧ ∃ (j : Nat) (r : Int), tr[j]? = some (-x, r) ∧ lev tr j < levels tr)
  nd : (low.map Int.natAbs).Nodup
  cnt : left = cntOf m tr met i
  done : ∀ (j : Nat) (e : Int × Int), b ≤ j → tr[j]? = some e → marked met e.1.natAbs = true → lev tr j = levels tr → ∃ c, c ∈ DB ∧ ∀ y, y ∈ c → y = e.1 ∨ Seen tr met j y
/-- What a conflict teaches. -/
structure Lesson (DB : List (List Int)) (tr : Tr) (lits : List Int) : Prop where
  wf : wfLits lits
  head : ∃ p rest i r, lits = -p :: rest ∧ tr[i]? = some (p, r) ∧ lev tr i = levels tr ∧ ∀ x, x ∈ rest → ∃ (j : Nat) (s : Int), tr[j]? = some (-x, s) ∧ 0 < lev tr j ∧ lev tr j < levels tr
  set : ∃ S : Nat → Prop, (∀ i, S i → ∃ e, tr[i]? = some e ∧ (-e.1 ∈ lits ∨ ∃ c, c ∈ DB ∧ ∀ y, y ∈ c → y = e.1 ∨ ∃ j r, j < i ∧ S j ∧ tr[j]? = some (-y, r))) ∧ ∃ c, c ∈ DB ∧ ∀ y, y ∈ c → ∃ j r, S j ∧ tr[j]? = some (-y, r)

theorem Seen.mono {tr : Tr} {met met' : List Bool} {b b' : Nat} {y : Int} (h : Seen tr met b y) (hm : ∀ v, marked met v = true → marked met' v = true) (hb : b ≤ b') : Seen tr met' b' y := by
  obtain ⟨j, r, h1, h2, h3⟩ := h
  exact ⟨j, r, by omega, h2, h3.imp (hm _) id⟩

section
variable {m : Mem} {cls : List Cl} {DB : List (List Int)} {tr : Tr} {met : List Bool} {low : List Int} {left i b : Nat}
theorem Rep.lev (hR : Rep m cls tr) {j : Nat} {e : Int × Int} (h : tr[j]? = some e) {v : Nat} (hv : e.1.natAbs = v) : m.level v = (lev tr j : Int) := by rw [← hv]; exact (hR.taken j e h).2.1
theorem filter_mark {α : Type} (P Q : α → Bool) : ∀ (l : List α) (j : Nat) (a : α), l[j]? = some a → P a = false → Q a = true → (∀ k x, k ≠ j → l[k]? = some x → Q x = P x) → (l.filter Q).length = (l.filter P).length + 1
  | [], j, a, h, _, _, _ => by simp at h
  | x :: r, 0, a, h, hp, hq, ho => by
    simp at h; subst h
    rw [List.filter_cons, List.filter_cons, if_pos hq, if_neg (by simp [hp])]
    have : r.filter Q = r.filter P := List.filter_congr (fun y hy => by
      obtain ⟨k, hk⟩ := List.getElem?_of_mem hy
      exact ho (k + 1) y (by omega) (by rw [List.getElem?_cons_succ]; exact hk))
    rw [this]; rfl
  | x :: r, j + 1, a, h, hp, hq, ho => by
    rw [List.getElem?_cons_succ] at h
    have ih := filter_mark P Q r j a h hp hq (fun k y hk hy => ho (k + 1) y (by omega) (by rw [List.getElem?_cons_succ]; exact hy))
    have h0 := ho 0 x (by omega) rfl
    rw [List.filter_cons, List.filter_cons, h0]
    split <;> simp [ih]
/-- A literal that is false and was not met is met. -/
theorem MC.mark (h : MC m DB tr met low left i b) (hR : Rep m cls tr) (hT : TrOK cls tr) {x : Int} {j : Nat} {r : Int} (hx : tr[j]? = some (-x, r)) (hji : j < i) (hib : i ≤ b) (hl0 : 0 < lev tr j) (hm : marked met x.natAbs = false) :
    MC m DB tr (met.set x.natAbs true) (if m.level x.natAbs = (levels tr : Int) then low else low ++ [x]) (if m.level x.natAbs = (levels tr : Int) then left + 1 else left) i b := by
  have hb := hT.bd j _ hx
  simp only at hb
  have hvl : x.natAbs < met.length := by rw [h.len]; omega
  have hxa : ((-x : Int), r).1.natAbs = x.natAbs := by simp
  have hlv := hR.lev hx hxa
  have ms : ∀ u, marked (met.set x.natAbs true) u = (marked met u || u == x.natAbs) := fun u => marked_set met _ u hvl
  have up : ∀ u, marked met u = true → marked (met.set x.natAbs true) u = true := fun u hu => by rw [ms, hu]; rfl
  have uniq : ∀ (k : Nat) (e : Int × Int), tr[k]? = some e → e.1.natAbs = x.natAbs → k = j := fun k e hk he => hT.one hk hx (by rw [he]; simp)
  refine ⟨by rw [List.length_set]; exact h.len, h.bd, fun v hv => ?_, fun y => ?_, ?_, ?_, fun k e hk he hme hle => ?_⟩
  · rw [ms, Bool.or_eq_true, beq_iff_eq] at hv
    rcases hv with hv | rfl
    · exact h.mtr v hv
    · exact ⟨j, _, hx, hxa, hl0⟩
  · by_cases ht : m.level x.natAbs = (levels tr : Int)
    · rw [if_pos ht, h.lows, ms]
      constructor
      · rintro ⟨h1, h2⟩; exact ⟨by rw [h1]; rfl, h2⟩
      · rintro ⟨h1, k, q, h2, h3⟩
        rw [Bool.or_eq_true, beq_iff_eq] at h1
        rcases h1 with h1 | h1
        · exact ⟨h1, k, q, h2, h3⟩
        · have := uniq k _ h2 (by simp [h1])
          subst this
          omega
    · rw [if_neg ht, List.mem_append, h.lows, ms, List.mem_singleton]
      constructor
      · rintro (⟨h1, h2⟩ | rfl)
        · exact ⟨by rw [h1]; rfl, h2⟩
        · refine ⟨by simp, j, r, hx, ?_⟩
          have := lev_le tr j
          omega
      · rintro ⟨h1, k, q, h2, h3⟩
        rw [Bool.or_eq_true, beq_iff_eq] at h1
        rcases h1 with h1 | h1
        · exact .inl ⟨h1, k, q, h2, h3⟩
        · have := uniq k _ h2 (by simp [h1])
          subst this
          rw [hx] at h2
          simp at h2
          exact .inr (by omega)
  · split
    · exact h.nd
    · rw [List.map_append, List.nodup_append]
      refine ⟨h.nd, by simp, ?_⟩
      rintro a ha c hc rfl
      simp at hc
      obtain ⟨y, hy, hya⟩ := List.mem_map.1 ha
      have := ((h.lows y).1 hy).1
      rw [hya, hc, hm] at this
      cases this
  · unfold cntOf
    by_cases ht : m.level x.natAbs = (levels tr : Int)
    · rw [if_pos ht, h.cnt]
      unfold cntOf
      refine (filter_mark _ _ (tr.take i) j ((-x), r) (by rw [List.getElem?_take_of_lt hji]; exact hx) ?_ ?_ ?_).symm
      · simp [hm]
      · simp [ms, ht]
      · intro k e hk he
        have hkl := (List.getElem?_eq_some_iff.1 he).1
        rw [List.length_take] at hkl
        rw [List.getElem?_take_of_lt (by omega)] at he
        have hne : e.1.natAbs ≠ x.natAbs := fun h' => hk (uniq k e he h')
        have : (e.1.natAbs == x.natAbs) = false := by simpa using hne
        simp [ms, this]
    · rw [if_neg ht, h.cnt]
      unfold cntOf
      congr 1
      refine List.filter_congr (fun e he => ?_)
      by_cases hne : e.1.natAbs = x.natAbs
      · rw [hne]
        have : (m.level x.natAbs == (levels tr : Int)) = false := by simpa using ht
        rw [this, Bool.and_false, Bool.and_false]
      · have : (e.1.natAbs == x.natAbs) = false := by simpa using hne
        rw [ms, this, Bool.or_false]
  · rw [ms, Bool.or_eq_true, beq_iff_eq] at hme
    rcases hme with hme | hme
    · obtain ⟨c, hc, hy⟩ := h.done k e hk he hme hle
      exact ⟨c, hc, fun y hyc => (hy y hyc).imp id (fun hs => hs.mono up (Nat.le_refl _))⟩
    · have := uniq k e he hme
      omega

/-- Some literals, one behind the other. -/
def topOf (m : Mem) (tr : Tr) (x : Int) : Bool := m.level x.natAbs == (levels tr : Int)
theorem MC.meets (hR : Rep m cls tr) (hT : TrOK cls tr) (hib : i ≤ b) : ∀ (fr : List Int) (met : List Bool) (low : List Int) (left : Nat), MC m DB tr met low left i b → (∀ x, x ∈ fr → marked met x.natAbs = false ∧ ∃ j r, j < i ∧ tr[j]? = some (-x, r) ∧ 0 < lev tr j) → (fr.map Int.natAbs).Nodup →
    MC m DB tr (marks met (fr.map Int.natAbs)) (low ++ fr.filter (fun x => !topOf m tr x)) (left + (fr.filter (topOf m tr)).length) i b
  | [], met, low, left, h, _, _ => by simpa [marks] using h
  | x :: fr, met, low, left, h, hx, hn => by
    obtain ⟨h1, j, r, h2, h3, h4⟩ := hx x (by simp)
    have h5 := h.mark hR hT h3 h2 hib h4 h1
    simp only [List.map_cons, List.nodup_cons] at hn
    have hvl : x.natAbs < met.length := by have := hT.bd j _ h3; simp only at this; rw [h.len]; omega
    have h6 := MC.meets hR hT hib fr _ _ _ h5 (fun y hy => by
      obtain ⟨g1, g2⟩ := hx y (by simp [hy])
      refine ⟨?_, g2⟩
      rw [marked_set _ _ _ hvl, g1]
      have : y.natAbs ≠ x.natAbs := fun e => hn.1 (by rw [← e]; exact List.mem_map.2 ⟨y, hy, rfl⟩)
      simpa using this) hn.2
    have e1 : marks met ((x :: fr).map Int.natAbs) = marks (met.set x.natAbs true) (fr.map Int.natAbs) := rfl
    rw [e1]
    by_cases ht : m.level x.natAbs = (levels tr : Int)
    · have ht' : topOf m tr x = true := by unfold topOf; simpa using ht
      rw [if_pos ht, if_pos ht] at h6
      rw [List.filter_cons, List.filter_cons, if_neg (by simp [ht']), if_pos ht']
      simp only [List.length_cons]
      rw [show left + ((fr.filter (topOf m tr)).length + 1) = left + 1 + (fr.filter (topOf m tr)).length from by omega]
      exact h6
    · have ht' : topOf m tr x = false := by unfold topOf; simpa using ht
      rw [if_neg ht, if_neg ht] at h6
      rw [List.filter_cons, List.filter_cons, if_pos (by simp [ht']), if_neg (by simp [ht'])]
      rw [List.append_assoc] at h6
      exact h6
end

end Go.Proofs.YtekkkoipcghlmaaGreatDoor

namespace Go.Proofs.YtekkkoipcghlmaaGreatDoor
open Go.RowKit

section
variable {m : Mem} {cls : List Cl} {DB : List (List Int)} {tr : Tr} {met : List Bool} {low : List Int} {left i b : Nat}
/-- A clause is met. -/
theorem MC.clause (h : MC m DB tr met low left i b) (hR : Rep m cls tr) (hT : TrOK cls tr) (hib : i ≤ b) {l : List Int} (hwf : wfLits l) (hl : ∀ y, y ∈ l → marked met y.natAbs = true ∨ ∃ j r, j < i ∧ tr[j]? = some (-y, r)) :
    MC m DB tr (marks met ((freshOf m met l).map Int.natAbs)) (low ++ (freshOf m met l).filter (fun x => !topOf m tr x)) (left + ((freshOf m met l).filter (topOf m tr)).length) i b ∧ (∀ v, marked met v = true → marked (marks met ((freshOf m met l).map Int.natAbs)) v = true) ∧ (∀ y, y ∈ l → ∀ j r, j < i → tr[j]? = some (-y, r) → Seen tr (marks met ((freshOf m met l).map Int.natAbs)) i y) ∧ ∀ y, y ∈ l → marked met y.natAbs = false → (∃ j r, tr[j]? = some (-y, r) ∧ lev tr j = levels tr) → 0 < levels tr → 0 < ((freshOf m met l).filter (topOf m tr)).length := by
  have key : ∀ x, x ∈ freshOf m met l → x ∈ l ∧ marked met x.natAbs = false ∧ m.level x.natAbs ≠ 0 := fun x hx => by
    obtain ⟨h1, h2⟩ := List.mem_filter.1 hx
    simp at h2
    exact ⟨h1, h2⟩
  have keyb : ∀ x, x ∈ l → marked met x.natAbs = false → m.level x.natAbs ≠ 0 → x ∈ freshOf m met l := fun x h1 h2 h3 => List.mem_filter.2 ⟨h1, by simp [h2, h3]⟩
  have hbd : ∀ v, v ∈ (freshOf m met l).map Int.natAbs → v < met.length := fun v hv => by
    obtain ⟨x, hx, rfl⟩ := List.mem_map.1 hv
    have := hwf.2 x (key x hx).1
    rw [h.len]; omega
  refine ⟨MC.meets hR hT hib _ _ _ _ h (fun x hx => ?_) ?_, fun v hv => by rw [marks_get _ _ hbd, hv]; rfl, fun y hy j r hj hjr => ⟨j, r, hj, hjr, ?_⟩, fun y hy hm hjr h0 => ?_⟩
  · obtain ⟨h1, h2, h3⟩ := key x hx
    refine ⟨h2, ?_⟩
    rcases hl x h1 with h4 | ⟨j, r, hj, hjr⟩
    · rw [h2] at h4; cases h4
    · refine ⟨j, r, hj, hjr, ?_⟩
      have := hR.lev hjr (v := x.natAbs) (by simp)
      omega
  · exact hwf.1.sublist (List.Sublist.map _ List.filter_sublist)
  · rw [marks_get _ _ hbd, Bool.or_eq_true, decide_eq_true_eq]
    rcases Classical.em (lev tr j = 0) with h0 | h0
    · exact .inr h0
    · left
      cases hm : marked met y.natAbs
      · refine .inr (List.mem_map.2 ⟨y, keyb y hy hm ?_, rfl⟩)
        have := hR.lev hjr (v := y.natAbs) (by simp)
        omega
      · exact .inl rfl
  · obtain ⟨j, r, hjr, hlv⟩ := hjr
    have h1 := hR.lev hjr (v := y.natAbs) (by simp)
    have : y ∈ (freshOf m met l).filter (topOf m tr) := List.mem_filter.2 ⟨keyb y hy hm (by omega), by unfold topOf; rw [h1, hlv]; simp⟩
    exact List.length_pos_of_mem this
theorem MC.begin (m : Mem) (DB : List (List Int)) (tr : Tr) : MC m DB tr (List.replicate 13 false) [] 0 tr.length (tr.length + 1) := by
  have hn : ∀ v, marked (List.replicate 13 false) v = false := fun v => by
    unfold marked
    rw [List.getElem?_replicate]
    split <;> rfl
  have hlen : (List.replicate 13 false).length = 13 := by simp
  generalize List.replicate 13 false = z at *
  refine ⟨hlen, Nat.le_refl _, fun v hv => ?_, fun x => ?_, by simp, ?_, fun j e hj he => ?_⟩
  · rw [hn] at hv; cases hv
  · simp [hn]
  · unfold cntOf
    rw [List.filter_eq_nil_iff.2 (fun e _ => by rw [hn]; simp)]
    rfl
  · have := (List.getElem?_eq_some_iff.1 he).1; omega
/-- The clause from which a point came is met. -/
theorem MC.finish (h : MC m DB tr met low left i (i + 1)) {l : List Int} (hl : l ∈ DB) (hs : ∀ e, tr[i]? = some e → ∀ y, y ∈ l → y = e.1 ∨ Seen tr met i y) : MC m DB tr met low left i i := by
  refine ⟨h.len, h.bd, h.mtr, h.lows, h.nd, h.cnt, fun j e hj he hm hlv => ?_⟩
  by_cases hji : j = i
  · subst hji
    exact ⟨l, hl, hs e he⟩
  · exact h.done j e (by omega) he hm hlv
/-- There is something to go back to. -/
theorem MC.any (h : MC m DB tr met low left i b) (hl : 0 < left) : ∃ (j : Nat) (e : Int × Int), j < i ∧ tr[j]? = some e ∧ marked met e.1.natAbs = true ∧ m.level e.1.natAbs = (levels tr : Int) := by
  rw [h.cnt] at hl
  unfold cntOf at hl
  obtain ⟨e, he⟩ := List.exists_mem_of_length_pos hl
  obtain ⟨h1, h2⟩ := List.mem_filter.1 he
  simp at h2
  obtain ⟨j, hj⟩ := List.getElem?_of_mem h1
  have hjl := (List.getElem?_eq_some_iff.1 hj).1
  rw [List.length_take] at hjl
  rw [List.getElem?_take_of_lt (by omega)] at hj
  exact ⟨j, e, by omega, hj, h2.1, h2.2⟩
theorem MC.top (h : MC m DB tr met low left i b) (hR : Rep m cls tr) (hl : 0 < left) {k : Nat} (hlast : ∀ j e, k < j → j < i → tr[j]? = some e → marked met e.1.natAbs = false) : lev tr k = levels tr := by
  obtain ⟨j, e, h1, h2, h3, h4⟩ := h.any hl
  have hjk : j ≤ k := by
    rcases Nat.lt_or_ge k j with hk | hk
    · have := hlast j e hk h1 h2; rw [h3] at this; cases this
    · exact hk
  have := hR.lev h2 rfl
  have h5 := lev_mono tr hjk
  have h6 := lev_le tr k
  omega
theorem MC.down (h : MC m DB tr met low left i i) (hR : Rep m cls tr) (hl : 0 < left) {k : Nat} {e : Int × Int} (hki : k < i) (hk : tr[k]? = some e) (hm : marked met e.1.natAbs = true) (hlast : ∀ j e, k < j → j < i → tr[j]? = some e → marked met e.1.natAbs = false) : MC m DB tr met low (left - 1) k (k + 1) := by
  have htop := h.top hR hl hlast
  have hbd := h.bd
  refine ⟨h.len, by omega, h.mtr, h.lows, h.nd, ?_, fun j f hj hf hmf hlf => ?_⟩
  · rw [h.cnt]
    unfold cntOf
    have hkl := (List.getElem?_eq_some_iff.1 hk).1
    have e1 : tr.take i = tr.take k ++ e :: (tr.drop (k + 1)).take (i - (k + 1)) := by
      have h1 : tr.take i = tr.take (k + 1) ++ (tr.drop (k + 1)).take (i - (k + 1)) := by rw [← List.take_add, show k + 1 + (i - (k + 1)) = i from by omega]
      rw [h1, List.take_succ_eq_append_getElem hkl, (List.getElem?_eq_some_iff.1 hk).2, List.append_assoc]
      rfl
    have e2 : ((tr.drop (k + 1)).take (i - (k + 1))).filter (fun e => marked met e.1.natAbs && (m.level e.1.natAbs == (levels tr : Int))) = [] := by
      rw [List.filter_eq_nil_iff]
      intro f hf
      obtain ⟨j, hj⟩ := List.getElem?_of_mem hf
      have hjl := (List.getElem?_eq_some_iff.1 hj).1
      rw [List.length_take] at hjl
      rw [List.getElem?_take_of_lt (by omega), List.getElem?_drop] at hj
      rw [hlast _ f (by omega) (by omega) hj]
      simp
    have e3 : (m.level e.1.natAbs == (levels tr : Int)) = true := by rw [hR.lev hk rfl, htop]; simp
    rw [e1, List.filter_append, List.filter_cons, e2, if_pos (by rw [hm, e3]; rfl), List.length_append]
    simp
  · rcases Nat.lt_or_ge j i with hji | hji
    · have := hlast j f (by omega) hji hf; rw [hmf] at this; cases this
    · exact h.done j f hji hf hmf hlf
theorem lev_dec {tr : Tr} {k : Nat} {e : Int × Int} (hk : tr[k]? = some e) (hd : dec e = true) {j : Nat} (hj : j < k) : lev tr j < lev tr k := by
  have hkl := (List.getElem?_eq_some_iff.1 hk).1
  have h1 : lev tr j ≤ levels (tr.take k) := levels_take_le tr (by omega)
  have h2 : lev tr k = levels (tr.take k) + 1 := by
    unfold lev
    rw [List.take_succ_eq_append_getElem hkl, levels_append, (List.getElem?_eq_some_iff.1 hk).2]
    simp [levels, hd]
  omega
theorem lev_zero {tr : Tr} {k : Nat} {e : Int × Int} (hk : tr[k]? = some e) (h0 : lev tr k = 0) : dec e = false := by
  cases hd : dec e
  · rfl
  · have hkl := (List.getElem?_eq_some_iff.1 hk).1
    have h2 : lev tr k = levels (tr.take k) + 1 := by
      unfold lev
      rw [List.take_succ_eq_append_getElem hkl, levels_append, (List.getElem?_eq_some_iff.1 hk).2]
      simp [levels, hd]
    omega
/-- A point that is not the last one came of a clause. -/
theorem MC.reason (h : MC m DB tr met low left i i) (hR : Rep m cls tr) (hl : 2 ≤ left) {k : Nat} {e : Int × Int} (hki : k < i) (hk : tr[k]? = some e) (hm : marked met e.1.natAbs = true) (hlast : ∀ j e, k < j → j < i → tr[j]? = some e → marked met e.1.natAbs = false) : dec e = false := by
  have htop := h.top hR (by omega) hlast
  have h1 := h.down hR (by omega) hki hk hm hlast
  obtain ⟨j, f, h2, h3, h4, h5⟩ := h1.any (by omega)
  cases hd : dec e
  · rfl
  · have := lev_dec hk hd h2
    have := hR.lev h3 rfl
    omega
theorem MC.lesson (h : MC m DB tr met low 1 i i) (hR : Rep m cls tr) (hT : TrOK cls tr) (hDB : ∀ (c : Nat) (cl : Cl), cls[c]? = some cl → cl.lits ∈ DB) (hpos : 0 < levels tr) {k : Nat} {e : Int × Int} (hki : k < i) (hk : tr[k]? = some e) (hm : marked met e.1.natAbs = true) (hlast : ∀ j e, k < j → j < i → tr[j]? = some e → marked met e.1.natAbs = false)
    {l : List Int} (hl : l ∈ DB) (hs : ∀ y, y ∈ l → Seen tr met tr.length y) : Lesson DB tr (-e.1 :: low) := by
  have htop := h.top hR (by omega) hlast
  have h1 := h.down hR (by omega) hki hk hm hlast
  have hbe := hT.bd k e hk
  have hnone : ∀ (j : Nat) (f : Int × Int), j < k → tr[j]? = some f → marked met f.1.natAbs = true → lev tr j ≠ levels tr := by
    intro j f hj hf hmf hlf
    have h0 := h1.cnt
    have : f ∈ (tr.take k).filter (fun e => marked met e.1.natAbs && (m.level e.1.natAbs == (levels tr : Int))) := List.mem_filter.2 ⟨List.mem_of_getElem? (by rw [List.getElem?_take_of_lt hj]; exact hf), by rw [hmf, hR.lev hf rfl, hlf]; simp⟩
    have := List.length_pos_of_mem this
    unfold cntOf at h0
    omega
  refine ⟨⟨?_, fun x hx => ?_⟩, ⟨e.1, low, k, e.2, rfl, hk, htop, fun x hx => ?_⟩, fun j => ∃ f, tr[j]? = some f ∧ (marked met f.1.natAbs = true ∨ lev tr j = 0), fun j hj => ?_, l, hl, fun y hy => ?_⟩
  · simp only [List.map_cons, List.nodup_cons, Int.natAbs_neg]
    refine ⟨fun hin => ?_, h.nd⟩
    obtain ⟨x, hx, hxe⟩ := List.mem_map.1 hin
    obtain ⟨-, j, r, hj, hlt⟩ := (h.lows x).1 hx
    have := hT.one hj hk (by simp [hxe])
    subst this
    omega
  · rcases List.mem_cons.1 hx with rfl | hx
    · omega
    · obtain ⟨-, j, r, hj, -⟩ := (h.lows x).1 hx
      have := hT.bd j _ hj
      simp only at this
      omega
  · obtain ⟨h2, j, r, hj, hlt⟩ := (h.lows x).1 hx
    obtain ⟨j', f, hj', hf, h0⟩ := h.mtr _ h2
    have := hT.one hj hj' (by simp [hf])
    subst this
    exact ⟨j, r, hj, h0, hlt⟩
  · obtain ⟨f, hf, hc⟩ := hj
    refine ⟨f, hf, ?_⟩
    have zero : lev tr j = 0 → ∃ c, c ∈ DB ∧ ∀ y, y ∈ c → y = f.1 ∨ ∃ j' r, j' < j ∧ (∃ f, tr[j']? = some f ∧ (marked met f.1.natAbs = true ∨ lev tr j' = 0)) ∧ tr[j']? = some (-y, r) := by
      intro h0
      obtain ⟨c, cl, rest, g1, g2, g3, g4⟩ := hT.reason j f hf (lev_zero hf h0)
      refine ⟨cl.lits, hDB c cl g1, fun y hy => ?_⟩
      rw [g3] at hy
      rcases List.mem_cons.1 hy with rfl | hy
      · exact .inl rfl
      · obtain ⟨j', r, hj', hr⟩ := g4 y hy
        exact .inr ⟨j', r, hj', ⟨_, hr, .inr (by have := lev_mono tr (i := j') (j := j) (by omega); omega)⟩, hr⟩
    rcases hc with hmf | h0
    · have hle := lev_le tr j
      rcases Nat.lt_or_ge (lev tr j) (levels tr) with hlt | hge
      · left
        refine List.mem_cons_of_mem _ ((h.lows _).2 ⟨by simpa using hmf, j, f.2, by rw [Int.neg_neg]; exact hf, hlt⟩)
      · rcases Nat.lt_trichotomy j k with hjk | hjk | hjk
        · exact absurd (by omega) (hnone j f hjk hf hmf)
        · subst hjk
          rw [hk] at hf; cases hf
          exact .inl (by simp)
        · right
          obtain ⟨c, hc, hy⟩ := h1.done j f (by omega) hf hmf (by omega)
          refine ⟨c, hc, fun y hyc => ?_⟩
          rcases hy y hyc with h2 | ⟨j', r, h2, h3, h4⟩
          · exact .inl h2
          · exact .inr ⟨j', r, h2, ⟨_, h3, by simpa using h4⟩, h3⟩
    · exact .inr (zero h0)
  · obtain ⟨j, r, -, h2, h3⟩ := hs y hy
    exact ⟨j, r, ⟨_, h2, by simpa using h3⟩, h2⟩
end
/-- A clause that is false has two literals of the last level. -/
theorem Struck.high {cls : List Cl} {wat : Int → List Int} {tr : Tr} {n : Nat} {bad : Int} (h : Struck cls wat tr n bad) {c : Nat} {cl : Cl} (hc : cls[c]? = some cl) (hf : ∀ x, x ∈ cl.lits → Tru tr (-x)) (hpos : 0 < levels tr) : ∃ y, y ∈ cl.lits ∧ ∃ j r, tr[j]? = some (-y, r) ∧ lev tr j = levels tr := by
  rcases h.ok c cl hc with ⟨x, h1, j, r, h2, h3⟩ | ⟨a, b, r, h1, h2, h3⟩
  · exact (h.trok.not_both ⟨j, r, h2⟩ (hf x (by rw [h1]; simp))).elim
  · obtain ⟨i, s, hi⟩ := hf a (by rw [h1]; simp)
    refine ⟨a, by rw [h1]; simp, i, s, hi, ?_⟩
    rcases Nat.lt_or_ge i n with hin | hin
    · obtain ⟨j, q, hj, -⟩ := h2 i s hin hi
      exact (h.trok.not_both ⟨j, q, hj⟩ (hf b (by rw [h1]; simp))).elim
    · have := lev_mono tr hin
      have := lev_le tr i
      have := h.top
      omega

end Go.Proofs.YtekkkoipcghlmaaGreatDoor

namespace Go.Proofs.YtekkkoipcghlmaaGreatDoor
open Go.RowKit
attribute [local go_sem ↓] Go.wp_at_zero Go.wp_at_succ

def LastRes (w : World) (tr : Tr) (met : List Bool) (n : Nat) (e : Ending) (w' : World) : Prop :=
  ∃ k f, e = .returned (.int .i64 ((k : Nat) : Int)) ∧ k < n ∧ tr[k]? = some f ∧ marked met f.1.natAbs = true ∧ (∀ j f, k < j → j < n → tr[j]? = some f → marked met f.1.natAbs = false) ∧ Below w.heap.size w w'
/-- The order as it lies. -/
theorem Rep.orderAt {base : Nat} {w : World} {m : Mem} {cls : List Cl} {tr : Tr} (hS : SAt base w m) (hR : Rep m cls tr) (hn : 0 < tr.length) : ∃ g cap, m.od = .slice (some ⟨g, 0, none⟩) tr.length cap ∧ w.cell? ⟨m.s, 4, none⟩ = some (.slice (some ⟨g, 0, none⟩) tr.length cap) ∧ tr.length ≤ cap ∧ g < w.heap.size ∧ ∀ j e, tr[j]? = some e → w.cell? ⟨g, j, none⟩ = some (.int .i64 e.1) := by
  have hrow := hS.pack.rows 6 _ rfl
  unfold Row.ok intRow at hrow
  have hl : m.order.length = tr.length := by rw [hR.order, List.length_map]
  simp only [hR.odr, hR.ordr, hl] at hrow
  obtain ⟨g, cap, hv, -, hg⟩ := World.ownsRow.form hrow hn
  rw [hv] at hrow
  refine ⟨g, cap, hv, by rw [hS.cell 4 (by decide), ← hv]; rfl, ?_, hg, fun j e hj => ?_⟩
  · rcases hrow.2 with ⟨h0, _⟩ | ⟨g', cap', cur, hv', _, _, hle, _⟩
    · cases h0
    · cases hv'; exact hle
  · have hjl := (List.getElem?_eq_some_iff.1 hj).1
    rw [hrow.cellAt j (by omega), hR.order]
    simp [ints, hj]

set_option maxRecDepth 100000 in
set_option maxHeartbeats 3200000 in
theorem lastMet_any (base : Nat) (m : Mem) (cls : List Cl) (tr : Tr) (E : List Row) (i : Nat) (mv : Value) (met : List Bool) (n : Nat) (w : World) (hE : EAt base w m E) (hi : E[i]? = some (boolRow mv met)) (hml : met.length = 13) (hR : Rep m cls tr) (hT : TrOK cls tr) (hn : n ≤ tr.length) (hex : ∃ (j : Nat) (f : Int × Int), j < n ∧ tr[j]? = some f ∧ marked met f.1.natAbs = true) :
    Calls Tryz.prog 161 #[.pointer (some ⟨m.s, 0, none⟩), .int .i64 (n : Int), mv] w fun e w' => LastRes w tr met n e w' := by
  have hl12 := hT.len
  obtain ⟨j0, f0, hj0, hf0, hm0⟩ := hex
  obtain ⟨gm, cm, hmv, -, -, -, -⟩ := marks_read hE hi hml
  subst hmv
  obtain ⟨g, cap, hod, -, -, -, -⟩ := hR.orderAt hE.at (by omega)
  have HRD : Hid (∀ k wr, k < n → Below w.heap.size w wr → ∃ f, tr[k]? = some f ∧ (f.1 ≠ 0 ∧ -12 ≤ f.1 ∧ f.1 ≤ 12) ∧ ∀ wx, Below wr.heap.size wr wx → wx.cell? ⟨m.s, 4, none⟩ = some (.slice (some ⟨g, 0, none⟩) tr.length cap) ∧ wx.cell? ⟨g, k, none⟩ = some (.int .i64 f.1) ∧ wx.cell? ⟨gm, f.1.natAbs, none⟩ = some (.bool (marked met f.1.natAbs))) := hide (by
    intro k wr hk hb
    have hkt : k < tr.length := by omega
    have hf : tr[k]? = some tr[k] := List.getElem?_eq_getElem hkt
    have hbd := hT.bd k _ hf
    refine ⟨tr[k], hf, hbd, fun wx hbx => ?_⟩
    have hb2 := hb.trans (hbx.mono hb.size)
    obtain ⟨g', cap', h1, h2, -, -, h3⟩ := hR.orderAt (hE.at.below hb2) (by omega)
    rw [hod] at h1
    cases h1
    obtain ⟨gm', cm', h4, -, h5, -, -⟩ := marks_read (EMut.below hE hb2).eat hi hml
    cases h4
    have hv : tr[k].1.natAbs < met.length := by omega
    refine ⟨h2, h3 k _ hf, ?_⟩
    rw [h5 _ _ (List.getElem?_eq_getElem hv)]
    unfold marked
    rw [List.getElem?_eq_getElem hv]
    rfl)
  have HFIN : Hid (∀ k f wr, k < n → tr[k]? = some f → marked met f.1.natAbs = true → (∀ j f, k < j → j < n → tr[j]? = some f → marked met f.1.natAbs = false) → Below w.heap.size w wr → LastRes w tr met n (.returned (.int .i64 ((k : Nat) : Int))) wr) := hide (fun k f wr h1 h2 h3 h4 h5 => ⟨k, f, rfl, h1, h2, h3, h4, h5⟩)
  have HJ := hide (And.intro hj0 (And.intro hf0 hm0))
  have hgt : n ≤ tr.length := hn
  clear hE hi hml hR hT hod hf0 hm0
  generalize hL : tr.length = L at *
  clear hL
  go_enter Tryz.func161, Tryz.ntmps161
  go_wp2
  go_loopw [7] (fun v7 wr => ∃ k : Nat, k < n ∧ v7 = .int .i64 (k : Int) ∧ Hid (Below w.heap.size w wr) ∧ Hid (∀ j f, k < j → j < n → tr[j]? = some f → marked met f.1.natAbs = false)) (fun v7 _ => (intOf v7).toNat)
  case atStart => exact ⟨n - 1, by omega, by go_num, hide (Below.refl _ _), hide (fun j f h1 h2 => by omega)⟩
  case round =>
    obtain ⟨k, hk, rfl, HB, HN⟩ := hrel
    obtain ⟨f, hf, hfb, hrd⟩ := unhide HRD k wr hk (unhide HB)
    have HV := hide (fun wx => variableOf_any f.1 wx hfb.2.1 hfb.2.2)
    obtain ⟨hc4, hck, hcm⟩ := hrd wr (Below.refl _ _)
    have hki : (k : Int) < (L : Int) := by omega
    have hvi : (f.1.natAbs : Int) < 13 := by omega
    have HF := hide hf
    clear hf hrd
    by_cases hmk : marked met f.1.natAbs = true
    · have HR := hide (fun wx => unhide HFIN k f wx hk (unhide HF) hmk (unhide HN))
      rw [hmk] at hcm
      clear hmk
      generalize f.1.natAbs = v at *
      generalize f.1 = x at *
      go_wp2_with fail
      refine (unhide HV _).mono ?_
      rintro e w3 ⟨rfl, rfl⟩
      go_wp2
      try go_ret
      exact unhide HR _ (unhide HB)
    · have hmk' : marked met f.1.natAbs = false := by simpa using hmk
      have HNN : Hid (0 < k ∧ ∀ j f, k - 1 < j → j < n → tr[j]? = some f → marked met f.1.natAbs = false) := hide (by
        refine ⟨?_, fun j f' h1 h2 h3 => ?_⟩
        · rcases Nat.eq_zero_or_pos k with h0 | h0
          · obtain ⟨a1, a2, a3⟩ := unhide HJ
            rcases Nat.eq_zero_or_pos j0 with z | z
            · rw [z, ← h0, unhide HF] at a2
              cases a2
              rw [hmk'] at a3; cases a3
            · have := unhide HN j0 f0 (by omega) a1 a2
              rw [a3] at this; cases this
          · exact h0
        · rcases Nat.lt_or_ge k j with h | h
          · exact unhide HN j f' h h2 h3
          · have : j = k := by omega
            subst this
            rw [unhide HF] at h3; cases h3
            exact hmk')
      rw [hmk'] at hcm
      clear hmk hmk'
      have hk0 := (unhide HNN).1
      generalize f.1.natAbs = v at *
      generalize f.1 = x at *
      go_wp2_with fail
      refine (unhide HV _).mono ?_
      rintro e w3 ⟨rfl, rfl⟩
      go_wp2
      go_roundw
      case rel => exact ⟨k - 1, by omega, by go_num, HB, hide (unhide HNN).2⟩
      case measure => simp [intOf]; omega

end Go.Proofs.YtekkkoipcghlmaaGreatDoor
