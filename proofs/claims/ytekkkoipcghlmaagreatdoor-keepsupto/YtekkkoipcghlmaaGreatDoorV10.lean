import Derived.Test.YtekkkoipcghlmaaGreatDoorV09
import Derived.Test.YtekkkoipcghlmaaGreatDoorV02
import Derived.Test.YtekkkoipcghlmaaGreatDoorV05
set_option linter.all false
namespace Go.Proofs.YtekkkoipcghlmaaGreatDoor
open Go.RowKit

theorem good_of_scan (L : List (List UInt8 × Bool)) : ∀ n, Sp.scanSegs n L = none → ∀ x, x ∈ L → goodLine x := by
  induction L with
  | nil => intro n _ x hx; cases hx
  | cons a r ih =>
    intro n h x hx
    unfold Sp.scanSegs at h
    split at h
    · cases h
    · rename_i hc
      rcases List.mem_cons.1 hx with rfl | hx
      · simp at hc; exact ⟨hc.1, hc.2⟩
      · exact ih (n + 1) h x hx

theorem mask_text (L : List (List UInt8 × Bool)) (h : ∀ x, x ∈ L → goodLine x) : maskText (L.map lineMask) = plainTo ((L.map Prod.fst).map Sp.clauseOf) := by
  induction L with
  | nil => rfl
  | cons a r ih =>
    have ha := (h a (by simp)).1
    have e1 : Sp.litsOf (lineMask a) = Sp.clauseOf a.1 := by
      unfold lineMask Sp.clauseOf
      refine Sp.litsOf_maskOf _ (fun x hx => ?_)
      obtain ⟨z, hz, rfl⟩ := List.mem_map.1 hx
      unfold Sp.okLine at ha
      have := List.all_eq_true.1 ha z hz
      simpa using this
    have := ih (fun x hx => h x (by simp [hx]))
    unfold maskText plainTo at this ⊢
    simp only [List.map_cons, List.flatMap_cons, e1, this]

theorem segs_fst (s : List UInt8) : (Sp.segs s).map Prod.fst = Sp.lines s := Sp.segsAux_lines s []
theorem segs_scan (s : List UInt8) : Sp.scanSegs 0 (Sp.segs s) = Sp.scan (Sp.ended s) 0 (Sp.lines s) := Sp.scan_segs s [] 0

set_option maxRecDepth 100000 in
set_option maxHeartbeats 800000 in
theorem plainGo_any (s : List UInt8) (w : World) (hs2 : s.length ≤ 9223372036854775807) (he : Env w) :
    Calls Tryz.prog 95 #[.string (bs s)] w fun e w' => e = .returned (.tuple #[.string (bs (plainOut s).1), .int .i64 (plainOut s).2.1, .int .i64 (plainOut s).2.2]) ∧ Below w.heap.size w w' := by
  by_cases hs : 6000 < s.length
  · have HP := hide (read_long s w hs hs2)
    have HO : Hid (plainOut s = ([], 4, 0)) := hide (by unfold plainOut; rw [if_pos hs])
    go_enter Tryz.func95, Tryz.ntmps95
    go_wp2_with fail
    refine (unhide HP).mono ?_
    rintro e w1 ⟨hb1, rfl⟩
    go_wp2
    go_ret3
    exact ⟨by rw [unhide HO]; rfl, hb1⟩
  · have HP := hide (read_any s w (by omega) he)
    have hcnt := Sp.segsAux_count s []
    have HC : Hid (Sp.segsAux [] s = Sp.segs s) := rfl
    rw [unhide HC] at hcnt
    go_enter Tryz.func95, Tryz.ntmps95
    go_wp2_with fail
    refine (unhide HP).mono ?_
    rintro e w1 ⟨hb1, ⟨n, hn, rfl⟩ | ⟨hn, v, rfl, hli⟩⟩
    · have HO : Hid (plainOut s = ([], 5, (n : Int))) := hide (by rw [segs_scan] at hn; unfold plainOut; rw [if_neg hs, hn])
      clear hn
      go_wp2
      go_ret3
      exact ⟨by rw [unhide HO]; rfl, hb1⟩
    · have HO : Hid (plainOut s = (maskText ((Sp.segs s).map lineMask), 0, 0)) := hide (by
        rw [mask_text _ (good_of_scan _ 0 hn), segs_fst]
        rw [segs_scan] at hn; unfold plainOut; rw [if_neg hs, hn])
      have HL := hide (clausePlain_any v ((Sp.segs s).map lineMask) w1 (by simp; omega) (fun m hm => by
        obtain ⟨x, _, rfl⟩ := List.mem_map.1 hm
        exact Sp.maskOf_lt _ (fun y hy => by obtain ⟨z, _, rfl⟩ := List.mem_map.1 hy; exact Sp.lit_bd z)) hli (he.below hb1).toEnvT)
      clear hn hli
      generalize (Sp.segs s).map lineMask = ms at *
      go_wp2_with fail
      refine (unhide HL).mono ?_
      rintro e w2 ⟨rfl, hb2⟩
      go_wp2
      go_ret3
      exact ⟨by rw [unhide HO]; rfl, hb1.trans (hb2.mono hb1.size)⟩

set_option maxRecDepth 100000 in
set_option maxHeartbeats 800000 in
theorem lawPlain_any (s : List UInt8) (w : World) (hs2 : s.length ≤ 9223372036854775807) (he : Env w) :
    Calls Tryz.prog 51 #[.string (bs s)] w fun e w' => e = .returned (.bool true) ∧ Below w.heap.size w w' := by
  have HP := hide (plainGo_any s w hs2 he)
  have HQ := hide (fun wx => refPlain_any s wx hs2)
  generalize plainOut s = po at *
  obtain ⟨t, a, b⟩ := po
  have h1 : ((bs t).toList == (bs t).toList) = true := by simp
  go_enter Tryz.func51, Tryz.ntmps51
  go_wp2_with fail
  refine (unhide HP).mono ?_
  rintro e w1 ⟨rfl, hb1⟩
  go_wp2_with fail
  refine (unhide HQ w1).mono ?_
  rintro e w2 ⟨rfl, hb2⟩
  go_wp2
  go_ret
  exact ⟨rfl, hb1.trans (hb2.mono hb1.size)⟩

end Go.Proofs.YtekkkoipcghlmaaGreatDoor

namespace Go.Proofs.YtekkkoipcghlmaaGreatDoor.Sp

/-- What the document's Follows has taken: numbers, consistent, literals. U i: the literal at i is taken to be false. -/
def UOf (T : List Int) (i : Nat) : Prop := - litAt i ∈ T
def Cons (T : List Int) : Prop := ∀ x, x ∈ T → -x ∉ T

/-- One clause looked at: how many of its literals are open; is one taken to be true; the last open one. -/
def openOf (T : List Int) (c : List Int) : List Int := c.filter fun x => !T.contains (-x) && !T.contains x
def doneOf (T : List Int) (c : List Int) : Bool := c.any fun x => T.contains x
def leftOf (T : List Int) (c : List Int) : Int := ((openOf T c).getLast?).getD 0

theorem openOf_snoc (T c : List Int) (x : Int) : openOf T (c ++ [x]) = openOf T c ++ (if !T.contains (-x) && !T.contains x then [x] else []) := by
  unfold openOf; rw [List.filter_append]; simp [List.filter_cons]
theorem doneOf_snoc (T c : List Int) (x : Int) : doneOf T (c ++ [x]) = (doneOf T c || T.contains x) := by
  unfold doneOf; rw [List.any_append]; simp

section
variable {L : List Nat} {T : List Int} {U : Nat → Prop}

theorem lit_neg_neg (i : Nat) : - litAt (opp i) = litAt i := by rw [litAt_opp, Int.neg_neg]

/-- A clause whose literals are all false: no stable set above. -/
theorem conflict_ends (hU : ∀ i, i < 24 → UOf T i → U i) {c : Nat} (hcL : c ∈ L) (hc : c < 2 ^ 24) (hd : doneOf T (litsOf c) = false) (ho : openOf T (litsOf c) = []) : ¬ Stable L U := by
  intro hs
  obtain ⟨⟨i, hi, hn⟩, _⟩ := hs c hcL
  have hi24 : i < 24 := by
    rcases Nat.lt_or_ge i 24 with h | h
    · exact h
    · rw [Nat.testBit_lt_two_pow (Nat.lt_of_lt_of_le hc (Nat.pow_le_pow_right (by decide) h))] at hi; cases hi
  have hm := (mem_litsOf c i hi24).2 hi
  have h1 := List.filter_eq_nil_iff.1 ho _ hm
  have h2 := List.any_eq_false.1 hd _ hm
  apply hn
  apply hU i hi24
  unfold UOf
  simp at h1 h2
  by_cases h3 : - litAt i ∈ T
  · exact h3
  · exact absurd (h1 h3) h2

/-- One literal is left: what comes of it lies in every stable set above. -/
theorem unit_goes (hU : ∀ i, i < 24 → UOf T i → U i) (hs : Stable L U) {c : Nat} (hcL : c ∈ L) (hc : c < 2 ^ 24) (hd : doneOf T (litsOf c) = false) {x : Int} (ho : openOf T (litsOf c) = [x]) :
    ∃ i, i < 24 ∧ x = litAt i ∧ U (opp i) := by
  have hx : x ∈ openOf T (litsOf c) := by rw [ho]; simp
  have hxm : x ∈ litsOf c := (List.mem_filter.1 hx).1
  obtain ⟨i, hi24, rfl, hi⟩ := litsOf_mem hxm
  refine ⟨i, hi24, rfl, ?_⟩
  have others : ∀ j, c.testBit j = true → j ≠ i → U j := by
    intro j hj hne
    have hj24 : j < 24 := by
      rcases Nat.lt_or_ge j 24 with h | h
      · exact h
      · rw [Nat.testBit_lt_two_pow (Nat.lt_of_lt_of_le hc (Nat.pow_le_pow_right (by decide) h))] at hj; cases hj
    have hm := (mem_litsOf c j hj24).2 hj
    have h2 := List.any_eq_false.1 hd _ hm
    apply hU j hj24
    unfold UOf
    by_cases h3 : - litAt j ∈ T
    · exact h3
    · exfalso
      have : litAt j ∈ openOf T (litsOf c) := by
        unfold openOf
        refine List.mem_filter.2 ⟨hm, ?_⟩
        simp at h2 ⊢
        exact ⟨h3, h2⟩
      rw [ho] at this
      simp at this
      exact hne (litAt_inj this)
  obtain ⟨⟨k, hk, hkn⟩, hun⟩ := hs c hcL
  by_cases hki : k = i
  · subst hki
    exact hun k hk hkn others
  · exact absurd (others k hk hki) hkn

/-- Nothing more comes: what was taken is stable. -/
theorem fixed_stable (hcons : Cons T) (hL : ∀ c, c ∈ L → c < 2 ^ 24) (h : ∀ c, c ∈ L → doneOf T (litsOf c) = true ∨ 2 ≤ (openOf T (litsOf c)).length) : Stable L (fun i => UOf T i) := by
  intro c hc
  have h24 : ∀ j, c.testBit j = true → j < 24 := fun j hj => by
    rcases Nat.lt_or_ge j 24 with h | h
    · exact h
    · rw [Nat.testBit_lt_two_pow (Nat.lt_of_lt_of_le (hL c hc) (Nat.pow_le_pow_right (by decide) h))] at hj; cases hj
  rcases h c hc with hd | ho
  · obtain ⟨x, hx, hxT⟩ := List.any_eq_true.1 hd
    obtain ⟨i, hi24, rfl, hi⟩ := litsOf_mem hx
    have hxT' : litAt i ∈ T := by simpa using hxT
    have hni : ¬ UOf T i := fun h' => hcons _ hxT' h'
    refine ⟨⟨i, hi, hni⟩, fun j hj hnj hoth => ?_⟩
    have : j = i := by
      by_cases e : j = i
      · exact e
      · exact absurd (hoth i hi (fun e' => e e'.symm)) hni
    subst this
    show - litAt (opp j) ∈ T
    rw [lit_neg_neg]
    exact hxT'
  · match hl : openOf T (litsOf c), ho with
    | a :: b :: r, _ =>
      have ha : a ∈ openOf T (litsOf c) := by rw [hl]; simp
      have hb : b ∈ openOf T (litsOf c) := by rw [hl]; simp
      have hab : a ≠ b := by
        have hnd : (openOf T (litsOf c)).Nodup := by
          unfold openOf litsOf
          refine List.Nodup.sublist List.filter_sublist ?_
          refine List.Pairwise.map litAt (R := (· ≠ ·)) (fun a b h e => h (litAt_inj e)) ?_
          exact List.Nodup.sublist List.filter_sublist List.nodup_range
        rw [hl] at hnd
        intro e
        subst e
        simp at hnd
      obtain ⟨i, _, rfl, hi⟩ := litsOf_mem (List.mem_filter.1 ha).1
      obtain ⟨j, _, rfl, hj⟩ := litsOf_mem (List.mem_filter.1 hb).1
      have hni : ¬ UOf T i := by have := (List.mem_filter.1 ha).2; simp at this; exact this.1
      have hnj : ¬ UOf T j := by have := (List.mem_filter.1 hb).2; simp at this; exact this.1
      refine ⟨⟨i, hi, hni⟩, fun k _ _ hoth => ?_⟩
      exfalso
      by_cases e : k = i
      · subst e; exact hnj (hoth j hj (fun e' => hab (by rw [e'])))
      · exact hni (hoth i hi (fun e' => e e'.symm))
end

/-- How many literals are not in a list. -/
def freeOf (T : List Int) : Nat := ((List.range 24).filter fun i => !T.contains (litAt i)).length
theorem filter_less (p : Nat → Bool) (k : Nat) : ∀ l : List Nat, l.Nodup → k ∈ l → p k = true → (l.filter fun i => p i && i != k).length + 1 = (l.filter p).length := by
  intro l
  induction l with
  | nil => intro _ h; cases h
  | cons a r ih =>
    intro hn hm hp
    have hn' := List.nodup_cons.1 hn
    rcases List.mem_cons.1 hm with rfl | hm
    · have : (r.filter fun i => p i && i != k) = r.filter p := by
        apply List.filter_congr
        intro x hx
        have : x ≠ k := fun e => hn'.1 (e ▸ hx)
        simp [this]
      simp [hp, this]
    · have hak : a ≠ k := fun e => hn'.1 (e ▸ hm)
      have := ih hn'.2 hm hp
      by_cases hpa : p a = true
      · simp [hpa, hak]; omega
      · simp [hpa]; omega
theorem free_len (T : List Int) : T.Nodup → (∀ x, x ∈ T → ∃ i, i < 24 ∧ x = litAt i) → T.length + freeOf T = 24 := by
  induction T with
  | nil => intro _ _; decide
  | cons x T ih =>
    intro hn hx
    have hn' := List.nodup_cons.1 hn
    have h1 := ih hn'.2 (fun y hy => hx y (by simp [hy]))
    obtain ⟨i, hi, rfl⟩ := hx x (by simp)
    have h2 := filter_less (fun j => !T.contains (litAt j)) i (List.range 24) List.nodup_range (List.mem_range.2 hi) (by simpa using hn'.1)
    have h3 : freeOf (litAt i :: T) + 1 = freeOf T := by
      unfold freeOf
      rw [← h2]
      congr 2
      apply List.filter_congr
      intro j _
      rw [Bool.eq_iff_iff]
      simp
      constructor
      · rintro ⟨ha, hb⟩
        exact ⟨hb, fun e => ha (by rw [e])⟩
      · rintro ⟨ha, hb⟩
        exact ⟨fun e => hb (litAt_inj e), ha⟩
    simp only [List.length_cons]
    omega

/-- What holds of what is taken. -/
structure Taken (L : List Nat) (m : Nat) (T : List Int) : Prop where
  nodup : T.Nodup
  lits : ∀ x, x ∈ T → ∃ i, i < 24 ∧ x = litAt i
  cons : Cons T
  has : ∀ i, i < 24 → m.testBit i = true → UOf T i
  least : ∀ U : Nat → Prop, (∀ i, m.testBit i = true → U i) → Stable L U → ∀ i, i < 24 → UOf T i → U i

theorem Taken.len {L : List Nat} {m : Nat} {T : List Int} (h : Taken L m T) : T.length ≤ 24 := by have := free_len T h.nodup h.lits; omega

theorem taken_start {L : List Nat} {m : Nat} (h : ¬ ∃ i, m.testBit i = true ∧ m.testBit (opp i) = true) : Taken L m ((litsOf m).map fun x => -x) := by
  refine ⟨?_, ?_, ?_, ?_, ?_⟩
  · refine List.Pairwise.map _ (R := (· ≠ ·)) (fun a b hab e => hab (by omega)) ?_
    unfold litsOf
    refine List.Pairwise.map litAt (R := (· ≠ ·)) (fun a b h e => h (litAt_inj e)) ?_
    exact List.Nodup.sublist List.filter_sublist List.nodup_range
  · intro x hx
    obtain ⟨y, hy, rfl⟩ := List.mem_map.1 hx
    obtain ⟨i, hi, rfl, _⟩ := litsOf_mem hy
    exact ⟨opp i, opp_lt hi, (litAt_opp i).symm⟩
  · intro x hx hx'
    obtain ⟨y, hy, rfl⟩ := List.mem_map.1 hx
    obtain ⟨z, hz, hzz⟩ := List.mem_map.1 hx'
    obtain ⟨i, hi, rfl, hbi⟩ := litsOf_mem hy
    obtain ⟨j, hj, rfl, hbj⟩ := litsOf_mem hz
    have e : litAt j = litAt (opp i) := by rw [litAt_opp]; omega
    have := litAt_inj e
    subst this
    exact h ⟨i, hbi, hbj⟩
  · intro i hi hb
    exact List.mem_map.2 ⟨litAt i, (mem_litsOf m i hi).2 hb, rfl⟩
  · intro U hU _ i hi hu
    obtain ⟨y, hy, he⟩ := List.mem_map.1 hu
    obtain ⟨j, _, rfl, hbj⟩ := litsOf_mem hy
    have : j = i := litAt_inj (by omega)
    subst this
    exact hU j hbj

theorem Taken.more {L : List Nat} {m : Nat} {T : List Int} (h : Taken L m T) {c : Nat} (hcL : c ∈ L) (hc : c < 2 ^ 24) (hd : doneOf T (litsOf c) = false) {x : Int} (ho : openOf T (litsOf c) = [x]) : Taken L m (T ++ [x]) := by
  have hxo : x ∈ openOf T (litsOf c) := by rw [ho]; simp
  have hxp := (List.mem_filter.1 hxo).2
  simp at hxp
  obtain ⟨i, hi, rfl, _⟩ := litsOf_mem (List.mem_filter.1 hxo).1
  refine ⟨?_, ?_, ?_, ?_, ?_⟩
  · rw [List.nodup_append]
    refine ⟨h.nodup, by simp, fun a ha b hb e => ?_⟩
    simp at hb; subst hb; subst e; exact hxp.2 ha
  · intro y hy
    rcases List.mem_append.1 hy with hy | hy
    · exact h.lits y hy
    · simp at hy; exact ⟨i, hi, hy⟩
  · intro y hy hy'
    rcases List.mem_append.1 hy with hy | hy <;> rcases List.mem_append.1 hy' with hy' | hy'
    · exact h.cons y hy hy'
    · simp at hy'
      have : y = - litAt i := by omega
      subst this; exact hxp.1 hy
    · simp at hy; subst hy; exact hxp.1 hy'
    · simp at hy hy'
      have : litAt i ≠ 0 := by unfold litAt; split <;> omega
      omega
  · intro j hj hb
    exact List.mem_append_left _ (h.has j hj hb)
  · intro U hU hs j hj hu
    rcases List.mem_append.1 hu with hu | hu
    · exact h.least U hU hs j hj hu
    · simp at hu
      obtain ⟨k, hk, hxk, hUk⟩ := unit_goes (T := T) (fun i hi' hu' => h.least U hU hs i hi' hu') hs hcL hc hd ho
      have : k = i := litAt_inj hxk.symm
      subst this
      have e : litAt j = litAt (opp k) := by rw [litAt_opp]; omega
      rw [litAt_inj e]
      exact hUk

theorem Taken.conflict {L : List Nat} {m : Nat} {T : List Int} (h : Taken L m T) {c : Nat} (hcL : c ∈ L) (hc : c < 2 ^ 24) (hd : doneOf T (litsOf c) = false) (ho : openOf T (litsOf c) = []) : Fol L m :=
  .inr fun U hU hs => conflict_ends (U := U) (fun i hi hu => h.least U hU hs i hi hu) hcL hc hd ho hs

theorem Taken.fixed {L : List Nat} {m : Nat} {T : List Int} (h : Taken L m T) (hm : m < 2 ^ 24) (hL : ∀ c, c ∈ L → c < 2 ^ 24) (hno : ¬ ∃ i, m.testBit i = true ∧ m.testBit (opp i) = true)
    (hf : ∀ c, c ∈ L → doneOf T (litsOf c) = true ∨ 2 ≤ (openOf T (litsOf c)).length) : ¬ Fol L m := by
  rintro (hx | hx)
  · exact hno hx
  · refine hx (fun i => UOf T i) (fun i hb => ?_) (fixed_stable h.cons hL hf)
    have hi : i < 24 := by
      rcases Nat.lt_or_ge i 24 with h' | h'
      · exact h'
      · rw [Nat.testBit_lt_two_pow (Nat.lt_of_lt_of_le hm (Nat.pow_le_pow_right (by decide) h'))] at hb; cases hb
    exact h.has i hi hb

end Go.Proofs.YtekkkoipcghlmaaGreatDoor.Sp

namespace Go.Proofs.YtekkkoipcghlmaaGreatDoor
open Go.RowKit

/-- What Follows has taken at first. -/
def negs (xs : List Int) : List Int := xs.map fun x => -x
def lenOf : Value → Nat | .slice _ n _ => n | _ => 0
def flagOf : Value → Nat | .bool true => 1 | _ => 0
def FolRes (L : List Nat) (m : Nat) (w : World) (e : Ending) (w' : World) : Prop := ∃ r : Bool, e = .returned (.bool r) ∧ (r = true ↔ Sp.Fol L m) ∧ Below w.heap.size w w'
def Settled (T : List Int) (L : List Nat) : Prop := ∀ c, c ∈ L → Sp.doneOf T (Sp.litsOf c) = true ∨ 2 ≤ (Sp.openOf T (Sp.litsOf c)).length
def nOpen (T c : List Int) : Nat := (Sp.openOf T c).length
def lOf (T c : List Int) : Int := Sp.leftOf T c
def dOf (T c : List Int) : Bool := Sp.doneOf T c

theorem always_negs {m : Nat} (hm : m < 2 ^ 24) : alwaysOf (negs (Sp.litsOf m)) = true ↔ ∃ i, m.testBit i = true ∧ m.testBit (Sp.opp i) = true := by
  unfold alwaysOf negs
  rw [List.any_eq_true]
  constructor
  · rintro ⟨x, hx, hc⟩
    obtain ⟨y, hy, rfl⟩ := List.mem_map.1 hx
    have hc' : - -y ∈ (Sp.litsOf m).map fun x => -x := by simpa using hc
    obtain ⟨z, hz, hzz⟩ := List.mem_map.1 hc'
    obtain ⟨i, hi, rfl, hbi⟩ := Sp.litsOf_mem hy
    obtain ⟨j, hj, rfl, hbj⟩ := Sp.litsOf_mem hz
    have e : Sp.litAt j = Sp.litAt (Sp.opp i) := by rw [Sp.litAt_opp]; omega
    have := Sp.litAt_inj e
    subst this
    exact ⟨i, hbi, hbj⟩
  · rintro ⟨i, h1, h2⟩
    have hi : i < 24 := by
      rcases Nat.lt_or_ge i 24 with h | h
      · exact h
      · rw [Nat.testBit_lt_two_pow (Nat.lt_of_lt_of_le hm (Nat.pow_le_pow_right (by decide) h))] at h1; cases h1
    refine ⟨- Sp.litAt i, List.mem_map.2 ⟨_, (Sp.mem_litsOf m i hi).2 h1, rfl⟩, ?_⟩
    have : - - Sp.litAt i ∈ (Sp.litsOf m).map fun x => -x := List.mem_map.2 ⟨_, (Sp.mem_litsOf m _ (Sp.opp_lt hi)).2 h2, by rw [Sp.litAt_opp]⟩
    simpa using this

theorem nOpen_snoc (T c : List Int) (x : Int) : nOpen T (c ++ [x]) = nOpen T c + (if !T.contains (-x) && !T.contains x then 1 else 0) := by
  unfold nOpen; rw [Sp.openOf_snoc]; split <;> simp
theorem dOf_snoc (T c : List Int) (x : Int) : dOf T (c ++ [x]) = (dOf T c || T.contains x) := Sp.doneOf_snoc T c x
theorem lOf_snoc (T c : List Int) (x : Int) : lOf T (c ++ [x]) = if !T.contains (-x) && !T.contains x then x else lOf T c := by
  unfold lOf Sp.leftOf; rw [Sp.openOf_snoc]; split <;> simp
theorem nOpen_le (T c : List Int) : nOpen T c ≤ c.length := List.length_filter_le _ _
theorem lOf_one {T c : List Int} (h : nOpen T c = 1) : Sp.openOf T c = [lOf T c] := by
  unfold nOpen at h
  obtain ⟨x, hx⟩ := List.length_eq_one_iff.1 h
  unfold lOf Sp.leftOf; rw [hx]; rfl

set_option maxRecDepth 100000 in
set_option maxHeartbeats 1600000 in
theorem follows_any (v u : Value) (L : List Nat) (m : Nat) (w : World) (hl : L.length ≤ 10000000) (hL : ∀ c, c ∈ L → c < 2 ^ 24) (hm : m < 2 ^ 24) (hv : RowsOf w v L) (hu : Lies w u (ints (Sp.litsOf m))) :
    Calls Tryz.prog 153 #[v, u] w fun e w' => FolRes L m w e w' := by
  have hml := litsOf_len24 m
  have hmb : ∀ x, x ∈ Sp.litsOf m → x ≠ 0 ∧ -12 ≤ x ∧ x ≤ 12 := fun x hx => by
    obtain ⟨i, hi, rfl, _⟩ := Sp.litsOf_mem hx
    unfold Sp.litAt; split <;> omega
  have hlenu : (ints (Sp.litsOf m)).length = (Sp.litsOf m).length := by simp [ints]
  obtain ⟨vs, hvs, hrows⟩ := hv
  have hlenv := hrows.1
  obtain ⟨ao2, cap2, rfl⟩ := lies_shape hvs
  rw [hlenv] at hvs ⊢
  have HV := hide hvs
  have HR := hide hrows
  have HLV := hide hlenv
  have HLm := hide hL
  have HAN := hide (always_negs hm)
  have HTS := hide (fun h => Sp.taken_start (L := L) (m := m) h)
  clear hvs hrows hlenv hL
  obtain ⟨ao, cap, rfl⟩ := lies_shape hu
  rw [hlenu] at hu ⊢
  have HU := hide hu
  clear hu hlenu
  generalize hxs : Sp.litsOf m = xs at *
  have HX := hide hxs
  clear hxs
  go_enter Tryz.func153, Tryz.ntmps153
  go_wp2
  go_loopw [5, 6] (fun t i wr => ∃ k : Nat, k ≤ xs.length ∧ i = .int .i64 k ∧ wr.ownsRow w.heap.size 3 1 t k (ints (negs (xs.take k))) ∧ Below w.heap.size w wr) (fun _ i _ => xs.length - (intOf i).toNat)
  case atStart => exact ⟨0, Nat.zero_le _, rfl, World.ownsRow_nil _ _ _ _, Below.refl _ _⟩
  case round =>
    obtain ⟨k, hk, rfl, hown, hbel⟩ := hrel
    by_cases hlt : k < xs.length
    · rcases unhide HU with ⟨h0, _⟩ | ⟨b, off, cap', hp, hsl, hb, hc⟩
      · exfalso; have h0' : xs = [] := by simpa [ints] using h0
        rw [h0'] at hlt; simp at hlt
      · simp only [Value.slice.injEq] at hsl
        obtain ⟨rfl, -, rfl⟩ := hsl
        have hcell : wr.cell? ⟨b, off + k, none⟩ = some (.int .i64 xs[k]) := (hbel.cell (p := ⟨b, off + k, none⟩) hb).trans (hc k (.int .i64 xs[k]) (by simp [ints, hlt]))
        have hxb := hmb xs[k] (List.getElem_mem hlt)
        have HS : Hid (xs.take (k + 1) = xs.take k ++ [xs[k]]) := hide (List.take_succ_eq_append_getElem hlt)
        generalize xs[k] = x at hcell HS hxb
        clear hc hmb
        go_wp2_with (at_builtin; refine append_one rfl _ _ 25 3 rfl Tryz.underlying25 Tryz.infoIntW rfl (by decide) hown rfl rfl rfl (by omega) (Nat.le_refl _) hbel ?_; intro v' w1 hown' hbel' _)
        go_roundw
        case rel => exact ⟨k + 1, by omega, by go_num, by rw [unhide HS]; simpa [ints, negs] using hown', hbel'⟩
        case measure => simp [intOf]; omega
    · have HT : Hid (xs.take k = xs) := hide (List.take_of_length_le (by omega))
      have HTB : Hid (∀ x, x ∈ negs xs → -12 ≤ x ∧ x ≤ 12) := hide (fun x hx => by
        obtain ⟨z, hz, rfl⟩ := List.mem_map.1 hx
        have := hmb z hz; omega)
      have hk' : k = xs.length := by omega
      rw [unhide HT] at hown
      have HO := hide hown
      have HLT := hide (lies_of_owns hown (by simp [ints, negs]; omega))
      clear hown
      have HAL := hide (always_any _ (negs xs) wr (by simp [negs]; omega) (unhide HTB) (unhide HLT))
      cases hal : alwaysOf (negs xs)
      · have HNO : Hid (¬ ∃ i, m.testBit i = true ∧ m.testBit (Sp.opp i) = true) := hide (fun h => by
          have := (unhide HAN).2 h
          rw [hal] at this; cases this)
        have HT0 : Hid (Sp.Taken L m (negs xs)) := hide (unhide HTS (unhide HNO))
        rw [hal] at HAL
        clear hal HAN HTS
        go_wp2_with fail
        refine (unhide HAL).mono ?_
        rintro e w1 ⟨rfl, rfl⟩
        go_wp2
        have hkl : k = (negs xs).length := by simp [negs]; omega
        rw [hkl] at HO
        generalize negs xs = T0 at *
        clear hmb hlt hk' HT HTB HLT HAL hkl HX HU hk
        go_loopw [5, 7] (fun t g wr => ∃ (T : List Int) (mb : Bool), g = .bool mb ∧ wr.ownsRow w.heap.size 3 1 t T.length (ints T) ∧ Hid (Sp.Taken L m T) ∧ Hid (mb = false → Settled T L) ∧ Below w.heap.size w wr) (fun t g _ => 2 * (24 - lenOf t) + flagOf g)
        case atStart => exact ⟨T0, true, rfl, unhide HO, HT0, hide (by intro h; cases h), hbel⟩
        case round =>
          clear hbel HO HT0 hml
          obtain ⟨T, mb, rfl, hown, HTK, HSE, hbel⟩ := hrel
          cases mb
          · have HFX : Hid (¬ Sp.Fol L m) := hide ((unhide HTK).fixed hm (unhide HLm) (unhide HNO) (unhide HSE rfl))
            clear hown
            go_wp2
            go_ret
            exact ⟨false, rfl, by simp [unhide HFX], hbel⟩
          · have HO := hide hown
            obtain ⟨tao, tc, rfl⟩ := owns_shape hown
            clear hown HSE
            go_wp2
            go_loopw [5, 7, 8] (fun t g i wr => ∃ (T' : List Int) (mb : Bool) (k : Nat), k ≤ L.length ∧ g = .bool mb ∧ i = .int .i64 k ∧ Hid (wr.ownsRow w.heap.size 3 1 t T'.length (ints T')) ∧ Hid (Sp.Taken L m T') ∧ Hid (mb = false → T' = T ∧ Settled T (L.take k)) ∧ Hid (mb = true → T.length < T'.length) ∧ Below w.heap.size w wr) (fun _ _ i _ => L.length - (intOf i).toNat)
            case atStart => exact ⟨T, false, 0, Nat.zero_le _, rfl, rfl, HO, HTK, hide (fun _ => ⟨rfl, fun c hc => by simp at hc⟩), hide (fun h => (by cases h)), hbel⟩
            case round =>
              clear hbel
              obtain ⟨T', mb, k, hk, rfl, rfl, HO', HTK', HSE, HGR, hbel⟩ := hrel
              have hown' := unhide HO'
              obtain ⟨tao', tc', rfl⟩ := owns_shape hown'
              have hTl := (unhide HTK').len
              have HLT := hide (lies_of_owns hown' (by simp [ints]))
              clear hown'
              by_cases hlt : k < L.length
              · rcases unhide HV with ⟨h0, _⟩ | ⟨b, off, cap', hp, hsl, hb, hc⟩
                · exfalso; have := unhide HLV; rw [h0] at this; simp at this; omega
                · simp only [Value.slice.injEq] at hsl
                  obtain ⟨rfl, -, rfl⟩ := hsl
                  have hkv : k < vs.length := by rw [unhide HLV]; exact hlt
                  have hcell : wr.cell? ⟨b, off + k, none⟩ = some vs[k] := (hbel.cell (p := ⟨b, off + k, none⟩) hb).trans (hc k vs[k] (List.getElem?_eq_getElem hkv))
                  have hli := ((unhide HR).2 k vs[k] L[k] (List.getElem?_eq_getElem hkv) (List.getElem?_eq_getElem hlt)).below hbel
                  have HCM : Hid (L[k] ∈ L ∧ L[k] < 2 ^ 24) := hide ⟨List.getElem_mem hlt, unhide HLm _ (List.getElem_mem hlt)⟩
                  have HS : Hid (L.take (k + 1) = L.take k ++ [L[k]]) := hide (List.take_succ_eq_append_getElem hlt)
                  obtain ⟨ao3, c3, hsh⟩ := lies_shape hli
                  generalize L[k] = c at *
                  generalize vs[k] = x at *
                  subst hsh
                  rw [show (ints (Sp.litsOf c)).length = (Sp.litsOf c).length from by simp [ints]] at hcell hli
                  have hl24 := litsOf_len24 c
                  have hcb : ∀ x, x ∈ Sp.litsOf c → -12 ≤ x ∧ x ≤ 12 := fun x hx => by
                    obtain ⟨i, hi, rfl, _⟩ := Sp.litsOf_mem hx
                    unfold Sp.litAt; split <;> omega
                  generalize hcs : Sp.litsOf c = cs at *
                  have HCS := hide hcs
                  have HLI := hide hli
                  clear hc hp hli hcs
                  go_wp2
                  go_loop [9, 10, 11, 12] (fun o l d j => ∃ q : Nat, q ≤ cs.length ∧ o = .int .i64 (nOpen T' (cs.take q) : Nat) ∧ l = .int .i64 (lOf T' (cs.take q)) ∧ d = .bool (dOf T' (cs.take q)) ∧ j = .int .i64 q) (fun _ _ _ j => cs.length - (intOf j).toNat)
                  case atStart => exact ⟨0, Nat.zero_le _, rfl, rfl, rfl, rfl⟩
                  case round =>
                    obtain ⟨q, hq, rfl, rfl, rfl, rfl⟩ := hrel
                    by_cases hqlt : q < cs.length
                    · rcases unhide HLI with ⟨h0, _⟩ | ⟨b4, off4, cap4, hp4, hsl4, hb4, hc4⟩
                      · exfalso; have h0' : cs = [] := by simpa [ints] using h0
                        rw [h0'] at hqlt; simp at hqlt
                      · simp only [Value.slice.injEq] at hsl4
                        obtain ⟨rfl, -, rfl⟩ := hsl4
                        have hcell4 : wr.cell? ⟨b4, off4 + q, none⟩ = some (.int .i64 cs[q]) := hc4 q (.int .i64 cs[q]) (by simp [ints, hqlt])
                        have hxb := hcb cs[q] (List.getElem_mem hqlt)
                        have HS4 : Hid (cs.take (q + 1) = cs.take q ++ [cs[q]]) := hide (List.take_succ_eq_append_getElem hqlt)
                        have hno := nOpen_le T' (cs.take q)
                        have hql : (cs.take q).length ≤ q := List.length_take_le _ _
                        generalize cs[q] = x at hcell4 HS4 hxb
                        have HN := hide (nOpen_snoc T' (cs.take q) x)
                        have HD := hide (dOf_snoc T' (cs.take q) x)
                        have HL4 := hide (lOf_snoc T' (cs.take q) x)
                        rw [← unhide HS4] at HN HD HL4
                        clear hc4 hp4 hcb HS4
                        have HI1 := hide (in_any _ T' (-x) wr (by omega) (unhide HLT))
                        have HI2 := hide (in_any _ T' x wr (by omega) (unhide HLT))
                        generalize hno' : nOpen T' (cs.take q) = no at *
                        generalize lOf T' (cs.take q) = lo at *
                        generalize dOf T' (cs.take q) = dn at *
                        generalize T'.contains (-x) = f1 at *
                        generalize T'.contains x = f2 at *
                        clear hno'
                        cases f1 <;> cases f2 <;> cases dn
                        all_goals
                          go_wp2_with fail
                          refine (unhide HI1).mono ?_
                          rintro e w1 ⟨rfl, rfl⟩
                          go_wp2_with fail
                          refine (unhide HI2).mono ?_
                          rintro e w2 ⟨rfl, rfl⟩
                          go_wp2
                          go_round
                          case rel => exact ⟨q + 1, by omega, by rw [unhide HN]; go_num, by rw [unhide HL4]; rfl, by rw [unhide HD]; rfl, by go_num⟩
                          case measure => simp [intOf]; omega
                    · have hqe : cs.take q = cs := List.take_of_length_le (by omega)
                      rw [hqe]
                      have hno := nOpen_le T' cs
                      clear hqe hcb hq HLI
                      cases hd : dOf T' cs
                      · rcases Nat.lt_or_ge 1 (nOpen T' cs) with h2 | h2
                        · have HSX : Hid (mb = false → T' = T ∧ Settled T (L.take (k + 1))) := hide (fun hmb => by
                            obtain ⟨e1, e2⟩ := unhide HSE hmb
                            refine ⟨e1, fun c' hc' => ?_⟩
                            rw [unhide HS] at hc'
                            rcases List.mem_append.1 hc' with h | h
                            · exact e2 c' h
                            · simp at h; subst h; right; rw [← e1, unhide HCS]; exact h2)
                          generalize nOpen T' cs = no at *
                          generalize lOf T' cs = lo at *
                          have q0 : ((no : Int) == 0) = false := by rw [beq_eq_false_iff_ne]; omega
                          have q1 : ((no : Int) == 1) = false := by rw [beq_eq_false_iff_ne]; omega
                          clear hd
                          go_wp2
                          go_roundw
                          case rel => exact ⟨T', mb, k + 1, by omega, rfl, by go_num, HO', HTK', HSX, HGR, hbel⟩
                          case measure => simp [intOf]; omega
                        · rcases Nat.eq_zero_or_pos (nOpen T' cs) with h0 | h1
                          · have HF : Hid (Sp.Fol L m) := hide (by
                              have e := unhide HCS
                              subst e
                              exact (unhide HTK').conflict (unhide HCM).1 (unhide HCM).2 hd (List.length_eq_zero_iff.1 h0))
                            rw [h0]
                            generalize lOf T' cs = lo at *
                            clear hd h0 h2 hno
                            go_wp2
                            go_ret
                            exact ⟨true, rfl, by simp [unhide HF], hbel⟩
                          · have h11 : nOpen T' cs = 1 := by omega
                            have HMO : Hid (Sp.Taken L m (T' ++ [lOf T' cs])) := hide (by
                              have e := unhide HCS
                              subst e
                              exact (unhide HTK').more (unhide HCM).1 (unhide HCM).2 hd (lOf_one h11))
                            rw [h11]
                            generalize lOf T' cs = lo at *
                            have hown' := unhide HO'
                            clear hd h2 h1 h11 hno
                            go_wp2_with (at_builtin; refine append_one rfl _ _ 25 3 rfl Tryz.underlying25 Tryz.infoIntW rfl (by decide) hown' rfl rfl rfl (by omega) (Nat.le_refl _) hbel ?_; intro v' w1 hown2 hbel' _)
                            go_roundw
                            case rel => exact ⟨T' ++ [lo], true, k + 1, by omega, rfl, by go_num, hide (by simpa [ints] using hown2), HMO, hide (fun h => (by cases h)), hide (fun _ => by
                              have : T.length ≤ T'.length := by
                                cases mb
                                · rw [(unhide HSE rfl).1]; exact Nat.le_refl _
                                · exact Nat.le_of_lt (unhide HGR rfl)
                              simp; omega), hbel'⟩
                            case measure => simp [intOf]; omega
                      · have HSX : Hid (mb = false → T' = T ∧ Settled T (L.take (k + 1))) := hide (fun hmb => by
                            obtain ⟨e1, e2⟩ := unhide HSE hmb
                            refine ⟨e1, fun c' hc' => ?_⟩
                            rw [unhide HS] at hc'
                            rcases List.mem_append.1 hc' with h | h
                            · exact e2 c' h
                            · simp at h; subst h; left; rw [← e1, unhide HCS]; exact hd)
                        generalize nOpen T' cs = no at *
                        generalize lOf T' cs = lo at *
                        clear hd
                        go_wp2
                        go_roundw
                        case rel => exact ⟨T', mb, k + 1, by omega, rfl, by go_num, HO', HTK', HSX, HGR, hbel⟩
                        case measure => simp [intOf]; omega
              · have HT : Hid (L.take k = L) := hide (List.take_of_length_le (by omega))
                have hTl0 := (unhide HTK).len
                cases mb
                · obtain ⟨e1, e2⟩ := unhide HSE rfl
                  subst e1
                  rw [unhide HT] at e2
                  have HE := hide e2
                  clear e2 HSE
                  go_wp2
                  go_roundw
                  case rel => exact ⟨T', false, rfl, unhide HO', HTK', hide (fun _ => unhide HE), hbel⟩
                  case measure => simp [lenOf, flagOf]
                · have hgr := unhide HGR rfl
                  go_wp2
                  go_roundw
                  case rel => exact ⟨T', true, rfl, unhide HO', HTK', hide (fun h => (by cases h)), hbel⟩
                  case measure => simp [lenOf, flagOf]; omega
      · rw [hal] at HAL
        have HF : Hid (Sp.Fol L m) := hide (.inl ((unhide HAN).1 hal))
        clear hal
        go_wp2_with fail
        refine (unhide HAL).mono ?_
        rintro e w1 ⟨rfl, rfl⟩
        go_wp2
        go_ret
        exact ⟨true, rfl, by simp [unhide HF], hbel⟩

end Go.Proofs.YtekkkoipcghlmaaGreatDoor

namespace Go.Proofs.YtekkkoipcghlmaaGreatDoor
open Go.RowKit

section
variable {P : Program}
theorem append_nothing {ao : Option Addr} {cap : Nat} (t ty e : TypeId) (w : World) {z : Value} {bytes : Nat} (ht : P.underlying t = some (.slice e)) (hinfo : (P.info? e).map (fun i => (i.zero, i.size, i.bytes)) = some (some z, 1, bytes)) :
    (Builtin.append_ #[t, t] ty #[.slice none 0 0, .slice ao 0 cap]).run P w = .ok (.slice none 0 0) w := by
  obtain ⟨i, hi, hz0, hz1, hz2⟩ := info_parts hinfo
  cases ao <;> simp [Builtin.append_, run_underlying ht, sizeOf, typeInfo, hi, Builtin.lenOf, Builtin.firstCells, loadCells, loadCellsFrom]

/-- 'next = append(next, l...)', next nil. -/
theorem append_copy {ops : Array Oper} {rest : List Oper} {o : Oper} {a : Act} {Q : Exit → Act → World → Prop} {w0 wr : World} {base bytes : Nat} {z lv : Value} {vs : List Value}
    (hgd : o.guard = none) (s x : Operand) (t e : TypeId)
    (ho : o.op = .call { callee := .builtin .append, args := #[s, x], argTypes := #[t, t] })
    (ht : P.underlying t = some (.slice e)) (hinfo : (P.info? e).map (fun i => (i.zero, i.size, i.bytes)) = some (some z, 1, bytes)) (hzs : z.cells.size = 1) (hby : bytes ≤ 24)
    (hs : a.eval s = .slice none 0 0) (hx : a.eval x = lv) (hl : Lies wr lv vs) (h1 : ∀ u ∈ vs, u.oneCell' = true)
    (hn : vs.length ≤ 20000000) (hb : base ≤ w0.heap.size) (hbel : Below base w0 wr)
    (h : ∀ v' w', w'.ownsRow base e 1 v' vs.length vs → Below base w0 w' → Below wr.heap.size wr w' → wpList P ops Q rest (a.put o.dst v') w') :
    wpList P ops Q (o :: rest) a wr := by
  have hsz := hbel.size
  rcases hl with ⟨h0, ao, cap, rfl⟩ | ⟨b, off, cap, hp, rfl, hbb, hc⟩
  · subst h0
    refine wpList_plain hgd fun K hK => ?_
    have hr := append_nothing (P := P) (ao := ao) (cap := cap) t o.type e wr ht hinfo
    unfold Oper.wp execOp
    simp only [ho, resolve, invoke, builtin, Sem.run_bind, Sem.run_pure, Result.andThen_ok, List.map_toArray, List.map_cons, List.map_nil, hs, hx, hr]
    exact hK _ _ (h _ _ (World.ownsRow_nil _ _ _ _) hbel (Below.refl _ _))
  · obtain ⟨i0, hi, hz0, hz1, hz2⟩ := info_parts hinfo
    have hnb : (0 + vs.length) * bytes ≤ 140737488355328 := Nat.le_trans (Nat.mul_le_mul (show 0 + vs.length ≤ 20000000 by omega) hby) (by omega)
    refine wpList_append_own _ hgd s x t ho base e i0 z 1 bytes ht hi hz0 hz1 hz2 hzs (by decide) (.slice none 0 0) 0 [] hs (World.ownsRow_nil _ _ _ _) ⟨b, off, none⟩ vs.length cap vs hx (by omega) (fun j u hu => by rw [Addr.add_lit]; exact hc j u hu) h1 (by unfold maxLen; omega) hnb (by omega) ?_
    intro v' w' ho' hg _
    have hbw : ∀ {n : Nat} {v0 : World}, n ≤ v0.heap.size → Below n v0 wr → Below n v0 w' := fun hle hbl => hbl.grown hg (by have := hbl.size; omega) (fun j hj => by cases hj)
    exact h v' w' (by simpa using ho') (hbw hb hbel) (hbw (Nat.le_refl _) (Below.refl _ _))
end

end Go.Proofs.YtekkkoipcghlmaaGreatDoor
