import Derived.Test.YtekkkoipcghlmabDoorJ05
import Derived.Test.YtekkkoipcghlmabDoorJ01
import Derived.Lib.Bytealg
namespace Go.Proofs.YtekkkoipcghlmabDoor.Sp

/-- What the document's Follows has taken: numbers, consistent, literals. U i: the literal at i is taken to be false. -/
def UOf (T : List Int) (i : Nat) : Prop := - litAt i ∈ T
def Cons (T : List Int) : Prop := ∀ x, x ∈ T → -x ∉ T

/-- One clause looked at: how many of its literals are open; is one taken to be true; the last open one. -/
def openOf (T : List Int) (c : List Int) : List Int := c.filter fun x => !T.contains (-x) && !T.contains x
def doneOf (T : List Int) (c : List Int) : Bool := c.any fun x => T.contains x
def leftOf (T : List Int) (c : List Int) : Int := ((openOf T c).getLast?).getD 0

theorem openOf_snoc (T c : List Int) (x : Int) : openOf T (c ++ [x]) = openOf T c ++ (if !T.contains (-x) && !T.contains x then [x] else []) := by
  unfold openOf; rw [List.filter_append]; simp [List.filter_cons]
theorem doneOf_snoc (T c : List Int) (x : Int) : doneOf T (c ++ [x]) = (doneOf T c || T.contains x) := by
  unfold doneOf; rw [List.any_append]; simp

section
variable {L : List Nat} {T : List Int} {U : Nat → Prop}

theorem lit_neg_neg (i : Nat) : - litAt (opp i) = litAt i := by rw [litAt_opp, Int.neg_neg]

/-- A clause whose literals are all false: no stable set above. -/
theorem conflict_ends (hU : ∀ i, i < 24 → UOf T i → U i) {c : Nat} (hcL : c ∈ L) (hc : c < 2 ^ 24) (hd : doneOf T (litsOf c) = false) (ho : openOf T (litsOf c) = []) : ¬ Stable L U := by
  intro hs
  obtain ⟨⟨i, hi, hn⟩, _⟩ := hs c hcL
  have hi24 : i < 24 := by
    rcases Nat.lt_or_ge i 24 with h | h
    · exact h
    · rw [Nat.testBit_lt_two_pow (Nat.lt_of_lt_of_le hc (Nat.pow_le_pow_right (by decide) h))] at hi; cases hi
  have hm := (mem_litsOf c i hi24).2 hi
  have h1 := List.filter_eq_nil_iff.1 ho _ hm
  have h2 := List.any_eq_false.1 hd _ hm
  apply hn
  apply hU i hi24
  unfold UOf
  simp at h1 h2
  by_cases h3 : - litAt i ∈ T
  · exact h3
  · exact absurd (h1 h3) h2

/-- One literal is left: what comes of it lies in every stable set above. -/
theorem unit_goes (hU : ∀ i, i < 24 → UOf T i → U i) (hs : Stable L U) {c : Nat} (hcL : c ∈ L) (hc : c < 2 ^ 24) (hd : doneOf T (litsOf c) = false) {x : Int} (ho : openOf T (litsOf c) = [x]) :
    ∃ i, i < 24 ∧ x = litAt i ∧ U (opp i) := by
  have hx : x ∈ openOf T (litsOf c) := by rw [ho]; simp
  have hxm : x ∈ litsOf c := (List.mem_filter.1 hx).1
  obtain ⟨i, hi24, rfl, hi⟩ := litsOf_mem hxm
  refine ⟨i, hi24, rfl, ?_⟩
  have others : ∀ j, c.testBit j = true → j ≠ i → U j := by
    intro j hj hne
    have hj24 : j < 24 := by
      rcases Nat.lt_or_ge j 24 with h | h
      · exact h
      · rw [Nat.testBit_lt_two_pow (Nat.lt_of_lt_of_le hc (Nat.pow_le_pow_right (by decide) h))] at hj; cases hj
    have hm := (mem_litsOf c j hj24).2 hj
    have h2 := List.any_eq_false.1 hd _ hm
    apply hU j hj24
    unfold UOf
    by_cases h3 : - litAt j ∈ T
    · exact h3
    · exfalso
      have : litAt j ∈ openOf T (litsOf c) := by
        unfold openOf
        refine List.mem_filter.2 ⟨hm, ?_⟩
        simp at h2 ⊢
        exact ⟨h3, h2⟩
      rw [ho] at this
      simp at this
      exact hne (litAt_inj this)
  obtain ⟨⟨k, hk, hkn⟩, hun⟩ := hs c hcL
  by_cases hki : k = i
  · subst hki
    exact hun k hk hkn others
  · exact absurd (others k hk hki) hkn

/-- Nothing more comes: what was taken is stable. -/
theorem fixed_stable (hcons : Cons T) (hL : ∀ c, c ∈ L → c < 2 ^ 24) (h : ∀ c, c ∈ L → doneOf T (litsOf c) = true ∨ 2 ≤ (openOf T (litsOf c)).length) : Stable L (fun i => UOf T i) := by
  intro c hc
  have h24 : ∀ j, c.testBit j = true → j < 24 := fun j hj => by
    rcases Nat.lt_or_ge j 24 with h | h
    · exact h
    · rw [Nat.testBit_lt_two_pow (Nat.lt_of_lt_of_le (hL c hc) (Nat.pow_le_pow_right (by decide) h))] at hj; cases hj
  rcases h c hc with hd | ho
  · obtain ⟨x, hx, hxT⟩ := List.any_eq_true.1 hd
    obtain ⟨i, hi24, rfl, hi⟩ := litsOf_mem hx
    have hxT' : litAt i ∈ T := by simpa using hxT
    have hni : ¬ UOf T i := fun h' => hcons _ hxT' h'
    refine ⟨⟨i, hi, hni⟩, fun j hj hnj hoth => ?_⟩
    have : j = i := by
      by_cases e : j = i
      · exact e
      · exact absurd (hoth i hi (fun e' => e e'.symm)) hni
    subst this
    show - litAt (opp j) ∈ T
    rw [lit_neg_neg]
    exact hxT'
  · match hl : openOf T (litsOf c), ho with
    | a :: b :: r, _ =>
      have ha : a ∈ openOf T (litsOf c) := by rw [hl]; simp
      have hb : b ∈ openOf T (litsOf c) := by rw [hl]; simp
      have hab : a ≠ b := by
        have hnd : (openOf T (litsOf c)).Nodup := by
          unfold openOf litsOf
          refine List.Nodup.sublist List.filter_sublist ?_
          refine List.Pairwise.map litAt (R := (· ≠ ·)) (fun a b h e => h (litAt_inj e)) ?_
          exact List.Nodup.sublist List.filter_sublist List.nodup_range
        rw [hl] at hnd
        intro e
        subst e
        simp at hnd
      obtain ⟨i, _, rfl, hi⟩ := litsOf_mem (List.mem_filter.1 ha).1
      obtain ⟨j, _, rfl, hj⟩ := litsOf_mem (List.mem_filter.1 hb).1
      have hni : ¬ UOf T i := by have := (List.mem_filter.1 ha).2; simp at this; exact this.1
      have hnj : ¬ UOf T j := by have := (List.mem_filter.1 hb).2; simp at this; exact this.1
      refine ⟨⟨i, hi, hni⟩, fun k _ _ hoth => ?_⟩
      exfalso
      by_cases e : k = i
      · subst e; exact hnj (hoth j hj (fun e' => hab (by rw [e'])))
      · exact hni (hoth i hi (fun e' => e e'.symm))
end

/-- How many literals are not in a list. -/
def freeOf (T : List Int) : Nat := ((List.range 24).filter fun i => !T.contains (litAt i)).length
theorem filter_less (p : Nat → Bool) (k : Nat) : ∀ l : List Nat, l.Nodup → k ∈ l → p k = true → (l.filter fun i => p i && i != k).length + 1 = (l.filter p).length := by
  intro l
  induction l with
  | nil => intro _ h; cases h
  | cons a r ih =>
    intro hn hm hp
    have hn' := List.nodup_cons.1 hn
    rcases List.mem_cons.1 hm with rfl | hm
    · have : (r.filter fun i => p i && i != k) = r.filter p := by
        apply List.filter_congr
        intro x hx
        have : x ≠ k := fun e => hn'.1 (e ▸ hx)
        simp [this]
      simp [hp, this]
    · have hak : a ≠ k := fun e => hn'.1 (e ▸ hm)
      have := ih hn'.2 hm hp
      by_cases hpa : p a = true
      · simp [hpa, hak]; omega
      · simp [hpa]; omega
theorem free_len (T : List Int) : T.Nodup → (∀ x, x ∈ T → ∃ i, i < 24 ∧ x = litAt i) → T.length + freeOf T = 24 := by
  induction T with
  | nil => intro _ _; decide
  | cons x T ih =>
    intro hn hx
    have hn' := List.nodup_cons.1 hn
    have h1 := ih hn'.2 (fun y hy => hx y (by simp [hy]))
    obtain ⟨i, hi, rfl⟩ := hx x (by simp)
    have h2 := filter_less (fun j => !T.contains (litAt j)) i (List.range 24) List.nodup_range (List.mem_range.2 hi) (by simpa using hn'.1)
    have h3 : freeOf (litAt i :: T) + 1 = freeOf T := by
      unfold freeOf
      rw [← h2]
      congr 2
      apply List.filter_congr
      intro j _
      rw [Bool.eq_iff_iff]
      simp
      constructor
      · rintro ⟨ha, hb⟩
        exact ⟨hb, fun e => ha (by rw [e])⟩
      · rintro ⟨ha, hb⟩
        exact ⟨fun e => hb (litAt_inj e), ha⟩
    simp only [List.length_cons]
    omega

/-- What holds of what is taken. -/
structure Taken (L : List Nat) (m : Nat) (T : List Int) : Prop where
  nodup : T.Nodup
  lits : ∀ x, x ∈ T → ∃ i, i < 24 ∧ x = litAt i
  cons : Cons T
  has : ∀ i, i < 24 → m.testBit i = true → UOf T i
  least : ∀ U : Nat → Prop, (∀ i, m.testBit i = true → U i) → Stable L U → ∀ i, i < 24 → UOf T i → U i

theorem Taken.len {L : List Nat} {m : Nat} {T : List Int} (h : Taken L m T) : T.length ≤ 24 := by have := free_len T h.nodup h.lits; omega

theorem taken_start {L : List Nat} {m : Nat} (h : ¬ ∃ i, m.testBit i = true ∧ m.testBit (opp i) = true) : Taken L m ((litsOf m).map fun x => -x) := by
  refine ⟨?_, ?_, ?_, ?_, ?_⟩
  · refine List.Pairwise.map _ (R := (· ≠ ·)) (fun a b hab e => hab (by omega)) ?_
    unfold litsOf
    refine List.Pairwise.map litAt (R := (· ≠ ·)) (fun a b h e => h (litAt_inj e)) ?_
    exact List.Nodup.sublist List.filter_sublist List.nodup_range
  · intro x hx
    obtain ⟨y, hy, rfl⟩ := List.mem_map.1 hx
    obtain ⟨i, hi, rfl, _⟩ := litsOf_mem hy
    exact ⟨opp i, opp_lt hi, (litAt_opp i).symm⟩
  · intro x hx hx'
    obtain ⟨y, hy, rfl⟩ := List.mem_map.1 hx
    obtain ⟨z, hz, hzz⟩ := List.mem_map.1 hx'
    obtain ⟨i, hi, rfl, hbi⟩ := litsOf_mem hy
    obtain ⟨j, hj, rfl, hbj⟩ := litsOf_mem hz
    have e : litAt j = litAt (opp i) := by rw [litAt_opp]; omega
    have := litAt_inj e
    subst this
    exact h ⟨i, hbi, hbj⟩
  · intro i hi hb
    exact List.mem_map.2 ⟨litAt i, (mem_litsOf m i hi).2 hb, rfl⟩
  · intro U hU _ i hi hu
    obtain ⟨y, hy, he⟩ := List.mem_map.1 hu
    obtain ⟨j, _, rfl, hbj⟩ := litsOf_mem hy
    have : j = i := litAt_inj (by omega)
    subst this
    exact hU j hbj

theorem Taken.more {L : List Nat} {m : Nat} {T : List Int} (h : Taken L m T) {c : Nat} (hcL : c ∈ L) (hc : c < 2 ^ 24) (hd : doneOf T (litsOf c) = false) {x : Int} (ho : openOf T (litsOf c) = [x]) : Taken L m (T ++ [x]) := by
  have hxo : x ∈ openOf T (litsOf c) := by rw [ho]; simp
  have hxp := (List.mem_filter.1 hxo).2
  simp at hxp
  obtain ⟨i, hi, rfl, _⟩ := litsOf_mem (List.mem_filter.1 hxo).1
  refine ⟨?_, ?_, ?_, ?_, ?_⟩
  · rw [List.nodup_append]
    refine ⟨h.nodup, by simp, fun a ha b hb e => ?_⟩
    simp at hb; subst hb; subst e; exact hxp.2 ha
  · intro y hy
    rcases List.mem_append.1 hy with hy | hy
    · exact h.lits y hy
    · simp at hy; exact ⟨i, hi, hy⟩
  · intro y hy hy'
    rcases List.mem_append.1 hy with hy | hy <;> rcases List.mem_append.1 hy' with hy' | hy'
    · exact h.cons y hy hy'
    · simp at hy'
      have : y = - litAt i := by omega
      subst this; exact hxp.1 hy
    · simp at hy; subst hy; exact hxp.1 hy'
    · simp at hy hy'
      have : litAt i ≠ 0 := by unfold litAt; split <;> omega
      omega
  · intro j hj hb
    exact List.mem_append_left _ (h.has j hj hb)
  · intro U hU hs j hj hu
    rcases List.mem_append.1 hu with hu | hu
    · exact h.least U hU hs j hj hu
    · simp at hu
      obtain ⟨k, hk, hxk, hUk⟩ := unit_goes (T := T) (fun i hi' hu' => h.least U hU hs i hi' hu') hs hcL hc hd ho
      have : k = i := litAt_inj hxk.symm
      subst this
      have e : litAt j = litAt (opp k) := by rw [litAt_opp]; omega
      rw [litAt_inj e]
      exact hUk

theorem Taken.conflict {L : List Nat} {m : Nat} {T : List Int} (h : Taken L m T) {c : Nat} (hcL : c ∈ L) (hc : c < 2 ^ 24) (hd : doneOf T (litsOf c) = false) (ho : openOf T (litsOf c) = []) : Fol L m :=
  .inr fun U hU hs => conflict_ends (U := U) (fun i hi hu => h.least U hU hs i hi hu) hcL hc hd ho hs

theorem Taken.fixed {L : List Nat} {m : Nat} {T : List Int} (h : Taken L m T) (hm : m < 2 ^ 24) (hL : ∀ c, c ∈ L → c < 2 ^ 24) (hno : ¬ ∃ i, m.testBit i = true ∧ m.testBit (opp i) = true)
    (hf : ∀ c, c ∈ L → doneOf T (litsOf c) = true ∨ 2 ≤ (openOf T (litsOf c)).length) : ¬ Fol L m := by
  rintro (hx | hx)
  · exact hno hx
  · refine hx (fun i => UOf T i) (fun i hb => ?_) (fixed_stable h.cons hL hf)
    have hi : i < 24 := by
      rcases Nat.lt_or_ge i 24 with h' | h'
      · exact h'
      · rw [Nat.testBit_lt_two_pow (Nat.lt_of_lt_of_le hm (Nat.pow_le_pow_right (by decide) h'))] at hb; cases hb
    exact h.has i hi hb

end Go.Proofs.YtekkkoipcghlmabDoor.Sp

namespace Go.Proofs.YtekkkoipcghlmabDoor
open Go.RowKit

/-- What Follows has taken at first. -/
def negs (xs : List Int) : List Int := xs.map fun x => -x
def lenOf : Value → Nat | .slice _ n _ => n | _ => 0
def flagOf : Value → Nat | .bool true => 1 | _ => 0
def FolRes (L : List Nat) (m : Nat) (w : World) (e : Ending) (w' : World) : Prop := ∃ r : Bool, e = .returned (.bool r) ∧ (r = true ↔ Sp.Fol L m) ∧ Below w.heap.size w w'
def Settled (T : List Int) (L : List Nat) : Prop := ∀ c, c ∈ L → Sp.doneOf T (Sp.litsOf c) = true ∨ 2 ≤ (Sp.openOf T (Sp.litsOf c)).length
def nOpen (T c : List Int) : Nat := (Sp.openOf T c).length
def lOf (T c : List Int) : Int := Sp.leftOf T c
def dOf (T c : List Int) : Bool := Sp.doneOf T c

theorem always_negs {m : Nat} (hm : m < 2 ^ 24) : alwaysOf (negs (Sp.litsOf m)) = true ↔ ∃ i, m.testBit i = true ∧ m.testBit (Sp.opp i) = true := by
  unfold alwaysOf negs
  rw [List.any_eq_true]
  constructor
  · rintro ⟨x, hx, hc⟩
    obtain ⟨y, hy, rfl⟩ := List.mem_map.1 hx
    have hc' : - -y ∈ (Sp.litsOf m).map fun x => -x := by simpa using hc
    obtain ⟨z, hz, hzz⟩ := List.mem_map.1 hc'
    obtain ⟨i, hi, rfl, hbi⟩ := Sp.litsOf_mem hy
    obtain ⟨j, hj, rfl, hbj⟩ := Sp.litsOf_mem hz
    have e : Sp.litAt j = Sp.litAt (Sp.opp i) := by rw [Sp.litAt_opp]; omega
    have := Sp.litAt_inj e
    subst this
    exact ⟨i, hbi, hbj⟩
  · rintro ⟨i, h1, h2⟩
    have hi : i < 24 := by
      rcases Nat.lt_or_ge i 24 with h | h
      · exact h
      · rw [Nat.testBit_lt_two_pow (Nat.lt_of_lt_of_le hm (Nat.pow_le_pow_right (by decide) h))] at h1; cases h1
    refine ⟨- Sp.litAt i, List.mem_map.2 ⟨_, (Sp.mem_litsOf m i hi).2 h1, rfl⟩, ?_⟩
    have : - - Sp.litAt i ∈ (Sp.litsOf m).map fun x => -x := List.mem_map.2 ⟨_, (Sp.mem_litsOf m _ (Sp.opp_lt hi)).2 h2, by rw [Sp.litAt_opp]⟩
    simpa using this

theorem nOpen_snoc (T c : List Int) (x : Int) : nOpen T (c ++ [x]) = nOpen T c + (if !T.contains (-x) && !T.contains x then 1 else 0) := by
  unfold nOpen; rw [Sp.openOf_snoc]; split <;> simp
theorem dOf_snoc (T c : List Int) (x : Int) : dOf T (c ++ [x]) = (dOf T c || T.contains x) := Sp.doneOf_snoc T c x
theorem lOf_snoc (T c : List Int) (x : Int) : lOf T (c ++ [x]) = if !T.contains (-x) && !T.contains x then x else lOf T c := by
  unfold lOf Sp.leftOf; rw [Sp.openOf_snoc]; split <;> simp
theorem nOpen_le (T c : List Int) : nOpen T c ≤ c.length := List.length_filter_le _ _
theorem lOf_one {T c : List Int} (h : nOpen T c = 1) : Sp.openOf T c = [lOf T c] := by
  unfold nOpen at h
  obtain ⟨x, hx⟩ := List.length_eq_one_iff.1 h
  unfold lOf Sp.leftOf; rw [hx]; rfl

end Go.Proofs.YtekkkoipcghlmabDoor

namespace Go.Proofs.YtekkkoipcghlmabDoor.Sp

/-- The lines of a text, each with whether it is ended. -/
def segsAux (cur : List UInt8) : List UInt8 → List (List UInt8 × Bool)
  | [] => if cur = [] then [] else [(cur, false)]
  | c :: r => if c = 10 then (cur, true) :: segsAux [] r else segsAux (cur ++ [c]) r
def segs (s : List UInt8) : List (List UInt8 × Bool) := segsAux [] s

def scanSegs : Nat → List (List UInt8 × Bool) → Option Nat
  | _, [] => none
  | n, x :: r => if !okLine x.1 || !x.2 then some (n + 1) else scanSegs (n + 1) r

theorem segsAux_lines (r : List UInt8) : ∀ cur, (segsAux cur r).map Prod.fst = linesAux cur r := by
  induction r with
  | nil => intro cur; unfold segsAux linesAux; split <;> rfl
  | cons c r ih =>
    intro cur
    unfold segsAux linesAux
    split
    · rw [List.map_cons, ih]
    · exact ih _

theorem lines_nil (r : List UInt8) : ∀ cur, linesAux cur r = [] → endAux cur r = true := by
  induction r with
  | nil => intro cur h; unfold linesAux at h; split at h
           · rename_i hc; subst hc; rfl
           · cases h
  | cons c r ih =>
    intro cur h
    unfold linesAux at h
    unfold endAux
    split at h
    · cases h
    · rename_i hc; rw [if_neg hc]; exact ih _ h

theorem scan_segs (r : List UInt8) : ∀ (cur : List UInt8) (n : Nat), scanSegs n (segsAux cur r) = scan (endAux cur r) n (linesAux cur r) := by
  induction r with
  | nil =>
    intro cur n
    unfold segsAux linesAux endAux
    by_cases hc : cur = []
    · simp [hc, scanSegs, scan]
    · have : cur.isEmpty = false := by simpa using hc
      simp [hc, scanSegs, scan, this]
  | cons c r ih =>
    intro cur n
    unfold segsAux linesAux endAux
    by_cases hc : c = 10
    · rw [if_pos hc, if_pos hc, if_pos hc]
      unfold scanSegs scan
      rw [ih]
      have : (!endAux [] r && (linesAux [] r).isEmpty) = false := by
        cases he : (linesAux [] r).isEmpty
        · simp
        · rw [lines_nil r [] (by simpa using he)]; rfl
      rw [this]
      simp
    · rw [if_neg hc, if_neg hc, if_neg hc]; exact ih _ n

theorem segsAux_no (r : List UInt8) : ∀ cur, (10 : UInt8) ∉ cur → ∀ x, x ∈ segsAux cur r → (10 : UInt8) ∉ x.1 := by
  induction r with
  | nil =>
    intro cur h x hx
    unfold segsAux at hx
    split at hx
    · cases hx
    · simp at hx; subst hx; exact h
  | cons c r ih =>
    intro cur h x hx
    unfold segsAux at hx
    split at hx
    · rcases List.mem_cons.1 hx with rfl | hx
      · exact h
      · exact ih [] (by simp) x hx
    · rename_i hc
      exact ih _ (by simp [h]; exact fun h' => hc h'.symm) x hx

theorem segsAux_len (r : List UInt8) : ∀ cur x, x ∈ segsAux cur r → x.1.length ≤ cur.length + r.length := by
  induction r with
  | nil =>
    intro cur x hx
    unfold segsAux at hx
    split at hx
    · cases hx
    · simp at hx; subst hx; simp
  | cons c r ih =>
    intro cur x hx
    unfold segsAux at hx
    split at hx
    · rcases List.mem_cons.1 hx with rfl | hx
      · simp
      · have := ih [] x hx; simp at this ⊢; omega
    · have := ih _ x hx; simp at this ⊢; omega
theorem segsAux_count (r : List UInt8) : ∀ cur, (segsAux cur r).length ≤ r.length + 1 := by
  induction r with
  | nil => intro cur; unfold segsAux; split <;> simp
  | cons c r ih =>
    intro cur
    unfold segsAux
    split
    · have := ih []; simp; omega
    · have := ih (cur ++ [c]); simp; omega

/-- How the next line is found. -/
theorem segs_index (x : List UInt8) : (Lib.indexByte x 10 = -1 ∧ ∀ cur, cur ++ x ≠ [] → segsAux cur x = [(cur ++ x, false)]) ∨
    ∃ i : Nat, Lib.indexByte x 10 = i ∧ i < x.length ∧ x.take (i + 1) = x.take i ++ [10] ∧ ∀ cur, segsAux cur x = (cur ++ x.take i, true) :: segsAux [] (x.drop (i + 1)) := by
  induction x with
  | nil => exact .inl ⟨rfl, fun cur h => by simp at h; simp [segsAux, h]⟩
  | cons b l ih =>
    by_cases hb : b = 10
    · subst hb
      exact .inr ⟨0, by simp [Lib.indexByte], by simp, by simp, fun cur => by simp [segsAux]⟩
    · have hp : (b == 10) = false := by simpa using hb
      rcases ih with ⟨h1, h2⟩ | ⟨i, h1, h2, h4, h3⟩
      · refine .inl ⟨by unfold Lib.indexByte; rw [hp, h1]; rfl, fun cur _ => ?_⟩
        unfold segsAux
        rw [if_neg hb, h2 _ (by simp)]
        simp
      · refine .inr ⟨i + 1, ?_, by simp; omega, by simp [h4], fun cur => ?_⟩
        · unfold Lib.indexByte
          rw [hp, h1]
          have : ((i : Int) == -1) = false := by rw [beq_eq_false_iff_ne]; omega
          simp [this]
        · conv => lhs; unfold segsAux
          rw [if_neg hb, h3]
          simp

end Go.Proofs.YtekkkoipcghlmabDoor.Sp
