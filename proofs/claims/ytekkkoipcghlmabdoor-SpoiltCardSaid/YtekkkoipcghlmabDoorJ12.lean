import Derived.Test.YtekkkoipcghlmabDoorJ07
import Derived.Test.YtekkkoipcghlmabDoorJ11
import Derived.Test.YtekkkoipcghlmabDoorJ02
import Derived.Test.YtekkkoipcghlmabDoorJ10
import Derived.Deep.AppendLies
import Derived.Deep.RegionWith
import Derived.Deep.QuietTactic
import Derived.BigQuiet
namespace Go.Proofs.YtekkkoipcghlmabDoor
open Go.RowKit

/-- The clauses of a text. -/
def masksOf (s : List UInt8) : List Nat := (Sp.segs s).map lineMask
theorem masks_len (s : List UInt8) : (masksOf s).length ≤ s.length + 1 := by
  unfold masksOf; rw [List.length_map]; exact Sp.segsAux_count s []
theorem masks_small (s : List UInt8) : Small (masksOf s) := fun c hc => by
  obtain ⟨x, _, rfl⟩ := List.mem_map.1 hc
  exact Sp.maskOf_lt _ (fun y hy => by obtain ⟨z, _, rfl⟩ := List.mem_map.1 hy; exact Sp.lit_bd z)

/-- What Check comes to. -/
def CheckOut (s t : List UInt8) (r : Int × Int) : Prop :=
  (6000 < s.length ∧ r = (4, 0)) ∨
  (s.length ≤ 6000 ∧ ((∃ n : Nat, Sp.scanSegs 0 (Sp.segs s) = some n ∧ r = (5, (n : Int))) ∨
    (Sp.scanSegs 0 (Sp.segs s) = none ∧ ((6000 < t.length ∧ r = (4, 0)) ∨ (t.length ≤ 6000 ∧ Sp.Outcome (masksOf s) 0 (Sp.segs t) r)))))
theorem CheckOut.unique {s t : List UInt8} {r r' : Int × Int} (h : CheckOut s t r) (h' : CheckOut s t r') : r = r' := by
  rcases h with ⟨h1, h2⟩ | ⟨h1, h2⟩ <;> rcases h' with ⟨g1, g2⟩ | ⟨g1, g2⟩
  · rw [h2, g2]
  · omega
  · omega
  · rcases h2 with ⟨n, h3, h4⟩ | ⟨h3, h4⟩ <;> rcases g2 with ⟨n', g3, g4⟩ | ⟨g3, g4⟩
    · rw [h3] at g3; cases g3; rw [h4, g4]
    · rw [h3] at g3; cases g3
    · rw [h3] at g3; cases g3
    · rcases h4 with ⟨h5, h6⟩ | ⟨h5, h6⟩ <;> rcases g4 with ⟨g5, g6⟩ | ⟨g5, g6⟩
      · rw [h6, g6]
      · omega
      · omega
      · exact Sp.Outcome.unique _ _ _ _ _ h6 g6

def CheckRes (s t : List UInt8) (w : World) (e : Ending) (w' : World) : Prop := ∃ r : Int × Int, e = .returned (.tuple #[.int .i64 r.1, .int .i64 r.2]) ∧ CheckOut s t r ∧ Below w.heap.size w w'

theorem lits_line {a : List UInt8 × Bool} (h : goodLine a) : Sp.litsOf (lineMask a) = Sp.clauseOf a.1 := by
  have ha := h.1
  unfold lineMask Sp.clauseOf
  refine Sp.litsOf_maskOf _ (fun x hx => ?_)
  obtain ⟨z, hz, rfl⟩ := List.mem_map.1 hx
  unfold Sp.okLine at ha
  have := List.all_eq_true.1 ha z hz
  simpa using this

theorem rows_parsed {w : World} {base n : Nat} {v : Value} {vs : List Value} {s : List UInt8} (hg : ∀ x, x ∈ Sp.segs s → goodLine x) (hown : w.ownsRow base 22 1 v n vs) (hrows : RowsAt w base vs ((Sp.lines s).map Sp.clauseOf)) : RowsOf w v (masksOf s) := by
  refine ⟨vs, lies_of_owns hown (by have := hown.1; omega), ?_, ?_⟩
  · rw [hrows.1, ← segs_fst]; simp [masksOf]
  · intro i x m hx hm
    unfold masksOf at hm
    rw [List.getElem?_map] at hm
    cases hs : (Sp.segs s)[i]? with
    | none => rw [hs] at hm; cases hm
    | some a =>
      rw [hs] at hm
      simp at hm
      subst hm
      have hc : ((Sp.lines s).map Sp.clauseOf)[i]? = some (Sp.clauseOf a.1) := by rw [← segs_fst, List.getElem?_map, List.getElem?_map, hs]; rfl
      have := hrows.2 i x _ hx hc
      rw [lits_line (hg a (List.mem_of_getElem? hs))]
      exact lies_of_owns this (by simp [ints])

end Go.Proofs.YtekkkoipcghlmabDoor

namespace Go.Proofs.YtekkkoipcghlmabDoor.Sp

/-- Is it a literal? -/
def Lt (x : Int) : Prop := x ≠ 0 ∧ -12 ≤ x ∧ x ≤ 12

theorem segsAux_run (a : List UInt8) : ∀ (cur r : List UInt8), (10 : UInt8) ∉ a → segsAux cur (a ++ r) = segsAux (cur ++ a) r := by
  induction a with
  | nil => intro cur r _; simp
  | cons c a ih =>
    intro cur r h
    simp only [List.mem_cons, not_or] at h
    rw [List.cons_append, segsAux, if_neg (fun e => h.1 e.symm), ih _ _ h.2]
    simp
theorem segs_line (a r : List UInt8) (h : (10 : UInt8) ∉ a) : segs (a ++ 10 :: r) = (a, true) :: segs r := by
  unfold segs
  rw [segsAux_run a [] _ h, List.nil_append, segsAux, if_pos rfl]
theorem segs_open (a : List UInt8) (h : (10 : UInt8) ∉ a) (h0 : a ≠ []) : segs a = [(a, false)] := by
  have := segsAux_run a [] [] h
  rw [List.append_nil, List.nil_append] at this
  unfold segs
  rw [this, segsAux, if_neg h0]
theorem wordsAux_run (a : List UInt8) : ∀ (cur r : List UInt8), (32 : UInt8) ∉ a → wordsAux cur (a ++ r) = wordsAux (cur ++ a) r := by
  induction a with
  | nil => intro cur r _; simp
  | cons c a ih =>
    intro cur r h
    simp only [List.mem_cons, not_or] at h
    rw [List.cons_append, wordsAux, if_neg (fun e => h.1 e.symm), ih _ _ h.2]
    simp
theorem wordsAux_join : ∀ (ws : List (List UInt8)), ws ≠ [] → (∀ w, w ∈ ws → (32 : UInt8) ∉ w) → wordsAux [] (join ws) = ws
  | [], h, _ => absurd rfl h
  | [a], _, h => by
    have := wordsAux_run a [] [] (h a (by simp))
    rw [List.append_nil, List.nil_append] at this
    rw [join, this, wordsAux]
  | a :: b :: r, _, h => by
    rw [join, wordsAux_run a [] _ (h a (by simp)), List.nil_append, wordsAux, if_pos rfl, wordsAux_join (b :: r) (by simp) (fun w hw => h w (List.mem_cons_of_mem _ hw))]
theorem lw_facts (x : Int) (h : Lt x) : lit (lw x) = x ∧ (32 : UInt8) ∉ lw x ∧ (10 : UInt8) ∉ lw x ∧ lw x ≠ [] ∧ lw x ≠ [100] := by
  have : ∀ k : Fin 25, (k.val : Int) - 12 ≠ 0 → lit (lw ((k.val : Int) - 12)) = (k.val : Int) - 12 ∧ (32 : UInt8) ∉ lw ((k.val : Int) - 12) ∧ (10 : UInt8) ∉ lw ((k.val : Int) - 12) ∧ lw ((k.val : Int) - 12) ≠ [] ∧ lw ((k.val : Int) - 12) ≠ [100] := by decide
  have := this ⟨(x + 12).toNat, by have := h.2; omega⟩
  have e : (((x + 12).toNat : Nat) : Int) - 12 = x := by have := h.2; omega
  simp only [e] at this
  exact this h.1
theorem join_ne (a : List UInt8) (r : List (List UInt8)) (h : a ≠ []) : join (a :: r) ≠ [] := by
  cases r with
  | nil => exact h
  | cons b r => rw [join]; simp
theorem join_no : ∀ (ws : List (List UInt8)), (∀ w, w ∈ ws → (10 : UInt8) ∉ w) → (10 : UInt8) ∉ join ws
  | [], _ => by simp [join]
  | [a], h => h a (by simp)
  | a :: b :: r, h => by
    rw [join]
    simp only [List.mem_append, List.mem_cons, not_or]
    exact ⟨h a (by simp), by decide, join_no (b :: r) (fun w hw => h w (List.mem_cons_of_mem _ hw))⟩
theorem told_no (l : List Int) (h : ∀ x, x ∈ l → Lt x) : (10 : UInt8) ∉ toldBody l :=
  join_no _ (fun w hw => by obtain ⟨x, hx, rfl⟩ := List.mem_map.1 hw; exact (lw_facts x (h x hx)).2.2.1)
theorem words_told (l : List Int) (h : ∀ x, x ∈ l → Lt x) : words (toldBody l) = l.map lw := by
  unfold words toldBody
  cases l with
  | nil => rfl
  | cons x r =>
    rw [List.map_cons, if_neg (join_ne _ _ (lw_facts x (h x (by simp))).2.2.2.1), ← List.map_cons (f := lw)]
    exact wordsAux_join _ (by simp) (fun w hw => by obtain ⟨y, hy, rfl⟩ := List.mem_map.1 hw; exact (lw_facts y (h y hy)).2.1)
theorem lits_told (l : List Int) (h : ∀ x, x ∈ l → Lt x) : (l.map lw).map lit = l := by
  rw [List.map_map]
  conv => rhs; rw [← List.map_id l]
  apply List.map_congr_left
  intro x hx
  exact (lw_facts x (h x hx)).1
theorem ok_told (l : List Int) (h : ∀ x, x ∈ l → Lt x) : okLine (toldBody l) = true := by
  unfold okLine
  rw [words_told l h, List.all_eq_true]
  intro w hw
  obtain ⟨x, hx, rfl⟩ := List.mem_map.1 hw
  rw [(lw_facts x (h x hx)).1]
  simpa using (h x hx).1
theorem step_told (l : List Int) (h : ∀ x, x ∈ l → Lt x) : stepOf (toldBody l) = (false, l.map lw) := by
  unfold stepOf
  rw [words_told l h]
  cases l with
  | nil => rfl
  | cons x r =>
    simp only [List.map_cons]
    rw [if_neg (lw_facts x (h x (by simp))).2.2.2.2]

/-- Clauses as lines. -/
def textOf (l : List (List Int)) : List UInt8 := l.flatMap told
theorem segs_text (l : List (List Int)) (r : List UInt8) (h : ∀ c, c ∈ l → ∀ x, x ∈ c → Lt x) : segs (textOf l ++ r) = l.map (fun c => (toldBody c, true)) ++ segs r := by
  induction l with
  | nil => rfl
  | cons c l ih =>
    have e : textOf (c :: l) ++ r = toldBody c ++ 10 :: (textOf l ++ r) := by simp [textOf, told]
    rw [e, segs_line _ _ (told_no c (h c (by simp))), ih (fun d hd => h d (List.mem_cons_of_mem _ hd))]
    rfl
end Go.Proofs.YtekkkoipcghlmabDoor.Sp

namespace Go.Proofs.YtekkkoipcghlmabDoor
open Sp
theorem good_told (l : List (List Int)) (h : ∀ c, c ∈ l → ∀ x, x ∈ c → Lt x) : ∀ x, x ∈ l.map (fun c => (toldBody c, true)) → goodLine x := by
  intro x hx
  obtain ⟨c, hc, rfl⟩ := List.mem_map.1 hx
  exact ⟨ok_told c (h c hc), rfl⟩
theorem masks_told (l : List (List Int)) (h : ∀ c, c ∈ l → ∀ x, x ∈ c → Lt x) : masksOf (textOf l) = l.map maskOf := by
  unfold masksOf
  have := segs_text l [] h
  rw [List.append_nil] at this
  rw [this]
  simp only [segs, segsAux, if_true, List.append_nil, List.map_map]
  apply List.map_congr_left
  intro c hc
  simp only [Function.comp, lineMask]
  rw [words_told c (h c hc), lits_told c (h c hc)]
theorem scan_told (l : List (List Int)) (h : ∀ c, c ∈ l → ∀ x, x ∈ c → Lt x) : scanSegs 0 (segs (textOf l)) = none := by
  have := segs_text l [] h
  rw [List.append_nil] at this
  rw [this]
  simp only [segs, segsAux, if_true, List.append_nil]
  exact scan_good _ 0 (good_told l h)

/-- What a step that adds a clause comes to. -/
theorem out_add {L : List Nat} {n : Nat} {c : List Int} {rest : List (List UInt8 × Bool)} {r : Int × Int} (h : ∀ x, x ∈ c → Lt x) (hf : Fol L (maskOf c)) (ho : Sp.Outcome (L ++ [maskOf c]) (n + 1) rest r) : Sp.Outcome L n ((toldBody c, true) :: rest) r := by
  have hm : stepMask (toldBody c) = maskOf c := by unfold stepMask; rw [step_told c h]; show maskOf ((c.map lw).map lit) = _; rw [lits_told c h]
  have hk : stepOk (toldBody c, true) = true := by
    have := ok_told c h
    unfold okLine at this
    unfold stepOk
    rw [step_told c h]
    simp only [Bool.and_true]
    rw [words_told c h] at this
    exact this
  exact .inr ⟨hk, .inr ⟨by rw [step_told c h], .inl ⟨by rw [hm]; exact hf, by rw [hm]; exact ho⟩⟩⟩

theorem small_bits (c a b : Nat) (h : c < 2 ^ 4) (hd : ∀ i : Fin 4, c.testBit i.val = (i.val == a || i.val == b)) (ha : a < 4) (hb : b < 4) : ∀ i, c.testBit i = true ↔ i = a ∨ i = b := by
  intro i
  rcases Nat.lt_or_ge i 4 with hi | hi
  · rw [hd ⟨i, hi⟩]; simp
  · rw [Nat.testBit_lt_two_pow (Nat.lt_of_lt_of_le h (Nat.pow_le_pow_right (by decide) hi))]
    constructor
    · intro e; cases e
    · intro e; omega
theorem unit2 {L : List Nat} {U : Nat → Prop} (hs : Stable L U) {c a b : Nat} (hc : c ∈ L) (hbits : ∀ i, c.testBit i = true ↔ i = a ∨ i = b) (hb : b ≠ a → U b) : ¬ U a ∧ U (opp a) := by
  obtain ⟨i, hi, hn⟩ := (hs c hc).1
  have na : ¬ U a := by
    rcases (hbits i).1 hi with rfl | rfl
    · exact hn
    · by_cases e : i = a
      · rw [← e]; exact hn
      · exact absurd (hb e) hn
  refine ⟨na, (hs c hc).2 a ((hbits a).2 (.inl rfl)) na (fun j hj hja => ?_)⟩
  rcases (hbits j).1 hj with rfl | rfl
  · exact absurd rfl hja
  · exact hb hja
/-- Two variables that can not be met. -/
theorem fol_two {L : List Nat} (h5 : 5 ∈ L) (h6 : 6 ∈ L) : Fol L 4 := by
  refine .inr fun U hU hs => ?_
  have u2 : U 2 := hU 2 (by decide)
  have h1 := unit2 hs h5 (small_bits 5 0 2 (by decide) (by decide) (by decide) (by decide)) (fun _ => u2)
  have h2 := unit2 hs h6 (small_bits 6 1 2 (by decide) (by decide) (by decide) (by decide)) (fun _ => u2)
  exact h2.1 h1.2
theorem fol_none {L : List Nat} (h4 : 4 ∈ L) (h9 : 9 ∈ L) (h10 : 10 ∈ L) : Fol L 0 := by
  refine .inr fun U _ hs => ?_
  have h1 := unit2 hs h4 (small_bits 4 2 2 (by decide) (by decide) (by decide) (by decide)) (fun h => absurd rfl h)
  have u3 : U 3 := h1.2
  have h2 := unit2 hs h9 (small_bits 9 0 3 (by decide) (by decide) (by decide) (by decide)) (fun _ => u3)
  have h3 := unit2 hs h10 (small_bits 10 1 3 (by decide) (by decide) (by decide) (by decide)) (fun _ => u3)
  exact h3.1 h2.2
theorem fol_any {L : List Nat} (h0 : 0 ∈ L) (m : Nat) : Fol L m := by
  refine .inr fun U _ hs => ?_
  obtain ⟨i, hi, _⟩ := (hs 0 h0).1
  simp at hi
theorem fol_not : ¬ Fol [] 0 := by
  rintro (⟨i, hi, _⟩ | h)
  · simp at hi
  · exact h (fun _ => False) (fun i hi => by simp at hi) (fun c hc => by cases hc)

/-- The clauses that a play of Spoilt has. -/
structure Base (l : List (List Int)) : Prop where
  lits : ∀ c, c ∈ l → ∀ x, x ∈ c → x ≠ 0 ∧ -5 ≤ x ∧ x ≤ 5
  four : [1, 2] ∈ l ∧ [-1, 2] ∈ l ∧ [1, -2] ∈ l ∧ [-1, -2] ∈ l
  short : (textOf l).length ≤ 5000
theorem Base.lt {l : List (List Int)} (h : Base l) : ∀ c, c ∈ l → ∀ x, x ∈ c → Lt x := fun c hc x hx => by
  have := h.lits c hc x hx
  exact ⟨this.1, by omega, by omega⟩
def M (l : List (List Int)) : List Nat := l.map maskOf
theorem Base.mem {l : List (List Int)} (h : Base l) : 5 ∈ M l ∧ 6 ∈ M l ∧ 9 ∈ M l ∧ 10 ∈ M l :=
  ⟨List.mem_map.2 ⟨_, h.four.1, by decide⟩, List.mem_map.2 ⟨_, h.four.2.1, by decide⟩, List.mem_map.2 ⟨_, h.four.2.2.1, by decide⟩, List.mem_map.2 ⟨_, h.four.2.2.2, by decide⟩⟩
/-- "2", then the clause without literals; what comes behind. -/
theorem out_head {l : List (List Int)} (h : Base l) {rest : List (List UInt8 × Bool)} {r : Int × Int} (ho : Sp.Outcome (M l ++ [4] ++ [0]) 2 rest r) : Sp.Outcome (M l) 0 (([50], true) :: ([], true) :: rest) r := by
  obtain ⟨m5, m6, m9, m10⟩ := h.mem
  have e1 : ([50], true) = (toldBody [2], true) := by decide
  have e2 : (([], true) : List UInt8 × Bool) = (toldBody [], true) := by decide
  have k2 : maskOf [2] = 4 := by decide
  have k0 : maskOf [] = 0 := by decide
  rw [e1, e2]
  refine out_add (fun x hx => by simp at hx; subst hx; exact ⟨by decide, by decide, by decide⟩) (by rw [k2]; exact fol_two m5 m6) ?_
  refine out_add (fun x hx => by cases hx) (by rw [k2, k0]; exact fol_none (by simp) (by simp [m9]) (by simp [m10])) ?_
  rw [k2, k0]
  exact ho
theorem mask_small {c : List Int} (h : ∀ x, x ∈ c → x ≠ 0 ∧ -5 ≤ x ∧ x ≤ 5) : (maskOf c).testBit 10 = false := by
  rw [maskOf_testBit, List.any_eq_false]
  intro x hx
  have := h x hx
  rw [beq_iff_eq]
  unfold bitIx
  split <;> omega
theorem Base.lost {l : List (List Int)} (h : Base l) : 21504 ∉ M l ++ [4] ++ [0] := by
  intro hm
  rw [List.mem_append, List.mem_append] at hm
  rcases hm with (hm | hm) | hm
  · obtain ⟨c, hc, e⟩ := List.mem_map.1 hm
    have := mask_small (h.lits c hc)
    rw [e] at this
    revert this; decide
  · revert hm; decide
  · revert hm; decide

section
variable {l : List (List Int)} (h : Base l)
theorem out_of {t : List UInt8} {r : Int × Int} (hl : t.length ≤ 6000) (ho : Sp.Outcome (M l) 0 (segs t) r) (h : Base l) : CheckOut (textOf l) t r :=
  .inr ⟨by have := h.short; omega, .inr ⟨scan_told l h.lt, .inr ⟨hl, by rw [masks_told l h.lt]; exact ho⟩⟩⟩
theorem check1 (h : Base l) : CheckOut (textOf l) [50, 10, 10] (0, 0) :=
  out_of (by decide) (by rw [show segs [50, 10, 10] = [([50], true), ([], true)] from by decide]; exact out_head h rfl) h
theorem check2 (h : Base l) : CheckOut (textOf l) [50, 10, 10, 100, 32, 54, 32, 55, 32, 56, 10] (7, 3) :=
  out_of (by decide) (by
    rw [show segs [50, 10, 10, 100, 32, 54, 32, 55, 32, 56, 10] = [([50], true), ([], true), ([100, 32, 54, 32, 55, 32, 56], true)] from by decide]
    exact out_head h (.inr ⟨by decide, .inl ⟨by decide, .inr ⟨by rw [show stepMask [100, 32, 54, 32, 55, 32, 56] = 21504 from by decide]; exact h.lost, rfl⟩⟩⟩)) h
theorem check3 (h : Base l) : CheckOut (textOf l) [50, 10, 10, 49, 32, 32, 50, 10] (6, 3) :=
  out_of (by decide) (by
    rw [show segs [50, 10, 10, 49, 32, 32, 50, 10] = [([50], true), ([], true), ([49, 32, 32, 50], true)] from by decide]
    exact out_head h (.inl ⟨by decide, rfl⟩)) h
theorem check4 (h : Base l) : CheckOut (textOf l) [50, 10, 10, 49, 32, 50] (6, 3) :=
  out_of (by decide) (by
    rw [show segs [50, 10, 10, 49, 32, 50] = [([50], true), ([], true), ([49, 32, 50], false)] from by decide]
    exact out_head h (.inl ⟨by decide, rfl⟩)) h
theorem check5 : CheckOut [] [10] (8, 1) :=
  .inr ⟨by decide, .inr ⟨by decide, .inr ⟨by decide, by
    rw [show segs [10] = [([], true)] from by decide, show masksOf [] = [] from by decide]
    exact .inr ⟨by decide, .inr ⟨by decide, .inr ⟨by rw [show stepMask [] = 0 from by decide]; exact fol_not, rfl⟩⟩⟩⟩⟩⟩
theorem check6 (h : Base l) (t : List UInt8) : CheckOut (textOf l ++ [49, 51, 10]) t (5, (l.length : Int) + 1) :=
  .inr ⟨by have := h.short; simp; omega, .inl ⟨l.length + 1, by
    rw [segs_text l _ h.lt, show segs [49, 51, 10] = [([49, 51], true)] from by decide]
    have := scan_bad (l.map fun c => (toldBody c, true)) ([49, 51], true) [] 0 (good_told l h.lt) (fun hg => by have := hg.1; revert this; decide)
    rw [this]; simp, by simp⟩⟩
theorem check7 (h : Base l) (t : List UInt8) : CheckOut ([100, 32, 54, 32, 55, 32, 56, 10] ++ textOf l) t (5, 1) :=
  .inr ⟨by have := h.short; simp; omega, .inl ⟨1, by
    have e : ([100, 32, 54, 32, 55, 32, 56, 10] : List UInt8) ++ textOf l = [100, 32, 54, 32, 55, 32, 56] ++ 10 :: textOf l := by simp
    rw [e, segs_line _ _ (by decide)]
    have := scan_bad [] ([100, 32, 54, 32, 55, 32, 56], true) (segs (textOf l)) 0 (fun y hy => by cases hy) (fun hg => by have := hg.1; revert this; decide)
    exact this, rfl⟩⟩
theorem check8 (h : Base l) {c : List Int} (hc : ∀ x, x ∈ c → Lt x) (hl : (told c).length ≤ 500) : CheckOut (textOf l) ([50, 10, 10] ++ told c ++ [100, 10]) (0, 0) :=
  out_of (by simp; omega) (by
    have e : ([50, 10, 10] : List UInt8) ++ told c ++ [100, 10] = [50] ++ 10 :: ([] ++ 10 :: (toldBody c ++ 10 :: ([100] ++ 10 :: []))) := by simp [told]
    rw [e, segs_line _ _ (by decide), segs_line _ _ (by decide), segs_line _ _ (told_no c hc), segs_line _ _ (by decide)]
    refine out_head h (out_add hc (fol_any (by simp) _) ?_)
    refine .inr ⟨by decide, .inl ⟨by decide, .inl ⟨by rw [show stepMask [100] = 0 from by decide]; simp, ?_⟩⟩⟩
    rfl) h
theorem check9 (h : Base l) : CheckOut (textOf l) [] (0, 0) := out_of (by decide) (by rw [show segs [] = [] from by decide]; rfl) h
theorem check10 (h : Base l) : CheckOut (textOf l) [50] (6, 1) := out_of (by decide) (by rw [show segs [50] = [([50], false)] from by decide]; exact .inl ⟨by decide, rfl⟩) h
theorem check11 (h : Base l) : CheckOut (textOf l) [50, 10] (0, 0) :=
  out_of (by decide) (by
    rw [show segs [50, 10] = [([50], true)] from by decide]
    obtain ⟨m5, m6, m9, m10⟩ := h.mem
    have e1 : ([50], true) = (toldBody [2], true) := by decide
    rw [e1]
    exact out_add (fun x hx => by simp at hx; subst hx; exact ⟨by decide, by decide, by decide⟩) (by rw [show maskOf [2] = 4 from by decide]; exact fol_two m5 m6) rfl) h
end

end Go.Proofs.YtekkkoipcghlmabDoor

namespace Go.Proofs.YtekkkoipcghlmabDoor
open Go.RowKit

theorem ret_lt {n : Nat} {a : Int} (h0 : 0 ≤ a) (h1 : a < n) : ∃ d : Nat, d < n ∧ Ending.returned (.int .i64 a) = .returned (.int .i64 d) := ⟨a.toNat, by omega, by rw [Int.toNat_of_nonneg h0]⟩
theorem pickK_any (c : Int) (n : Nat) (w : World) (h0 : -9223372036854775808 ≤ c) (h1 : c ≤ 9223372036854775807) (hn : 0 < n) (hn4 : n ≤ 1000) :
    Calls Tryd.prog 9 #[.int .i64 c, .int .i64 n] w fun e w' => (∃ d : Nat, d < n ∧ e = .returned (.int .i64 d)) ∧ w' = w := by
  by_cases hc : c < 0
  · go_enter Tryd.func9, Tryd.ntmps9
    go_wp2
    go_ret
    have e1 : -(c + 1).tmod (n : Int) = (-(c + 1)) % (n : Int) := by rw [← Int.neg_tmod, Int.tmod_eq_emod_of_nonneg (by omega)]
    exact ⟨ret_lt (a := -(c + 1).tmod (n : Int)) (by rw [e1]; exact Int.emod_nonneg _ (by omega)) (by rw [e1]; exact Int.emod_lt_of_pos _ (by omega)), rfl⟩
  · go_enter Tryd.func9, Tryd.ntmps9
    go_wp2
    go_ret
    exact ⟨ret_lt (a := c % (n : Int)) (Int.emod_nonneg _ (by omega)) (Int.emod_lt_of_pos _ (by omega)), rfl⟩

set_option maxRecDepth 100000 in
set_option maxHeartbeats 1600000 in
theorem literalK_any (c : Int) (n : Nat) (w : World) (h0 : -9223372036854775808 ≤ c) (h1 : c ≤ 9223372036854775807) (hn : 0 < n) (hn4 : n ≤ 12) :
    Calls Tryd.prog 10 #[.int .i64 c, .int .i64 n] w fun e w' => (∃ x : Int, (x ≠ 0 ∧ -(n : Int) ≤ x ∧ x ≤ n) ∧ e = .returned (.int .i64 x)) ∧ w' = w := by
  have H1 := hide (pickK_any c n w h0 h1 hn (by omega))
  have hq : -9223372036854775808 ≤ c.tdiv 64 ∧ c.tdiv 64 ≤ 9223372036854775807 := by
    have e : c.tdiv 64 = if 0 ≤ c then c / 64 else -((-c) / 64) := by
      split
      · exact Int.tdiv_eq_ediv_of_nonneg (by omega)
      · rw [← Int.neg_neg (c.tdiv 64), ← Int.neg_tdiv, Int.tdiv_eq_ediv_of_nonneg (by omega)]
    rw [e]; split <;> omega
  have H2 : Hid (Calls Tryd.prog 9 #[.int .i64 (c.tdiv 64), .int .i64 2] w fun e w' => (∃ d : Nat, d < 2 ∧ e = .returned (.int .i64 d)) ∧ w' = w) := hide (pickK_any (c.tdiv 64) 2 w hq.1 hq.2 (by decide) (by decide))
  go_enter Tryd.func10, Tryd.ntmps10
  go_wp2_with fail
  refine (unhide H1).mono ?_
  rintro e w1 ⟨⟨d, hd, rfl⟩, rfl⟩
  go_wp2_with fail
  refine (unhide H2).mono ?_
  rintro e w2 ⟨⟨d2, hd2, rfl⟩, rfl⟩
  by_cases h2 : d2 = 1
  · subst h2
    go_wp2
    go_ret
    exact ⟨⟨-(1 + (d : Int)), ⟨by omega, by omega, by omega⟩, rfl⟩, rfl⟩
  · have hz : d2 = 0 := by omega
    subst hz
    go_wp2
    go_ret
    exact ⟨⟨1 + (d : Int), ⟨by omega, by omega, by omega⟩, rfl⟩, rfl⟩

end Go.Proofs.YtekkkoipcghlmabDoor
