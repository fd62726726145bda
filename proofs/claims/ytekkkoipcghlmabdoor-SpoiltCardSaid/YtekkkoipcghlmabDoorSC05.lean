import Derived.Test.YtekkkoipcghlmabDoorSC04
import Derived.Test.YtekkkoipcghlmabDoorSC02
import Derived.Test.YtekkkoipcghlmabDoorSC01
import Derived.Lib.BitFns
set_option linter.all false
namespace Go.Proofs.YtekkkoipcghlmabDoor.Sp

/-- Is it a literal? -/
def Lt (x : Int) : Prop := x ≠ 0 ∧ -12 ≤ x ∧ x ≤ 12

theorem segsAux_run (a : List UInt8) : ∀ (cur r : List UInt8), (10 : UInt8) ∉ a → segsAux cur (a ++ r) = segsAux (cur ++ a) r := by
  induction a with
  | nil => intro cur r _; simp
  | cons c a ih =>
    intro cur r h
    simp only [List.mem_cons, not_or] at h
    rw [List.cons_append, segsAux, if_neg (fun e => h.1 e.symm), ih _ _ h.2]
    simp
theorem segs_line (a r : List UInt8) (h : (10 : UInt8) ∉ a) : segs (a ++ 10 :: r) = (a, true) :: segs r := by
  unfold segs
  rw [segsAux_run a [] _ h, List.nil_append, segsAux, if_pos rfl]
theorem wordsAux_run (a : List UInt8) : ∀ (cur r : List UInt8), (32 : UInt8) ∉ a → wordsAux cur (a ++ r) = wordsAux (cur ++ a) r := by
  induction a with
  | nil => intro cur r _; simp
  | cons c a ih =>
    intro cur r h
    simp only [List.mem_cons, not_or] at h
    rw [List.cons_append, wordsAux, if_neg (fun e => h.1 e.symm), ih _ _ h.2]
    simp
theorem wordsAux_join : ∀ (ws : List (List UInt8)), ws ≠ [] → (∀ w, w ∈ ws → (32 : UInt8) ∉ w) → wordsAux [] (join ws) = ws
  | [], h, _ => absurd rfl h
  | [a], _, h => by
    have := wordsAux_run a [] [] (h a (by simp))
    rw [List.append_nil, List.nil_append] at this
    rw [join, this, wordsAux]
  | a :: b :: r, _, h => by
    rw [join, wordsAux_run a [] _ (h a (by simp)), List.nil_append, wordsAux, if_pos rfl, wordsAux_join (b :: r) (by simp) (fun w hw => h w (List.mem_cons_of_mem _ hw))]
theorem lw_facts (x : Int) (h : Lt x) : lit (lw x) = x ∧ (32 : UInt8) ∉ lw x ∧ (10 : UInt8) ∉ lw x ∧ lw x ≠ [] ∧ lw x ≠ [100] := by
  have : ∀ k : Fin 25, (k.val : Int) - 12 ≠ 0 → lit (lw ((k.val : Int) - 12)) = (k.val : Int) - 12 ∧ (32 : UInt8) ∉ lw ((k.val : Int) - 12) ∧ (10 : UInt8) ∉ lw ((k.val : Int) - 12) ∧ lw ((k.val : Int) - 12) ≠ [] ∧ lw ((k.val : Int) - 12) ≠ [100] := by decide
  have := this ⟨(x + 12).toNat, by have := h.2; omega⟩
  have e : (((x + 12).toNat : Nat) : Int) - 12 = x := by have := h.2; omega
  simp only [e] at this
  exact this h.1
theorem join_ne (a : List UInt8) (r : List (List UInt8)) (h : a ≠ []) : join (a :: r) ≠ [] := by
  cases r with
  | nil => exact h
  | cons b r => rw [join]; simp
theorem join_no : ∀ (ws : List (List UInt8)), (∀ w, w ∈ ws → (10 : UInt8) ∉ w) → (10 : UInt8) ∉ join ws
  | [], _ => by simp [join]
  | [a], h => h a (by simp)
  | a :: b :: r, h => by
    rw [join]
    simp only [List.mem_append, List.mem_cons, not_or]
    exact ⟨h a (by simp), by decide, join_no (b :: r) (fun w hw => h w (List.mem_cons_of_mem _ hw))⟩
theorem told_no (l : List Int) (h : ∀ x, x ∈ l → Lt x) : (10 : UInt8) ∉ toldBody l :=
  join_no _ (fun w hw => by obtain ⟨x, hx, rfl⟩ := List.mem_map.1 hw; exact (lw_facts x (h x hx)).2.2.1)
theorem words_told (l : List Int) (h : ∀ x, x ∈ l → Lt x) : words (toldBody l) = l.map lw := by
  unfold words toldBody
  cases l with
  | nil => rfl
  | cons x r =>
    rw [List.map_cons, if_neg (join_ne _ _ (lw_facts x (h x (by simp))).2.2.2.1), ← List.map_cons (f := lw)]
    exact wordsAux_join _ (by simp) (fun w hw => by obtain ⟨y, hy, rfl⟩ := List.mem_map.1 hw; exact (lw_facts y (h y hy)).2.1)
theorem lits_told (l : List Int) (h : ∀ x, x ∈ l → Lt x) : (l.map lw).map lit = l := by
  rw [List.map_map]
  conv => rhs; rw [← List.map_id l]
  apply List.map_congr_left
  intro x hx
  exact (lw_facts x (h x hx)).1
theorem ok_told (l : List Int) (h : ∀ x, x ∈ l → Lt x) : okLine (toldBody l) = true := by
  unfold okLine
  rw [words_told l h, List.all_eq_true]
  intro w hw
  obtain ⟨x, hx, rfl⟩ := List.mem_map.1 hw
  rw [(lw_facts x (h x hx)).1]
  simpa using (h x hx).1
theorem step_told (l : List Int) (h : ∀ x, x ∈ l → Lt x) : stepOf (toldBody l) = (false, l.map lw) := by
  unfold stepOf
  rw [words_told l h]
  cases l with
  | nil => rfl
  | cons x r =>
    simp only [List.map_cons]
    rw [if_neg (lw_facts x (h x (by simp))).2.2.2.2]

/-- Clauses as lines. -/
def textOf (l : List (List Int)) : List UInt8 := l.flatMap told
theorem segs_text (l : List (List Int)) (r : List UInt8) (h : ∀ c, c ∈ l → ∀ x, x ∈ c → Lt x) : segs (textOf l ++ r) = l.map (fun c => (toldBody c, true)) ++ segs r := by
  induction l with
  | nil => rfl
  | cons c l ih =>
    have e : textOf (c :: l) ++ r = toldBody c ++ 10 :: (textOf l ++ r) := by simp [textOf, told]
    rw [e, segs_line _ _ (told_no c (h c (by simp))), ih (fun d hd => h d (List.mem_cons_of_mem _ hd))]
    rfl
end Go.Proofs.YtekkkoipcghlmabDoor.Sp

namespace Go.Proofs.YtekkkoipcghlmabDoor
open Sp
theorem good_told (l : List (List Int)) (h : ∀ c, c ∈ l → ∀ x, x ∈ c → Lt x) : ∀ x, x ∈ l.map (fun c => (toldBody c, true)) → goodLine x := by
  intro x hx
  obtain ⟨c, hc, rfl⟩ := List.mem_map.1 hx
  exact ⟨ok_told c (h c hc), rfl⟩
theorem masks_told (l : List (List Int)) (h : ∀ c, c ∈ l → ∀ x, x ∈ c → Lt x) : masksOf (textOf l) = l.map maskOf := by
  unfold masksOf
  have := segs_text l [] h
  rw [List.append_nil] at this
  rw [this]
  simp only [segs, segsAux, if_true, List.append_nil, List.map_map]
  apply List.map_congr_left
  intro c hc
  simp only [Function.comp, lineMask]
  rw [words_told c (h c hc), lits_told c (h c hc)]
theorem scan_told (l : List (List Int)) (h : ∀ c, c ∈ l → ∀ x, x ∈ c → Lt x) : scanSegs 0 (segs (textOf l)) = none := by
  have := segs_text l [] h
  rw [List.append_nil] at this
  rw [this]
  simp only [segs, segsAux, if_true, List.append_nil]
  exact scan_good _ 0 (good_told l h)

/-- What a step that adds a clause comes to. -/
theorem out_add {L : List Nat} {n : Nat} {c : List Int} {rest : List (List UInt8 × Bool)} {r : Int × Int} (h : ∀ x, x ∈ c → Lt x) (hf : Fol L (maskOf c)) (ho : Sp.Outcome (L ++ [maskOf c]) (n + 1) rest r) : Sp.Outcome L n ((toldBody c, true) :: rest) r := by
  have hm : stepMask (toldBody c) = maskOf c := by unfold stepMask; rw [step_told c h]; show maskOf ((c.map lw).map lit) = _; rw [lits_told c h]
  have hk : stepOk (toldBody c, true) = true := by
    have := ok_told c h
    unfold okLine at this
    unfold stepOk
    rw [step_told c h]
    simp only [Bool.and_true]
    rw [words_told c h] at this
    exact this
  exact .inr ⟨hk, .inr ⟨by rw [step_told c h], .inl ⟨by rw [hm]; exact hf, by rw [hm]; exact ho⟩⟩⟩

theorem small_bits (c a b : Nat) (h : c < 2 ^ 4) (hd : ∀ i : Fin 4, c.testBit i.val = (i.val == a || i.val == b)) (ha : a < 4) (hb : b < 4) : ∀ i, c.testBit i = true ↔ i = a ∨ i = b := by
  intro i
  rcases Nat.lt_or_ge i 4 with hi | hi
  · rw [hd ⟨i, hi⟩]; simp
  · rw [Nat.testBit_lt_two_pow (Nat.lt_of_lt_of_le h (Nat.pow_le_pow_right (by decide) hi))]
    constructor
    · intro e; cases e
    · intro e; omega
theorem unit2 {L : List Nat} {U : Nat → Prop} (hs : Stable L U) {c a b : Nat} (hc : c ∈ L) (hbits : ∀ i, c.testBit i = true ↔ i = a ∨ i = b) (hb : b ≠ a → U b) : ¬ U a ∧ U (opp a) := by
  obtain ⟨i, hi, hn⟩ := (hs c hc).1
  have na : ¬ U a := by
    rcases (hbits i).1 hi with rfl | rfl
    · exact hn
    · by_cases e : i = a
      · rw [← e]; exact hn
      · exact absurd (hb e) hn
  refine ⟨na, (hs c hc).2 a ((hbits a).2 (.inl rfl)) na (fun j hj hja => ?_)⟩
  rcases (hbits j).1 hj with rfl | rfl
  · exact absurd rfl hja
  · exact hb hja
/-- Two variables that can not be met. -/
theorem fol_two {L : List Nat} (h5 : 5 ∈ L) (h6 : 6 ∈ L) : Fol L 4 := by
  refine .inr fun U hU hs => ?_
  have u2 : U 2 := hU 2 (by decide)
  have h1 := unit2 hs h5 (small_bits 5 0 2 (by decide) (by decide) (by decide) (by decide)) (fun _ => u2)
  have h2 := unit2 hs h6 (small_bits 6 1 2 (by decide) (by decide) (by decide) (by decide)) (fun _ => u2)
  exact h2.1 h1.2
theorem fol_none {L : List Nat} (h4 : 4 ∈ L) (h9 : 9 ∈ L) (h10 : 10 ∈ L) : Fol L 0 := by
  refine .inr fun U _ hs => ?_
  have h1 := unit2 hs h4 (small_bits 4 2 2 (by decide) (by decide) (by decide) (by decide)) (fun h => absurd rfl h)
  have u3 : U 3 := h1.2
  have h2 := unit2 hs h9 (small_bits 9 0 3 (by decide) (by decide) (by decide) (by decide)) (fun _ => u3)
  have h3 := unit2 hs h10 (small_bits 10 1 3 (by decide) (by decide) (by decide) (by decide)) (fun _ => u3)
  exact h3.1 h2.2
theorem fol_any {L : List Nat} (h0 : 0 ∈ L) (m : Nat) : Fol L m := by
  refine .inr fun U _ hs => ?_
  obtain ⟨i, hi, _⟩ := (hs 0 h0).1
  simp at hi
theorem fol_not : ¬ Fol [] 0 := by
  rintro (⟨i, hi, _⟩ | h)
  · simp at hi
  · exact h (fun _ => False) (fun i hi => by simp at hi) (fun c hc => by cases hc)

/-- The clauses that a play of Spoilt has. -/
structure Base (l : List (List Int)) : Prop where
  lits : ∀ c, c ∈ l → ∀ x, x ∈ c → x ≠ 0 ∧ -5 ≤ x ∧ x ≤ 5
  four : [1, 2] ∈ l ∧ [-1, 2] ∈ l ∧ [1, -2] ∈ l ∧ [-1, -2] ∈ l
  short : (textOf l).length ≤ 5000
theorem Base.lt {l : List (List Int)} (h : Base l) : ∀ c, c ∈ l → ∀ x, x ∈ c → Lt x := fun c hc x hx => by
  have := h.lits c hc x hx
  exact ⟨this.1, by omega, by omega⟩
def M (l : List (List Int)) : List Nat := l.map maskOf
theorem Base.mem {l : List (List Int)} (h : Base l) : 5 ∈ M l ∧ 6 ∈ M l ∧ 9 ∈ M l ∧ 10 ∈ M l :=
  ⟨List.mem_map.2 ⟨_, h.four.1, by decide⟩, List.mem_map.2 ⟨_, h.four.2.1, by decide⟩, List.mem_map.2 ⟨_, h.four.2.2.1, by decide⟩, List.mem_map.2 ⟨_, h.four.2.2.2, by decide⟩⟩
/-- "2", then the clause without literals; what comes behind. -/
theorem out_head {l : List (List Int)} (h : Base l) {rest : List (List UInt8 × Bool)} {r : Int × Int} (ho : Sp.Outcome (M l ++ [4] ++ [0]) 2 rest r) : Sp.Outcome (M l) 0 (([50], true) :: ([], true) :: rest) r := by
  obtain ⟨m5, m6, m9, m10⟩ := h.mem
  have e1 : ([50], true) = (toldBody [2], true) := by decide
  have e2 : (([], true) : List UInt8 × Bool) = (toldBody [], true) := by decide
  have k2 : maskOf [2] = 4 := by decide
  have k0 : maskOf [] = 0 := by decide
  rw [e1, e2]
  refine out_add (fun x hx => by simp at hx; subst hx; exact ⟨by decide, by decide, by decide⟩) (by rw [k2]; exact fol_two m5 m6) ?_
  refine out_add (fun x hx => by cases hx) (by rw [k2, k0]; exact fol_none (by simp) (by simp [m9]) (by simp [m10])) ?_
  rw [k2, k0]
  exact ho
theorem mask_small {c : List Int} (h : ∀ x, x ∈ c → x ≠ 0 ∧ -5 ≤ x ∧ x ≤ 5) : (maskOf c).testBit 10 = false := by
  rw [maskOf_testBit, List.any_eq_false]
  intro x hx
  have := h x hx
  rw [beq_iff_eq]
  unfold bitIx
  split <;> omega
theorem Base.lost {l : List (List Int)} (h : Base l) : 21504 ∉ M l ++ [4] ++ [0] := by
  intro hm
  rw [List.mem_append, List.mem_append] at hm
  rcases hm with (hm | hm) | hm
  · obtain ⟨c, hc, e⟩ := List.mem_map.1 hm
    have := mask_small (h.lits c hc)
    rw [e] at this
    revert this; decide
  · revert hm; decide
  · revert hm; decide

section
variable {l : List (List Int)} (h : Base l)
theorem out_of {t : List UInt8} {r : Int × Int} (hl : t.length ≤ 6000) (ho : Sp.Outcome (M l) 0 (segs t) r) (h : Base l) : CheckOut (textOf l) t r :=
  .inr ⟨by have := h.short; omega, .inr ⟨scan_told l h.lt, .inr ⟨hl, by rw [masks_told l h.lt]; exact ho⟩⟩⟩
theorem check1 (h : Base l) : CheckOut (textOf l) [50, 10, 10] (0, 0) :=
  out_of (by decide) (by rw [show segs [50, 10, 10] = [([50], true), ([], true)] from by decide]; exact out_head h rfl) h
theorem check2 (h : Base l) : CheckOut (textOf l) [50, 10, 10, 100, 32, 54, 32, 55, 32, 56, 10] (7, 3) :=
  out_of (by decide) (by
    rw [show segs [50, 10, 10, 100, 32, 54, 32, 55, 32, 56, 10] = [([50], true), ([], true), ([100, 32, 54, 32, 55, 32, 56], true)] from by decide]
    exact out_head h (.inr ⟨by decide, .inl ⟨by decide, .inr ⟨by rw [show stepMask [100, 32, 54, 32, 55, 32, 56] = 21504 from by decide]; exact h.lost, rfl⟩⟩⟩)) h
theorem check3 (h : Base l) : CheckOut (textOf l) [50, 10, 10, 49, 32, 32, 50, 10] (6, 3) :=
  out_of (by decide) (by
    rw [show segs [50, 10, 10, 49, 32, 32, 50, 10] = [([50], true), ([], true), ([49, 32, 32, 50], true)] from by decide]
    exact out_head h (.inl ⟨by decide, rfl⟩)) h
theorem check4 (h : Base l) : CheckOut (textOf l) [50, 10, 10, 49, 32, 50] (6, 3) :=
  out_of (by decide) (by
    rw [show segs [50, 10, 10, 49, 32, 50] = [([50], true), ([], true), ([49, 32, 50], false)] from by decide]
    exact out_head h (.inl ⟨by decide, rfl⟩)) h
theorem check5 : CheckOut [] [10] (8, 1) :=
  .inr ⟨by decide, .inr ⟨by decide, .inr ⟨by decide, by
    rw [show segs [10] = [([], true)] from by decide, show masksOf [] = [] from by decide]
    exact .inr ⟨by decide, .inr ⟨by decide, .inr ⟨by rw [show stepMask [] = 0 from by decide]; exact fol_not, rfl⟩⟩⟩⟩⟩⟩
theorem check6 (h : Base l) (t : List UInt8) : CheckOut (textOf l ++ [49, 51, 10]) t (5, (l.length : Int) + 1) :=
  .inr ⟨by have := h.short; simp; omega, .inl ⟨l.length + 1, by
    rw [segs_text l _ h.lt, show segs [49, 51, 10] = [([49, 51], true)] from by decide]
    have := scan_bad (l.map fun c => (toldBody c, true)) ([49, 51], true) [] 0 (good_told l h.lt) (fun hg => by have := hg.1; revert this; decide)
    rw [this]; simp, by simp⟩⟩
theorem check7 (h : Base l) (t : List UInt8) : CheckOut ([100, 32, 54, 32, 55, 32, 56, 10] ++ textOf l) t (5, 1) :=
  .inr ⟨by have := h.short; simp; omega, .inl ⟨1, by
    have e : ([100, 32, 54, 32, 55, 32, 56, 10] : List UInt8) ++ textOf l = [100, 32, 54, 32, 55, 32, 56] ++ 10 :: textOf l := by simp
    rw [e, segs_line _ _ (by decide)]
    have := scan_bad [] ([100, 32, 54, 32, 55, 32, 56], true) (segs (textOf l)) 0 (fun y hy => by cases hy) (fun hg => by have := hg.1; revert this; decide)
    exact this, rfl⟩⟩
theorem check8 (h : Base l) {c : List Int} (hc : ∀ x, x ∈ c → Lt x) (hl : (told c).length ≤ 500) : CheckOut (textOf l) ([50, 10, 10] ++ told c ++ [100, 10]) (0, 0) :=
  out_of (by simp; omega) (by
    have e : ([50, 10, 10] : List UInt8) ++ told c ++ [100, 10] = [50] ++ 10 :: ([] ++ 10 :: (toldBody c ++ 10 :: ([100] ++ 10 :: []))) := by simp [told]
    rw [e, segs_line _ _ (by decide), segs_line _ _ (by decide), segs_line _ _ (told_no c hc), segs_line _ _ (by decide)]
    refine out_head h (out_add hc (fol_any (by simp) _) ?_)
    refine .inr ⟨by decide, .inl ⟨by decide, .inl ⟨by rw [show stepMask [100] = 0 from by decide]; simp, ?_⟩⟩⟩
    rfl) h
theorem check9 (h : Base l) : CheckOut (textOf l) [] (0, 0) := out_of (by decide) (by rw [show segs [] = [] from by decide]; rfl) h
theorem check10 (h : Base l) : CheckOut (textOf l) [50] (6, 1) := out_of (by decide) (by rw [show segs [50] = [([50], false)] from by decide]; exact .inl ⟨by decide, rfl⟩) h
theorem check11 (h : Base l) : CheckOut (textOf l) [50, 10] (0, 0) :=
  out_of (by decide) (by
    rw [show segs [50, 10] = [([50], true)] from by decide]
    obtain ⟨m5, m6, m9, m10⟩ := h.mem
    have e1 : ([50], true) = (toldBody [2], true) := by decide
    rw [e1]
    exact out_add (fun x hx => by simp at hx; subst hx; exact ⟨by decide, by decide, by decide⟩) (by rw [show maskOf [2] = 4 from by decide]; exact fol_two m5 m6) rfl) h
end

end Go.Proofs.YtekkkoipcghlmabDoor

namespace Go.Proofs.YtekkkoipcghlmabDoor
open Go.RowKit

set_option maxRecDepth 100000 in
set_option maxHeartbeats 800000 in
theorem textK_any (ov : Value) (vs : List Value) (l : List (List Int)) (base : Nat) (w : World) (hrow : w.ownsRow base 22 1 ov l.length vs) (hrows : RowsAt w base vs l) (hl : l.length ≤ 1000) (hall : ∀ d, d ∈ l → (∀ x, x ∈ d → x ≠ 0 ∧ -12 ≤ x ∧ x ≤ 12) ∧ d.length ≤ 100) (hlen : (Sp.textOf l).length ≤ 1000000) (he : EnvT w) :
    Calls Tryd.prog 5 #[ov] w fun e w' => e = .returned (.string (bs (Sp.textOf l))) ∧ Below w.heap.size w w' := by
  obtain ⟨oo, oc, hsh⟩ := owns_shape hrow
  subst hsh
  have HR := hide hrow
  have HS := hide hrows
  clear hrow hrows
  go_enter Tryd.func5, Tryd.ntmps5
  go_wp2
  go_loopw [3, 4] (fun s i wr => ∃ k : Nat, k ≤ l.length ∧ i = .int .i64 k ∧ s = .string (bs (Sp.textOf (l.take k))) ∧ Below w.heap.size w wr) (fun _ i _ => l.length - (intOf i).toNat)
  case atStart => exact ⟨0, Nat.zero_le _, rfl, rfl, Below.refl _ _⟩
  case round =>
    obtain ⟨k, hk, rfl, rfl, hbel⟩ := hrel
    have hpart : (Sp.textOf (l.take k)).length ≤ (Sp.textOf l).length := by
      have : Sp.textOf l = Sp.textOf (l.take k) ++ Sp.textOf (l.drop k) := by unfold Sp.textOf; rw [← List.flatMap_append, List.take_append_drop]
      rw [this]; simp
    by_cases hlt : k < l.length
    · have hvl : vs.length = l.length := (unhide HS).1
      have hr := (unhide HS).2 k vs[k] l[k] (by simp [hvl, hlt]) (by simp [hlt])
      obtain ⟨ao, cp', hxs⟩ := owns_shape hr
      have hlies := lies_of_owns hr (by simp [ints])
      have hrow := unhide HR
      rcases hrow.2 with ⟨_, h0⟩ | ⟨g, cp, cur, e1, _⟩
      · omega
      · simp only [Value.slice.injEq] at e1
        obtain ⟨rfl, -, rfl⟩ := e1
        have hglt := (hrow.lt g rfl).2
        have hcell : wr.cell? ⟨g, k, none⟩ = some vs[k] := (hbel.cell (p := ⟨g, k, none⟩) hglt).trans (by rw [hrow.cellAt k (by omega)]; simp [hvl, hlt])
        obtain ⟨ha1, ha2⟩ := hall l[k] (List.getElem_mem hlt)
        have HLN := hide (lineK_any vs[k] l[k] wr ha2 ha1 (hlies.below hbel) (he.below hbel))
        have HT : Hid (Sp.textOf (l.take (k + 1)) = Sp.textOf (l.take k) ++ Sp.told l[k]) := hide (by rw [List.take_succ_eq_append_getElem hlt]; unfold Sp.textOf; rw [List.flatMap_append]; simp)
        have htl : (Sp.told l[k]).length ≤ 401 := by
          have := toldBody_len l[k]
          simp [Sp.told]; omega
        have hadd : ∀ wx, (Op.stringOp .add (bs (Sp.textOf (l.take k))) (bs (Sp.told l[k]))).run Tryd.prog wx = .ok (.string (bs (Sp.textOf (l.take k) ++ Sp.told l[k]))) wx := fun wx => add_bs _ _ (by omega) wx
        rw [hxs] at hcell HLN
        clear hr hlies hrow hxs hall
        generalize Sp.told l[k] = tl at *
        generalize Sp.textOf (l.take k) = tx at *
        generalize l[k].length = lk at *
        go_wp2_with fail
        refine (unhide HLN).mono ?_
        rintro e w1 ⟨rfl, hb1⟩
        go_wp2
        go_roundw
        case rel => exact ⟨k + 1, by omega, by go_num, by rw [unhide HT], hbel.trans (hb1.mono hbel.size)⟩
        case measure => simp [intOf]; omega
    · have HT : Hid (l.take k = l) := hide (List.take_of_length_le (by omega))
      go_wp2
      go_ret
      exact ⟨by rw [unhide HT]; rfl, hbel⟩

theorem told3 (d : List Int) (h : d.length ≤ 3) : (Sp.told d).length ≤ 13 := by
  have := toldBody_len d
  simp [Sp.told]; omega
theorem text_len (l : List (List Int)) (h : ∀ d, d ∈ l → d.length ≤ 3) : (Sp.textOf l).length ≤ 13 * l.length := by
  induction l with
  | nil => simp [Sp.textOf]
  | cons d l ih =>
    have h1 := ih (fun e he => h e (List.mem_cons_of_mem _ he))
    have h2 := told3 d (h d (by simp))
    simp only [Sp.textOf, List.flatMap_cons, List.length_append, List.length_cons] at h1 ⊢
    omega

end Go.Proofs.YtekkkoipcghlmabDoor

namespace Go.Proofs.YtekkkoipcghlmabDoor
open Go.RowKit

/-- How many bits, by the three bytes. -/
def onesOf (m : Nat) : Nat := Lib.onesCount (m / 65536 % 256) + Lib.onesCount (m / 256 % 256) + Lib.onesCount (m % 256)

theorem and_byte (x : Nat) (h : x < 4294967296) : bits .and .u32 (x : Int) 255 = ((x % 256 : Nat) : Int) := by
  have := bits_and_u32_nat x 255 h (by decide)
  rw [show ((255 : Nat) : Int) = 255 from rfl] at this
  rw [this, show (255 : Nat) = 2 ^ 8 - 1 from rfl, Nat.and_two_pow_sub_one_eq_mod]

theorem pop_byte (a : Nat) (h : a < 256) : ∃ p : Nat, Lib.pop8 (a : Int) = (p : Int) ∧ p ≤ 8 ∧ p = Lib.onesCount a :=
  ⟨Lib.onesCount a, Lib.pop8_eq ⟨a, h⟩, Lib.onesCount_le8 ⟨a, h⟩, rfl⟩

theorem ret_i64 {a b : Int} (h : a = b) : Ending.returned (.int .i64 a) = .returned (.int .i64 b) := by rw [h]

set_option maxRecDepth 100000 in
theorem ones_any (m : Nat) (w : World) (hm : m < 2 ^ 24) :
    Calls Tryd.prog 68 #[.int .u32 m] w fun e w' => e = .returned (.int .i64 (onesOf m : Nat)) ∧ ∃ q, w' = w.drewN q := by
  have h24 : (m : Int) / 16777216 = 0 := by omega
  have e16 : bits .and .u32 ((m : Int) / 65536) 255 = ((m / 65536 % 256 : Nat) : Int) := by
    have := and_byte (m / 65536) (by omega)
    rwa [Int.natCast_ediv] at this
  have e8 : bits .and .u32 ((m : Int) / 256) 255 = ((m / 256 % 256 : Nat) : Int) := by
    have := and_byte (m / 256) (by omega)
    rwa [Int.natCast_ediv] at this
  have e0 : bits .and .u32 (m : Int) 255 = ((m % 256 : Nat) : Int) := and_byte m (by omega)
  have HO : Hid (onesOf m = Lib.onesCount (m / 65536 % 256) + Lib.onesCount (m / 256 % 256) + Lib.onesCount (m % 256)) := rfl
  have l16 : m / 65536 % 256 < 256 := by omega
  have l8 : m / 256 % 256 < 256 := by omega
  have l0 : m % 256 < 256 := by omega
  generalize m / 65536 % 256 = a at *
  generalize m / 256 % 256 = b at *
  generalize m % 256 = c at *
  have p00 : Lib.pop8 0 = 0 := by decide
  obtain ⟨pa, ha, ha8, hae⟩ := pop_byte a l16
  obtain ⟨pb, hb, hb8, hbe⟩ := pop_byte b l8
  obtain ⟨pc, hc, hc8, hce⟩ := pop_byte c l0
  rw [← hae, ← hbe, ← hce] at HO
  have ia : (a : Int) ≤ 255 := by omega
  have ib : (b : Int) ≤ 255 := by omega
  have ic : (c : Int) ≤ 255 := by omega
  clear hae hbe hce
  go_enter Tryd.func68, Tryd.ntmps68
  go_wp2
  go_quiet (fail)
  go_wp2
  go_ret
  refine ⟨ret_i64 ?_, _, rfl⟩
  rw [unhide HO]
  omega

/-- The opposites. -/
def oppMask (m : Nat) : Nat := (m &&& 5592405) * 2 ||| (m / 2 &&& 5592405)
theorem third_bit (i : Nat) (h : i < 24) : (5592405 : Nat).testBit i = (i % 2 == 0) := by
  have : ∀ k : Fin 24, (5592405 : Nat).testBit k.val = (k.val % 2 == 0) := by decide
  exact this ⟨i, h⟩
theorem oppMask_lt {m : Nat} (_hm : m < 2 ^ 24) : oppMask m < 2 ^ 24 := by
  have h1 : m &&& 5592405 ≤ 5592405 := Nat.and_le_right
  have h2 : m / 2 &&& 5592405 ≤ 5592405 := Nat.and_le_right
  exact Nat.or_lt_two_pow (by omega) (by omega)
theorem oppMask_bit {m : Nat} (_hm : m < 2 ^ 24) (i : Nat) (hi : i < 24) : (oppMask m).testBit i = m.testBit (Sp.opp i) := by
  unfold oppMask
  have e1 : (m &&& 5592405) * 2 = (m &&& 5592405) <<< 1 := by rw [Nat.shiftLeft_eq]
  have e2 : m / 2 = m >>> 1 := by rw [Nat.shiftRight_eq_div_pow]
  rw [e1, e2, Nat.testBit_or, Nat.testBit_shiftLeft, Nat.testBit_and, Nat.testBit_and, Nat.testBit_shiftRight]
  unfold Sp.opp
  by_cases he : i % 2 = 0
  · rw [if_pos he, third_bit i hi]
    have : (decide (i ≥ 1) && (m.testBit (i - 1) && (5592405 : Nat).testBit (i - 1))) = false := by
      by_cases h0 : i = 0
      · subst h0; simp
      · rw [third_bit (i - 1) (by omega)]
        have : ((i - 1) % 2 == 0) = false := by rw [beq_eq_false_iff_ne]; omega
        rw [this]; simp
    rw [this]
    have he' : (i % 2 == 0) = true := by simpa using he
    rw [he', Nat.add_comm 1 i]; simp
  · rw [if_neg he, third_bit i hi, third_bit (i - 1) (by omega)]
    have h1 : (i % 2 == 0) = false := by simpa using he
    have h2 : ((i - 1) % 2 == 0) = true := by rw [beq_iff_eq]; omega
    rw [h1, h2]
    have h3 : decide (i ≥ 1) = true := decide_eq_true (by omega)
    rw [h3]; simp
theorem opp_single {i : Nat} (hi : i < 24) : oppMask (2 ^ i) = 2 ^ (Sp.opp i) := by
  have : ∀ k : Fin 24, oppMask (2 ^ k.val) = 2 ^ (Sp.opp k.val) := by decide
  exact this ⟨i, hi⟩

set_option maxRecDepth 100000 in
theorem opposites_any (m : Nat) (w : World) (hm : m < 2 ^ 24) :
    Calls Tryd.prog 43 #[.int .u32 m] w fun e w' => e = .returned (.int .u32 (oppMask m : Nat)) ∧ w' = w := by
  have h1 : m &&& 5592405 ≤ 5592405 := Nat.and_le_right
  have h2 : m / 2 &&& 5592405 ≤ 5592405 := Nat.and_le_right
  have e1 : bits .and .u32 (m : Int) 5592405 = ((m &&& 5592405 : Nat) : Int) := bits_and_u32_nat m 5592405 (by omega) (by decide)
  have e2 : bits .and .u32 ((m : Int) / 2) 5592405 = ((m / 2 &&& 5592405 : Nat) : Int) := by
    have := bits_and_u32_nat (m / 2) 5592405 (by omega) (by decide)
    rwa [Int.natCast_ediv] at this
  have e3 : ((m &&& 5592405 : Nat) : Int) * 2 % 4294967296 = (((m &&& 5592405) * 2 : Nat) : Int) := by omega
  have e4 : bits .or .u32 (((m &&& 5592405) * 2 : Nat) : Int) ((m / 2 &&& 5592405 : Nat) : Int) = (oppMask m : Nat) := bits_or_u32 _ _ (by omega) (by omega)
  go_enter Tryd.func43, Tryd.ntmps43
  go_wp2_with fail
  go_ret
  refine ⟨?_, rfl⟩
  show Ending.returned (.int .u32 _) = _
  rw [← e4, show (((m &&& 5592405) * 2 : Nat) : Int) = ((m &&& 5592405 : Nat) : Int) * 2 from by omega]

end Go.Proofs.YtekkkoipcghlmabDoor

namespace Go.Proofs.YtekkkoipcghlmabDoor
open Go.RowKit

theorem byte_zero (a : Nat) (h : a < 256) : Lib.onesCount a = 0 → a = 0 := by
  have : ∀ k : Fin 256, Lib.onesCount k.val = 0 → k.val = 0 := by decide +kernel
  exact this ⟨a, h⟩
theorem byte_one (a : Nat) (h : a < 256) : Lib.onesCount a = 1 → ∃ j : Fin 8, a = 2 ^ j.val := by
  have : ∀ k : Fin 256, Lib.onesCount k.val = 1 → ∃ j : Fin 8, k.val = 2 ^ j.val := by decide +kernel
  exact this ⟨a, h⟩
theorem ones_one {m : Nat} (hm : m < 2 ^ 24) : onesOf m = 1 ↔ ∃ k, k < 24 ∧ m = 2 ^ k := by
  constructor
  · intro h
    unfold onesOf at h
    have l16 : m / 65536 % 256 < 256 := by omega
    have l8 : m / 256 % 256 < 256 := by omega
    have l0 : m % 256 < 256 := by omega
    have hd : m = m / 65536 % 256 * 65536 + m / 256 % 256 * 256 + m % 256 := by omega
    generalize m / 65536 % 256 = a at *
    generalize m / 256 % 256 = b at *
    generalize m % 256 = c at *
    have hz := byte_zero a l16; have hz2 := byte_zero b l8; have hz3 := byte_zero c l0
    rcases Nat.eq_zero_or_pos (Lib.onesCount a) with ha | ha
    · rcases Nat.eq_zero_or_pos (Lib.onesCount b) with hb | hb
      · obtain ⟨j, hj⟩ := byte_one c l0 (by omega)
        refine ⟨j.val, by omega, ?_⟩
        rw [hd, hz ha, hz2 hb, hj]; simp
      · obtain ⟨j, hj⟩ := byte_one b l8 (by omega)
        refine ⟨j.val + 8, by omega, ?_⟩
        rw [hd, hz ha, hz3 (by omega), hj, Nat.pow_add]; simp
    · obtain ⟨j, hj⟩ := byte_one a l16 (by omega)
      refine ⟨j.val + 16, by omega, ?_⟩
      rw [hd, hz2 (by omega), hz3 (by omega), hj, Nat.pow_add]; simp
  · rintro ⟨k, hk, rfl⟩
    have : ∀ k : Fin 24, onesOf (2 ^ k.val) = 1 := by decide +kernel
    exact this ⟨k, hk⟩

def oneBit (m : Nat) : Bool := onesOf m == 1
def alwaysMask (m : Nat) : Bool := m &&& oppMask m != 0

theorem ret_bool {a b : Bool} (h : a = b) : Ending.returned (.bool a) = .returned (.bool b) := by rw [h]

set_option maxRecDepth 100000 in
theorem size_any (m : Nat) (w : World) (hm : m < 2 ^ 24) :
    Calls Tryd.prog 56 #[.int .u32 m] w fun e w' => e = .returned (.int .i64 (onesOf m)) ∧ ∃ q, w' = w.drewN q := by
  have hmod : (m : Int) % 4294967296 = m := by omega
  have HO := hide (fun wx => ones_any m wx hm)
  generalize onesOf m = on at *
  go_enter Tryd.func56, Tryd.ntmps56
  go_wp2_with fail
  refine (unhide HO _).mono ?_
  rintro e w1 ⟨rfl, q, rfl⟩
  go_wp2
  go_ret
  exact ⟨rfl, q, rfl⟩

set_option maxRecDepth 100000 in
theorem single_any (m : Nat) (w : World) (hm : m < 2 ^ 24) :
    Calls Tryd.prog 44 #[.int .u32 m] w fun e w' => e = .returned (.bool (oneBit m)) ∧ ∃ q, w' = w.drewN q := by
  have HO := hide (fun wx => size_any m wx hm)
  have HB : Hid (((onesOf m : Int) == 1) = oneBit m) := hide (by
    unfold oneBit
    by_cases h : onesOf m = 1
    · rw [h]; rfl
    · have h1 : ((onesOf m : Int) == 1) = false := by rw [beq_eq_false_iff_ne]; omega
      have h2 : (onesOf m == 1) = false := by rw [beq_eq_false_iff_ne]; exact h
      rw [h1, h2])
  generalize oneBit m = ob at *
  generalize onesOf m = on at *
  go_enter Tryd.func44, Tryd.ntmps44
  go_wp2_with fail
  refine (unhide HO _).mono ?_
  rintro e w1 ⟨rfl, q, rfl⟩
  go_wp2
  go_ret
  exact ⟨ret_bool (unhide HB), q, rfl⟩

set_option maxRecDepth 100000 in
theorem alwaysTrue_any (m : Nat) (w : World) (hm : m < 2 ^ 24) :
    Calls Tryd.prog 32 #[.int .u32 m] w fun e w' => e = .returned (.bool (alwaysMask m)) ∧ ∃ q, w' = w.drewN q := by
  have hol := oppMask_lt hm
  have HO := hide (fun wx => opposites_any m wx hm)
  have e1 := bits_and_u32_nat m (oppMask m) (by omega) (by omega)
  have HB : Hid ((!((m &&& oppMask m : Nat) : Int) == 0) = alwaysMask m) := hide (by
    unfold alwaysMask
    by_cases h : m &&& oppMask m = 0
    · rw [h]; rfl
    · have h1 : (((m &&& oppMask m : Nat) : Int) == 0) = false := by rw [beq_eq_false_iff_ne]; omega
      have h2 : (m &&& oppMask m != 0) = true := by simpa using h
      rw [h1, h2]; rfl)
  generalize m &&& oppMask m = a at *
  generalize alwaysMask m = ob at *
  generalize oppMask m = on at *
  go_enter Tryd.func32, Tryd.ntmps32
  go_wp2_with fail
  refine (unhide HO _).mono ?_
  rintro e w1 ⟨rfl, rfl⟩
  go_wp2
  go_ret
  exact ⟨ret_bool (unhide HB), 0, rfl⟩

theorem alwaysMask_iff {m : Nat} (hm : m < 2 ^ 24) : alwaysMask m = true ↔ ∃ i, m.testBit i = true ∧ m.testBit (Sp.opp i) = true := by
  have h24 : ∀ i, m.testBit i = true → i < 24 := fun i hi => by
    rcases Nat.lt_or_ge i 24 with h | h
    · exact h
    · rw [Nat.testBit_lt_two_pow (Nat.lt_of_lt_of_le hm (Nat.pow_le_pow_right (by decide) h))] at hi; cases hi
  unfold alwaysMask
  constructor
  · intro h
    have hne : m &&& oppMask m ≠ 0 := by simpa using h
    obtain ⟨i, hi⟩ := Nat.exists_testBit_of_ne_zero hne
    rw [Nat.testBit_and, Bool.and_eq_true] at hi
    refine ⟨i, hi.1, ?_⟩
    rw [← oppMask_bit hm i (h24 i hi.1)]
    exact hi.2
  · rintro ⟨i, h1, h2⟩
    have hne : m &&& oppMask m ≠ 0 := by
      intro h0
      have : (m &&& oppMask m).testBit i = true := by rw [Nat.testBit_and, h1, oppMask_bit hm i (h24 i h1), h2]; rfl
      rw [h0] at this
      simp at this
    simpa using hne

/-- What is left of a clause. -/
def leftMask (c u : Nat) : Nat := c ^^^ (c &&& u)
theorem leftMask_bit (c u i : Nat) : (leftMask c u).testBit i = (c.testBit i && !u.testBit i) := by
  unfold leftMask
  rw [Nat.testBit_xor, Nat.testBit_and]
  cases c.testBit i <;> cases u.testBit i <;> rfl
theorem leftMask_lt {c : Nat} (u : Nat) (hc : c < 2 ^ 24) : leftMask c u < 2 ^ 24 := by
  unfold leftMask
  refine Nat.xor_lt_two_pow hc (Nat.lt_of_le_of_lt Nat.and_le_left hc)
theorem bits_left (c u : Nat) (hc : c < 4294967296) (hu : u < 4294967296) : bits .andNot .u32 (c : Int) (u : Int) = (leftMask c u : Nat) := by
  have h1 : (BitVec.ofInt 32 (c : Int)).toNat = c := by
    rw [BitVec.ofInt_natCast, BitVec.toNat_ofNat]; exact Nat.mod_eq_of_lt (by omega)
  have h2 : (BitVec.ofInt 32 (u : Int)).toNat = u := by
    rw [BitVec.ofInt_natCast, BitVec.toNat_ofNat]; exact Nat.mod_eq_of_lt (by omega)
  show IntKind.u32.wrap ((BitVec.ofInt 32 (c : Int) &&& ~~~ BitVec.ofInt 32 (u : Int)).toNat : Int) = _
  have h3 : (BitVec.ofInt 32 (c : Int) &&& ~~~ BitVec.ofInt 32 (u : Int)).toNat = leftMask c u := by
    apply Nat.eq_of_testBit_eq
    intro i
    rw [leftMask_bit, ← BitVec.getLsbD, BitVec.getLsbD_and, BitVec.getLsbD_not]
    unfold BitVec.getLsbD
    rw [h1, h2]
    by_cases hi : i < 32
    · simp [hi]
    · have : c.testBit i = false := Nat.testBit_lt_two_pow (Nat.lt_of_lt_of_le hc (by rw [show (4294967296 : Nat) = 2 ^ 32 from rfl]; exact Nat.pow_le_pow_right (by decide) (by omega)))
      rw [this]; simp
  rw [h3, wrap_u32']
  have : leftMask c u < 4294967296 := by
    unfold leftMask
    exact Nat.xor_lt_two_pow (n := 32) hc (Nat.lt_of_le_of_lt Nat.and_le_left hc)
  omega

end Go.Proofs.YtekkkoipcghlmabDoor

namespace Go.Proofs.YtekkkoipcghlmabDoor.Sp

/-- What the program has taken to be false, as a mask. -/
structure Untrue (L : List Nat) (m u : Nat) : Prop where
  lt : u < 2 ^ 24
  has : ∀ i, m.testBit i = true → u.testBit i = true
  least : ∀ U : Nat → Prop, (∀ i, m.testBit i = true → U i) → Stable L U → ∀ i, u.testBit i = true → U i

/-- Of this clause nothing more comes. -/
def Quiet (u c : Nat) : Prop := leftMask c u ≠ 0 ∧ (oneBit (leftMask c u) = true → u ||| oppMask (leftMask c u) = u)

theorem Untrue.start {L : List Nat} {m : Nat} (hm : m < 2 ^ 24) : Untrue L m m := ⟨hm, fun _ h => h, fun _ h _ => h⟩

section
variable {L : List Nat} {m u c : Nat}

theorem one_left (hc : c < 2 ^ 24) (h1 : oneBit (leftMask c u) = true) : ∃ k, k < 24 ∧ leftMask c u = 2 ^ k ∧ oppMask (leftMask c u) = 2 ^ opp k := by
  have : onesOf (leftMask c u) = 1 := by unfold oneBit at h1; simpa using h1
  obtain ⟨k, hk, he⟩ := (ones_one (leftMask_lt u hc)).1 this
  exact ⟨k, hk, he, by rw [he]; exact opp_single hk⟩

theorem left_bits {k : Nat} (he : leftMask c u = 2 ^ k) : c.testBit k = true ∧ u.testBit k = false ∧ ∀ j, c.testBit j = true → j ≠ k → u.testBit j = true := by
  have hb := fun i => leftMask_bit c u i
  rw [he] at hb
  have hk := hb k
  rw [Nat.testBit_two_pow_self] at hk
  have hk' := hk.symm
  rw [Bool.and_eq_true] at hk'
  refine ⟨hk'.1, by simpa using hk'.2, fun j hj hne => ?_⟩
  have := hb j
  rw [Nat.testBit_two_pow_of_ne (fun e => hne e.symm), hj] at this
  simpa using this

theorem Untrue.more (h : Untrue L m u) (hcL : c ∈ L) (hc : c < 2 ^ 24) (h1 : oneBit (leftMask c u) = true) : Untrue L m (u ||| oppMask (leftMask c u)) := by
  obtain ⟨k, hk, he, ho⟩ := one_left hc h1
  obtain ⟨hck, huk, hoth⟩ := left_bits he
  refine ⟨Nat.or_lt_two_pow h.lt (oppMask_lt (leftMask_lt u hc)), fun i hi => ?_, fun U hU hs i hi => ?_⟩
  · rw [Nat.testBit_or, h.has i hi]; rfl
  · rw [Nat.testBit_or, Bool.or_eq_true] at hi
    rcases hi with hi | hi
    · exact h.least U hU hs i hi
    · rw [ho] at hi
      have hik : i = opp k := by
        by_cases e : opp k = i
        · exact e.symm
        · rw [Nat.testBit_two_pow_of_ne e] at hi; cases hi
      subst hik
      obtain ⟨⟨j, hj, hjn⟩, hun⟩ := hs c hcL
      have hoth' : ∀ j, c.testBit j = true → j ≠ k → U j := fun j hj hne => h.least U hU hs j (hoth j hj hne)
      have hjk : j = k := by
        by_cases e : j = k
        · exact e
        · exact absurd (hoth' j hj e) hjn
      subst hjk
      exact hun j hj hjn hoth'

theorem Untrue.conflict (h : Untrue L m u) (hcL : c ∈ L) (h0 : leftMask c u = 0) : Fol L m := by
  refine .inr fun U hU hs => ?_
  obtain ⟨⟨j, hj, hjn⟩, _⟩ := hs c hcL
  have := leftMask_bit c u j
  rw [h0, hj] at this
  simp at this
  exact hjn (h.least U hU hs j this)

theorem Untrue.fixed (h : Untrue L m u) (hm : m < 2 ^ 24) (hL : ∀ c, c ∈ L → c < 2 ^ 24) (hno : alwaysMask m = false) (hq : ∀ c, c ∈ L → Quiet u c) : ¬ Fol L m := by
  rintro (hx | hx)
  · rw [(alwaysMask_iff hm).2 hx] at hno; cases hno
  · refine hx (fun i => u.testBit i = true) h.has fun c hc => ?_
    obtain ⟨h0, h1⟩ := hq c hc
    obtain ⟨i, hi⟩ := Nat.exists_testBit_of_ne_zero h0
    rw [leftMask_bit, Bool.and_eq_true] at hi
    refine ⟨⟨i, hi.1, by simpa using hi.2⟩, fun k hk hkn hoth => ?_⟩
    have hk24 : k < 24 := by
      rcases Nat.lt_or_ge k 24 with h | h
      · exact h
      · rw [Nat.testBit_lt_two_pow (Nat.lt_of_lt_of_le (hL c hc) (Nat.pow_le_pow_right (by decide) h))] at hk; cases hk
    have hkf : u.testBit k = false := by simpa using hkn
    have he : leftMask c u = 2 ^ k := by
      apply Nat.eq_of_testBit_eq
      intro j
      rw [leftMask_bit]
      by_cases e : j = k
      · subst e; rw [hk, hkf, Nat.testBit_two_pow_self]; rfl
      · rw [Nat.testBit_two_pow_of_ne (fun e' => e e'.symm)]
        by_cases hcj : c.testBit j = true
        · rw [hoth j hcj e]; simp
        · rw [show c.testBit j = false from by simpa using hcj]; rfl
    have hone : oneBit (leftMask c u) = true := by
      unfold oneBit; rw [he, (ones_one (Nat.pow_lt_pow_right (by decide) hk24)).2 ⟨k, hk24, rfl⟩]; rfl
    have := h1 hone
    rw [he, opp_single hk24] at this
    show u.testBit (opp k) = true
    rw [← this, Nat.testBit_or, Nat.testBit_two_pow_self]; simp

theorem or_grows {a b c : Nat} (h : a ||| b = b) : a ||| (b ||| c) = b ||| c := by rw [← Nat.or_assoc, h]
theorem or_le {a b : Nat} (h : a ||| b = b) : a ≤ b := by rw [← h]; exact Nat.left_le_or
theorem or_back {a b c : Nat} (h : a ||| b = b) (he : b ||| c = a) : b = a := by
  have h1 : b ≤ a := by rw [← he]; exact Nat.left_le_or
  have h2 := or_le h
  omega
end

end Go.Proofs.YtekkkoipcghlmabDoor.Sp
