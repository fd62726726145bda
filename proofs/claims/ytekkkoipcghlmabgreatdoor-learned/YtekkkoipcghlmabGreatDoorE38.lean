import Derived.Test.YtekkkoipcghlmabGreatDoorE36
import Derived.Test.YtekkkoipcghlmabGreatDoorE37
import Derived.Test.YtekkkoipcghlmabGreatDoorE34
import Derived.Test.YtekkkoipcghlmabGreatDoorE30
set_option linter.all false
namespace Go.Proofs.YtekkkoipcghlmabGreatDoor
open Go.RowKit

/-- The clauses of a text. -/
def masksOf (s : List UInt8) : List Nat := (Sp.segs s).map lineMask
theorem masks_len (s : List UInt8) : (masksOf s).length ≤ s.length + 1 := by
  unfold masksOf; rw [List.length_map]; exact Sp.segsAux_count s []
theorem masks_small (s : List UInt8) : Small (masksOf s) := fun c hc => by
  obtain ⟨x, _, rfl⟩ := List.mem_map.1 hc
  exact Sp.maskOf_lt _ (fun y hy => by obtain ⟨z, _, rfl⟩ := List.mem_map.1 hy; exact Sp.lit_bd z)

/-- What Check comes to. -/
def CheckOut (s t : List UInt8) (r : Int × Int) : Prop :=
  (6000 < s.length ∧ r = (4, 0)) ∨
  (s.length ≤ 6000 ∧ ((∃ n : Nat, Sp.scanSegs 0 (Sp.segs s) = some n ∧ r = (5, (n : Int))) ∨
    (Sp.scanSegs 0 (Sp.segs s) = none ∧ ((6000 < t.length ∧ r = (4, 0)) ∨ (t.length ≤ 6000 ∧ Sp.Outcome (masksOf s) 0 (Sp.segs t) r)))))
theorem CheckOut.unique {s t : List UInt8} {r r' : Int × Int} (h : CheckOut s t r) (h' : CheckOut s t r') : r = r' := by
  rcases h with ⟨h1, h2⟩ | ⟨h1, h2⟩ <;> rcases h' with ⟨g1, g2⟩ | ⟨g1, g2⟩
  · rw [h2, g2]
  · omega
  · omega
  · rcases h2 with ⟨n, h3, h4⟩ | ⟨h3, h4⟩ <;> rcases g2 with ⟨n', g3, g4⟩ | ⟨g3, g4⟩
    · rw [h3] at g3; cases g3; rw [h4, g4]
    · rw [h3] at g3; cases g3
    · rw [h3] at g3; cases g3
    · rcases h4 with ⟨h5, h6⟩ | ⟨h5, h6⟩ <;> rcases g4 with ⟨g5, g6⟩ | ⟨g5, g6⟩
      · rw [h6, g6]
      · omega
      · omega
      · exact Sp.Outcome.unique _ _ _ _ _ h6 g6

def CheckRes (s t : List UInt8) (w : World) (e : Ending) (w' : World) : Prop := ∃ r : Int × Int, e = .returned (.tuple #[.int .i64 r.1, .int .i64 r.2]) ∧ CheckOut s t r ∧ Below w.heap.size w w'

end Go.Proofs.YtekkkoipcghlmabGreatDoor

namespace Go.Proofs.YtekkkoipcghlmabGreatDoor.Sp

/-- Is it a literal? -/
def Lt (x : Int) : Prop := x ≠ 0 ∧ -12 ≤ x ∧ x ≤ 12

theorem segsAux_run (a : List UInt8) : ∀ (cur r : List UInt8), (10 : UInt8) ∉ a → segsAux cur (a ++ r) = segsAux (cur ++ a) r := by
  induction a with
  | nil => intro cur r _; simp
  | cons c a ih =>
    intro cur r h
    simp only [List.mem_cons, not_or] at h
    rw [List.cons_append, segsAux, if_neg (fun e => h.1 e.symm), ih _ _ h.2]
    simp
theorem segs_line (a r : List UInt8) (h : (10 : UInt8) ∉ a) : segs (a ++ 10 :: r) = (a, true) :: segs r := by
  unfold segs
  rw [segsAux_run a [] _ h, List.nil_append, segsAux, if_pos rfl]
theorem wordsAux_run (a : List UInt8) : ∀ (cur r : List UInt8), (32 : UInt8) ∉ a → wordsAux cur (a ++ r) = wordsAux (cur ++ a) r := by
  induction a with
  | nil => intro cur r _; simp
  | cons c a ih =>
    intro cur r h
    simp only [List.mem_cons, not_or] at h
    rw [List.cons_append, wordsAux, if_neg (fun e => h.1 e.symm), ih _ _ h.2]
    simp
theorem wordsAux_join : ∀ (ws : List (List UInt8)), ws ≠ [] → (∀ w, w ∈ ws → (32 : UInt8) ∉ w) → wordsAux [] (join ws) = ws
  | [], h, _ => absurd rfl h
  | [a], _, h => by
    have := wordsAux_run a [] [] (h a (by simp))
    rw [List.append_nil, List.nil_append] at this
    rw [join, this, wordsAux]
  | a :: b :: r, _, h => by
    rw [join, wordsAux_run a [] _ (h a (by simp)), List.nil_append, wordsAux, if_pos rfl, wordsAux_join (b :: r) (by simp) (fun w hw => h w (List.mem_cons_of_mem _ hw))]
theorem lw_facts (x : Int) (h : Lt x) : lit (lw x) = x ∧ (32 : UInt8) ∉ lw x ∧ (10 : UInt8) ∉ lw x ∧ lw x ≠ [] ∧ lw x ≠ [100] := by
  have : ∀ k : Fin 25, (k.val : Int) - 12 ≠ 0 → lit (lw ((k.val : Int) - 12)) = (k.val : Int) - 12 ∧ (32 : UInt8) ∉ lw ((k.val : Int) - 12) ∧ (10 : UInt8) ∉ lw ((k.val : Int) - 12) ∧ lw ((k.val : Int) - 12) ≠ [] ∧ lw ((k.val : Int) - 12) ≠ [100] := by decide
  have := this ⟨(x + 12).toNat, by have := h.2; omega⟩
  have e : (((x + 12).toNat : Nat) : Int) - 12 = x := by have := h.2; omega
  simp only [e] at this
  exact this h.1
theorem join_ne (a : List UInt8) (r : List (List UInt8)) (h : a ≠ []) : join (a :: r) ≠ [] := by
  cases r with
  | nil => exact h
  | cons b r => rw [join]; simp
theorem join_no : ∀ (ws : List (List UInt8)), (∀ w, w ∈ ws → (10 : UInt8) ∉ w) → (10 : UInt8) ∉ join ws
  | [], _ => by simp [join]
  | [a], h => h a (by simp)
  | a :: b :: r, h => by
    rw [join]
    simp only [List.mem_append, List.mem_cons, not_or]
    exact ⟨h a (by simp), by decide, join_no (b :: r) (fun w hw => h w (List.mem_cons_of_mem _ hw))⟩
theorem told_no (l : List Int) (h : ∀ x, x ∈ l → Lt x) : (10 : UInt8) ∉ toldBody l :=
  join_no _ (fun w hw => by obtain ⟨x, hx, rfl⟩ := List.mem_map.1 hw; exact (lw_facts x (h x hx)).2.2.1)
theorem words_told (l : List Int) (h : ∀ x, x ∈ l → Lt x) : words (toldBody l) = l.map lw := by
  unfold words toldBody
  cases l with
  | nil => rfl
  | cons x r =>
    rw [List.map_cons, if_neg (join_ne _ _ (lw_facts x (h x (by simp))).2.2.2.1), ← List.map_cons (f := lw)]
    exact wordsAux_join _ (by simp) (fun w hw => by obtain ⟨y, hy, rfl⟩ := List.mem_map.1 hw; exact (lw_facts y (h y hy)).2.1)
theorem lits_told (l : List Int) (h : ∀ x, x ∈ l → Lt x) : (l.map lw).map lit = l := by
  rw [List.map_map]
  conv => rhs; rw [← List.map_id l]
  apply List.map_congr_left
  intro x hx
  exact (lw_facts x (h x hx)).1
theorem ok_told (l : List Int) (h : ∀ x, x ∈ l → Lt x) : okLine (toldBody l) = true := by
  unfold okLine
  rw [words_told l h, List.all_eq_true]
  intro w hw
  obtain ⟨x, hx, rfl⟩ := List.mem_map.1 hw
  rw [(lw_facts x (h x hx)).1]
  simpa using (h x hx).1
theorem step_told (l : List Int) (h : ∀ x, x ∈ l → Lt x) : stepOf (toldBody l) = (false, l.map lw) := by
  unfold stepOf
  rw [words_told l h]
  cases l with
  | nil => rfl
  | cons x r =>
    simp only [List.map_cons]
    rw [if_neg (lw_facts x (h x (by simp))).2.2.2.2]

/-- Clauses as lines. -/
def textOf (l : List (List Int)) : List UInt8 := l.flatMap told
theorem segs_text (l : List (List Int)) (r : List UInt8) (h : ∀ c, c ∈ l → ∀ x, x ∈ c → Lt x) : segs (textOf l ++ r) = l.map (fun c => (toldBody c, true)) ++ segs r := by
  induction l with
  | nil => rfl
  | cons c l ih =>
    have e : textOf (c :: l) ++ r = toldBody c ++ 10 :: (textOf l ++ r) := by simp [textOf, told]
    rw [e, segs_line _ _ (told_no c (h c (by simp))), ih (fun d hd => h d (List.mem_cons_of_mem _ hd))]
    rfl
end Go.Proofs.YtekkkoipcghlmabGreatDoor.Sp

namespace Go.Proofs.YtekkkoipcghlmabGreatDoor
open Sp
theorem good_told (l : List (List Int)) (h : ∀ c, c ∈ l → ∀ x, x ∈ c → Lt x) : ∀ x, x ∈ l.map (fun c => (toldBody c, true)) → goodLine x := by
  intro x hx
  obtain ⟨c, hc, rfl⟩ := List.mem_map.1 hx
  exact ⟨ok_told c (h c hc), rfl⟩
theorem masks_told (l : List (List Int)) (h : ∀ c, c ∈ l → ∀ x, x ∈ c → Lt x) : masksOf (textOf l) = l.map maskOf := by
  unfold masksOf
  have := segs_text l [] h
  rw [List.append_nil] at this
  rw [this]
  simp only [segs, segsAux, if_true, List.append_nil, List.map_map]
  apply List.map_congr_left
  intro c hc
  simp only [Function.comp, lineMask]
  rw [words_told c (h c hc), lits_told c (h c hc)]
theorem scan_told (l : List (List Int)) (h : ∀ c, c ∈ l → ∀ x, x ∈ c → Lt x) : scanSegs 0 (segs (textOf l)) = none := by
  have := segs_text l [] h
  rw [List.append_nil] at this
  rw [this]
  simp only [segs, segsAux, if_true, List.append_nil]
  exact scan_good _ 0 (good_told l h)

/-- The clauses that a play of Spoilt has. -/
structure Base (l : List (List Int)) : Prop where
  lits : ∀ c, c ∈ l → ∀ x, x ∈ c → x ≠ 0 ∧ -5 ≤ x ∧ x ≤ 5
  four : [1, 2] ∈ l ∧ [-1, 2] ∈ l ∧ [1, -2] ∈ l ∧ [-1, -2] ∈ l
  short : (textOf l).length ≤ 5000
theorem Base.lt {l : List (List Int)} (h : Base l) : ∀ c, c ∈ l → ∀ x, x ∈ c → Lt x := fun c hc x hx => by
  have := h.lits c hc x hx
  exact ⟨this.1, by omega, by omega⟩
def M (l : List (List Int)) : List Nat := l.map maskOf

end Go.Proofs.YtekkkoipcghlmabGreatDoor

namespace Go.Proofs.YtekkkoipcghlmabGreatDoor
open Sp

theorem Fol.mono {L M : List Nat} {m : Nat} (h : ∀ c, c ∈ L → c ∈ M) (hf : Fol L m) : Fol M m := by
  rcases hf with hf | hf
  · exact .inl hf
  · exact .inr fun U hU hs => hf U hU (fun c hc => hs c (h c hc))

/-- A proof's steps, followed. -/
def Runs : List (Bool × Nat) → List Nat → List Nat → Prop
  | [], L, L' => L' = L
  | x :: r, L, L' => (x.1 = true ∧ x.2 ∈ L ∧ Runs r (L.erase x.2) L') ∨ (x.1 = false ∧ Fol L x.2 ∧ Runs r (L ++ [x.2]) L')
theorem Runs.append : ∀ {a b : List (Bool × Nat)} {L M N : List Nat}, Runs a L M → Runs b M N → Runs (a ++ b) L N
  | [], _, _, _, _, h1, h2 => by
    have h1 : _ = _ := h1
    subst h1
    exact h2
  | x :: r, _, _, _, _, h1, h2 => by
    rcases h1 with ⟨a1, a2, a3⟩ | ⟨a1, a2, a3⟩
    · exact .inl ⟨a1, a2, Runs.append a3 h2⟩
    · exact .inr ⟨a1, a2, Runs.append a3 h2⟩
/-- More clauses besides. -/
theorem Runs.more : ∀ {s : List (Bool × Nat)} {L L' M R : List Nat}, Runs s L L' → M.Perm (L ++ R) → ∃ M', Runs s M M' ∧ M'.Perm (L' ++ R)
  | [], L, L', M, R, h, hp => by
    have h : L' = L := h
    subst h
    exact ⟨M, rfl, hp⟩
  | x :: r, L, L', M, R, h, hp => by
    rcases h with ⟨a1, a2, a3⟩ | ⟨a1, a2, a3⟩
    · obtain ⟨M', h1, h2⟩ := Runs.more (M := M.erase x.2) (R := R) a3 (by
        have := hp.erase x.2
        rwa [List.erase_append_left _ a2] at this)
      exact ⟨M', .inl ⟨a1, hp.mem_iff.2 (List.mem_append_left _ a2), h1⟩, h2⟩
    · obtain ⟨M', h1, h2⟩ := Runs.more (M := M ++ [x.2]) (R := R) a3 (by
        refine (hp.append_right [x.2]).trans ?_
        rw [List.append_assoc, List.append_assoc]
        exact List.Perm.append_left L List.perm_append_comm)
      exact ⟨M', .inr ⟨a1, Fol.mono (fun c hc => hp.mem_iff.2 (List.mem_append_left _ hc)) a2, h1⟩, h2⟩
theorem Chain.runs {G : List Nat} {s : List (Bool × Nat)} {D : List Nat} (h : Chain G s D) : ∀ M, (∀ g, g ∈ G → g ∈ M) → ∃ M', Runs s M M' ∧ M'.Perm (M ++ D) := by
  refine h (fun s D => ∀ M, (∀ g, g ∈ G → g ∈ M) → ∃ M', Runs s M M' ∧ M'.Perm (M ++ D)) (fun M _ => ⟨M, rfl, by rw [List.append_nil]⟩) (fun s D r ih hf _ M hM => ?_) (fun s A B r ih M hM => ?_)
  · obtain ⟨M', h1, h2⟩ := ih M hM
    refine ⟨M' ++ [r], Runs.append h1 (.inr ⟨rfl, Fol.mono (fun c hc => ?_) hf, rfl⟩), ?_⟩
    · rcases List.mem_append.1 hc with hc | hc
      · exact h2.mem_iff.2 (List.mem_append_left _ (hM c hc))
      · exact h2.mem_iff.2 (List.mem_append_right _ hc)
    · rw [← List.append_assoc]
      exact h2.append_right [r]
  · obtain ⟨M', h1, h2⟩ := ih M hM
    have hr : r ∈ M' := h2.mem_iff.2 (by simp)
    refine ⟨M'.erase r, Runs.append h1 (.inl ⟨rfl, hr, rfl⟩), ?_⟩
    have hp : (M ++ (A ++ r :: B)).Perm (r :: (M ++ (A ++ B))) := by
      rw [← List.append_assoc, ← List.append_assoc]
      exact List.perm_middle
    have := (h2.trans hp).erase r
    rwa [List.erase_cons_head] at this
theorem Chain.pos {G : List Nat} {s : List (Bool × Nat)} {D : List Nat} (h : Chain G s D) : ∀ x, x ∈ s → x.2 ≠ 0 := by
  have : (∀ x, x ∈ s → x.2 ≠ 0) ∧ ∀ d, d ∈ D → d ≠ 0 := by
    refine h (fun s D => (∀ x, x ∈ s → x.2 ≠ 0) ∧ ∀ d, d ∈ D → d ≠ 0) ⟨fun x hx => (by cases hx), fun x hx => (by cases hx)⟩ (fun s D r ih _ hr => ⟨fun x hx => ?_, fun d hd => ?_⟩) (fun s A B r ih => ⟨fun x hx => ?_, fun d hd => ?_⟩)
    · rcases List.mem_append.1 hx with hx | hx
      · exact ih.1 x hx
      · simp at hx; subst hx; exact hr
    · rcases List.mem_append.1 hd with hd | hd
      · exact ih.2 d hd
      · simp at hd; subst hd; exact hr
    · rcases List.mem_append.1 hx with hx | hx
      · exact ih.1 x hx
      · simp at hx; subst hx; exact ih.2 r (by simp)
    · rcases List.mem_append.1 hd with hd | hd
      · exact ih.2 d (List.mem_append_left _ hd)
      · exact ih.2 d (List.mem_append_right _ (List.mem_cons_of_mem _ hd))
  exact this.1

/-- A step's line. -/
def stepRow (s : Bool × Nat) : List UInt8 := (if s.1 then [100, 32] else []) ++ toldBody (litsOf s.2)
def linesText (s : List (Bool × Nat)) : List UInt8 := s.flatMap (fun x => stepRow x ++ [10])
def StepOK (x : Bool × Nat) : Prop := x.2 < 2 ^ 24 ∧ (x.1 = true → x.2 ≠ 0)
theorem lits_lt (m : Nat) : ∀ x, x ∈ litsOf m → Lt x := fun x hx => litsOf_bd m x hx
theorem line_no (x : Bool × Nat) : (10 : UInt8) ∉ stepRow x := by
  unfold stepRow
  rw [List.mem_append, not_or]
  refine ⟨?_, told_no _ (lits_lt _)⟩
  cases x.1 <;> decide
theorem linesText_append (a b : List (Bool × Nat)) : linesText (a ++ b) = linesText a ++ linesText b := by simp [linesText]
theorem segs_lines (s : List (Bool × Nat)) (r : List UInt8) : segs (linesText s ++ r) = s.map (fun x => (stepRow x, true)) ++ segs r := by
  induction s with
  | nil => rfl
  | cons x s ih =>
    have e : linesText (x :: s) ++ r = stepRow x ++ 10 :: (linesText s ++ r) := by simp [linesText]
    rw [e, segs_line _ _ (line_no x), ih]
    rfl
theorem lits_ne {m : Nat} (h : m < 2 ^ 24) (h0 : m ≠ 0) : litsOf m ≠ [] := fun e => h0 (litsOf_inj h (by decide) (e.trans (by decide)))
theorem step_line {x : Bool × Nat} (h : StepOK x) : stepOf (stepRow x) = (x.1, (litsOf x.2).map lw) := by
  obtain ⟨g, m⟩ := x
  cases g
  · exact step_told _ (lits_lt m)
  · have hne := lits_ne h.1 (h.2 rfl)
    have hw : words (stepRow (true, m)) = [100] :: (litsOf m).map lw := by
      have e : stepRow (true, m) = [100] ++ 32 :: toldBody (litsOf m) := rfl
      have hw2 := words_told (litsOf m) (lits_lt m)
      have hb : toldBody (litsOf m) ≠ [] := by
        cases hl : litsOf m with
        | nil => exact absurd hl hne
        | cons y r =>
          have hy : Lt y := lits_lt m y (by rw [hl]; simp)
          unfold toldBody
          rw [List.map_cons]
          exact join_ne _ _ (lw_facts y hy).2.2.2.1
      unfold words at hw2 ⊢
      rw [if_neg hb] at hw2
      rw [e, if_neg (by simp), wordsAux_run _ _ _ (by decide), List.nil_append, wordsAux, if_pos rfl, hw2]
    unfold stepOf
    rw [hw]
    simp
theorem stepMask_line {x : Bool × Nat} (h : StepOK x) : stepMask (stepRow x) = x.2 := by
  unfold stepMask
  rw [step_line h]
  show maskOf (((litsOf x.2).map lw).map lit) = _
  rw [lits_told _ (lits_lt _), mask_lits h.1]
theorem stepOk_line {x : Bool × Nat} (h : StepOK x) : stepOk (stepRow x, true) = true := by
  unfold stepOk
  rw [step_line h]
  simp only [Bool.and_true]
  rw [List.all_eq_true]
  intro w hw
  obtain ⟨y, hy, rfl⟩ := List.mem_map.1 hw
  have hy := lits_lt _ y hy
  rw [(lw_facts y hy).1]
  simpa using hy.1
theorem Runs.out : ∀ {s : List (Bool × Nat)} {L L' : List Nat} {n : Nat} {rest : List (List UInt8 × Bool)} {r : Int × Int}, Runs s L L' → (∀ x, x ∈ s → StepOK x) → Sp.Outcome L' (n + s.length) rest r → Sp.Outcome L n (s.map (fun x => (stepRow x, true)) ++ rest) r
  | [], L, L', n, rest, r, h, _, ho => by
    have h : L' = L := h
    subst h
    exact ho
  | x :: s, L, L', n, rest, r, h, hs, ho => by
    have hx := hs x (by simp)
    have ho' : Sp.Outcome L' (n + 1 + s.length) rest r := by
      have : n + 1 + s.length = n + (x :: s).length := by rw [List.length_cons]; omega
      rw [this]; exact ho
    refine .inr ⟨stepOk_line hx, ?_⟩
    rcases h with ⟨a1, a2, a3⟩ | ⟨a1, a2, a3⟩
    · exact .inl ⟨by rw [step_line hx]; exact a1, .inl ⟨by rw [stepMask_line hx]; exact a2, by rw [stepMask_line hx]; exact Runs.out a3 (fun y hy => hs y (List.mem_cons_of_mem _ hy)) ho'⟩⟩
    · exact .inr ⟨by rw [step_line hx]; exact a1, .inl ⟨by rw [stepMask_line hx]; exact a2, by rw [stepMask_line hx]; exact Runs.out a3 (fun y hy => hs y (List.mem_cons_of_mem _ hy)) ho'⟩⟩

/-- A text is a proof of clauses that is accepted. -/
def Accepted (G : List Nat) (pb : List UInt8) : Prop := ∃ s M R, pb = linesText s ∧ (∀ x, x ∈ s → StepOK x) ∧ Runs s G M ∧ M.Perm (G ++ R)
theorem Accepted.nil (G : List Nat) : Accepted G [] := ⟨[], G, [], rfl, fun x hx => (by cases hx), rfl, by rw [List.append_nil]⟩
theorem Accepted.add {G : List Nat} {pb : List UInt8} (h : Accepted G pb) (H : List Nat) : Accepted (G ++ H) pb := by
  obtain ⟨s, M, R, h1, h2, h3, h4⟩ := h
  obtain ⟨M', h5, h6⟩ := Runs.more (M := G ++ H) (R := H) h3 (List.Perm.refl _)
  refine ⟨s, M', R, h1, h2, h5, h6.trans ((h4.append_right H).trans ?_)⟩
  rw [List.append_assoc, List.append_assoc]
  exact List.Perm.append_left G List.perm_append_comm
theorem Accepted.addTo {G : List Nat} {pb : List UInt8} (h : Accepted G pb) (c : List Int) : Accepted (addTo G c).2 pb := by
  unfold Go.Proofs.YtekkkoipcghlmabGreatDoor.addTo
  split
  · exact h
  · split
    · exact h
    · split
      · exact h
      · exact h.add _
theorem opp_core {core : List Int} (h : ∀ y, y ∈ core → y ≠ 0 ∧ -12 ≤ y ∧ y ≤ 12) : maskOf (core.map (fun x => -x)) = oppMask (maskOf core) := by
  have hm : maskOf core < 2 ^ 24 := maskOf_lt _ (fun y hy => (h y hy).2)
  have hn : ∀ y, y ∈ core.map (fun x => -x) → y ≠ 0 ∧ -12 ≤ y ∧ y ≤ 12 := fun y hy => by
    obtain ⟨z, hz, rfl⟩ := List.mem_map.1 hy
    have := h z hz
    omega
  have hm2 : maskOf (core.map (fun x => -x)) < 2 ^ 24 := maskOf_lt _ (fun y hy => (hn y hy).2)
  apply Nat.eq_of_testBit_eq
  intro i
  rcases Nat.lt_or_ge i 24 with hi | hi
  · rw [oppMask_bit hm i hi, maskOf_testBit, maskOf_testBit, Bool.eq_iff_iff, List.any_eq_true, List.any_eq_true]
    have key : ∀ y, y ≠ 0 → (bitIx (-y) = i ↔ bitIx y = opp i) := fun y hy => by
      unfold bitIx opp
      by_cases hp : 0 < y
      · rw [if_pos hp, if_neg (by omega)]
        split <;> omega
      · rw [if_neg hp, if_pos (by omega)]
        split <;> omega
    constructor
    · rintro ⟨y, hy, e⟩
      obtain ⟨z, hz, rfl⟩ := List.mem_map.1 hy
      exact ⟨z, hz, by rw [beq_iff_eq] at e ⊢; exact (key z (h z hz).1).1 e⟩
    · rintro ⟨z, hz, e⟩
      exact ⟨-z, List.mem_map.2 ⟨z, hz, rfl⟩, by rw [beq_iff_eq] at e ⊢; exact (key z (h z hz).1).2 e⟩
  · rw [Nat.testBit_lt_two_pow (Nat.lt_of_lt_of_le hm2 (Nat.pow_le_pow_right (by decide) hi)), Nat.testBit_lt_two_pow (Nat.lt_of_lt_of_le (opp_lt24 _) (Nat.pow_le_pow_right (by decide) hi))]
theorem stepsText_lines (S : List (Bool × List Int)) : stepsText S = linesText (stepMasks S) := by
  unfold stepsText linesText stepMasks
  rw [List.flatMap_map]
  congr 1
  funext s
  unfold stepText stepRow told
  rw [List.append_assoc]
theorem told_lines (m : Nat) : told (litsOf m) = linesText [(false, m)] := by simp [linesText, stepRow, told]

/-- What Solve writes is accepted behind what there was. -/
theorem Accepted.solve {base x : Nat} {kv pv vm vc : Value} {ms : List Nat} {pb : List UInt8} {A : List Int} {B kind cf : Int} {w w' : World} (ha : Accepted ms pb) (h : SolveRes base x kv ms pv pb A B w kind vm vc cf w') (hA : Lits A) :
    ∃ pv' S, XAt base w' x kv ms pv' (pb ++ S) ∧ S.length ≤ 1000000000 ∧ Accepted ms (pb ++ S) ∧ (kind = 2 → ∃ core U, (∃ p : Int → Bool, core = A.filter p) ∧ w'.ownsRow w.heap.size 3 1 vc core.length (ints core) ∧ pb ++ S = linesText U ++ told (litsOf (oppMask (maskOf core)))) := by
  have hkeep := h
  obtain ⟨S, D, pv', core, hW, hch, hwf, hlen, h4, h5, h6⟩ := h
  obtain ⟨s0, M0, R0, e0, ok0', r0, p0⟩ := ha
  obtain ⟨M1, r1, p1⟩ := hch.runs M0 (fun g hg => p0.mem_iff.2 (List.mem_append_left _ hg))
  have hstep : ∀ x, x ∈ stepMasks S → StepOK x := fun x hx => by
    have hp := hch.pos x hx
    obtain ⟨s, hs, rfl⟩ := List.mem_map.1 hx
    exact ⟨maskOf_lt _ (fun y hy => ((hwf s hs).2 y hy).2), fun _ => hp⟩
  have hl1 := stepsText_len S
  have hl2 : (told (litsOf (oppMask (maskOf core)))).length ≤ 97 := maskTold_len _
  by_cases hk : kind = 2
  · have hc : (∃ p : Int → Bool, core = A.filter p) ∧ w'.ownsRow w.heap.size 3 1 vc core.length (ints core) ∧ Sp.Fol (ms ++ D) (Sp.maskOf (core.map (fun x => -x))) := by
      rcases h6 with ⟨a, -⟩ | ⟨-, -, a, b, c⟩ | ⟨a, -⟩
      · omega
      · exact ⟨a, b, c⟩
      · omega
    have hcl : ∀ y, y ∈ core → y ≠ 0 ∧ -12 ≤ y ∧ y ≤ 12 := fun y hy => by
      obtain ⟨p, rfl⟩ := hc.1
      exact hA y (List.mem_filter.1 hy).1
    rw [if_pos hk] at hW
    have hF := hc.2.2
    rw [opp_core hcl] at hF
    refine ⟨pv', _, hW.1, by rw [List.length_append]; omega, ⟨s0 ++ stepMasks S ++ [(false, oppMask (maskOf core))], M1 ++ [oppMask (maskOf core)], R0 ++ D ++ [oppMask (maskOf core)], ?_, ?_, ?_, ?_⟩, fun _ => ⟨core, s0 ++ stepMasks S, hc.1, hc.2.1, ?_⟩⟩
    · rw [linesText_append, linesText_append, e0, stepsText_lines, told_lines, List.append_assoc]
    · intro y hy
      rcases List.mem_append.1 hy with hy | hy
      · rcases List.mem_append.1 hy with hy | hy
        · exact ok0' y hy
        · exact hstep y hy
      · simp at hy; subst hy
        exact ⟨opp_lt24 _, fun h => by cases h⟩
    · refine Runs.append (Runs.append r0 r1) (.inr ⟨rfl, Fol.mono (fun c hc => ?_) hF, rfl⟩)
      rcases List.mem_append.1 hc with hc | hc
      · exact p1.mem_iff.2 (List.mem_append_left _ (p0.mem_iff.2 (List.mem_append_left _ hc)))
      · exact p1.mem_iff.2 (List.mem_append_right _ hc)
    · rw [← List.append_assoc, ← List.append_assoc]
      exact (p1.trans (p0.append_right D)).append_right _
    · rw [linesText_append, e0, stepsText_lines, List.append_assoc]
  · rw [if_neg hk] at hW
    refine ⟨pv', _, hW.1, by rw [List.append_nil]; omega, ⟨s0 ++ stepMasks S, M1, R0 ++ D, ?_, ?_, Runs.append r0 r1, ?_⟩, fun h => absurd h hk⟩
    · rw [List.append_nil, linesText_append, e0, stepsText_lines]
    · intro y hy
      rcases List.mem_append.1 hy with hy | hy
      · exact ok0' y hy
      · exact hstep y hy
    · rw [← List.append_assoc]
      exact p1.trans (p0.append_right D)

theorem maskText_text (ms : List Nat) : maskText ms = textOf (ms.map litsOf) := by
  unfold maskText textOf
  rw [List.flatMap_map]
theorem text_lt (ms : List Nat) : ∀ c, c ∈ ms.map litsOf → ∀ x, x ∈ c → Lt x := fun c hc x hx => by
  obtain ⟨m, _, rfl⟩ := List.mem_map.1 hc
  exact lits_lt m x hx
theorem masks_maskText {ms : List Nat} (h : ∀ m, m ∈ ms → m < 2 ^ 24) : masksOf (maskText ms) = ms := by
  rw [maskText_text, masks_told _ (text_lt ms), List.map_map]
  conv => rhs; rw [← List.map_id ms]
  apply List.map_congr_left
  intro m hm
  exact mask_lits (h m hm)
theorem scan_maskText (ms : List Nat) : scanSegs 0 (segs (maskText ms)) = none := by
  rw [maskText_text]
  exact scan_told _ (text_lt ms)
/-- What Check says of it. -/
theorem Accepted.check {G : List Nat} {pb : List UInt8} (h : Accepted G pb) (hG : ∀ m, m ∈ G → m < 2 ^ 24) (hl : (maskText G).length ≤ 6000) : CheckOut (maskText G) pb (if pb.length ≤ 6000 then (0, 0) else (4, 0)) := by
  refine .inr ⟨hl, .inr ⟨scan_maskText G, ?_⟩⟩
  by_cases hp : pb.length ≤ 6000
  · rw [if_pos hp]
    refine .inr ⟨hp, ?_⟩
    obtain ⟨s, M, R, rfl, h2, h3, -⟩ := h
    rw [masks_maskText hG]
    have := segs_lines s []
    rw [List.append_nil] at this
    rw [this]
    exact Runs.out h3 h2 rfl
  · rw [if_neg hp]
    exact .inl ⟨by omega, rfl⟩

end Go.Proofs.YtekkkoipcghlmabGreatDoor

namespace Go.Proofs.YtekkkoipcghlmabGreatDoor.Sp

/-- What the program has taken to be false, as a mask. -/
structure Untrue (L : List Nat) (m u : Nat) : Prop where
  lt : u < 2 ^ 24
  has : ∀ i, m.testBit i = true → u.testBit i = true
  least : ∀ U : Nat → Prop, (∀ i, m.testBit i = true → U i) → Stable L U → ∀ i, u.testBit i = true → U i

/-- Of this clause nothing more comes. -/
def Quiet (u c : Nat) : Prop := leftMask c u ≠ 0 ∧ (oneBit (leftMask c u) = true → u ||| oppMask (leftMask c u) = u)

theorem Untrue.start {L : List Nat} {m : Nat} (hm : m < 2 ^ 24) : Untrue L m m := ⟨hm, fun _ h => h, fun _ h _ => h⟩

section
variable {L : List Nat} {m u c : Nat}

theorem one_left (hc : c < 2 ^ 24) (h1 : oneBit (leftMask c u) = true) : ∃ k, k < 24 ∧ leftMask c u = 2 ^ k ∧ oppMask (leftMask c u) = 2 ^ opp k := by
  have : onesOf (leftMask c u) = 1 := by unfold oneBit at h1; simpa using h1
  obtain ⟨k, hk, he⟩ := (ones_one (leftMask_lt u hc)).1 this
  exact ⟨k, hk, he, by rw [he]; exact opp_single hk⟩

theorem left_bits {k : Nat} (he : leftMask c u = 2 ^ k) : c.testBit k = true ∧ u.testBit k = false ∧ ∀ j, c.testBit j = true → j ≠ k → u.testBit j = true := by
  have hb := fun i => leftMask_bit c u i
  rw [he] at hb
  have hk := hb k
  rw [Nat.testBit_two_pow_self] at hk
  have hk' := hk.symm
  rw [Bool.and_eq_true] at hk'
  refine ⟨hk'.1, by simpa using hk'.2, fun j hj hne => ?_⟩
  have := hb j
  rw [Nat.testBit_two_pow_of_ne (fun e => hne e.symm), hj] at this
  simpa using this

theorem Untrue.more (h : Untrue L m u) (hcL : c ∈ L) (hc : c < 2 ^ 24) (h1 : oneBit (leftMask c u) = true) : Untrue L m (u ||| oppMask (leftMask c u)) := by
  obtain ⟨k, hk, he, ho⟩ := one_left hc h1
  obtain ⟨hck, huk, hoth⟩ := left_bits he
  refine ⟨Nat.or_lt_two_pow h.lt (oppMask_lt (leftMask_lt u hc)), fun i hi => ?_, fun U hU hs i hi => ?_⟩
  · rw [Nat.testBit_or, h.has i hi]; rfl
  · rw [Nat.testBit_or, Bool.or_eq_true] at hi
    rcases hi with hi | hi
    · exact h.least U hU hs i hi
    · rw [ho] at hi
      have hik : i = opp k := by
        by_cases e : opp k = i
        · exact e.symm
        · rw [Nat.testBit_two_pow_of_ne e] at hi; cases hi
      subst hik
      obtain ⟨⟨j, hj, hjn⟩, hun⟩ := hs c hcL
      have hoth' : ∀ j, c.testBit j = true → j ≠ k → U j := fun j hj hne => h.least U hU hs j (hoth j hj hne)
      have hjk : j = k := by
        by_cases e : j = k
        · exact e
        · exact absurd (hoth' j hj e) hjn
      subst hjk
      exact hun j hj hjn hoth'

theorem Untrue.conflict (h : Untrue L m u) (hcL : c ∈ L) (h0 : leftMask c u = 0) : Fol L m := by
  refine .inr fun U hU hs => ?_
  obtain ⟨⟨j, hj, hjn⟩, _⟩ := hs c hcL
  have := leftMask_bit c u j
  rw [h0, hj] at this
  simp at this
  exact hjn (h.least U hU hs j this)

theorem Untrue.fixed (h : Untrue L m u) (hm : m < 2 ^ 24) (hL : ∀ c, c ∈ L → c < 2 ^ 24) (hno : alwaysMask m = false) (hq : ∀ c, c ∈ L → Quiet u c) : ¬ Fol L m := by
  rintro (hx | hx)
  · rw [(alwaysMask_iff hm).2 hx] at hno; cases hno
  · refine hx (fun i => u.testBit i = true) h.has fun c hc => ?_
    obtain ⟨h0, h1⟩ := hq c hc
    obtain ⟨i, hi⟩ := Nat.exists_testBit_of_ne_zero h0
    rw [leftMask_bit, Bool.and_eq_true] at hi
    refine ⟨⟨i, hi.1, by simpa using hi.2⟩, fun k hk hkn hoth => ?_⟩
    have hk24 : k < 24 := by
      rcases Nat.lt_or_ge k 24 with h | h
      · exact h
      · rw [Nat.testBit_lt_two_pow (Nat.lt_of_lt_of_le (hL c hc) (Nat.pow_le_pow_right (by decide) h))] at hk; cases hk
    have hkf : u.testBit k = false := by simpa using hkn
    have he : leftMask c u = 2 ^ k := by
      apply Nat.eq_of_testBit_eq
      intro j
      rw [leftMask_bit]
      by_cases e : j = k
      · subst e; rw [hk, hkf, Nat.testBit_two_pow_self]; rfl
      · rw [Nat.testBit_two_pow_of_ne (fun e' => e e'.symm)]
        by_cases hcj : c.testBit j = true
        · rw [hoth j hcj e]; simp
        · rw [show c.testBit j = false from by simpa using hcj]; rfl
    have hone : oneBit (leftMask c u) = true := by
      unfold oneBit; rw [he, (ones_one (Nat.pow_lt_pow_right (by decide) hk24)).2 ⟨k, hk24, rfl⟩]; rfl
    have := h1 hone
    rw [he, opp_single hk24] at this
    show u.testBit (opp k) = true
    rw [← this, Nat.testBit_or, Nat.testBit_two_pow_self]; simp

theorem or_grows {a b c : Nat} (h : a ||| b = b) : a ||| (b ||| c) = b ||| c := by rw [← Nat.or_assoc, h]
theorem or_le {a b : Nat} (h : a ||| b = b) : a ≤ b := by rw [← h]; exact Nat.left_le_or
theorem or_back {a b c : Nat} (h : a ||| b = b) (he : b ||| c = a) : b = a := by
  have h1 : b ≤ a := by rw [← he]; exact Nat.left_le_or
  have h2 := or_le h
  omega
end

end Go.Proofs.YtekkkoipcghlmabGreatDoor.Sp

namespace Go.Proofs.YtekkkoipcghlmabGreatDoor
open Go.RowKit

/-- The entries of the program's list, in memory: each a clause and how often it is there. -/
def EntsLie (w : World) (v : Value) (E : List (Nat × Nat)) : Prop :=
  (E = [] ∧ ∃ ao cap, v = .slice ao 0 cap) ∨
  (∃ b cap, 0 < E.length ∧ v = .slice (some ⟨b, 0, none⟩) E.length cap ∧ b < w.heap.size ∧ ∀ k x, E[k]? = some x → w.cell? ⟨b, k * 2, none⟩ = some (.int .u32 (x.1 : Int)) ∧ w.cell? ⟨b, k * 2 + 1, none⟩ = some (.int .i64 (x.2 : Int)))

theorem ents_shape {w : World} {v : Value} {E : List (Nat × Nat)} (h : EntsLie w v E) : ∃ ao cap, v = .slice ao E.length cap := by
  rcases h with ⟨h0, ao, cap, rfl⟩ | ⟨b, cap, hp, rfl, hb, hc⟩
  · subst h0; exact ⟨_, _, rfl⟩
  · exact ⟨_, _, rfl⟩

def Live (E : List (Nat × Nat)) (L : List Nat) : Prop := ∀ c, c ∈ L ↔ ∃ t, (c, t) ∈ E ∧ 0 < t
def PassOut (L : List Nat) (m u u' : Nat) (cf : Bool) : Prop := Sp.Untrue L m u' ∧ (cf = true → Sp.Fol L m) ∧ (cf = false → u ||| u' = u' ∧ (u' = u → ∀ c, c ∈ L → Sp.Quiet u c))
def PassRes (L : List Nat) (m u : Nat) (w : World) (e : Ending) (w' : World) : Prop := ∃ (u' : Nat) (cf : Bool), e = .returned (.tuple #[.int .u32 (u' : Int), .bool cf]) ∧ PassOut L m u u' cf ∧ Below w.heap.size w w'

set_option maxRecDepth 100000 in
set_option maxHeartbeats 1600000 in
theorem pass_any (p : Nat) (ev : Value) (E : List (Nat × Nat)) (L : List Nat) (m u : Nat) (w : World) (hcell : w.cell? ⟨p, 0, none⟩ = some ev) (hE : EntsLie w ev E) (hl : E.length ≤ 10000000) (hlive : Live E L)
    (hsm : ∀ x, x ∈ E → x.2 ≤ 10000000 ∧ (0 < x.2 → x.1 < 2 ^ 24)) (hu : Sp.Untrue L m u) :
    Calls Tryz.prog 131 #[.pointer (some ⟨p, 0, none⟩), .int .u32 u] w fun e w' => PassRes L m u w e w' := by
  obtain ⟨ao, cap, rfl⟩ := ents_shape hE
  have HE := hide hE
  have HU := hide hu
  have HLV := hide hlive
  have HSM := hide hsm
  have hult := hu.lt
  clear hE hu hlive hsm
  go_enter Tryz.func131, Tryz.ntmps131
  go_wp2
  go_loopw [1, 14] (fun uu i wr => ∃ (k u' : Nat), k ≤ E.length ∧ i = .int .i64 k ∧ uu = .int .u32 u' ∧ u' < 2 ^ 24 ∧ Hid (Sp.Untrue L m u') ∧ Hid (u ||| u' = u') ∧ Hid (u' = u → ∀ x, x ∈ E.take k → 0 < x.2 → Sp.Quiet u x.1) ∧ Below w.heap.size w wr) (fun _ i _ => E.length - (intOf i).toNat)
  case atStart => exact ⟨0, u, Nat.zero_le _, rfl, rfl, hult, HU, hide (Nat.or_self u), hide (fun _ x hx => by simp at hx), Below.refl _ _⟩
  case round =>
    clear hult HU
    obtain ⟨k, u', hk, rfl, rfl, hult, HU, HG, HQ, hbel⟩ := hrel
    by_cases hlt : k < E.length
    · rcases unhide HE with ⟨h0, _⟩ | ⟨b, cap', hp, hsl, hb, hc⟩
      · exfalso; rw [h0] at hlt; simp at hlt
      · simp only [Value.slice.injEq] at hsl
        obtain ⟨rfl, -, rfl⟩ := hsl
        obtain ⟨hc0, hc1⟩ := hc k E[k] (List.getElem?_eq_getElem hlt)
        have hc0 := (hbel.cell (p := ⟨b, k * 2, none⟩) hb).trans hc0
        have hc1 := (hbel.cell (p := ⟨b, k * 2 + 1, none⟩) hb).trans hc1
        have hx := unhide HSM E[k] (List.getElem_mem hlt)
        have HXM : Hid (E[k] ∈ E) := hide (List.getElem_mem hlt)
        have HS : Hid (E.take (k + 1) = E.take k ++ [E[k]]) := hide (List.take_succ_eq_append_getElem hlt)
        generalize E[k] = x at *
        obtain ⟨c, t⟩ := x
        simp only at hc0 hc1 hx
        obtain ⟨ht, hc24'⟩ := hx
        have HC24 := hide hc24'
        clear hc24'
        clear hc
        rcases Nat.eq_zero_or_pos t with ht0 | ht0
        · subst ht0
          have hbel1 := fun o => hbel.alloc hbel.size o
          go_wp2
          go_roundw
          case rel => exact ⟨k + 1, u', by omega, by go_num, rfl, hult, HU, HG, hide (fun he x hx => by
            rw [unhide HS] at hx
            rcases List.mem_append.1 hx with hx | hx
            · exact unhide HQ he x hx
            · simp at hx; subst hx; intro h; simp at h), hbel1 _⟩
          case measure => simp [intOf]; omega
        · have hq : ((t : Int) == 0) = false := by rw [beq_eq_false_iff_ne]; omega
          have hc24 := unhide HC24 ht0
          have HCL : Hid (c ∈ L) := hide ((unhide HLV c).2 ⟨t, unhide HXM, ht0⟩)
          have hll := leftMask_lt u' hc24
          have el := bits_left c u' (by omega) (by omega)
          have HLZ : Hid (leftMask c u' = 0 → Sp.Fol L m) := hide (fun h => (unhide HU).conflict (unhide HCL) h)
          have HMO : Hid (oneBit (leftMask c u') = true → Sp.Untrue L m (u' ||| oppMask (leftMask c u'))) := hide (fun h => (unhide HU).more (unhide HCL) hc24 h)
          have hol := oppMask_lt hll
          have eo := bits_or_u32 u' (oppMask (leftMask c u')) (by omega) (by omega)
          have HSI := hide (fun wx => single_any (leftMask c u') wx hll)
          have HOP := hide (fun wx => opposites_any (leftMask c u') wx hll)
          have HQN : Hid (leftMask c u' ≠ 0 → (oneBit (leftMask c u') = true → u' ||| oppMask (leftMask c u') = u') → Sp.Quiet u' c) := hide (fun h1 h2 => ⟨h1, h2⟩)
          generalize leftMask c u' = lm at *
          generalize oppMask lm = om at *
          generalize hob : oneBit lm = ob at *
          clear hob
          have hbel1 := fun o => hbel.alloc hbel.size o
          rcases Nat.eq_zero_or_pos lm with hl0 | hl0
          · subst hl0
            have HF := hide (unhide HLZ rfl)
            clear HLZ HMO eo
            go_wp2
            go_ret2
            exact ⟨u', true, rfl, ⟨unhide HU, fun _ => unhide HF, fun h => (by cases h)⟩, hbel1 _⟩
          · have hlq : ((lm : Int) == 0) = false := by rw [beq_eq_false_iff_ne]; omega
            have HL0 : Hid (lm ≠ 0) := hide (by omega)
            cases ob
            · go_wp2_with fail
              refine (unhide HSI _).mono ?_
              rintro e w1 ⟨rfl, q, rfl⟩
              go_wp2
              go_roundw
              case rel => exact ⟨k + 1, u', by omega, by go_num, rfl, hult, HU, HG, hide (fun he x hx => by
                rw [unhide HS] at hx
                rcases List.mem_append.1 hx with hx | hx
                · exact unhide HQ he x hx
                · simp at hx; subst hx; intro _; rw [← he]; exact unhide HQN (unhide HL0) (fun h => (by cases h))), below_drewN (hbel1 _) _⟩
              case measure => simp [intOf]; omega
            · have HUN := hide (unhide HMO rfl)
              go_wp2_with fail
              refine (unhide HSI _).mono ?_
              rintro e w1 ⟨rfl, q, rfl⟩
              go_wp2_with fail
              refine (unhide HOP _).mono ?_
              rintro e w2 ⟨rfl, rfl⟩
              go_wp2
              go_roundw
              case rel => exact ⟨k + 1, u' ||| om, by omega, by go_num, rfl, (unhide HUN).lt, HUN, hide (Sp.or_grows (unhide HG)), hide (fun he x hx => by
                have hback := Sp.or_back (unhide HG) he
                rw [unhide HS] at hx
                rcases List.mem_append.1 hx with hx | hx
                · exact unhide HQ hback x hx
                · simp at hx; subst hx; intro _; rw [← hback]; exact unhide HQN (unhide HL0) (fun _ => by rw [he, hback])), below_drewN (hbel1 _) _⟩
              case measure => simp [intOf]; omega
    · have HT : Hid (E.take k = E) := hide (List.take_of_length_le (by omega))
      go_wp2
      go_ret2
      refine ⟨u', false, rfl, ⟨unhide HU, fun h => (by cases h), fun _ => ⟨unhide HG, fun he c hc => ?_⟩⟩, hbel⟩
      obtain ⟨t, ht, ht0⟩ := (unhide HLV c).1 hc
      exact unhide HQ he (c, t) (by rw [unhide HT]; exact ht) ht0

end Go.Proofs.YtekkkoipcghlmabGreatDoor
