import Derived.Test.YtekkkoipcghlmaaDoorSpec
import Derived.Lib.Bytealg
namespace Go.Proofs.YtekkkoipcghlmaaDoor.Sp

/-- The lines of a text, each with whether it is ended. -/
def segsAux (cur : List UInt8) : List UInt8 → List (List UInt8 × Bool)
  | [] => if cur = [] then [] else [(cur, false)]
  | c :: r => if c = 10 then (cur, true) :: segsAux [] r else segsAux (cur ++ [c]) r
def segs (s : List UInt8) : List (List UInt8 × Bool) := segsAux [] s

def scanSegs : Nat → List (List UInt8 × Bool) → Option Nat
  | _, [] => none
  | n, x :: r => if !okLine x.1 || !x.2 then some (n + 1) else scanSegs (n + 1) r

theorem segsAux_lines (r : List UInt8) : ∀ cur, (segsAux cur r).map Prod.fst = linesAux cur r := by
  induction r with
  | nil => intro cur; unfold segsAux linesAux; split <;> rfl
  | cons c r ih =>
    intro cur
    unfold segsAux linesAux
    split
    · rw [List.map_cons, ih]
    · exact ih _

theorem lines_nil (r : List UInt8) : ∀ cur, linesAux cur r = [] → endAux cur r = true := by
  induction r with
  | nil => intro cur h; unfold linesAux at h; split at h
           · rename_i hc; subst hc; rfl
           · cases h
  | cons c r ih =>
    intro cur h
    unfold linesAux at h
    unfold endAux
    split at h
    · cases h
    · rename_i hc; rw [if_neg hc]; exact ih _ h

theorem scan_segs (r : List UInt8) : ∀ (cur : List UInt8) (n : Nat), scanSegs n (segsAux cur r) = scan (endAux cur r) n (linesAux cur r) := by
  induction r with
  | nil =>
    intro cur n
    unfold segsAux linesAux endAux
    by_cases hc : cur = []
    · simp [hc, scanSegs, scan]
    · have : cur.isEmpty = false := by simpa using hc
      simp [hc, scanSegs, scan, this]
  | cons c r ih =>
    intro cur n
    unfold segsAux linesAux endAux
    by_cases hc : c = 10
    · rw [if_pos hc, if_pos hc, if_pos hc]
      unfold scanSegs scan
      rw [ih]
      have : (!endAux [] r && (linesAux [] r).isEmpty) = false := by
        cases he : (linesAux [] r).isEmpty
        · simp
        · rw [lines_nil r [] (by simpa using he)]; rfl
      rw [this]
      simp
    · rw [if_neg hc, if_neg hc, if_neg hc]; exact ih _ n

theorem segsAux_no (r : List UInt8) : ∀ cur, (10 : UInt8) ∉ cur → ∀ x, x ∈ segsAux cur r → (10 : UInt8) ∉ x.1 := by
  induction r with
  | nil =>
    intro cur h x hx
    unfold segsAux at hx
    split at hx
    · cases hx
    · simp at hx; subst hx; exact h
  | cons c r ih =>
    intro cur h x hx
    unfold segsAux at hx
    split at hx
    · rcases List.mem_cons.1 hx with rfl | hx
      · exact h
      · exact ih [] (by simp) x hx
    · rename_i hc
      exact ih _ (by simp [h]; exact fun h' => hc h'.symm) x hx

theorem segsAux_len (r : List UInt8) : ∀ cur x, x ∈ segsAux cur r → x.1.length ≤ cur.length + r.length := by
  induction r with
  | nil =>
    intro cur x hx
    unfold segsAux at hx
    split at hx
    · cases hx
    · simp at hx; subst hx; simp
  | cons c r ih =>
    intro cur x hx
    unfold segsAux at hx
    split at hx
    · rcases List.mem_cons.1 hx with rfl | hx
      · simp
      · have := ih [] x hx; simp at this ⊢; omega
    · have := ih _ x hx; simp at this ⊢; omega
theorem segsAux_count (r : List UInt8) : ∀ cur, (segsAux cur r).length ≤ r.length + 1 := by
  induction r with
  | nil => intro cur; unfold segsAux; split <;> simp
  | cons c r ih =>
    intro cur
    unfold segsAux
    split
    · have := ih []; simp; omega
    · have := ih (cur ++ [c]); simp; omega

/-- How the next line is found. -/
theorem segs_index (x : List UInt8) : (Lib.indexByte x 10 = -1 ∧ ∀ cur, cur ++ x ≠ [] → segsAux cur x = [(cur ++ x, false)]) ∨
    ∃ i : Nat, Lib.indexByte x 10 = i ∧ i < x.length ∧ x.take (i + 1) = x.take i ++ [10] ∧ ∀ cur, segsAux cur x = (cur ++ x.take i, true) :: segsAux [] (x.drop (i + 1)) := by
  induction x with
  | nil => exact .inl ⟨rfl, fun cur h => by simp at h; simp [segsAux, h]⟩
  | cons b l ih =>
    by_cases hb : b = 10
    · subst hb
      exact .inr ⟨0, by simp [Lib.indexByte], by simp, by simp, fun cur => by simp [segsAux]⟩
    · have hp : (b == 10) = false := by simpa using hb
      rcases ih with ⟨h1, h2⟩ | ⟨i, h1, h2, h4, h3⟩
      · refine .inl ⟨by unfold Lib.indexByte; rw [hp, h1]; rfl, fun cur _ => ?_⟩
        unfold segsAux
        rw [if_neg hb, h2 _ (by simp)]
        simp
      · refine .inr ⟨i + 1, ?_, by simp; omega, by simp [h4], fun cur => ?_⟩
        · unfold Lib.indexByte
          rw [hp, h1]
          have : ((i : Int) == -1) = false := by rw [beq_eq_false_iff_ne]; omega
          simp [this]
        · conv => lhs; unfold segsAux
          rw [if_neg hb, h3]
          simp

end Go.Proofs.YtekkkoipcghlmaaDoor.Sp
