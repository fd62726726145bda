import Derived.Test.YtekkkoipcghlmaaDoorAid
import Derived.Test.YtekkkoipcghlmaaDoorSpec
import Derived.Lib.SplitLaws
namespace Go.Proofs.YtekkkoipcghlmaaDoor
open Go.RowKit

theorem words_index (x : List UInt8) : (Lib.index x [32] = -1 ∧ ∀ cur, Sp.wordsAux cur x = [cur ++ x]) ∨
    ∃ i : Nat, Lib.index x [32] = i ∧ i < x.length ∧ ∀ cur, Sp.wordsAux cur x = (cur ++ x.take i) :: Sp.wordsAux [] (x.drop (i + 1)) := by
  induction x with
  | nil => exact .inl ⟨rfl, fun cur => by simp [Sp.wordsAux]⟩
  | cons b l ih =>
    by_cases hb : b = 32
    · subst hb
      exact .inr ⟨0, by simp [Lib.index], by simp, fun cur => by simp [Sp.wordsAux]⟩
    · have hp : ([32] : List UInt8).isPrefixOf (b :: l) = false := by
        simp [List.isPrefixOf]; exact fun h => hb h.symm
      rcases ih with ⟨h1, h2⟩ | ⟨i, h1, h2, h3⟩
      · refine .inl ⟨by unfold Lib.index; rw [hp, h1]; rfl, fun cur => ?_⟩
        unfold Sp.wordsAux
        rw [if_neg hb, h2]
        simp
      · refine .inr ⟨i + 1, ?_, by simp; omega, fun cur => ?_⟩
        · unfold Lib.index
          rw [hp, h1]
          have : ((i : Int) == -1) = false := by rw [beq_eq_false_iff_ne]; omega
          simp [this]
        · conv => lhs; unfold Sp.wordsAux
          rw [if_neg hb, h3]
          simp

theorem indexB_bs (x y : List UInt8) : Lib.indexB (bs x) (bs y) = Lib.index x y := by
  show Lib.index (bs x).data.toList (bs y).data.toList = _
  simp [bs]

theorem split_bs : ∀ (n : Nat) (x : List UInt8), x.length ≤ n → Lib.splitB (bs [32]) 0 (Lib.countB (bs x) (bs [32])) (bs x) = (Sp.wordsAux [] x).map bs := by
  intro n
  have h1 : 1 ≤ (bs [32]).size := by rw [bs_size]; simp
  have hz : (bs [32]).size = 1 := by rw [bs_size]; simp
  induction n with
  | zero =>
    intro x hx
    have : x = [] := List.length_eq_zero_iff.1 (by omega)
    subst this
    have hi : Lib.indexB (bs []) (bs [32]) = -1 := by rw [indexB_bs]; rfl
    rw [Lib.countB_miss _ _ hi, Lib.splitB_miss _ _ _ _ hi]; rfl
  | succ n ih =>
    intro x hx
    rcases words_index x with ⟨h2, h3⟩ | ⟨i, h2, h3, h4⟩
    · have hi : Lib.indexB (bs x) (bs [32]) = -1 := by rw [indexB_bs]; exact h2
      rw [Lib.splitB_miss _ _ _ _ hi, h3]
      simp
    · have hi : Lib.indexB (bs x) (bs [32]) = i := by rw [indexB_bs]; exact h2
      have hcut : (bs x).extract (i + 1) (bs x).size = bs (x.drop (i + 1)) := by
        rw [bs_extract, bs_size, List.take_of_length_le (by simp)]
      rw [Lib.countB_hit _ _ i h1 hi, hz, hcut, Nat.add_comm 1]
      unfold Lib.splitB
      have : ((i : Int) == -1) = false := by rw [beq_eq_false_iff_ne]; omega
      rw [hi, this]
      simp only [Bool.false_eq_true, if_false, Int.toNat_natCast, Nat.add_zero, hz]
      rw [hcut, ih _ (by simp; omega), h4, bs_extract]
      simp

end Go.Proofs.YtekkkoipcghlmaaDoor
