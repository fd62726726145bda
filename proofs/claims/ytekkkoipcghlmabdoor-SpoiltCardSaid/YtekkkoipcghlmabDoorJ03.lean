import Derived.Test.YtekkkoipcghlmabDoorJ01
namespace Go.Proofs.YtekkkoipcghlmabDoor
open Go.RowKit

end Go.Proofs.YtekkkoipcghlmabDoor

namespace Go.Proofs.YtekkkoipcghlmabDoor
open Go.RowKit

theorem toldBody_snoc (l : List Int) (x : Int) : Sp.toldBody (l ++ [x]) = (if l = [] then Sp.lw x else Sp.toldBody l ++ 32 :: Sp.lw x) := by
  unfold Sp.toldBody
  rw [List.map_append, List.map_singleton, Sp.join_snoc]
  simp
theorem digs_len (n : Nat) : (Sp.digs n).length ≤ 2 := by unfold Sp.digs; split <;> simp
theorem lw_len (x : Int) : (Sp.lw x).length ≤ 3 := by
  unfold Sp.lw; have := digs_len x.natAbs; split <;> simp <;> omega
theorem toldBody_len (l : List Int) : (Sp.toldBody l).length ≤ 4 * l.length := by
  unfold Sp.toldBody
  induction l with
  | nil => simp [Sp.join]
  | cons a r ih =>
    have := lw_len a
    cases r with
    | nil => simp [Sp.join]; omega
    | cons b r => simp [Sp.join] at ih ⊢; omega

theorem take_nil_iff {xs : List Int} {k : Nat} (h : k < xs.length) : xs.take k = [] ↔ k = 0 := by
  rw [List.take_eq_nil_iff]
  constructor
  · rintro (h' | h')
    · exact h'
    · subst h'; simp at h
  · exact fun h' => .inl h'

end Go.Proofs.YtekkkoipcghlmabDoor

namespace Go.Proofs.YtekkkoipcghlmabDoor
open Go.RowKit

theorem ret_int {k : IntKind} {a b : Int} (h : a = b) : Ending.returned (.int k a) = .returned (.int k b) := by rw [h]

end Go.Proofs.YtekkkoipcghlmabDoor
