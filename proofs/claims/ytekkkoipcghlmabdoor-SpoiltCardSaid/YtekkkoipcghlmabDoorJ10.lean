import Derived.Test.YtekkkoipcghlmabDoorJ08
import Derived.Test.YtekkkoipcghlmabDoorJ03
import Derived.Test.YtekkkoipcghlmabDoorJ02
import Derived.Lib.Join
namespace Go.Proofs.YtekkkoipcghlmabDoor
open Go.RowKit

theorem litAt_div (k : Nat) : Sp.litAt k = if k % 2 = 1 then -((k : Int) / 2 + 1) else (k : Int) / 2 + 1 := by
  unfold Sp.litAt
  by_cases h : k % 2 = 0
  · rw [if_pos h, if_neg (by omega)]; omega
  · rw [if_neg h, if_pos (by omega)]; omega

theorem ret_int64 {a b : Int} (h : a = b) : Ending.returned (.int .i64 a) = .returned (.int .i64 b) := by rw [h]

end Go.Proofs.YtekkkoipcghlmabDoor

namespace Go.Proofs.YtekkkoipcghlmabDoor
open Go.RowKit

theorem join_lib (xs : List (List UInt8)) : Lib.join xs [32] = Sp.join xs := by
  unfold Lib.join
  induction xs with
  | nil => rfl
  | cons a r ih =>
    cases r with
    | nil => simp [Sp.join, List.intercalate]
    | cons b r =>
      rw [Sp.join, ← ih]
      simp [List.intercalate]

theorem litsOf_len (m : Nat) : (Sp.litsOf m).length ≤ 24 := by
  unfold Sp.litsOf
  rw [List.length_map]
  exact Nat.le_trans (List.length_filter_le _ _) (by simp)
theorem litAt_bd (k : Nat) (h : k < 24) : Sp.litAt k ≠ 0 ∧ -12 ≤ Sp.litAt k ∧ Sp.litAt k ≤ 12 := by
  rw [litAt_div]; split <;> omega

theorem map_data (ws : List (List UInt8)) : (ws.map bs).map (·.data.toList) = ws := by
  induction ws with
  | nil => rfl
  | cons a r ih => simp only [List.map_cons, bs_data] at ih ⊢; rw [ih]

theorem litsOf_bd (m : Nat) : ∀ x, x ∈ Sp.litsOf m → x ≠ 0 ∧ -12 ≤ x ∧ x ≤ 12 := by
  intro x hx
  unfold Sp.litsOf at hx
  obtain ⟨k, hk, rfl⟩ := List.mem_map.1 hx
  have := (List.mem_filter.1 hk).1
  exact litAt_bd k (by simpa using this)

end Go.Proofs.YtekkkoipcghlmabDoor

namespace Go.Proofs.YtekkkoipcghlmabDoor
open Go.RowKit

theorem IsBuilder.below {T e : TypeId} {B b : Nat} {cs : List Value} {w w' : World} (h : Lib.IsBuilder T e B b cs w) (hb : Below w.heap.size w w') : Lib.IsBuilder T e B b cs w' := by
  have key : ∀ p, Lib.BuilderAt T e B b p cs w → Lib.BuilderAt T e B b p cs w' := by
    rintro p ⟨h1, v, h2, h3, h4⟩
    have hlt := (Array.getElem?_eq_some_iff.1 h2).1
    exact ⟨h1, v, (hb.block b hlt).trans h2, owns_below h3 hb, h4⟩
  rcases h with h | h
  · exact .inl (key _ h)
  · exact .inr (key _ h)

def maskText (ms : List Nat) : List UInt8 := ms.flatMap (fun m => Sp.told (Sp.litsOf m))
theorem maskText_snoc (ms : List Nat) (m : Nat) : maskText (ms ++ [m]) = maskText ms ++ Sp.told (Sp.litsOf m) := by
  unfold maskText; rw [List.flatMap_append]; simp
theorem maskTold_len (m : Nat) : (Sp.told (Sp.litsOf m)).length ≤ 97 := by
  have h1 := toldBody_len (Sp.litsOf m); have h2 := litsOf_len m
  simp [Sp.told]; omega
theorem maskText_len (ms : List Nat) : (maskText ms).length ≤ 97 * ms.length := by
  induction ms with
  | nil => simp [maskText]
  | cons a r ih =>
    have h1 := maskTold_len a
    simp only [maskText, List.flatMap_cons, List.length_append, List.length_cons] at ih ⊢
    omega

end Go.Proofs.YtekkkoipcghlmabDoor
