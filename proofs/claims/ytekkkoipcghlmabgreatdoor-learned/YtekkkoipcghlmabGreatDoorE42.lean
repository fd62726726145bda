import Derived.Test.YtekkkoipcghlmabGreatDoorE35
import Derived.Test.YtekkkoipcghlmabGreatDoorE34
import Derived.Test.YtekkkoipcghlmabGreatDoorE41
set_option linter.all false
namespace Go.Proofs.YtekkkoipcghlmabGreatDoor
open Go.RowKit

def NotAdd (t : TypeId) : Prop := t ≠ 57 ∧ t ≠ 59
theorem KeptT.add {base x : Nat} {kv pv : Value} {ms : List Nat} {pb : List UInt8} {w w' : World} (hX : XAt base w x kv ms pv pb) (ho : Only (XF x kv) w w') : KeptT NotAdd w w' := fun k cs t fz ht hk => ho.block k (lt_of_block hk) (fun hf => by
  rcases hf with rfl | hf
  · rw [hX.block] at hk
    cases hk
    exact ht.1 rfl
  · exact row_ne hX.row hk ht.2 hf)
theorem Only.added {base x : Nat} {kv pv : Value} {ms : List Nat} {pb : List UInt8} {w w' : World} (hX : XAt base w x kv ms pv pb) (ho : Only (XF x kv) w w') : Below base w w' := ho.below (fun k hk => by
  rcases hk with rfl | hk
  · exact hX.le
  · exact (hX.row.lt k hk).1) (by have := hX.le; have := lt_of_block hX.block; omega)

end Go.Proofs.YtekkkoipcghlmabGreatDoor

namespace Go.Proofs.YtekkkoipcghlmabGreatDoor
open Go.ChangeShapes Go.WideShapes Go.ChangeAt Go.RowKit Go.Deep

theorem Tryz.laidOutS : laidOutB Tryz.prog = true := by kernel_rfl
theorem wf_bdS {n : Int} (h : (Lit.int .i64 n).wf = true) : -9223372036854775808 ≤ n ∧ n ≤ 9223372036854775807 := by
  have h1 : IntKind.i64.min = -9223372036854775808 := by decide
  have h2 : IntKind.i64.max = 9223372036854775807 := by decide
  simp only [Lit.wf, Bool.and_eq_true, decide_eq_true_eq] at h
  rw [h1, h2] at h
  exact h

/-- A list of numbers, out of its reading. -/
theorem ints_read {H : Type} {enc : TypeId × Value → H} {W : World} {base n : Nat} {spare : Nat → Bool} {held : Bool} {a0 : Option Addr} {l0 c0 : Nat} {y : DataW H × List MemPlace}
    (h : DataW.trod enc Tryz.prog W base spare held n 22 (Value.slice a0 l0 c0).cells.toList = some y) : ∃ xs : List Int, Lies W (.slice a0 l0 c0) (ints xs) ∧ Fits xs ∧ xs.length ≤ 9223372036854775807 ∧ l0 ≤ c0 := by
  rcases open_slice1 Tryz.underlying22 Tryz.cellsInt h with ⟨hcs, hx⟩ | ⟨a, len, cap, m, n', V, D, Pl, hcs, hab, hl, hm, hmm, hx, hel⟩
  · simp [Value.cells] at hcs
    obtain ⟨rfl, rfl, rfl⟩ := hcs
    exact ⟨[], Lies.nil _, fun z hz => (by cases hz), by simp, Nat.le_refl _⟩
  · simp [Value.cells] at hcs
    obtain ⟨rfl, rfl, rfl⟩ := hcs
    have hlm : l0 ≤ m := by rw [hmm]; split <;> omega
    have hV : ∀ i, i < l0 → V i = .int .i64 (intOf (V i)) ∧ (-9223372036854775808 ≤ intOf (V i) ∧ intOf (V i) ≤ 9223372036854775807) := fun i hi => by
      obtain ⟨_, ht⟩ := hel i (by omega)
      obtain ⟨q, e0, _, hw⟩ := DataW.trod_int Tryz.underlying3 ht
      simp at e0; rw [e0]
      exact ⟨rfl, wf_bdS hw⟩
    refine ⟨(List.range l0).map (fun i => intOf (V i)), ?_, fun z hz => ?_, by unfold maxLen at hm; simp; omega, hl⟩
    · by_cases h0 : l0 = 0
      · subst h0; exact .inl ⟨rfl, _, _, rfl⟩
      · obtain ⟨b, off, spot⟩ := a
        have cz := (hel 0 (by omega)).1
        have hspot : spot = none := by simpa [Addr.add] using World.cell?_spot cz
        subst hspot
        have hb : b < W.heap.size := by simpa [Addr.add] using World.block_lt_of_cell? W _ cz
        refine .inr ⟨b, off, c0, by simp [ints]; omega, by simp [ints], hb, fun k x hk => ?_⟩
        have hkl : k < l0 := by
          have := (List.getElem?_eq_some_iff.1 hk).1
          simpa [ints] using this
        have hxk : x = .int .i64 (intOf (V k)) := by
          simp [ints, hkl] at hk; exact hk.symm
        have hc := (hel k (by omega)).1
        rw [show (⟨b, off, none⟩ : Addr).add k = ⟨b, off + k, none⟩ from by simp [Addr.add]] at hc
        rw [hc, hxk, ← (hV k hkl).1]
    · obtain ⟨i, hi, rfl⟩ := List.mem_map.1 hz
      exact (hV i (by simpa using hi)).2

/-- A list of numbers that is handed in. -/
structure ArgL (w : World) (v : Value) (zs : List Int) : Prop where
  lies : Lies w v (ints zs)
  fits : Fits zs
  len : zs.length ≤ 9223372036854775807
  room : ∀ ao n c, v = .slice ao n c → n ≤ c
def ArgI (n : Int) : Prop := -9223372036854775808 ≤ n ∧ n ≤ 9223372036854775807
theorem arg_read {H : Type} {enc : TypeId × Value → H} {W : World} {base n : Nat} {spare : Nat → Bool} {held : Bool} {a0 : Option Addr} {l0 c0 : Nat} {y : DataW H × List MemPlace}
    (h : DataW.trod enc Tryz.prog W base spare held n 22 (Value.slice a0 l0 c0).cells.toList = some y) : ∃ xs : List Int, ArgL W (.slice a0 l0 c0) xs := by
  obtain ⟨xs, h1, h2, h3, h4⟩ := ints_read h
  exact ⟨xs, h1, h2, h3, fun ao n c hv => by cases hv; exact h4⟩

end Go.Proofs.YtekkkoipcghlmabGreatDoor
