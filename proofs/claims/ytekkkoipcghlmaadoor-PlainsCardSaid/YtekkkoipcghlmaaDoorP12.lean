import Derived.Test.YtekkkoipcghlmaaDoorP11
import Derived.Test.YtekkkoipcghlmaaDoorCards
import Derived.Test.YtekkkoipcghlmaaDoorTie
import Derived.ProofKit
import Derived.OpenShut
import Derived.Deep.DeepHandedRow
import Derived.Deep.Slices
import Derived.Lib.LaidTab
import Derived.Lib.LaidU8
import Derived.Lay
import Derived.Stop.LaidErr
import Derived.Shelf.Vars
import Derived.SevenTiedAt
namespace Go.Proofs.YtekkkoipcghlmaaDoor
open Go.ChangeShapes Go.WideShapes Go.ChangeAt Go.RowKit Go.Deep

theorem Tryd.ownKnob : ownKnob Tryd.prog.godebug = none := by kernel_rfl
theorem Tryd.gTabType : (Tryd.prog.globals[4]?).map (·.type) = some 136 := by kernel_rfl
theorem Tryd.gSynType : (Tryd.prog.globals[2]?).map (·.type) = some 58 := by kernel_rfl
theorem Tryd.gRngType : (Tryd.prog.globals[3]?).map (·.type) = some 58 := by kernel_rfl
theorem Tryd.gBrjType : (Tryd.prog.globals[1]?).map (·.type) = some 119 := by kernel_rfl
theorem Tryd.gBrj : Tryd.prog.globalNamed "math/bits.deBruijn32tab" = some 1 := by kernel_rfl
theorem Tryd.cellsU64 : Tryd.prog.cellsOf 122 = 1 := by kernel_rfl
theorem Tryd.cellsTab : Tryd.prog.cellsOf 136 = 20 := by kernel_rfl
theorem Tryd.cellsU8 : Tryd.prog.cellsOf 5 = 1 := by kernel_rfl
theorem Tryd.cellsBrj : Tryd.prog.cellsOf 119 = 32 := by kernel_rfl
theorem Tryd.cellsErr : Tryd.prog.cellsOf 149 = 1 := by kernel_rfl
theorem Tryd.cellsStr : Tryd.prog.cellsOf 9 = 1 := by kernel_rfl
theorem Tryd.cellsInt : Tryd.prog.cellsOf 3 = 1 := by kernel_rfl
theorem Tryd.cellsOp : Tryd.prog.cellsOf 26 = 6 := by kernel_rfl

theorem brj_of {W : World} (h : Lib.TabIs Tryd.prog W "math/bits.deBruijn32tab" .u8 (Lib.deBruijn32tab.map Int.ofNat)) : 1 < W.heap.size ∧ TabAt 1 Lib.deBruijn32tab W := by
  have hc : ∀ j, j < 32 → W.cell? ⟨1, j, none⟩ = some (.int .u8 ((Lib.deBruijn32tab.map Int.ofNat).getD j 0)) := fun j hj => h.cell Tryd.gBrj j hj
  refine ⟨World.block_lt_of_cell? W _ (hc 0 (by decide)), fun j hj => ?_⟩
  have hj' : j < 32 := hj
  rw [hc j hj']
  congr 2
  have : ∀ j : Fin 32, (Lib.deBruijn32tab.map Int.ofNat).getD j.val 0 = ((Lib.deBruijn32tab.getD j.val 0 : Nat) : Int) := by decide
  exact this ⟨j, hj'⟩

theorem Tryd.star : "*" ++ "errors.errorString" = "*errors.errorString" := by decide
theorem Tryd.rowErr (u : TypeId) (h : Tryd.prog.typeName? 3 u = some "*errors.errorString") : u = 147 :=
  typeName_ptr_named (nm := "errors.errorString") (by rw [Tryd.star]; kernel_rfl) (by kernel_rfl) (by decide) u (by rw [Tryd.star]; exact h)

theorem tab_eq : (Rows.laid_internal_strconv_uint64pow10 : DataW Unit) = Lib.tabData .u64 Lib.pow10Tab := by kernel_rfl
theorem brj_eq : (Rows.laid_math_bits_deBruijn32tab : DataW Unit) = Lib.tabData .u8 (Lib.deBruijn32tab.map Int.ofNat) := by kernel_rfl

set_option maxRecDepth 100000 in
theorem env_of {W : World} (hL0 : laidMetH Tryd.prog Rows.plainsRow.laid W) (hS : W.ShapedOpen Tryd.prog) : Env W := by
  have hL := hL0
  rw [MakeChecks.laidMetH_plain _ _ _ (by kernel_rfl)] at hL
  obtain ⟨a1, s1, hv1, _, _, _⟩ := laid_sentinel hL.tail.tail.tail.tail Tryd.gRng Tryd.gRngType Tryd.underlying58 Tryd.rowErr Tryd.underlying147 Tryd.underlying149 rfl rfl Tryd.underlying9 Tryd.cellsErr Tryd.cellsStr
  obtain ⟨a0, s0, hv0, _, _, _⟩ := laid_sentinel hL.tail.tail.tail.tail.tail Tryd.gSyn Tryd.gSynType Tryd.underlying58 Tryd.rowErr Tryd.underlying147 Tryd.underlying149 rfl rfl Tryd.underlying9 Tryd.cellsErr Tryd.cellsStr
  have hT : Lib.TabIs Tryd.prog W "internal/strconv.uint64pow10" .u64 Lib.pow10Tab := by
    have h2 : laidMet Tryd.prog (("internal/strconv.uint64pow10", Rows.laid_internal_strconv_uint64pow10) :: _) W := hL.tail.tail
    rw [tab_eq] at h2
    exact Lib.tabIs_of_head Tryd.gTab Tryd.gTabType Tryd.underlying136 Tryd.underlying122 Tryd.cellsU64 Tryd.cellsTab h2
  have hB : Lib.TabIs Tryd.prog W "math/bits.deBruijn32tab" .u8 (Lib.deBruijn32tab.map Int.ofNat) := by
    have h2 : laidMet Tryd.prog (("math/bits.deBruijn32tab", Rows.laid_math_bits_deBruijn32tab) :: _) W := hL
    rw [brj_eq] at h2
    exact Lib.tabIs_of_head Tryd.gBrj Tryd.gBrjType Tryd.underlying119 Tryd.underlying5 Tryd.cellsU8 Tryd.cellsBrj h2
  obtain ⟨m, hm⟩ := cell_of_shapedOpen_int (g := 0) (t := 3) (zero := #[.int .i64 0]) hS (of_decide_eq_true (by kernel_rfl)) (by kernel_rfl) rfl (by kernel_rfl) (by kernel_rfl) Tryd.underlying3
  exact ⟨hT, ⟨_, _, hv0⟩, ⟨_, _, hv1⟩, ⟨World.block_lt_of_cell? W _ hm, m, hm⟩, brj_of hB⟩

end Go.Proofs.YtekkkoipcghlmaaDoor
