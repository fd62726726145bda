import Derived.Test.YtgoigckhblffhaaGreatDoorRJ09
import Derived.Test.YtgoigckhblffhaaGreatDoorRCards
import Derived.Test.YtgoigckhblffhaaGreatDoorRTie
import Derived.ProofKit
import Derived.OpenShut
import Derived.Deep.DeepHandedRow
import Derived.Deep.Slices
import Derived.Lib.LaidTab
import Derived.Lib.LaidU8
import Derived.Lay
import Derived.Stop.LaidErr
import Derived.Shelf.Vars
import Derived.SevenTiedAt
namespace Go.Proofs.YtgoigckhblffhaaGreatDoorR
open Go.RowKit

/-- Of a script's steps what the laws read: the kind, and the two texts. -/
def OpsAt (w : World) (b off len : Nat) : Prop :=
  ∀ k, k < len → ∃ (kind : Int) (s t : List UInt8), w.cell? ⟨b, off + k * 6, none⟩ = some (.int .i64 kind) ∧ w.cell? ⟨b, off + k * 6 + 3, none⟩ = some (.string (bs s)) ∧ w.cell? ⟨b, off + k * 6 + 4, none⟩ = some (.string (bs t)) ∧ s.length ≤ 9223372036854775807 ∧ t.length ≤ 9223372036854775807

end Go.Proofs.YtgoigckhblffhaaGreatDoorR

namespace Go.Proofs.YtgoigckhblffhaaGreatDoorR
open Go.ChangeShapes Go.WideShapes Go.ChangeAt Go.RowKit Go.Deep

theorem Tryz.ownKnob : ownKnob Tryz.prog.godebug = none := by kernel_rfl
theorem Tryz.gTabType : (Tryz.prog.globals[2]?).map (·.type) = some 221 := by kernel_rfl
theorem Tryz.gSynType : (Tryz.prog.globals[3]?).map (·.type) = some 97 := by kernel_rfl
theorem Tryz.gRngType : (Tryz.prog.globals[4]?).map (·.type) = some 97 := by kernel_rfl
theorem Tryz.gBrjType : (Tryz.prog.globals[0]?).map (·.type) = some 195 := by kernel_rfl
theorem Tryz.gBrj : Tryz.prog.globalNamed "math/bits.deBruijn32tab" = some 0 := by kernel_rfl
theorem Tryz.cellsU64 : Tryz.prog.cellsOf 205 = 1 := by kernel_rfl
theorem Tryz.cellsTab : Tryz.prog.cellsOf 221 = 20 := by kernel_rfl
theorem Tryz.cellsU8 : Tryz.prog.cellsOf 5 = 1 := by kernel_rfl
theorem Tryz.cellsBrj : Tryz.prog.cellsOf 195 = 32 := by kernel_rfl
theorem Tryz.cellsErr : Tryz.prog.cellsOf 238 = 1 := by kernel_rfl
theorem Tryz.cellsStr : Tryz.prog.cellsOf 9 = 1 := by kernel_rfl
theorem Tryz.cellsInt : Tryz.prog.cellsOf 3 = 1 := by kernel_rfl
theorem Tryz.cellsOp : Tryz.prog.cellsOf 35 = 6 := by kernel_rfl

theorem brj_of {W : World} (h : Lib.TabIs Tryz.prog W "math/bits.deBruijn32tab" .u8 (Lib.deBruijn32tab.map Int.ofNat)) : 0 < W.heap.size ∧ TabAt 0 Lib.deBruijn32tab W := by
  have hc : ∀ j, j < 32 → W.cell? ⟨0, j, none⟩ = some (.int .u8 ((Lib.deBruijn32tab.map Int.ofNat).getD j 0)) := fun j hj => h.cell Tryz.gBrj j hj
  refine ⟨World.block_lt_of_cell? W _ (hc 0 (by decide)), fun j hj => ?_⟩
  have hj' : j < 32 := hj
  rw [hc j hj']
  congr 2
  have : ∀ j : Fin 32, (Lib.deBruijn32tab.map Int.ofNat).getD j.val 0 = ((Lib.deBruijn32tab.getD j.val 0 : Nat) : Int) := by decide
  exact this ⟨j, hj'⟩

theorem Tryz.star : "*" ++ "errors.errorString" = "*errors.errorString" := by decide
theorem Tryz.rowErr (u : TypeId) (h : Tryz.prog.typeName? 3 u = some "*errors.errorString") : u = 236 :=
  typeName_ptr_named (nm := "errors.errorString") (by rw [Tryz.star]; kernel_rfl) (by kernel_rfl) (by decide) u (by rw [Tryz.star]; exact h)

theorem tab_eq : (Rows.laid_internal_strconv_uint64pow10 : DataW Unit) = Lib.tabData .u64 Lib.pow10Tab := by kernel_rfl
theorem brj_eq : (Rows.laid_math_bits_deBruijn32tab : DataW Unit) = Lib.tabData .u8 (Lib.deBruijn32tab.map Int.ofNat) := by kernel_rfl

set_option maxRecDepth 100000 in
theorem env_of {W : World} (hL0 : laidMetH Tryz.prog Rows.keepsRow.laid W) (hS : W.ShapedOpen Tryz.prog) : Env W := by
  have hL := hL0
  rw [MakeChecks.laidMetH_plain _ _ _ (by kernel_rfl)] at hL
  obtain ⟨a1, s1, hv1, _, _, _⟩ := laid_sentinel hL.tail.tail.tail.tail Tryz.gRng Tryz.gRngType Tryz.underlying97 Tryz.rowErr Tryz.underlying236 Tryz.underlying238 rfl rfl Tryz.underlying9 Tryz.cellsErr Tryz.cellsStr
  obtain ⟨a0, s0, hv0, _, _, _⟩ := laid_sentinel hL.tail.tail.tail.tail.tail Tryz.gSyn Tryz.gSynType Tryz.underlying97 Tryz.rowErr Tryz.underlying236 Tryz.underlying238 rfl rfl Tryz.underlying9 Tryz.cellsErr Tryz.cellsStr
  have hT : Lib.TabIs Tryz.prog W "internal/strconv.uint64pow10" .u64 Lib.pow10Tab := by
    have h2 : laidMet Tryz.prog (("internal/strconv.uint64pow10", Rows.laid_internal_strconv_uint64pow10) :: _) W := hL.tail.tail
    rw [tab_eq] at h2
    exact Lib.tabIs_of_head Tryz.gTab Tryz.gTabType Tryz.underlying221 Tryz.underlying205 Tryz.cellsU64 Tryz.cellsTab h2
  have hB : Lib.TabIs Tryz.prog W "math/bits.deBruijn32tab" .u8 (Lib.deBruijn32tab.map Int.ofNat) := by
    have h2 : laidMet Tryz.prog (("math/bits.deBruijn32tab", Rows.laid_math_bits_deBruijn32tab) :: _) W := hL
    rw [brj_eq] at h2
    exact Lib.tabIs_of_head Tryz.gBrj Tryz.gBrjType Tryz.underlying195 Tryz.underlying5 Tryz.cellsU8 Tryz.cellsBrj h2
  obtain ⟨m, hm⟩ := cell_of_shapedOpen_int (g := 1) (t := 3) (zero := #[.int .i64 0]) hS (of_decide_eq_true (by kernel_rfl)) (by kernel_rfl) rfl (by kernel_rfl) (by kernel_rfl) Tryz.underlying3
  exact ⟨hT, ⟨_, _, hv0⟩, ⟨_, _, hv1⟩, ⟨World.block_lt_of_cell? W _ hm, m, hm⟩, brj_of hB⟩

end Go.Proofs.YtgoigckhblffhaaGreatDoorR

namespace Go.Proofs.YtgoigckhblffhaaGreatDoorR
open Go.ChangeShapes Go.WideShapes Go.ChangeAt Go.RowKit Go.Deep

theorem Tryz.laidOut : laidOutB Tryz.prog = true := by kernel_rfl

theorem take_one {cs : List Value} {o : Nat} {v : Value} (h : (cs.drop o).take 1 = [v]) : cs[o]? = some v := by
  have := congrArg (·[0]?) h
  simpa [List.getElem?_take, List.getElem?_drop] using this

/-- A step of a script, opened. -/
theorem op_open {H : Type} {enc : TypeId × Value → H} {W : World} {base n : Nat} {spare : Nat → Bool} {held : Bool} {cs : List Value} {x : DataW H × List MemPlace}
    (h : DataW.trod enc Tryz.prog W base spare held n 35 cs = some x) :
    ∃ (kind : Int) (s t : ByteArray), cs[0]? = some (.int .i64 kind) ∧ cs[3]? = some (.string s) ∧ cs[4]? = some (.string t) ∧ s.size ≤ maxLen ∧ t.size ≤ maxLen := by
  obtain ⟨xs, n', _, _, _, hxl, hf⟩ := DataW.trod_struct Tryz.underlying35 h
  have hx : ∀ i, i < 6 → ∃ y, xs[i]? = some y := fun i hi => ⟨xs[i]'(by rw [hxl]; exact hi), List.getElem?_eq_getElem _⟩
  have f0 : DataW.trod enc Tryz.prog W base spare held n' 3 ((cs.drop 0).take (Tryz.prog.cellsOf 3)) = xs[0]? := hf 0 _ rfl
  have f3 : DataW.trod enc Tryz.prog W base spare held n' 9 ((cs.drop 3).take (Tryz.prog.cellsOf 9)) = xs[3]? := hf 3 _ rfl
  have f4 : DataW.trod enc Tryz.prog W base spare held n' 9 ((cs.drop 4).take (Tryz.prog.cellsOf 9)) = xs[4]? := hf 4 _ rfl
  obtain ⟨y0, h0⟩ := hx 0 (by omega)
  obtain ⟨y3, h3⟩ := hx 3 (by omega)
  obtain ⟨y4, h4⟩ := hx 4 (by omega)
  rw [h0] at f0
  rw [h3] at f3
  rw [h4] at f4
  obtain ⟨kind, e0, _, _⟩ := DataW.trod_int Tryz.underlying3 f0
  obtain ⟨s, e3, _, hs⟩ := DataW.trod_string Tryz.underlying9 f3
  obtain ⟨t, e4, _, ht⟩ := DataW.trod_string Tryz.underlying9 f4
  rw [Tryz.cellsInt] at e0
  rw [Tryz.cellsStr] at e3 e4
  exact ⟨kind, s, t, take_one e0, take_one e3, take_one e4, hs, ht⟩

theorem bs_of (s : ByteArray) : s = bs s.data.toList := by unfold bs; cases s; simp

/-- A script's steps, out of its reading. -/
theorem ops_open {H : Type} {enc : TypeId × Value → H} {W : World} {base n m len : Nat} {spare : Nat → Bool} {held : Bool} {a : Addr} {D : Nat → DataW H} {Pl : Nat → List MemPlace} (hlen : 0 < len) (hm : len ≤ m)
    (hel : ∀ i, i < m → ∃ cs', W.cells? base (a.add (i * Tryz.prog.cellsOf 35)) (Tryz.prog.cellsOf 35) = some cs' ∧ DataW.trod enc Tryz.prog W base spare held n 35 cs' = some (D i, Pl i)) :
    ∃ b off, a = ⟨b, off, none⟩ ∧ b < W.heap.size ∧ OpsAt W b off len := by
  obtain ⟨b, off, spot⟩ := a
  have key : ∀ i, i < len → ∃ (kind : Int) (s t : ByteArray), W.cell? ((⟨b, off, spot⟩ : Addr).add (i * 6)) = some (.int .i64 kind) ∧ W.cell? (((⟨b, off, spot⟩ : Addr).add (i * 6)).add 3) = some (.string s) ∧ W.cell? (((⟨b, off, spot⟩ : Addr).add (i * 6)).add 4) = some (.string t) ∧ s.size ≤ maxLen ∧ t.size ≤ maxLen := by
    intro i hi
    obtain ⟨cs', hc, ht⟩ := hel i (by omega)
    rw [Tryz.cellsOp] at hc
    obtain ⟨_, _, hcell⟩ := World.cells?_some hc
    obtain ⟨kind, s, t, e0, e3, e4, hs, ht'⟩ := op_open ht
    refine ⟨kind, s, t, ?_, (hcell 3 (by omega)).trans e3, (hcell 4 (by omega)).trans e4, hs, ht'⟩
    have := (hcell 0 (by omega)).trans e0
    simpa [Addr.add] using this
  obtain ⟨k0, s0, t0, h0, _⟩ := key 0 hlen
  have hspot : spot = none := by simpa [Addr.add] using World.cell?_spot h0
  subst hspot
  have hb : b < W.heap.size := by simpa [Addr.add] using World.block_lt_of_cell? W _ h0
  refine ⟨b, off, rfl, hb, fun k hk => ?_⟩
  obtain ⟨kind, s, t, e0, e3, e4, hs, ht⟩ := key k hk
  have add_none : ∀ o j : Nat, (⟨b, o, none⟩ : Addr).add j = ⟨b, o + j, none⟩ := fun o j => by simp [Addr.add]
  rw [add_none] at e0 e3 e4
  rw [add_none] at e3 e4
  refine ⟨kind, s.data.toList, t.data.toList, e0, by rw [← bs_of]; exact e3, by rw [← bs_of]; exact e4, ?_, ?_⟩
  · have := Lib.size_eq s
    unfold maxLen at hs; omega
  · have := Lib.size_eq t
    unfold maxLen at ht; omega

end Go.Proofs.YtgoigckhblffhaaGreatDoorR
