import Derived.Test.YtekkkoipcghlmaaGreatDoorJ15
import Derived.Test.YtekkkoipcghlmaaGreatDoorCards
import Derived.Test.YtekkkoipcghlmaaGreatDoorTie
import Derived.ProofKit
import Derived.OpenShut
import Derived.Deep.DeepHandedRow
import Derived.Deep.Slices
import Derived.Lib.LaidTab
import Derived.Lib.LaidU8
import Derived.Lay
import Derived.Stop.LaidErr
import Derived.Shelf.Vars
import Derived.SevenTiedAt
import Derived.Test.YtekkkoipcghlmaaGreatDoorJ19
namespace Go.Proofs.YtekkkoipcghlmaaGreatDoor
open Go.RowKit

/-- Of a script's steps what the laws read: the kind, and the two texts. -/
def OpsAt (w : World) (b off len : Nat) : Prop :=
  ∀ k, k < len → ∃ (kind : Int) (s t : List UInt8), w.cell? ⟨b, off + k * 6, none⟩ = some (.int .i64 kind) ∧ w.cell? ⟨b, off + k * 6 + 3, none⟩ = some (.string (bs s)) ∧ w.cell? ⟨b, off + k * 6 + 4, none⟩ = some (.string (bs t)) ∧ s.length ≤ 9223372036854775807 ∧ t.length ≤ 9223372036854775807

end Go.Proofs.YtekkkoipcghlmaaGreatDoor

namespace Go.Proofs.YtekkkoipcghlmaaGreatDoor
open Go.ChangeShapes Go.WideShapes Go.ChangeAt Go.RowKit Go.Deep

theorem Tryz.ownKnob : ownKnob Tryz.prog.godebug = none := by kernel_rfl
theorem Tryz.gTabType : (Tryz.prog.globals[1]?).map (·.type) = some 238 := by kernel_rfl
theorem Tryz.gSynType : (Tryz.prog.globals[4]?).map (·.type) = some 140 := by kernel_rfl
theorem Tryz.gRngType : (Tryz.prog.globals[5]?).map (·.type) = some 140 := by kernel_rfl
theorem Tryz.gBrjType : (Tryz.prog.globals[0]?).map (·.type) = some 202 := by kernel_rfl
theorem Tryz.gBrj : Tryz.prog.globalNamed "math/bits.deBruijn32tab" = some 0 := by kernel_rfl
theorem Tryz.cellsU64 : Tryz.prog.cellsOf 230 = 1 := by kernel_rfl
theorem Tryz.cellsTab : Tryz.prog.cellsOf 238 = 20 := by kernel_rfl
theorem Tryz.cellsU8 : Tryz.prog.cellsOf 5 = 1 := by kernel_rfl
theorem Tryz.cellsBrj : Tryz.prog.cellsOf 202 = 32 := by kernel_rfl
theorem Tryz.cellsErr : Tryz.prog.cellsOf 267 = 1 := by kernel_rfl
theorem Tryz.cellsStr : Tryz.prog.cellsOf 9 = 1 := by kernel_rfl
theorem Tryz.cellsInt : Tryz.prog.cellsOf 3 = 1 := by kernel_rfl
theorem Tryz.cellsOp : Tryz.prog.cellsOf 67 = 6 := by kernel_rfl

theorem brj_of {W : World} (h : Lib.TabIs Tryz.prog W "math/bits.deBruijn32tab" .u8 (Lib.deBruijn32tab.map Int.ofNat)) : 0 < W.heap.size ∧ TabAt 0 Lib.deBruijn32tab W := by
  have hc : ∀ j, j < 32 → W.cell? ⟨0, j, none⟩ = some (.int .u8 ((Lib.deBruijn32tab.map Int.ofNat).getD j 0)) := fun j hj => h.cell Tryz.gBrj j hj
  refine ⟨World.block_lt_of_cell? W _ (hc 0 (by decide)), fun j hj => ?_⟩
  have hj' : j < 32 := hj
  rw [hc j hj']
  congr 2
  have : ∀ j : Fin 32, (Lib.deBruijn32tab.map Int.ofNat).getD j.val 0 = ((Lib.deBruijn32tab.getD j.val 0 : Nat) : Int) := by decide
  exact this ⟨j, hj'⟩

theorem Tryz.star : "*" ++ "errors.errorString" = "*errors.errorString" := by decide
theorem Tryz.rowErr (u : TypeId) (h : Tryz.prog.typeName? 3 u = some "*errors.errorString") : u = 265 :=
  typeName_ptr_named (nm := "errors.errorString") (by rw [Tryz.star]; kernel_rfl) (by kernel_rfl) (by decide) u (by rw [Tryz.star]; exact h)

theorem tab_eq : (Rows.laid_internal_strconv_uint64pow10 : DataW Unit) = Lib.tabData .u64 Lib.pow10Tab := by kernel_rfl
theorem brj_eq : (Rows.laid_math_bits_deBruijn32tab : DataW Unit) = Lib.tabData .u8 (Lib.deBruijn32tab.map Int.ofNat) := by kernel_rfl

set_option maxRecDepth 100000 in
theorem env_of {W : World} (hL0 : laidMetH Tryz.prog Rows.keepsRow.laid W) (hS : W.ShapedOpen Tryz.prog) : Env W := by
  have hL := hL0
  rw [MakeChecks.laidMetH_plain _ _ _ (by kernel_rfl)] at hL
  obtain ⟨a1, s1, hv1, _, _, _⟩ := laid_sentinel hL.tail.tail.tail.tail Tryz.gRng Tryz.gRngType Tryz.underlying140 Tryz.rowErr Tryz.underlying265 Tryz.underlying267 rfl rfl Tryz.underlying9 Tryz.cellsErr Tryz.cellsStr
  obtain ⟨a0, s0, hv0, _, _, _⟩ := laid_sentinel hL.tail.tail.tail.tail.tail Tryz.gSyn Tryz.gSynType Tryz.underlying140 Tryz.rowErr Tryz.underlying265 Tryz.underlying267 rfl rfl Tryz.underlying9 Tryz.cellsErr Tryz.cellsStr
  have hT : Lib.TabIs Tryz.prog W "internal/strconv.uint64pow10" .u64 Lib.pow10Tab := by
    have h2 : laidMet Tryz.prog (("internal/strconv.uint64pow10", Rows.laid_internal_strconv_uint64pow10) :: _) W := hL.tail.tail
    rw [tab_eq] at h2
    exact Lib.tabIs_of_head Tryz.gTab Tryz.gTabType Tryz.underlying238 Tryz.underlying230 Tryz.cellsU64 Tryz.cellsTab h2
  have hB : Lib.TabIs Tryz.prog W "math/bits.deBruijn32tab" .u8 (Lib.deBruijn32tab.map Int.ofNat) := by
    have h2 : laidMet Tryz.prog (("math/bits.deBruijn32tab", Rows.laid_math_bits_deBruijn32tab) :: _) W := hL
    rw [brj_eq] at h2
    exact Lib.tabIs_of_head Tryz.gBrj Tryz.gBrjType Tryz.underlying202 Tryz.underlying5 Tryz.cellsU8 Tryz.cellsBrj h2
  obtain ⟨m, hm⟩ := cell_of_shapedOpen_int (g := 2) (t := 3) (zero := #[.int .i64 0]) hS (of_decide_eq_true (by kernel_rfl)) (by kernel_rfl) rfl (by kernel_rfl) (by kernel_rfl) Tryz.underlying3
  exact ⟨hT, ⟨_, _, hv0⟩, ⟨_, _, hv1⟩, ⟨World.block_lt_of_cell? W _ hm, m, hm⟩, brj_of hB⟩

end Go.Proofs.YtekkkoipcghlmaaGreatDoor

namespace Go.Proofs.YtekkkoipcghlmaaGreatDoor
open Go.RowKit

set_option maxRecDepth 100000 in
set_option maxHeartbeats 10000000 in
theorem proof_all (s t : List UInt8) (w : World) (hs2 : s.length ≤ 9223372036854775807) (ht2 : t.length ≤ 9223372036854775807) (he : Env w) :
    Calls Tryz.prog 50 #[.string (bs s), .string (bs t)] w fun e W => CheckRes s t w e W := by
  have hszt := bs_size t
  have hbA : Below w.heap.size w ((w.alloc (.cells #[.int .i64 0] 35)).alloc (.cells #[.int .i64 0] 3)) := ((Below.refl _ w).alloc (Nat.le_refl _) _).alloc (by simp) _
  have hsA : ((w.alloc (.cells #[.int .i64 0] 35)).alloc (.cells #[.int .i64 0] 3)).heap.size = w.heap.size + 2 := by simp
  have e0 := (Boxed.new w 35 (.int .i64 0)).alloc (.cells #[.int .i64 0] 3)
  have e1 := Boxed.new (w.alloc (.cells #[.int .i64 0] 35)) 3 (.int .i64 0)
  simp only [World.size_alloc] at e1
  have HBO : Hid (∀ W1, Below ((w.alloc (.cells #[.int .i64 0] 35)).alloc (.cells #[.int .i64 0] 3)).heap.size ((w.alloc (.cells #[.int .i64 0] 35)).alloc (.cells #[.int .i64 0] 3)) W1 → Boxed W1 w.heap.size 35 (.int .i64 0) ∧ Boxed W1 (w.heap.size + 1) 3 (.int .i64 0) ∧ Below w.heap.size w W1) :=
    hide (fun W1 hb => ⟨(hb.block _ (by rw [hsA]; omega)).trans e0, (hb.block _ (by rw [hsA]; omega)).trans e1, hbA.trans (hb.mono (by rw [hsA]; omega))⟩)
  have early : ∀ (er : Int) (k : Int) (v : Value), er ≠ 0 → CheckOut s t (er, k) →
      (Calls Tryz.prog 91 #[.string (bs s)] ((w.alloc (.cells #[.int .i64 0] 35)).alloc (.cells #[.int .i64 0] 3)) fun e W => Below ((w.alloc (.cells #[.int .i64 0] 35)).alloc (.cells #[.int .i64 0] 3)).heap.size ((w.alloc (.cells #[.int .i64 0] 35)).alloc (.cells #[.int .i64 0] 3)) W ∧ e = .returned (.tuple #[v, .int .i64 er, .int .i64 k])) →
      Calls Tryz.prog 50 #[.string (bs s), .string (bs t)] w fun e W => CheckRes s t w e W := by
    intro er k v hne hco hrd
    have HCO := hide hco
    have HRD := hide hrd
    have hq : (er == (0 : Int)) = false := by rw [beq_eq_false_iff_ne]; exact hne
    clear hco hrd hne e0 e1 hbA hsA
    go_enter Tryz.func50, Tryz.ntmps50
    go_wp2_with fail
    refine (unhide HRD).mono ?_
    rintro e W1 ⟨hb1, rfl⟩
    obtain ⟨b0, b1, b2⟩ := unhide HBO W1 hb1
    have hr0 : W1.cell? ⟨w.heap.size, 0, none⟩ = some (.int .i64 0) := b0.cell
    have hf0 : W1.frozen? ⟨w.heap.size, 0, none⟩ = false := b0.frozen
    have hr1 : W1.cell? ⟨w.heap.size + 1, 0, none⟩ = some (.int .i64 0) := b1.cell
    have hf1 : W1.frozen? ⟨w.heap.size + 1, 0, none⟩ = false := b1.frozen
    have a0 : Boxed (W1.setCell ⟨w.heap.size, 0, none⟩ (.int .i64 er)) w.heap.size 35 (.int .i64 er) := b0.set _
    have a1 : Boxed (W1.setCell ⟨w.heap.size, 0, none⟩ (.int .i64 er)) (w.heap.size + 1) 3 (.int .i64 0) := (Below.heap_setCell W1 _ _ _ (by simp)).trans b1
    have k0 : ((W1.setCell ⟨w.heap.size, 0, none⟩ (.int .i64 er)).setCell ⟨w.heap.size + 1, 0, none⟩ (.int .i64 k)).cell? ⟨w.heap.size, 0, none⟩ = some (.int .i64 er) := Boxed.cell (t := 35) ((Below.heap_setCell _ _ _ _ (by simp)).trans a0)
    have k1 : ((W1.setCell ⟨w.heap.size, 0, none⟩ (.int .i64 er)).setCell ⟨w.heap.size + 1, 0, none⟩ (.int .i64 k)).cell? ⟨w.heap.size + 1, 0, none⟩ = some (.int .i64 k) := (a1.set _).cell
    have HPB : Hid (Below w.heap.size w ((W1.setCell ⟨w.heap.size, 0, none⟩ (.int .i64 er)).setCell ⟨w.heap.size + 1, 0, none⟩ (.int .i64 k))) := hide ((b2.setCell (p := ⟨w.heap.size, 0, none⟩) (by simp) _).setCell (p := ⟨w.heap.size + 1, 0, none⟩) (by simp) _)
    have HK0 := hide k0
    have HK1 := hide k1
    clear b0 b1 b2 a0 a1 k0 k1
    go_wp2
    have k0 := unhide HK0
    have k1 := unhide HK1
    refine bodyPost_ret (v := .tuple #[.int .i64 er, .int .i64 k]) (by simp [results, Tryz.results50, go_sem, k0, k1]) rfl ?_
    exact ⟨(er, k), rfl, unhide HCO, unhide HPB⟩
  by_cases hs : 6000 < s.length
  · exact early 4 0 _ (by decide) (.inl ⟨hs, rfl⟩) (read_long s _ hs hs2)
  · cases hn : Sp.scanSegs 0 (Sp.segs s) with
    | some n =>
      refine early 5 n (.slice none 0 0) (by decide) (.inr ⟨by omega, .inl ⟨n, hn, rfl⟩⟩) ((read_any s _ (by omega) (he.below hbA)).mono ?_)
      rintro e W ⟨hb, ⟨k, hk, rfl⟩ | ⟨hk, _⟩⟩
      · rw [hn] at hk; cases hk; exact ⟨hb, rfl⟩
      · rw [hn] at hk; cases hk
    | none =>
      by_cases ht : 6000 < t.length
      · have HRD := hide (read_any s _ (by omega) (he.below hbA))
        have HN := hide hn
        clear e0 e1 hbA hsA hn early
        go_enter Tryz.func50, Tryz.ntmps50
        go_wp2_with fail
        refine (unhide HRD).mono ?_
        rintro e W1 ⟨hb1, ⟨k, hk, rfl⟩ | ⟨-, v, rfl, -⟩⟩
        · exfalso; rw [unhide HN] at hk; cases hk
        obtain ⟨b0, b1, b2⟩ := unhide HBO W1 hb1
        have hr0 : W1.cell? ⟨w.heap.size, 0, none⟩ = some (.int .i64 0) := b0.cell
        have hf0 : W1.frozen? ⟨w.heap.size, 0, none⟩ = false := b0.frozen
        have hr1 : W1.cell? ⟨w.heap.size + 1, 0, none⟩ = some (.int .i64 0) := b1.cell
        have hf1 : W1.frozen? ⟨w.heap.size + 1, 0, none⟩ = false := b1.frozen
        have a0 : Boxed (W1.setCell ⟨w.heap.size, 0, none⟩ (.int .i64 4)) w.heap.size 35 (.int .i64 4) := b0.set _
        have a1 : Boxed (W1.setCell ⟨w.heap.size, 0, none⟩ (.int .i64 4)) (w.heap.size + 1) 3 (.int .i64 0) := (Below.heap_setCell W1 _ _ _ (by simp)).trans b1
        have k0 : ((W1.setCell ⟨w.heap.size, 0, none⟩ (.int .i64 4)).setCell ⟨w.heap.size + 1, 0, none⟩ (.int .i64 0)).cell? ⟨w.heap.size, 0, none⟩ = some (.int .i64 4) := Boxed.cell (t := 35) ((Below.heap_setCell _ _ _ _ (by simp)).trans a0)
        have k1 : ((W1.setCell ⟨w.heap.size, 0, none⟩ (.int .i64 4)).setCell ⟨w.heap.size + 1, 0, none⟩ (.int .i64 0)).cell? ⟨w.heap.size + 1, 0, none⟩ = some (.int .i64 0) := (a1.set _).cell
        have HPB : Hid (Below w.heap.size w ((W1.setCell ⟨w.heap.size, 0, none⟩ (.int .i64 4)).setCell ⟨w.heap.size + 1, 0, none⟩ (.int .i64 0))) := hide ((b2.setCell (p := ⟨w.heap.size, 0, none⟩) (by simp) _).setCell (p := ⟨w.heap.size + 1, 0, none⟩) (by simp) _)
        have HK0 := hide k0
        have HK1 := hide k1
        clear b0 b1 b2 a0 a1 k0 k1
        go_wp2
        have k0 := unhide HK0
        have k1 := unhide HK1
        refine bodyPost_ret (v := .tuple #[.int .i64 4, .int .i64 0]) (by simp [results, Tryz.results50, go_sem, k0, k1]) rfl ?_
        exact ⟨(4, 0), rfl, .inr ⟨by omega, .inr ⟨unhide HN, .inl ⟨ht, rfl⟩⟩⟩, unhide HPB⟩
      · exact proof_any s t w (by omega) (by omega) hn he

set_option maxRecDepth 100000 in
theorem checkGo_any (s t : List UInt8) (w : World) (hs2 : s.length ≤ 9223372036854775807) (ht2 : t.length ≤ 9223372036854775807) (he : Env w) :
    Calls Tryz.prog 31 #[.string (bs s), .string (bs t)] w fun e W => CheckRes s t w e W := by
  have HP := hide (proof_all s t w hs2 ht2 he)
  go_enter Tryz.func31, Tryz.ntmps31
  go_wp2_with fail
  refine (unhide HP).mono ?_
  rintro e w1 ⟨⟨a, b⟩, rfl, ho, hb1⟩
  have HO := hide ho
  clear ho
  go_wp2
  go_ret2
  exact ⟨(a, b), rfl, unhide HO, hb1⟩

set_option maxRecDepth 100000 in
set_option maxHeartbeats 800000 in
theorem lawChecked_any (s t : List UInt8) (w : World) (hs2 : s.length ≤ 9223372036854775807) (ht2 : t.length ≤ 9223372036854775807) (he : Env w) :
    Calls Tryz.prog 52 #[.string (bs s), .string (bs t)] w fun e w' => e = .returned (.bool true) ∧ Below w.heap.size w w' := by
  have HP := hide (checkGo_any s t w hs2 ht2 he)
  have HQ := hide (fun wx => refCheck_any s t wx hs2 ht2)
  go_enter Tryz.func52, Tryz.ntmps52
  go_wp2_with fail
  refine (unhide HP).mono ?_
  rintro e w1 ⟨⟨a, b⟩, rfl, ho, hb1⟩
  have HO := hide ho
  clear ho
  go_wp2_with fail
  refine (unhide HQ w1).mono ?_
  rintro e w2 ⟨⟨a', b'⟩, rfl, ho', hb2⟩
  have hu := (unhide HO).unique ho'
  cases hu
  clear ho'
  go_wp2
  go_ret
  exact ⟨rfl, hb1.trans (hb2.mono hb1.size)⟩

end Go.Proofs.YtekkkoipcghlmaaGreatDoor
