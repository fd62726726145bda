import Derived.Test.YtekkkoipcghlmabDoorJ17
import Derived.Test.YtekkkoipcghlmabDoorCards
import Derived.Test.YtekkkoipcghlmabDoorTie
import Derived.ProofKit
import Derived.OpenShut
import Derived.Deep.DeepHandedRow
import Derived.Deep.Slices
import Derived.Lib.LaidTab
import Derived.Lib.LaidU8
import Derived.Lay
import Derived.Stop.LaidErr
import Derived.Shelf.Vars
import Derived.SevenTiedAt
import Derived.Test.YtekkkoipcghlmabDoorJ13
namespace Go.Proofs.YtekkkoipcghlmabDoor
open Go.ChangeShapes Go.WideShapes Go.ChangeAt Go.RowKit Go.Deep

theorem Tryd.ownKnob : ownKnob Tryd.prog.godebug = none := by kernel_rfl
theorem Tryd.gTabType : (Tryd.prog.globals[0]?).map (·.type) = some 87 := by kernel_rfl
theorem Tryd.gSynType : (Tryd.prog.globals[4]?).map (·.type) = some 80 := by kernel_rfl
theorem Tryd.gRngType : (Tryd.prog.globals[5]?).map (·.type) = some 80 := by kernel_rfl
theorem Tryd.gBrjType : (Tryd.prog.globals[2]?).map (·.type) = some 107 := by kernel_rfl
theorem Tryd.gBrj : Tryd.prog.globalNamed "math/bits.deBruijn32tab" = some 2 := by kernel_rfl
theorem Tryd.cellsU64 : Tryd.prog.cellsOf 72 = 1 := by kernel_rfl
theorem Tryd.cellsTab : Tryd.prog.cellsOf 87 = 20 := by kernel_rfl
theorem Tryd.cellsU8 : Tryd.prog.cellsOf 5 = 1 := by kernel_rfl
theorem Tryd.cellsBrj : Tryd.prog.cellsOf 107 = 32 := by kernel_rfl
theorem Tryd.cellsErr : Tryd.prog.cellsOf 125 = 1 := by kernel_rfl
theorem Tryd.cellsStr : Tryd.prog.cellsOf 9 = 1 := by kernel_rfl
theorem Tryd.cellsInt : Tryd.prog.cellsOf 3 = 1 := by kernel_rfl
theorem brj_of {W : World} (h : Lib.TabIs Tryd.prog W "math/bits.deBruijn32tab" .u8 (Lib.deBruijn32tab.map Int.ofNat)) : 2 < W.heap.size ∧ TabAt 2 Lib.deBruijn32tab W := by
  have hc : ∀ j, j < 32 → W.cell? ⟨2, j, none⟩ = some (.int .u8 ((Lib.deBruijn32tab.map Int.ofNat).getD j 0)) := fun j hj => h.cell Tryd.gBrj j hj
  refine ⟨World.block_lt_of_cell? W _ (hc 0 (by decide)), fun j hj => ?_⟩
  have hj' : j < 32 := hj
  rw [hc j hj']
  congr 2
  have : ∀ j : Fin 32, (Lib.deBruijn32tab.map Int.ofNat).getD j.val 0 = ((Lib.deBruijn32tab.getD j.val 0 : Nat) : Int) := by decide
  exact this ⟨j, hj'⟩

theorem Tryd.star : "*" ++ "errors.errorString" = "*errors.errorString" := by decide
theorem Tryd.rowErr (u : TypeId) (h : Tryd.prog.typeName? 3 u = some "*errors.errorString") : u = 123 :=
  typeName_ptr_named (nm := "errors.errorString") (by rw [Tryd.star]; kernel_rfl) (by kernel_rfl) (by decide) u (by rw [Tryd.star]; exact h)

theorem tab_eq : (Rows.laid_internal_strconv_uint64pow10 : DataW Unit) = Lib.tabData .u64 Lib.pow10Tab := by kernel_rfl
theorem brj_eq : (Rows.laid_math_bits_deBruijn32tab : DataW Unit) = Lib.tabData .u8 (Lib.deBruijn32tab.map Int.ofNat) := by kernel_rfl

set_option maxRecDepth 100000 in
theorem env_of {W : World} (hL0 : laidMetH Tryd.prog Rows.spoiltRow.laid W) (hS : W.ShapedOpen Tryd.prog) : Env W := by
  have hL := hL0
  rw [MakeChecks.laidMetH_plain _ _ _ (by kernel_rfl)] at hL
  obtain ⟨a1, s1, hv1, _, _, _⟩ := laid_sentinel hL.tail.tail.tail.tail Tryd.gRng Tryd.gRngType Tryd.underlying80 Tryd.rowErr Tryd.underlying123 Tryd.underlying125 rfl rfl Tryd.underlying9 Tryd.cellsErr Tryd.cellsStr
  obtain ⟨a0, s0, hv0, _, _, _⟩ := laid_sentinel hL.tail.tail.tail.tail.tail Tryd.gSyn Tryd.gSynType Tryd.underlying80 Tryd.rowErr Tryd.underlying123 Tryd.underlying125 rfl rfl Tryd.underlying9 Tryd.cellsErr Tryd.cellsStr
  have hT : Lib.TabIs Tryd.prog W "internal/strconv.uint64pow10" .u64 Lib.pow10Tab := by
    have h2 : laidMet Tryd.prog (("internal/strconv.uint64pow10", Rows.laid_internal_strconv_uint64pow10) :: _) W := hL.tail.tail
    rw [tab_eq] at h2
    exact Lib.tabIs_of_head Tryd.gTab Tryd.gTabType Tryd.underlying87 Tryd.underlying72 Tryd.cellsU64 Tryd.cellsTab h2
  have hB : Lib.TabIs Tryd.prog W "math/bits.deBruijn32tab" .u8 (Lib.deBruijn32tab.map Int.ofNat) := by
    have h2 : laidMet Tryd.prog (("math/bits.deBruijn32tab", Rows.laid_math_bits_deBruijn32tab) :: _) W := hL
    rw [brj_eq] at h2
    exact Lib.tabIs_of_head Tryd.gBrj Tryd.gBrjType Tryd.underlying107 Tryd.underlying5 Tryd.cellsU8 Tryd.cellsBrj h2
  obtain ⟨m, hm⟩ := cell_of_shapedOpen_int (g := 1) (t := 3) (zero := #[.int .i64 0]) hS (of_decide_eq_true (by kernel_rfl)) (by kernel_rfl) rfl (by kernel_rfl) (by kernel_rfl) Tryd.underlying3
  exact ⟨hT, ⟨_, _, hv0⟩, ⟨_, _, hv1⟩, ⟨World.block_lt_of_cell? W _ hm, m, hm⟩, brj_of hB⟩

end Go.Proofs.YtekkkoipcghlmabDoor

namespace Go.Proofs.YtekkkoipcghlmabDoor
open Go.RowKit

set_option maxRecDepth 100000 in
set_option maxHeartbeats 10000000 in
theorem proof_all (s t : List UInt8) (w : World) (hs2 : s.length ≤ 9223372036854775807) (ht2 : t.length ≤ 9223372036854775807) (he : Env w) :
    Calls Tryd.prog 11 #[.string (bs s), .string (bs t)] w fun e W => CheckRes s t w e W := by
  have hszt := bs_size t
  have hbA : Below w.heap.size w ((w.alloc (.cells #[.int .i64 0] 26)).alloc (.cells #[.int .i64 0] 3)) := ((Below.refl _ w).alloc (Nat.le_refl _) _).alloc (by simp) _
  have hsA : ((w.alloc (.cells #[.int .i64 0] 26)).alloc (.cells #[.int .i64 0] 3)).heap.size = w.heap.size + 2 := by simp
  have e0 := (Boxed.new w 26 (.int .i64 0)).alloc (.cells #[.int .i64 0] 3)
  have e1 := Boxed.new (w.alloc (.cells #[.int .i64 0] 26)) 3 (.int .i64 0)
  simp only [World.size_alloc] at e1
  have HBO : Hid (∀ W1, Below ((w.alloc (.cells #[.int .i64 0] 26)).alloc (.cells #[.int .i64 0] 3)).heap.size ((w.alloc (.cells #[.int .i64 0] 26)).alloc (.cells #[.int .i64 0] 3)) W1 → Boxed W1 w.heap.size 26 (.int .i64 0) ∧ Boxed W1 (w.heap.size + 1) 3 (.int .i64 0) ∧ Below w.heap.size w W1) :=
    hide (fun W1 hb => ⟨(hb.block _ (by rw [hsA]; omega)).trans e0, (hb.block _ (by rw [hsA]; omega)).trans e1, hbA.trans (hb.mono (by rw [hsA]; omega))⟩)
  have early : ∀ (er : Int) (k : Int) (v : Value), er ≠ 0 → CheckOut s t (er, k) →
      (Calls Tryd.prog 13 #[.string (bs s)] ((w.alloc (.cells #[.int .i64 0] 26)).alloc (.cells #[.int .i64 0] 3)) fun e W => Below ((w.alloc (.cells #[.int .i64 0] 26)).alloc (.cells #[.int .i64 0] 3)).heap.size ((w.alloc (.cells #[.int .i64 0] 26)).alloc (.cells #[.int .i64 0] 3)) W ∧ e = .returned (.tuple #[v, .int .i64 er, .int .i64 k])) →
      Calls Tryd.prog 11 #[.string (bs s), .string (bs t)] w fun e W => CheckRes s t w e W := by
    intro er k v hne hco hrd
    have HCO := hide hco
    have HRD := hide hrd
    have hq : (er == (0 : Int)) = false := by rw [beq_eq_false_iff_ne]; exact hne
    clear hco hrd hne e0 e1 hbA hsA
    go_enter Tryd.func11, Tryd.ntmps11
    go_wp2_with fail
    refine (unhide HRD).mono ?_
    rintro e W1 ⟨hb1, rfl⟩
    obtain ⟨b0, b1, b2⟩ := unhide HBO W1 hb1
    have hr0 : W1.cell? ⟨w.heap.size, 0, none⟩ = some (.int .i64 0) := b0.cell
    have hf0 : W1.frozen? ⟨w.heap.size, 0, none⟩ = false := b0.frozen
    have hr1 : W1.cell? ⟨w.heap.size + 1, 0, none⟩ = some (.int .i64 0) := b1.cell
    have hf1 : W1.frozen? ⟨w.heap.size + 1, 0, none⟩ = false := b1.frozen
    have a0 : Boxed (W1.setCell ⟨w.heap.size, 0, none⟩ (.int .i64 er)) w.heap.size 26 (.int .i64 er) := b0.set _
    have a1 : Boxed (W1.setCell ⟨w.heap.size, 0, none⟩ (.int .i64 er)) (w.heap.size + 1) 3 (.int .i64 0) := (Below.heap_setCell W1 _ _ _ (by simp)).trans b1
    have k0 : ((W1.setCell ⟨w.heap.size, 0, none⟩ (.int .i64 er)).setCell ⟨w.heap.size + 1, 0, none⟩ (.int .i64 k)).cell? ⟨w.heap.size, 0, none⟩ = some (.int .i64 er) := Boxed.cell (t := 26) ((Below.heap_setCell _ _ _ _ (by simp)).trans a0)
    have k1 : ((W1.setCell ⟨w.heap.size, 0, none⟩ (.int .i64 er)).setCell ⟨w.heap.size + 1, 0, none⟩ (.int .i64 k)).cell? ⟨w.heap.size + 1, 0, none⟩ = some (.int .i64 k) := (a1.set _).cell
    have HPB : Hid (Below w.heap.size w ((W1.setCell ⟨w.heap.size, 0, none⟩ (.int .i64 er)).setCell ⟨w.heap.size + 1, 0, none⟩ (.int .i64 k))) := hide ((b2.setCell (p := ⟨w.heap.size, 0, none⟩) (by simp) _).setCell (p := ⟨w.heap.size + 1, 0, none⟩) (by simp) _)
    have HK0 := hide k0
    have HK1 := hide k1
    clear b0 b1 b2 a0 a1 k0 k1
    go_wp2
    have k0 := unhide HK0
    have k1 := unhide HK1
    refine bodyPost_ret (v := .tuple #[.int .i64 er, .int .i64 k]) (by simp [results, Tryd.results11, go_sem, k0, k1]) rfl ?_
    exact ⟨(er, k), rfl, unhide HCO, unhide HPB⟩
  by_cases hs : 6000 < s.length
  · exact early 4 0 _ (by decide) (.inl ⟨hs, rfl⟩) (read_long s _ hs hs2)
  · cases hn : Sp.scanSegs 0 (Sp.segs s) with
    | some n =>
      refine early 5 n (.slice none 0 0) (by decide) (.inr ⟨by omega, .inl ⟨n, hn, rfl⟩⟩) ((read_any s _ (by omega) (he.below hbA)).mono ?_)
      rintro e W ⟨hb, ⟨k, hk, rfl⟩ | ⟨hk, _⟩⟩
      · rw [hn] at hk; cases hk; exact ⟨hb, rfl⟩
      · rw [hn] at hk; cases hk
    | none =>
      by_cases ht : 6000 < t.length
      · have HRD := hide (read_any s _ (by omega) (he.below hbA))
        have HN := hide hn
        clear e0 e1 hbA hsA hn early
        go_enter Tryd.func11, Tryd.ntmps11
        go_wp2_with fail
        refine (unhide HRD).mono ?_
        rintro e W1 ⟨hb1, ⟨k, hk, rfl⟩ | ⟨-, v, rfl, -⟩⟩
        · exfalso; rw [unhide HN] at hk; cases hk
        obtain ⟨b0, b1, b2⟩ := unhide HBO W1 hb1
        have hr0 : W1.cell? ⟨w.heap.size, 0, none⟩ = some (.int .i64 0) := b0.cell
        have hf0 : W1.frozen? ⟨w.heap.size, 0, none⟩ = false := b0.frozen
        have hr1 : W1.cell? ⟨w.heap.size + 1, 0, none⟩ = some (.int .i64 0) := b1.cell
        have hf1 : W1.frozen? ⟨w.heap.size + 1, 0, none⟩ = false := b1.frozen
        have a0 : Boxed (W1.setCell ⟨w.heap.size, 0, none⟩ (.int .i64 4)) w.heap.size 26 (.int .i64 4) := b0.set _
        have a1 : Boxed (W1.setCell ⟨w.heap.size, 0, none⟩ (.int .i64 4)) (w.heap.size + 1) 3 (.int .i64 0) := (Below.heap_setCell W1 _ _ _ (by simp)).trans b1
        have k0 : ((W1.setCell ⟨w.heap.size, 0, none⟩ (.int .i64 4)).setCell ⟨w.heap.size + 1, 0, none⟩ (.int .i64 0)).cell? ⟨w.heap.size, 0, none⟩ = some (.int .i64 4) := Boxed.cell (t := 26) ((Below.heap_setCell _ _ _ _ (by simp)).trans a0)
        have k1 : ((W1.setCell ⟨w.heap.size, 0, none⟩ (.int .i64 4)).setCell ⟨w.heap.size + 1, 0, none⟩ (.int .i64 0)).cell? ⟨w.heap.size + 1, 0, none⟩ = some (.int .i64 0) := (a1.set _).cell
        have HPB : Hid (Below w.heap.size w ((W1.setCell ⟨w.heap.size, 0, none⟩ (.int .i64 4)).setCell ⟨w.heap.size + 1, 0, none⟩ (.int .i64 0))) := hide ((b2.setCell (p := ⟨w.heap.size, 0, none⟩) (by simp) _).setCell (p := ⟨w.heap.size + 1, 0, none⟩) (by simp) _)
        have HK0 := hide k0
        have HK1 := hide k1
        clear b0 b1 b2 a0 a1 k0 k1
        go_wp2
        have k0 := unhide HK0
        have k1 := unhide HK1
        refine bodyPost_ret (v := .tuple #[.int .i64 4, .int .i64 0]) (by simp [results, Tryd.results11, go_sem, k0, k1]) rfl ?_
        exact ⟨(4, 0), rfl, .inr ⟨by omega, .inr ⟨unhide HN, .inl ⟨ht, rfl⟩⟩⟩, unhide HPB⟩
      · exact proof_any s t w (by omega) (by omega) hn he

set_option maxRecDepth 100000 in
theorem checkGo_any (s t : List UInt8) (w : World) (hs2 : s.length ≤ 9223372036854775807) (ht2 : t.length ≤ 9223372036854775807) (he : Env w) :
    Calls Tryd.prog 6 #[.string (bs s), .string (bs t)] w fun e W => CheckRes s t w e W := by
  have HP := hide (proof_all s t w hs2 ht2 he)
  go_enter Tryd.func6, Tryd.ntmps6
  go_wp2_with fail
  refine (unhide HP).mono ?_
  rintro e w1 ⟨⟨a, b⟩, rfl, ho, hb1⟩
  have HO := hide ho
  clear ho
  go_wp2
  go_ret2
  exact ⟨(a, b), rfl, unhide HO, hb1⟩

end Go.Proofs.YtekkkoipcghlmabDoor

namespace Go.Proofs.YtekkkoipcghlmabDoor
open Go.RowKit

theorem checkK {s t : List UInt8} {r : Int × Int} (w : World) (h : CheckOut s t r) (hs : s.length ≤ 9223372036854775807) (ht : t.length ≤ 9223372036854775807) (he : Env w) :
    Calls Tryd.prog 6 #[.string (bs s), .string (bs t)] w fun e w' => e = .returned (.tuple #[.int .i64 r.1, .int .i64 r.2]) ∧ Below w.heap.size w w' := by
  refine (checkGo_any s t w hs ht he).mono ?_
  rintro e w' ⟨r', rfl, h', hb⟩
  rw [CheckOut.unique h' h]
  exact ⟨rfl, hb⟩

def s2 (k : Nat) : Value := .slice (some ⟨k, 0, none⟩) 2 2
def r2 (a b : Int) : Obj := .cells #[.int .i64 a, .int .i64 b] 3
theorem lastOf (w0 : World) (o : Obj) : (w0.alloc o).heap[w0.heap.size]? = some o := by show (w0.heap.push o)[w0.heap.size]? = _; simp

/-- The world with the four rows, and the list of them. -/
structure Four (w1 wa : World) : Prop where
  below : Below w1.heap.size w1 wa
  size : wa.heap.size = w1.heap.size + 5
  b0 : wa.heap[w1.heap.size]? = some (r2 1 2)
  b1 : wa.heap[w1.heap.size + 1]? = some (r2 (-1) 2)
  b2 : wa.heap[w1.heap.size + 1 + 1]? = some (r2 1 (-2))
  b3 : wa.heap[w1.heap.size + 1 + 1 + 1]? = some (r2 (-1) (-2))
  b4 : wa.heap[w1.heap.size + 1 + 1 + 1 + 1]? = some (.cells #[s2 w1.heap.size, s2 (w1.heap.size + 1), s2 (w1.heap.size + 1 + 1), s2 (w1.heap.size + 1 + 1 + 1)] 22 (0, 0))
theorem four_of (w1 : World) : Four w1 (((((w1.alloc (r2 1 2)).alloc (r2 (-1) 2)).alloc (r2 1 (-2))).alloc (r2 (-1) (-2))).alloc (.cells #[s2 w1.heap.size, s2 (w1.heap.size + 1), s2 (w1.heap.size + 1 + 1), s2 (w1.heap.size + 1 + 1 + 1)] 22)) := by
  have z1 : (w1.alloc (r2 1 2)).heap.size = w1.heap.size + 1 := by simp
  have z2 : ((w1.alloc (r2 1 2)).alloc (r2 (-1) 2)).heap.size = w1.heap.size + 1 + 1 := by simp
  have z3 : (((w1.alloc (r2 1 2)).alloc (r2 (-1) 2)).alloc (r2 1 (-2))).heap.size = w1.heap.size + 1 + 1 + 1 := by simp
  have z4 : ((((w1.alloc (r2 1 2)).alloc (r2 (-1) 2)).alloc (r2 1 (-2))).alloc (r2 (-1) (-2))).heap.size = w1.heap.size + 1 + 1 + 1 + 1 := by simp
  refine ⟨(((((Below.refl _ w1).alloc (Nat.le_refl _) _).alloc (by omega) _).alloc (by omega) _).alloc (by omega) _).alloc (by omega) _, by simp, ?_, ?_, ?_, ?_, ?_⟩
  · rw [Below.heap_alloc _ _ _ (by omega), Below.heap_alloc _ _ _ (by omega), Below.heap_alloc _ _ _ (by omega), Below.heap_alloc _ _ _ (by omega)]; exact lastOf _ _
  · rw [Below.heap_alloc _ _ _ (by omega), Below.heap_alloc _ _ _ (by omega), Below.heap_alloc _ _ _ (by omega), ← z1]; exact lastOf _ _
  · rw [Below.heap_alloc _ _ _ (by omega), Below.heap_alloc _ _ _ (by omega), ← z2]; exact lastOf _ _
  · rw [Below.heap_alloc _ _ _ (by omega), ← z3]; exact lastOf _ _
  · have := lastOf ((((w1.alloc (r2 1 2)).alloc (r2 (-1) 2)).alloc (r2 1 (-2))).alloc (r2 (-1) (-2))) (.cells #[s2 w1.heap.size, s2 (w1.heap.size + 1), s2 (w1.heap.size + 1 + 1), s2 (w1.heap.size + 1 + 1 + 1)] 22)
    rw [z4] at this
    exact this

theorem append_four {ops : Array Oper} {rest : List Oper} {o : Oper} {a : Act} {Q : Exit → Act → World → Prop} {w1 wa : World} {base n : Nat} {v : Value} {vs : List Value}
    (hgd : o.guard = none) (s x : Operand) (ho : o.op = .call { callee := .builtin .append, args := #[s, x], argTypes := #[23, 23] })
    (hF : Four w1 wa) (hown : w1.ownsRow base 22 1 v n vs) (hs : a.eval s = v) (hx : a.eval x = .slice (some ⟨w1.heap.size + 1 + 1 + 1 + 1, 0, none⟩) 4 4) (hn : n ≤ 1000) (hbase : base ≤ w1.heap.size)
    (h : ∀ (g cap : Nat) (w' : World), w'.ownsRow base 22 1 (.slice (some ⟨g, 0, none⟩) (n + 4) cap) (n + 4) (vs ++ [s2 w1.heap.size, s2 (w1.heap.size + 1), s2 (w1.heap.size + 1 + 1), s2 (w1.heap.size + 1 + 1 + 1)]) → wa.grownBy w' v.ownBlock → wpList Tryd.prog ops Q rest (a.put o.dst (.slice (some ⟨g, 0, none⟩) (n + 4) cap)) w') :
    wpList Tryd.prog ops Q (o :: rest) a wa := by
  obtain ⟨i0, hi0, hz0, hz1, hz2⟩ := info_parts Tryd.infoInts
  have hsz := hF.size
  refine wpList_append_lies (P := Tryd.prog) _ hgd s x 23 ho base 22 i0 _ 1 24 Tryd.underlying23 hi0 hz0 hz1 hz2 rfl (by decide) v n vs hs (owns_below hown hF.below) ⟨w1.heap.size + 1 + 1 + 1 + 1, 0, none⟩ 4 4 [s2 w1.heap.size, s2 (w1.heap.size + 1), s2 (w1.heap.size + 1 + 1), s2 (w1.heap.size + 1 + 1 + 1)] hx rfl ?_ ?_ (by decide) (by unfold maxLen; omega) (by omega) (by omega) _ rfl ?_
  · intro j u hu
    have hj : j < 4 := by have := (List.getElem?_eq_some_iff.1 hu).1; simpa using this
    have hadd : (⟨w1.heap.size + 1 + 1 + 1 + 1, 0, none⟩ : Addr).add j = ⟨w1.heap.size + 1 + 1 + 1 + 1, j, none⟩ := by
      simp [Addr.add]; intro e; exact e.symm
    rw [hadd, cell_of_row _ _ _ _ _ _ hF.b4]
    simpa using hu
  · intro u hu; simp at hu; rcases hu with rfl | rfl | rfl | rfl <;> rfl
  · intro g cap w' h1 h2 _ _
    exact h g cap w' h1 h2

theorem row_new {wa : World} {base k : Nat} {a b : Int} (h : wa.heap[k]? = some (r2 a b)) (hb : base ≤ k) : wa.ownsRow base 3 1 (s2 k) ([a, b] : List Int).length (ints [a, b]) :=
  ⟨by simp [ints], .inr ⟨k, 2, _, rfl, hb, h, by simp, by unfold maxLen; omega, rfl, rfl⟩⟩
theorem four_rows {w1 wa w' : World} {base n : Nat} {v : Value} {vs : List Value} {l : List (List Int)} (hF : Four w1 wa) (hown : w1.ownsRow base 22 1 v n vs) (hrows : RowsAt w1 base vs l) (hbase : base ≤ w1.heap.size) (hgr : wa.grownBy w' v.ownBlock) :
    RowsAt w' base (vs ++ [s2 w1.heap.size, s2 (w1.heap.size + 1), s2 (w1.heap.size + 1 + 1), s2 (w1.heap.size + 1 + 1 + 1)]) (l ++ [[1, 2], [-1, 2], [1, -2], [-1, -2]]) := by
  have h0 := hrows.below hF.below
  have h1 := (((h0.snoc (row_new hF.b0 hbase)).snoc (row_new hF.b1 (by omega))).snoc (row_new hF.b2 (by omega))).snoc (row_new hF.b3 (by omega))
  have h2 := h1.grown (owns_below hown hF.below) hgr
  simpa using h2

theorem told3 (d : List Int) (h : d.length ≤ 3) : (Sp.told d).length ≤ 13 := by
  have := toldBody_len d
  simp [Sp.told]; omega
theorem text_len (l : List (List Int)) (h : ∀ d, d ∈ l → d.length ≤ 3) : (Sp.textOf l).length ≤ 13 * l.length := by
  induction l with
  | nil => simp [Sp.textOf]
  | cons d l ih =>
    have h1 := ih (fun e he => h e (List.mem_cons_of_mem _ he))
    have h2 := told3 d (h d (by simp))
    simp only [Sp.textOf, List.flatMap_cons, List.length_append, List.length_cons] at h1 ⊢
    omega
theorem base_of {l : List (List Int)} (hlen : l.length ≤ 30) (hall : ∀ d, d ∈ l → In 5 d ∧ d.length ≤ 3) : Base (l ++ [[1, 2], [-1, 2], [1, -2], [-1, -2]]) ∧ (∀ d, d ∈ l ++ [[1, 2], [-1, 2], [1, -2], [-1, -2]] → d.length ≤ 3) := by
  have h3 : ∀ d, d ∈ l ++ [[1, 2], [-1, 2], [1, -2], [-1, -2]] → d.length ≤ 3 := fun d hd => by
    rcases List.mem_append.1 hd with hd | hd
    · exact (hall d hd).2
    · simp at hd; rcases hd with rfl | rfl | rfl | rfl <;> decide
  refine ⟨⟨fun d hd x hx => ?_, by simp, ?_⟩, h3⟩
  · rcases List.mem_append.1 hd with hd | hd
    · exact (hall d hd).1 x hx
    · simp at hd
      rcases hd with rfl | rfl | rfl | rfl <;> (simp at hx; rcases hx with rfl | rfl <;> decide)
  · have := text_len _ h3
    simp at this ⊢; omega

set_option maxRecDepth 100000 in
set_option maxHeartbeats 3200000 in
theorem spoilt_walk (v1 v2 : Value) (zs ys : List Int) (at_ : Int) (w : World) (h0 : -9223372036854775808 ≤ at_) (h1 : at_ ≤ 9223372036854775807) (hl1 : zs.length ≤ 9223372036854775807) (hl2 : ys.length ≤ 9223372036854775807) (hf1 : Fits zs) (hf2 : Fits ys) (hv1 : Lies w v1 (ints zs)) (hv2 : Lies w v2 (ints ys)) (he : Env w) :
    Calls Tryd.prog 3 #[v1, .int .i64 at_, v2] w fun e w' => e = .returned (.bool true) ∧ Below w.heap.size w w' := by
  have HC : Hid (Calls Tryd.prog 4 #[v1, .int .i64 5, .int .i64 30] w fun e w' => ∃ ov vs l, e = .returned ov ∧ w'.ownsRow w.heap.size 22 1 ov l.length vs ∧ RowsAt w' w.heap.size vs l ∧ l.length ≤ 30 ∧ (∀ d, d ∈ l → In 5 d ∧ d.length ≤ 3) ∧ Below w.heap.size w w') := hide (clausesK_any v1 zs 5 30 w hl1 hf1 (by decide) (by decide) (by decide) hv1)
  have HV2 := hide hv2
  clear hv1 hv2
  go_enter Tryd.func3, Tryd.ntmps3
  go_wp2_with fail
  refine (unhide HC).mono ?_
  rintro e w1 ⟨ov, vs, l, rfl, hrow, hrows, hlen, hall, hb1⟩
  obtain ⟨oo, oc, hsh⟩ := owns_shape hrow
  subst hsh
  obtain ⟨wa, hwa⟩ : ∃ wa, (((((w1.alloc (.cells #[.int .i64 1, .int .i64 2] 3)).alloc (.cells #[.int .i64 (-1), .int .i64 2] 3)).alloc (.cells #[.int .i64 1, .int .i64 (-2)] 3)).alloc (.cells #[.int .i64 (-1), .int .i64 (-2)] 3)).alloc (.cells #[.slice (some ⟨w1.heap.size, 0, none⟩) 2 2, .slice (some ⟨w1.heap.size + 1, 0, none⟩) 2 2, .slice (some ⟨w1.heap.size + 1 + 1, 0, none⟩) 2 2, .slice (some ⟨w1.heap.size + 1 + 1 + 1, 0, none⟩) 2 2] 22)) = wa := ⟨_, rfl⟩
  have HF : Hid (Four w1 wa) := hide (by rw [← hwa]; exact four_of w1)
  have hbase := hb1.size
  have HROW := hide hrow
  have HROWS := hide hrows
  obtain ⟨hB, h3⟩ := base_of hlen hall
  have HBASE := hide hB
  have H3 := hide h3
  clear hrow hrows hB h3 hall
  go_wp2_with (at_builtin; refine append_four rfl _ _ rfl (unhide HF) (unhide HROW) rfl rfl (by omega) hbase ?_; intro g cp w2 hown2 hgr2; have HO2 := hide hown2; have HR2 := hide (four_rows (unhide HF) (unhide HROW) (unhide HROWS) hbase hgr2); have hb2 : Below w.heap.size w w2 := (hb1.trans ((unhide HF).below.mono hbase)).grown hgr2 (Nat.le_trans hbase (unhide HF).below.size) (fun j hj => ((unhide HROW).lt j hj).1); clear hown2 hgr2)
  have hL : (l ++ [[1, 2], [-1, 2], [1, -2], [-1, -2]]).length = l.length + 4 := by simp
  have hTl : (Sp.textOf (l ++ [[1, 2], [-1, 2], [1, -2], [-1, -2]])).length ≤ 5000 := (unhide HBASE).short
  have HTX := hide (textK_any (.slice (some ⟨g, 0, none⟩) (l.length + 4) cp) _ (l ++ [[1, 2], [-1, 2], [1, -2], [-1, -2]]) w.heap.size w2 (by rw [hL]; exact unhide HO2) (unhide HR2) (by rw [hL]; omega) (fun d hd => ⟨fun x hx => (unhide HBASE).lt d hd x hx, Nat.le_trans (unhide H3 d hd) (by decide)⟩) (by omega) (he.below hb2))
  have K : ∀ (s t : List UInt8) (r : Int × Int), CheckOut s t r → s.length ≤ 9000 → t.length ≤ 9000 → ∀ wx, Below w.heap.size w wx → Calls Tryd.prog 6 #[.string (bs s), .string (bs t)] wx fun e w' => e = .returned (.tuple #[.int .i64 r.1, .int .i64 r.2]) ∧ Below w.heap.size w w' := fun s t r h hs ht wx hx =>
    (checkK wx h (by omega) (by omega) (he.below hx)).mono (fun e w' h => ⟨h.1, hx.trans (h.2.mono hx.size)⟩)
  have C6 := check6 (unhide HBASE) [50, 10, 10]
  rw [hL] at C6
  have HK1 := hide (K _ _ _ (check1 (unhide HBASE)) (by omega) (by decide))
  have HK2 := hide (K _ _ _ (check2 (unhide HBASE)) (by omega) (by decide))
  have HK3 := hide (K _ _ _ (check3 (unhide HBASE)) (by omega) (by decide))
  have HK4 := hide (K _ _ _ (check4 (unhide HBASE)) (by omega) (by decide))
  have HK5 := hide (K _ _ _ check5 (by decide) (by decide))
  have HK6 := hide (K _ _ _ C6 (by simp; omega) (by decide))
  have HK7 := hide (K _ _ _ (check7 (unhide HBASE) [50, 10, 10]) (by simp; omega) (by decide))
  have HK8 := hide (fun (c : List Int) hc hl => K _ _ _ (check8 (unhide HBASE) (c := c) hc hl) (by omega) (by simp; omega))
  have HK9 := hide (K _ _ _ (check9 (unhide HBASE)) (by omega) (by decide))
  have HK10 := hide (K _ _ _ (check10 (unhide HBASE)) (by omega) (by decide))
  have HK11 := hide (K _ _ _ (check11 (unhide HBASE)) (by omega) (by decide))
  clear K C6
  generalize Sp.textOf (l ++ [[1, 2], [-1, 2], [1, -2], [-1, -2]]) = T at *
  refine (unhide HTX).mono ?_
  rintro e w3 ⟨rfl, hb3⟩
  have hbw3 := hb2.trans (hb3.mono hb2.size)
  have A2 : ∀ wx, (Op.stringOp .add ⟨#[50, 10, 10]⟩ ⟨#[100, 32, 54, 32, 55, 32, 56, 10]⟩).run Tryd.prog wx = .ok (.string (bs [50, 10, 10, 100, 32, 54, 32, 55, 32, 56, 10])) wx := fun wx => add_bs [50, 10, 10] [100, 32, 54, 32, 55, 32, 56, 10] (by decide) wx
  have A3 : ∀ wx, (Op.stringOp .add ⟨#[50, 10, 10]⟩ ⟨#[49, 32, 32, 50, 10]⟩).run Tryd.prog wx = .ok (.string (bs [50, 10, 10, 49, 32, 32, 50, 10])) wx := fun wx => add_bs [50, 10, 10] [49, 32, 32, 50, 10] (by decide) wx
  have A4 : ∀ wx, (Op.stringOp .add ⟨#[50, 10, 10]⟩ ⟨#[49, 32, 50]⟩).run Tryd.prog wx = .ok (.string (bs [50, 10, 10, 49, 32, 50])) wx := fun wx => add_bs [50, 10, 10] [49, 32, 50] (by decide) wx
  have A6 : ∀ wx, (Op.stringOp .add (bs T) ⟨#[49, 51, 10]⟩).run Tryd.prog wx = .ok (.string (bs (T ++ [49, 51, 10]))) wx := fun wx => add_bs T [49, 51, 10] (by simp; omega) wx
  have A7 : ∀ wx, (Op.stringOp .add ⟨#[100, 32, 54, 32, 55, 32, 56, 10]⟩ (bs T)).run Tryd.prog wx = .ok (.string (bs ([100, 32, 54, 32, 55, 32, 56, 10] ++ T))) wx := fun wx => add_bs [100, 32, 54, 32, 55, 32, 56, 10] T (by simp; omega) wx
  go_wp2_with fail
  refine (unhide HK1 _ hbw3).mono ?_
  rintro e w4 ⟨rfl, hbw4⟩
  go_wp2_with fail
  refine (unhide HK2 _ hbw4).mono ?_
  rintro e w5 ⟨rfl, hbw5⟩
  go_wp2_with fail
  refine (unhide HK3 _ hbw5).mono ?_
  rintro e w6 ⟨rfl, hbw6⟩
  go_wp2_with fail
  refine (unhide HK4 _ hbw6).mono ?_
  rintro e w7 ⟨rfl, hbw7⟩
  go_wp2_with fail
  refine (unhide HK5 _ hbw7).mono ?_
  rintro e w8 ⟨rfl, hbw8⟩
  go_wp2_with fail
  refine (unhide HK6 _ hbw8).mono ?_
  rintro e w9 ⟨rfl, hbw9⟩
  go_wp2_with fail
  refine (unhide HK7 _ hbw9).mono ?_
  rintro e w10 ⟨rfl, hbw10⟩
  have HSO : Hid (Calls Tryd.prog 8 #[v2, .int .i64 12, .int .i64 6] w10 fun e w' => ∃ v' xs, e = .returned v' ∧ w'.ownsRow w10.heap.size 3 1 v' xs.length (ints xs) ∧ xs.length ≤ 6 ∧ In 12 xs ∧ Below w10.heap.size w10 w') := hide (someK_any v2 ys 12 6 w10 hl2 hf2 (by decide) (by decide) (by decide) ((unhide HV2).below hbw10))
  go_wp2_with fail
  refine (unhide HSO).mono ?_
  rintro e w11 ⟨mv, xs, rfl, hmrow, hml, hmi, hb11⟩
  have hbw11 := hbw10.trans (hb11.mono hbw10.size)
  have HMI := hide hmi
  have HLN := hide (lineK_any mv xs w11 (by omega) hmi (lies_of_owns hmrow (by simp [ints])) (he.below hbw11))
  have hbl := toldBody_len xs
  have hml2 : (Sp.told xs).length ≤ 500 := by simp [Sp.told]; omega
  have HK8' := hide (unhide HK8 xs (fun x hx => unhide HMI x hx) hml2)
  clear hmi hmrow HK8
  generalize Sp.told xs = mo at *
  go_wp2_with fail
  refine (unhide HLN).mono ?_
  rintro e w12 ⟨rfl, hb12⟩
  have hbw12 := hbw11.trans (hb12.mono hbw11.size)
  obtain ⟨pm, hpm⟩ : ∃ pm : List UInt8, pm = [50, 10, 10] ++ mo := ⟨_, rfl⟩
  obtain ⟨qm, hqm⟩ : ∃ qm : List UInt8, qm = pm ++ [100, 10] := ⟨_, rfl⟩
  have A8 : ∀ wx, (Op.stringOp .add ⟨#[50, 10, 10]⟩ (bs mo)).run Tryd.prog wx = .ok (.string (bs pm)) wx := fun wx => by rw [hpm]; exact add_bs [50, 10, 10] mo (by simp; omega) wx
  have A9 : ∀ wx, (Op.stringOp .add (bs pm) ⟨#[100, 10]⟩).run Tryd.prog wx = .ok (.string (bs qm)) wx := fun wx => by rw [hqm]; exact add_bs pm [100, 10] (by rw [hpm]; simp; omega) wx
  rw [← hpm, ← hqm] at HK8'
  clear hpm hqm
  go_wp2_with fail
  refine (unhide HK8' _ hbw12).mono ?_
  rintro e w13 ⟨rfl, hbw13⟩
  have HPI : Hid (Calls Tryd.prog 9 #[.int .i64 at_, .int .i64 3] w13 fun e w' => (∃ d : Nat, d < 3 ∧ e = .returned (.int .i64 d)) ∧ w' = w13) := hide (pickK_any at_ 3 w13 h0 h1 (by decide) (by decide))
  go_wp2_with fail
  refine (unhide HPI).mono ?_
  rintro e w14 ⟨⟨d, hd, rfl⟩, rfl⟩
  have hd3 : d = 0 ∨ d = 1 ∨ d = 2 := by omega
  rcases hd3 with rfl | rfl | rfl
  · have SL : ∀ wx, (Instr.slice 9 (.string ⟨#[50, 10, 10]⟩) none (some (.int .i64 0)) none).run Tryd.prog wx = .ok (.string (bs [])) wx := fun wx => slice_to_bs 9 Tryd.underlying9 [50, 10, 10] 0 0 rfl (by decide) wx
    go_wp2_with fail
    refine (unhide HK9 _ hbw13).mono ?_
    rintro e w15 ⟨rfl, hbw15⟩
    go_wp2
    go_ret
    exact ⟨by simp, hbw15⟩
  · have SL : ∀ wx, (Instr.slice 9 (.string ⟨#[50, 10, 10]⟩) none (some (.int .i64 1)) none).run Tryd.prog wx = .ok (.string (bs [50])) wx := fun wx => slice_to_bs 9 Tryd.underlying9 [50, 10, 10] 1 1 rfl (by decide) wx
    go_wp2_with fail
    refine (unhide HK10 _ hbw13).mono ?_
    rintro e w15 ⟨rfl, hbw15⟩
    go_wp2
    go_ret
    exact ⟨by simp, hbw15⟩
  · have SL : ∀ wx, (Instr.slice 9 (.string ⟨#[50, 10, 10]⟩) none (some (.int .i64 2)) none).run Tryd.prog wx = .ok (.string (bs [50, 10])) wx := fun wx => slice_to_bs 9 Tryd.underlying9 [50, 10, 10] 2 2 rfl (by decide) wx
    go_wp2_with fail
    refine (unhide HK11 _ hbw13).mono ?_
    rintro e w15 ⟨rfl, hbw15⟩
    go_wp2
    go_ret
    exact ⟨by simp, hbw15⟩

end Go.Proofs.YtekkkoipcghlmabDoor
