import Derived.Test.YtekkkoipcghlmabGreatDoorD41
import Derived.Test.YtekkkoipcghlmabGreatDoorD39
import Derived.Test.YtekkkoipcghlmabGreatDoorD36
import Derived.Test.YtekkkoipcghlmabGreatDoorD35
import Derived.Test.YtekkkoipcghlmabGreatDoorD34
import Derived.Test.YtekkkoipcghlmabGreatDoorD03
import Derived.Deep.AppendLies
import Derived.ArgAppend
set_option linter.all false
namespace Go.Proofs.YtekkkoipcghlmabGreatDoor
open Go.RowKit

set_option maxRecDepth 100000 in
set_option maxHeartbeats 10000000 in
theorem proof_all (s t : List UInt8) (w : World) (hs2 : s.length ≤ 9223372036854775807) (ht2 : t.length ≤ 9223372036854775807) (he : Env w) :
    Calls Tryz.prog 34 #[.string (bs s), .string (bs t)] w fun e W => CheckRes s t w e W := by
  have hszt := bs_size t
  have hbA : Below w.heap.size w ((w.alloc (.cells #[.int .i64 0] 29)).alloc (.cells #[.int .i64 0] 3)) := ((Below.refl _ w).alloc (Nat.le_refl _) _).alloc (by simp) _
  have hsA : ((w.alloc (.cells #[.int .i64 0] 29)).alloc (.cells #[.int .i64 0] 3)).heap.size = w.heap.size + 2 := by simp
  have e0 := (Boxed.new w 29 (.int .i64 0)).alloc (.cells #[.int .i64 0] 3)
  have e1 := Boxed.new (w.alloc (.cells #[.int .i64 0] 29)) 3 (.int .i64 0)
  simp only [World.size_alloc] at e1
  have HBO : Hid (∀ W1, Below ((w.alloc (.cells #[.int .i64 0] 29)).alloc (.cells #[.int .i64 0] 3)).heap.size ((w.alloc (.cells #[.int .i64 0] 29)).alloc (.cells #[.int .i64 0] 3)) W1 → Boxed W1 w.heap.size 29 (.int .i64 0) ∧ Boxed W1 (w.heap.size + 1) 3 (.int .i64 0) ∧ Below w.heap.size w W1) :=
    hide (fun W1 hb => ⟨(hb.block _ (by rw [hsA]; omega)).trans e0, (hb.block _ (by rw [hsA]; omega)).trans e1, hbA.trans (hb.mono (by rw [hsA]; omega))⟩)
  have early : ∀ (er : Int) (k : Int) (v : Value), er ≠ 0 → CheckOut s t (er, k) →
      (Calls Tryz.prog 36 #[.string (bs s)] ((w.alloc (.cells #[.int .i64 0] 29)).alloc (.cells #[.int .i64 0] 3)) fun e W => Below ((w.alloc (.cells #[.int .i64 0] 29)).alloc (.cells #[.int .i64 0] 3)).heap.size ((w.alloc (.cells #[.int .i64 0] 29)).alloc (.cells #[.int .i64 0] 3)) W ∧ e = .returned (.tuple #[v, .int .i64 er, .int .i64 k])) →
      Calls Tryz.prog 34 #[.string (bs s), .string (bs t)] w fun e W => CheckRes s t w e W := by
    intro er k v hne hco hrd
    have HCO := hide hco
    have HRD := hide hrd
    have hq : (er == (0 : Int)) = false := by rw [beq_eq_false_iff_ne]; exact hne
    clear hco hrd hne e0 e1 hbA hsA
    go_enter Tryz.func34, Tryz.ntmps34
    go_wp2_with fail
    refine (unhide HRD).mono ?_
    rintro e W1 ⟨hb1, rfl⟩
    obtain ⟨b0, b1, b2⟩ := unhide HBO W1 hb1
    have hr0 : W1.cell? ⟨w.heap.size, 0, none⟩ = some (.int .i64 0) := b0.cell
    have hf0 : W1.frozen? ⟨w.heap.size, 0, none⟩ = false := b0.frozen
    have hr1 : W1.cell? ⟨w.heap.size + 1, 0, none⟩ = some (.int .i64 0) := b1.cell
    have hf1 : W1.frozen? ⟨w.heap.size + 1, 0, none⟩ = false := b1.frozen
    have a0 : Boxed (W1.setCell ⟨w.heap.size, 0, none⟩ (.int .i64 er)) w.heap.size 29 (.int .i64 er) := b0.set _
    have a1 : Boxed (W1.setCell ⟨w.heap.size, 0, none⟩ (.int .i64 er)) (w.heap.size + 1) 3 (.int .i64 0) := (Below.heap_setCell W1 _ _ _ (by simp)).trans b1
    have k0 : ((W1.setCell ⟨w.heap.size, 0, none⟩ (.int .i64 er)).setCell ⟨w.heap.size + 1, 0, none⟩ (.int .i64 k)).cell? ⟨w.heap.size, 0, none⟩ = some (.int .i64 er) := Boxed.cell (t := 29) ((Below.heap_setCell _ _ _ _ (by simp)).trans a0)
    have k1 : ((W1.setCell ⟨w.heap.size, 0, none⟩ (.int .i64 er)).setCell ⟨w.heap.size + 1, 0, none⟩ (.int .i64 k)).cell? ⟨w.heap.size + 1, 0, none⟩ = some (.int .i64 k) := (a1.set _).cell
    have HPB : Hid (Below w.heap.size w ((W1.setCell ⟨w.heap.size, 0, none⟩ (.int .i64 er)).setCell ⟨w.heap.size + 1, 0, none⟩ (.int .i64 k))) := hide ((b2.setCell (p := ⟨w.heap.size, 0, none⟩) (by simp) _).setCell (p := ⟨w.heap.size + 1, 0, none⟩) (by simp) _)
    have HK0 := hide k0
    have HK1 := hide k1
    clear b0 b1 b2 a0 a1 k0 k1
    go_wp2
    have k0 := unhide HK0
    have k1 := unhide HK1
    refine bodyPost_ret (v := .tuple #[.int .i64 er, .int .i64 k]) (by simp [results, Tryz.results34, go_sem, k0, k1]) rfl ?_
    exact ⟨(er, k), rfl, unhide HCO, unhide HPB⟩
  by_cases hs : 6000 < s.length
  · exact early 4 0 _ (by decide) (.inl ⟨hs, rfl⟩) (read_long s _ hs hs2)
  · cases hn : Sp.scanSegs 0 (Sp.segs s) with
    | some n =>
      refine early 5 n (.slice none 0 0) (by decide) (.inr ⟨by omega, .inl ⟨n, hn, rfl⟩⟩) ((read_any s _ (by omega) (he.below hbA)).mono ?_)
      rintro e W ⟨hb, ⟨k, hk, rfl⟩ | ⟨hk, _⟩⟩
      · rw [hn] at hk; cases hk; exact ⟨hb, rfl⟩
      · rw [hn] at hk; cases hk
    | none =>
      by_cases ht : 6000 < t.length
      · have HRD := hide (read_any s _ (by omega) (he.below hbA))
        have HN := hide hn
        clear e0 e1 hbA hsA hn early
        go_enter Tryz.func34, Tryz.ntmps34
        go_wp2_with fail
        refine (unhide HRD).mono ?_
        rintro e W1 ⟨hb1, ⟨k, hk, rfl⟩ | ⟨-, v, rfl, -⟩⟩
        · exfalso; rw [unhide HN] at hk; cases hk
        obtain ⟨b0, b1, b2⟩ := unhide HBO W1 hb1
        have hr0 : W1.cell? ⟨w.heap.size, 0, none⟩ = some (.int .i64 0) := b0.cell
        have hf0 : W1.frozen? ⟨w.heap.size, 0, none⟩ = false := b0.frozen
        have hr1 : W1.cell? ⟨w.heap.size + 1, 0, none⟩ = some (.int .i64 0) := b1.cell
        have hf1 : W1.frozen? ⟨w.heap.size + 1, 0, none⟩ = false := b1.frozen
        have a0 : Boxed (W1.setCell ⟨w.heap.size, 0, none⟩ (.int .i64 4)) w.heap.size 29 (.int .i64 4) := b0.set _
        have a1 : Boxed (W1.setCell ⟨w.heap.size, 0, none⟩ (.int .i64 4)) (w.heap.size + 1) 3 (.int .i64 0) := (Below.heap_setCell W1 _ _ _ (by simp)).trans b1
        have k0 : ((W1.setCell ⟨w.heap.size, 0, none⟩ (.int .i64 4)).setCell ⟨w.heap.size + 1, 0, none⟩ (.int .i64 0)).cell? ⟨w.heap.size, 0, none⟩ = some (.int .i64 4) := Boxed.cell (t := 29) ((Below.heap_setCell _ _ _ _ (by simp)).trans a0)
        have k1 : ((W1.setCell ⟨w.heap.size, 0, none⟩ (.int .i64 4)).setCell ⟨w.heap.size + 1, 0, none⟩ (.int .i64 0)).cell? ⟨w.heap.size + 1, 0, none⟩ = some (.int .i64 0) := (a1.set _).cell
        have HPB : Hid (Below w.heap.size w ((W1.setCell ⟨w.heap.size, 0, none⟩ (.int .i64 4)).setCell ⟨w.heap.size + 1, 0, none⟩ (.int .i64 0))) := hide ((b2.setCell (p := ⟨w.heap.size, 0, none⟩) (by simp) _).setCell (p := ⟨w.heap.size + 1, 0, none⟩) (by simp) _)
        have HK0 := hide k0
        have HK1 := hide k1
        clear b0 b1 b2 a0 a1 k0 k1
        go_wp2
        have k0 := unhide HK0
        have k1 := unhide HK1
        refine bodyPost_ret (v := .tuple #[.int .i64 4, .int .i64 0]) (by simp [results, Tryz.results34, go_sem, k0, k1]) rfl ?_
        exact ⟨(4, 0), rfl, .inr ⟨by omega, .inr ⟨unhide HN, .inl ⟨ht, rfl⟩⟩⟩, unhide HPB⟩
      · exact proof_any s t w (by omega) (by omega) hn he

set_option maxRecDepth 100000 in
theorem checkGo_any (s t : List UInt8) (w : World) (hs2 : s.length ≤ 9223372036854775807) (ht2 : t.length ≤ 9223372036854775807) (he : Env w) :
    Calls Tryz.prog 17 #[.string (bs s), .string (bs t)] w fun e W => CheckRes s t w e W := by
  have HP := hide (proof_all s t w hs2 ht2 he)
  go_enter Tryz.func17, Tryz.ntmps17
  go_wp2_with fail
  refine (unhide HP).mono ?_
  rintro e w1 ⟨⟨a, b⟩, rfl, ho, hb1⟩
  have HO := hide ho
  clear ho
  go_wp2
  go_ret2
  exact ⟨(a, b), rfl, unhide HO, hb1⟩

end Go.Proofs.YtekkkoipcghlmabGreatDoor

namespace Go.Proofs.YtekkkoipcghlmabGreatDoor
open Go.RowKit

theorem checkK {s t : List UInt8} {r : Int × Int} (w : World) (h : CheckOut s t r) (hs : s.length ≤ 9223372036854775807) (ht : t.length ≤ 9223372036854775807) (he : Env w) :
    Calls Tryz.prog 17 #[.string (bs s), .string (bs t)] w fun e w' => e = .returned (.tuple #[.int .i64 r.1, .int .i64 r.2]) ∧ Below w.heap.size w w' := by
  refine (checkGo_any s t w hs ht he).mono ?_
  rintro e w' ⟨r', rfl, h', hb⟩
  rw [CheckOut.unique h' h]
  exact ⟨rfl, hb⟩

end Go.Proofs.YtekkkoipcghlmabGreatDoor

namespace Go.Proofs.YtekkkoipcghlmabGreatDoor
open Go.RowKit

set_option maxRecDepth 100000 in
set_option maxHeartbeats 800000 in
theorem textK_any (ov : Value) (vs : List Value) (l : List (List Int)) (base : Nat) (w : World) (hrow : w.ownsRow base 22 1 ov l.length vs) (hrows : RowsAt w base vs l) (hl : l.length ≤ 1000) (hall : ∀ d, d ∈ l → (∀ x, x ∈ d → x ≠ 0 ∧ -12 ≤ x ∧ x ≤ 12) ∧ d.length ≤ 100) (hlen : (Sp.textOf l).length ≤ 1000000) (he : EnvT w) :
    Calls Tryz.prog 20 #[ov] w fun e w' => e = .returned (.string (bs (Sp.textOf l))) ∧ Below w.heap.size w w' := by
  obtain ⟨oo, oc, hsh⟩ := owns_shape hrow
  subst hsh
  have HR := hide hrow
  have HS := hide hrows
  clear hrow hrows
  go_enter Tryz.func20, Tryz.ntmps20
  go_wp2
  go_loopw [3, 4] (fun s i wr => ∃ k : Nat, k ≤ l.length ∧ i = .int .i64 k ∧ s = .string (bs (Sp.textOf (l.take k))) ∧ Below w.heap.size w wr) (fun _ i _ => l.length - (intOf i).toNat)
  case atStart => exact ⟨0, Nat.zero_le _, rfl, rfl, Below.refl _ _⟩
  case round =>
    obtain ⟨k, hk, rfl, rfl, hbel⟩ := hrel
    have hpart : (Sp.textOf (l.take k)).length ≤ (Sp.textOf l).length := by
      have : Sp.textOf l = Sp.textOf (l.take k) ++ Sp.textOf (l.drop k) := by unfold Sp.textOf; rw [← List.flatMap_append, List.take_append_drop]
      rw [this]; simp
    by_cases hlt : k < l.length
    · have hvl : vs.length = l.length := (unhide HS).1
      have hr := (unhide HS).2 k vs[k] l[k] (by simp [hvl, hlt]) (by simp [hlt])
      obtain ⟨ao, cp', hxs⟩ := owns_shape hr
      have hlies := lies_of_owns hr (by simp [ints])
      have hrow := unhide HR
      rcases hrow.2 with ⟨_, h0⟩ | ⟨g, cp, cur, e1, _⟩
      · omega
      · simp only [Value.slice.injEq] at e1
        obtain ⟨rfl, -, rfl⟩ := e1
        have hglt := (hrow.lt g rfl).2
        have hcell : wr.cell? ⟨g, k, none⟩ = some vs[k] := (hbel.cell (p := ⟨g, k, none⟩) hglt).trans (by rw [hrow.cellAt k (by omega)]; simp [hvl, hlt])
        obtain ⟨ha1, ha2⟩ := hall l[k] (List.getElem_mem hlt)
        have HLN := hide (lineK_any vs[k] l[k] wr ha2 ha1 (hlies.below hbel) (he.below hbel))
        have HT : Hid (Sp.textOf (l.take (k + 1)) = Sp.textOf (l.take k) ++ Sp.told l[k]) := hide (by rw [List.take_succ_eq_append_getElem hlt]; unfold Sp.textOf; rw [List.flatMap_append]; simp)
        have htl : (Sp.told l[k]).length ≤ 401 := by
          have := toldBody_len l[k]
          simp [Sp.told]; omega
        have hadd : ∀ wx, (Op.stringOp .add (bs (Sp.textOf (l.take k))) (bs (Sp.told l[k]))).run Tryz.prog wx = .ok (.string (bs (Sp.textOf (l.take k) ++ Sp.told l[k]))) wx := fun wx => add_bs _ _ (by omega) wx
        rw [hxs] at hcell HLN
        clear hr hlies hrow hxs hall
        generalize Sp.told l[k] = tl at *
        generalize Sp.textOf (l.take k) = tx at *
        generalize l[k].length = lk at *
        go_wp2_with fail
        refine (unhide HLN).mono ?_
        rintro e w1 ⟨rfl, hb1⟩
        go_wp2
        go_roundw
        case rel => exact ⟨k + 1, by omega, by go_num, by rw [unhide HT], hbel.trans (hb1.mono hbel.size)⟩
        case measure => simp [intOf]; omega
    · have HT : Hid (l.take k = l) := hide (List.take_of_length_le (by omega))
      go_wp2
      go_ret
      exact ⟨by rw [unhide HT]; rfl, hbel⟩

theorem told3 (d : List Int) (h : d.length ≤ 3) : (Sp.told d).length ≤ 13 := by
  have := toldBody_len d
  simp [Sp.told]; omega
theorem text_len (l : List (List Int)) (h : ∀ d, d ∈ l → d.length ≤ 3) : (Sp.textOf l).length ≤ 13 * l.length := by
  induction l with
  | nil => simp [Sp.textOf]
  | cons d l ih =>
    have h1 := ih (fun e he => h e (List.mem_cons_of_mem _ he))
    have h2 := told3 d (h d (by simp))
    simp only [Sp.textOf, List.flatMap_cons, List.length_append, List.length_cons] at h1 ⊢
    omega

end Go.Proofs.YtekkkoipcghlmabGreatDoor

namespace Go.Proofs.YtekkkoipcghlmabGreatDoor
open Go.RowKit

def NotAdd (t : TypeId) : Prop := t ≠ 57 ∧ t ≠ 59
theorem KeptT.add {base x : Nat} {kv pv : Value} {ms : List Nat} {pb : List UInt8} {w w' : World} (hX : XAt base w x kv ms pv pb) (ho : Only (XF x kv) w w') : KeptT NotAdd w w' := fun k cs t fz ht hk => ho.block k (lt_of_block hk) (fun hf => by
  rcases hf with rfl | hf
  · rw [hX.block] at hk
    cases hk
    exact ht.1 rfl
  · exact row_ne hX.row hk ht.2 hf)
theorem Only.added {base x : Nat} {kv pv : Value} {ms : List Nat} {pb : List UInt8} {w w' : World} (hX : XAt base w x kv ms pv pb) (ho : Only (XF x kv) w w') : Below base w w' := ho.below (fun k hk => by
  rcases hk with rfl | hk
  · exact hX.le
  · exact (hX.row.lt k hk).1) (by have := hX.le; have := lt_of_block hX.block; omega)

end Go.Proofs.YtekkkoipcghlmabGreatDoor

namespace Go.Proofs.YtekkkoipcghlmabGreatDoor
open Go.ChangeShapes Go.WideShapes Go.ChangeAt Go.RowKit Go.Deep

theorem Tryz.laidOutS : laidOutB Tryz.prog = true := by kernel_rfl
theorem wf_bdS {n : Int} (h : (Lit.int .i64 n).wf = true) : -9223372036854775808 ≤ n ∧ n ≤ 9223372036854775807 := by
  have h1 : IntKind.i64.min = -9223372036854775808 := by decide
  have h2 : IntKind.i64.max = 9223372036854775807 := by decide
  simp only [Lit.wf, Bool.and_eq_true, decide_eq_true_eq] at h
  rw [h1, h2] at h
  exact h

/-- A list of numbers, out of its reading. -/
theorem ints_read {H : Type} {enc : TypeId × Value → H} {W : World} {base n : Nat} {spare : Nat → Bool} {held : Bool} {a0 : Option Addr} {l0 c0 : Nat} {y : DataW H × List MemPlace}
    (h : DataW.trod enc Tryz.prog W base spare held n 22 (Value.slice a0 l0 c0).cells.toList = some y) : ∃ xs : List Int, Lies W (.slice a0 l0 c0) (ints xs) ∧ Fits xs ∧ xs.length ≤ 9223372036854775807 := by
  rcases open_slice1 Tryz.underlying22 Tryz.cellsInt h with ⟨hcs, hx⟩ | ⟨a, len, cap, m, n', V, D, Pl, hcs, hab, hl, hm, hmm, hx, hel⟩
  · simp [Value.cells] at hcs
    obtain ⟨rfl, rfl, rfl⟩ := hcs
    exact ⟨[], Lies.nil _, fun z hz => (by cases hz), by simp⟩
  · simp [Value.cells] at hcs
    obtain ⟨rfl, rfl, rfl⟩ := hcs
    have hlm : l0 ≤ m := by rw [hmm]; split <;> omega
    have hV : ∀ i, i < l0 → V i = .int .i64 (intOf (V i)) ∧ (-9223372036854775808 ≤ intOf (V i) ∧ intOf (V i) ≤ 9223372036854775807) := fun i hi => by
      obtain ⟨_, ht⟩ := hel i (by omega)
      obtain ⟨q, e0, _, hw⟩ := DataW.trod_int Tryz.underlying3 ht
      simp at e0; rw [e0]
      exact ⟨rfl, wf_bdS hw⟩
    refine ⟨(List.range l0).map (fun i => intOf (V i)), ?_, fun z hz => ?_, by unfold maxLen at hm; simp; omega⟩
    · by_cases h0 : l0 = 0
      · subst h0; exact .inl ⟨rfl, _, _, rfl⟩
      · obtain ⟨b, off, spot⟩ := a
        have cz := (hel 0 (by omega)).1
        have hspot : spot = none := by simpa [Addr.add] using World.cell?_spot cz
        subst hspot
        have hb : b < W.heap.size := by simpa [Addr.add] using World.block_lt_of_cell? W _ cz
        refine .inr ⟨b, off, c0, by simp [ints]; omega, by simp [ints], hb, fun k x hk => ?_⟩
        have hkl : k < l0 := by
          have := (List.getElem?_eq_some_iff.1 hk).1
          simpa [ints] using this
        have hxk : x = .int .i64 (intOf (V k)) := by
          simp [ints, hkl] at hk; exact hk.symm
        have hc := (hel k (by omega)).1
        rw [show (⟨b, off, none⟩ : Addr).add k = ⟨b, off + k, none⟩ from by simp [Addr.add]] at hc
        rw [hc, hxk, ← (hV k hkl).1]
    · obtain ⟨i, hi, rfl⟩ := List.mem_map.1 hz
      exact (hV i (by simpa using hi)).2

/-- A list of numbers that is handed in. -/
structure ArgL (w : World) (v : Value) (zs : List Int) : Prop where
  lies : Lies w v (ints zs)
  fits : Fits zs
  len : zs.length ≤ 9223372036854775807
def ArgI (n : Int) : Prop := -9223372036854775808 ≤ n ∧ n ≤ 9223372036854775807
theorem arg_read {H : Type} {enc : TypeId × Value → H} {W : World} {base n : Nat} {spare : Nat → Bool} {held : Bool} {a0 : Option Addr} {l0 c0 : Nat} {y : DataW H × List MemPlace}
    (h : DataW.trod enc Tryz.prog W base spare held n 22 (Value.slice a0 l0 c0).cells.toList = some y) : ∃ xs : List Int, ArgL W (.slice a0 l0 c0) xs := by
  obtain ⟨xs, h1, h2, h3⟩ := ints_read h
  exact ⟨xs, h1, h2, h3⟩

end Go.Proofs.YtekkkoipcghlmabGreatDoor
