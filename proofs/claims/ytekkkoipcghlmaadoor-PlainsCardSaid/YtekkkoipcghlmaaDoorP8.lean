import Derived.Test.YtekkkoipcghlmaaDoorP4
import Derived.Test.YtekkkoipcghlmaaDoorSegs
import Derived.Test.YtekkkoipcghlmaaDoorBoxLaw
import Derived.RangeFuncBound
import Derived.RangeFuncCalls
import Derived.RangeFuncLeaves
import Derived.Shelf.Abstract
import Derived.Shelf.RegionOpen
import Derived.OwnWalkIn
import Derived.TacticsInMore
import Derived.LoopNIn
import Derived.LoopIn
import Derived.RangeFuncBox
namespace Go.Proofs.YtekkkoipcghlmaaDoor
open Go.RowKit Go.Shelf
attribute [local go_sem] Oper.semAt_some

/-- How long is the text in a box. -/
def boxLen (w : World) (B : Nat) : Nat :=
  match w.cell? ⟨B, 0, none⟩ with
  | some (.string b) => b.size
  | _ => 0
theorem boxLen_of {w : World} {B : Nat} {b : ByteArray} (h : w.cell? ⟨B, 0, none⟩ = some (.string b)) : boxLen w B = b.size := by
  unfold boxLen; rw [h]

theorem slice_to_bs {P : Program} (t : TypeId) (hu : P.underlying t = some .string) (l : List UInt8) (j : Int) (b : Nat) (hj : j = b) (h2 : b ≤ l.length) (wx : World) :
    (Instr.slice t (.string (bs l)) none (some (.int .i64 j)) none).run P wx = .ok (.string (bs (l.take b))) wx := by
  subst hj
  rw [run_slice_string_to_if wx t (bs l) .i64 b hu, if_pos (by rw [bs_size]; omega)]
  simp only [Int.toNat_natCast, bs_extract]
  simp

set_option maxRecDepth 100000 in
set_option maxHeartbeats 10000000 in
theorem lines1_in (n l Bs : Nat) (s : List UInt8) (hs : s.length ≤ 6000) (J Jx : List (List UInt8 × Bool) → World → Prop)
    (hJs : ∀ p A v, J p A → J p (A.setCell ⟨Bs, 0, none⟩ v)) (hJd : ∀ p A, J p A → J p A.drew)
    (hY : ∀ pre x W, J pre W → pre ++ [x] <+: Sp.segs s → YieldAt Fence.wide (n - 1) Tryd.prog l #[.string (bs (lineOf x.1 x.2))] W fun e W' =>
      (e = .returned (.bool true) ∧ J (pre ++ [x]) W' ∧ W'.heap[Bs]? = W.heap[Bs]?) ∨ (e = .returned (.bool false) ∧ Jx (pre ++ [x]) W'))
    (W : World) (hc : W.cell? ⟨Bs, 0, none⟩ = some (.string (bs s))) (hf : W.frozen? ⟨Bs, 0, none⟩ = false) (h0 : J [] W) :
    CallsIn Fence.wide n Tryd.prog 31 #[.func (.yield l) #[] #[], .pointer (some ⟨Bs, 0, none⟩)] W fun e W' => (∃ v, e = .returned v) ∧
      (J (Sp.segs s) W' ∨ (∃ pre, Jx pre W')) := by
  refine callsIn_of_wp Tryd.func31 rfl trivial ?_ rfl
  simp only [Tryd.ntmps31, List.size_toArray, List.length_cons, List.length_nil, Nat.reduceAdd, Nat.reduceSub, Array.replicate_succ, Array.replicate_zero, List.push_toArray, List.append_toArray, List.nil_append, List.cons_append]
  gi_wp2
  gi_loopw [3] (fun _ wr => ∃ (pre : List (List UInt8 × Bool)) (rest : List UInt8), Hid (pre ++ Sp.segs rest = Sp.segs s) ∧ rest.length ≤ s.length ∧ wr.cell? ⟨Bs, 0, none⟩ = some (.string (bs rest)) ∧ wr.frozen? ⟨Bs, 0, none⟩ = false ∧ Hid (J pre wr))
    (fun _ wr => boxLen wr Bs)
  case atStart =>
    exact ⟨[], s, rfl, Nat.le_refl _, hc, hf, h0⟩
  case round =>
    obtain ⟨pre, rest, HX, hrl, hcell, hfr, HJ⟩ := hrel
    have hsz := bs_size rest
    by_cases hne : rest = []
    · have hz : ¬ (0 : Int) < (rest.length : Int) := by rw [hne]; simp
      have HN := hide hne
      clear hne
      gi_wp2
      go_end0
      refine ⟨⟨_, rfl⟩, .inl ?_⟩
      have hx := unhide HX
      rw [unhide HN] at hx
      rw [← hx]
      simpa [Sp.segs, Sp.segsAux] using unhide HJ
    · have hz : (0 : Int) < (rest.length : Int) := by have := List.length_pos_iff.2 hne; omega
      have HIB := hide (Tryd.strings_IndexByte (bs rest) 10 wr)
      rw [bs_data] at HIB
      rcases Sp.segs_index rest with ⟨hi, hseg⟩ | ⟨i, hi, hil, htk, hseg⟩
      · rw [show (10 : Int).toNat.toUInt8 = 10 from rfl, hi] at HIB
        have HSEG := hide (hseg [] (by simpa using hne))
        have HNE := hide hne
        clear hi hseg hne
        have hJ2 := hide (hJs _ _ (.string ⟨#[]⟩) (unhide HJ))
        have hY1 := hY pre (rest, false) _ (unhide hJ2) (by rw [← unhide HX]; show _ <+: pre ++ Sp.segsAux [] rest; rw [unhide HSEG]; exact ⟨[], by simp⟩)
        obtain ⟨fn, tmps, assign, body, hy, hR⟩ := hY1
        have HR := hide hR
        clear hR hJ2
        simp only [lineOf, Bool.false_eq_true, if_false] at hy
        gi_wp2_with fail
        refine ⟨trivial, fun h => (by cases h), ?_⟩
        refine (callsIn_wide.2 (unhide HIB)).mono ?_
        rintro e w' ⟨rfl, rfl⟩
        gi_wp2
        refine ⟨fun h => (by cases h), ?_⟩
        refine (unhide HR).mono ?_
        rintro e W3 (⟨rfl, hJ3, hk3⟩ | ⟨rfl, hJx3⟩)
        · have hc1 : (w'.setCell ⟨Bs, 0, none⟩ (.string ⟨#[]⟩)).cell? ⟨Bs, 0, none⟩ = some (.string (bs [])) := World.cell?_setCell_same' _ _ _ (by rw [hcell]; rfl)
          have hc3 : W3.cell? ⟨Bs, 0, none⟩ = some (.string (bs [])) := (World.cell?_of_block (a := ⟨Bs, 0, none⟩) hk3).trans hc1
          have hf3 : W3.frozen? ⟨Bs, 0, none⟩ = false := (World.frozen?_of_block (a := ⟨Bs, 0, none⟩) hk3).trans ((World.frozen?_setCell _ _ _ _).trans hfr)
          have HJ3 := hide hJ3
          clear hJ3 hk3 hc1
          gi_wp2
          go_roundw
          case rel => exact ⟨pre ++ [(rest, false)], [], hide (by rw [← unhide HX]; show _ = pre ++ Sp.segsAux [] rest; rw [unhide HSEG]; simp [Sp.segs, Sp.segsAux]), by simp, hc3, hf3, HJ3⟩
          case measure => rw [boxLen_of hc3, boxLen_of hcell, bs_size, bs_size]; simp; omega
        · have HJ3 := hide hJx3
          clear hJx3
          gi_wp2
          refine bodyPost_ret (results_none rfl _ _ _) rfl ?_
          exact ⟨⟨_, rfl⟩, .inr ⟨_, unhide HJ3⟩⟩
      · rw [show (10 : Int).toNat.toUInt8 = 10 from rfl, hi] at HIB
        have HSEG := hide (hseg [])
        clear hi hseg hne
        have hsl1 := fun wx => slice_to_bs (P := Tryd.prog) 9 Tryd.underlying9 rest ((i : Int) + 1) (i + 1) (by omega) (by omega) wx
        have hsl2 := fun wx => slice_from_bs (P := Tryd.prog) 9 Tryd.underlying9 rest ((i : Int) + 1) (i + 1) (by omega) (by omega) wx
        rw [htk] at hsl1
        have hJ2 := hide (hJd _ _ (hJs _ _ (.string (bs (rest.drop (i + 1)))) (unhide HJ)))
        have hY1 := hY pre (rest.take i, true) _ (unhide hJ2) (by rw [← unhide HX]; show _ <+: pre ++ Sp.segsAux [] rest; rw [unhide HSEG]; exact ⟨Sp.segsAux [] (rest.drop (i + 1)), by simp⟩)
        obtain ⟨fn, tmps, assign, body, hy, hR⟩ := hY1
        have HR := hide hR
        clear hR hJ2
        simp only [lineOf, if_true] at hy
        gi_wp2_with fail
        refine ⟨trivial, fun h => (by cases h), ?_⟩
        refine (callsIn_wide.2 (unhide HIB)).mono ?_
        rintro e w' ⟨rfl, rfl⟩
        gi_wp2
        gi_region
        gi_wp2
        refine ⟨fun h => (by cases h), ?_⟩
        refine (unhide HR).mono ?_
        rintro e W3 (⟨rfl, hJ3, hk3⟩ | ⟨rfl, hJx3⟩)
        · have hc1 : (w'.setCell ⟨Bs, 0, none⟩ (.string (bs (rest.drop (i + 1))))).cell? ⟨Bs, 0, none⟩ = some (.string (bs (rest.drop (i + 1)))) := World.cell?_setCell_same' _ _ _ (by rw [hcell]; rfl)
          have hc3 : W3.cell? ⟨Bs, 0, none⟩ = some (.string (bs (rest.drop (i + 1)))) := (World.cell?_of_block (a := ⟨Bs, 0, none⟩) hk3).trans hc1
          have hf3 : W3.frozen? ⟨Bs, 0, none⟩ = false := (World.frozen?_of_block (a := ⟨Bs, 0, none⟩) hk3).trans ((World.frozen?_setCell _ _ _ _).trans hfr)
          have HJ3 := hide hJ3
          clear hJ3 hk3 hc1
          gi_wp2
          go_roundw
          case rel => exact ⟨pre ++ [(rest.take i, true)], (rest.drop (i + 1)), hide (by rw [← unhide HX]; show _ = pre ++ Sp.segsAux [] rest; rw [unhide HSEG]; simp [Sp.segs]), by simp; omega, hc3, hf3, HJ3⟩
          case measure => rw [boxLen_of hc3, boxLen_of hcell, bs_size, bs_size]; simp; omega
        · have HJ3 := hide hJx3
          clear hJx3
          gi_wp2
          refine bodyPost_ret (results_none rfl _ _ _) rfl ?_
          exact ⟨⟨_, rfl⟩, .inr ⟨_, unhide HJ3⟩⟩


end Go.Proofs.YtekkkoipcghlmaaDoor
