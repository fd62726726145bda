import Derived.Test.YtekkkoipcghlmaaGreatDoorJ10
import Derived.Test.YtekkkoipcghlmaaGreatDoorJ11
import Derived.Test.YtekkkoipcghlmaaGreatDoorJ01
import Derived.Lib.SplitLaws
namespace Go.Proofs.YtekkkoipcghlmaaGreatDoor
open Go.RowKit

set_option maxRecDepth 100000 in
theorem clausesX_any (base x : Nat) (kv : Value) (ms : List Nat) (w : World) (pv : Value) (pb : List UInt8) (hX : XAt base w x kv ms pv pb) (hms : ms.length ≤ 10000000) (hsm : ∀ m, m ∈ ms → m < 2 ^ 24) (he : Env w) :
    Calls Tryz.prog 27 #[.pointer (some ⟨x, 0, none⟩)] w fun e w' => e = .returned (.string (bs (maskText ms))) ∧ Below w.heap.size w w' := by
  have HP := hide (clausePlain_any kv ms w hms hsm (lies_of_owns hX.row (by simp [us])) he)
  have hc0 : w.cell? ⟨x, 0, none⟩ = some kv := by simp [World.cell?, hX.block]
  obtain ⟨ao, cp, hsh⟩ := owns_shape hX.row
  subst hsh
  clear hX
  go_enter Tryz.func27, Tryz.ntmps27
  go_wp2_with fail
  refine (unhide HP).mono ?_
  rintro e w1 ⟨rfl, hb1⟩
  go_wp2
  go_ret
  exact ⟨rfl, hb1⟩

theorem maskText_take (ms : List Nat) (k : Nat) (h : k < ms.length) : maskText (ms.take (k + 1)) = maskText (ms.take k) ++ Sp.told (Sp.litsOf ms[k]) := by
  rw [List.take_succ_eq_append_getElem h, maskText_snoc]

set_option maxRecDepth 100000 in
set_option maxHeartbeats 800000 in
theorem clausesY_any (base y : Nat) (lv : Value) (vs : List Value) (ms : List Nat) (w : World) (hY : YAt base w y lv vs ms) (hms : ms.length ≤ 10000000) :
    Calls Tryz.prog 57 #[.pointer (some ⟨y, 0, none⟩)] w fun e w' => e = .returned (.string (bs (maskText ms))) ∧ Below w.heap.size w w' := by
  have hc0 : w.cell? ⟨y, 0, none⟩ = some lv := by simp [World.cell?, hY.block]
  have hylt := lt_of_block hY.block
  obtain ⟨ao, cp, hsh⟩ := owns_shape hY.row
  subst hsh
  have HY := hide hY
  clear hY
  go_enter Tryz.func57, Tryz.ntmps57
  go_wp2
  go_loopw [3, 4] (fun o i wr => ∃ k : Nat, k ≤ ms.length ∧ i = .int .i64 k ∧ o = .string (bs (maskText (ms.take k))) ∧ Below w.heap.size w wr) (fun _ i _ => ms.length - (intOf i).toNat)
  case atStart => exact ⟨0, Nat.zero_le _, rfl, rfl, Below.refl _ _⟩
  case round =>
    obtain ⟨k, hk, rfl, rfl, hbel⟩ := hrel
    have hcw : wr.cell? ⟨y, 0, none⟩ = some (.slice ao ms.length cp) := (hbel.cell (p := ⟨y, 0, none⟩) hylt).trans hc0
    by_cases hlt : k < ms.length
    · obtain ⟨g, cp0, x, ao', cp', e1, hcx, e2, hlx⟩ := ((unhide HY).below hbel).pick hlt
      simp only [Value.slice.injEq] at e1
      obtain ⟨rfl, -, rfl⟩ := e1
      have hml := maskText_len (ms.take k)
      have hml2 : (ms.take k).length ≤ k := List.length_take_le _ _
      have HS := hide (maskText_take ms k hlt)
      have htl := maskTold_len ms[k]
      have HTO := hide (told_any x (Sp.litsOf ms[k]) wr (Nat.le_trans (litsOf_len24 _) (by decide)) (litsOf_bd ms[k]) hlx)
      have hadd : ∀ wx, (Op.stringOp .add (bs (maskText (ms.take k))) (bs (Sp.told (Sp.litsOf ms[k])))).run Tryz.prog wx = .ok (.string (bs (maskText (ms.take k) ++ Sp.told (Sp.litsOf ms[k])))) wx := fun wx => add_bs _ _ (by omega) wx
      subst e2
      clear hlx
      generalize Sp.told (Sp.litsOf ms[k]) = tl at *
      generalize (Sp.litsOf ms[k]).length = lk at *
      generalize maskText (ms.take k) = mt at *
      go_wp2_with fail
      refine (unhide HTO).mono ?_
      rintro e w1 ⟨rfl, hb1⟩
      go_wp2
      go_roundw
      case rel => exact ⟨k + 1, by omega, by go_num, by rw [unhide HS], hbel.trans (hb1.mono hbel.size)⟩
      case measure => simp [intOf]; omega
    · have HT : Hid (ms.take k = ms) := hide (List.take_of_length_le (by omega))
      go_wp2
      go_ret
      exact ⟨by rw [unhide HT]; rfl, hbel⟩

set_option maxRecDepth 100000 in
theorem looks_any (B : Nat) (w : World) (hc : w.cell? ⟨B, 1, none⟩ = some (.slice none 0 0)) :
    Calls Tryz.prog 36 #[.pointer (some ⟨B, 1, none⟩)] w fun e w' => e = .returned (.bool true) ∧ w' = w := by
  go_enter Tryz.func36, Tryz.ntmps36
  go_wp2
  refine wp_loop_rounds 1 ?_
  rw [rounds_succ]
  go_wp2
  go_ret
  exact ⟨rfl, rfl⟩

set_option maxRecDepth 100000 in
theorem resetX_any (base x : Nat) (kv : Value) (ms : List Nat) (w : World) (pv : Value) (pb : List UInt8) (hX : XAt base w x kv ms pv pb) :
    Calls Tryz.prog 26 #[.pointer (some ⟨x, 0, none⟩)] w fun e w' => e = .returned (.tuple #[]) ∧ XAt base w' x (.slice none 0 0) [] (.slice none 0 0) [] ∧ Only (· = x) w w' := by
  have hc0 : w.cell? ⟨x, 0, none⟩ = some kv := by simp [World.cell?, hX.block]
  have hc1 : w.cell? ⟨x, 1, none⟩ = some (.int .i64 (sizes ms : Int)) := by simp [World.cell?, hX.block]
  have hf0 : w.frozen? ⟨x, 0, none⟩ = false := frozen_of_row w _ _ _ _ hX.block
  have hf1 : w.frozen? ⟨x, 1, none⟩ = false := frozen_of_row w _ _ _ _ hX.block
  have hc2 : w.cell? ⟨x, 2, none⟩ = some pv := by simp [World.cell?, hX.block]
  have hf2 : w.frozen? ⟨x, 2, none⟩ = false := frozen_of_row w _ _ _ _ hX.block
  have HX := hide hX
  clear hX
  go_enter Tryz.func26, Tryz.ntmps26
  go_wp2
  go_end0
  have h0 := heap_setCell_same w x 0 _ _ (.slice none 0 0) (unhide HX).block
  have h1 := heap_setCell_same _ x 1 _ _ (.int .i64 0) h0
  have h2 := heap_setCell_same _ x 2 _ _ (.slice none 0 0) h1
  exact ⟨rfl, ⟨by rw [h2]; rfl, (unhide HX).le, World.ownsRow_nil _ _ _ _, World.ownsRow_nil _ _ _ _⟩, (Only.setCell (F := (· = x)) (p := ⟨x, 0, none⟩) rfl _ _).trans ((Only.setCell (F := (· = x)) (p := ⟨x, 1, none⟩) rfl _ _).trans (Only.setCell (F := (· = x)) (p := ⟨x, 2, none⟩) rfl _ _))⟩

end Go.Proofs.YtekkkoipcghlmaaGreatDoor

namespace Go.Proofs.YtekkkoipcghlmaaGreatDoor
open Go.RowKit

theorem rows_differ {w : World} {b1 b2 n m s1 s2 : Nat} {e1 e2 : TypeId} {x y : Value} {xs ys : List Value} (he : e1 ≠ e2) (hx : w.ownsRow b1 e1 s1 x n xs) (hy : w.ownsRow b2 e2 s2 y m ys) {g : Nat} (h1 : x.ownBlock = some g) (h2 : y.ownBlock = some g) : False := by
  rcases hy.2 with ⟨hv, _⟩ | ⟨g', cap, cur, hv, _, hg, _⟩
  · rw [hv] at h2; cases h2
  · rw [hv] at h2
    simp [Value.ownBlock] at h2
    subst h2
    exact row_ne hx hg (Ne.symm he) h1

theorem YAt.overX {pv : Value} {pb : List UInt8} {base : Nat} {w w' : World} {x y : Nat} {kv lv : Value} {vs : List Value} {ms ms' : List Nat} (hY : YAt base w y lv vs ms') (hX : XAt base w x kv ms pv pb) (ho : Only (XF x kv) w w') : YAt base w' y lv vs ms' := by
  have hyx : y ≠ x := by intro e; subst e; have := hX.block.symm.trans hY.block; simp at this
  refine ⟨(ho.block y (lt_of_block hY.block) (fun h => h.elim hyx (row_ne hX.row hY.block (by decide)))).trans hY.block, hY.le, owns_at hY.row (fun g hg => ho.block g (hY.row.lt g hg).2 (fun h => h.elim (fun e => row_ne hY.row hX.block (by decide) (by rw [← e]; exact hg)) (fun e => rows_differ (by decide) hX.row hY.row e hg))), hY.rows.1, fun i r c hr hc => ?_⟩
  have hrow := hY.rows.2 i r c hr hc
  exact owns_at hrow (fun g hg => ho.block g (hrow.lt g hg).2 (fun h => h.elim (fun e => row_ne hrow hX.block (by decide) (by rw [← e]; exact hg)) (fun e => rows_differ (by decide) hX.row hrow e hg)))
theorem XAt.overY {pv : Value} {pb : List UInt8} {base : Nat} {w w' : World} {x y : Nat} {kv lv : Value} {vs : List Value} {ms ms' : List Nat} (hX : XAt base w x kv ms pv pb) (hY : YAt base w y lv vs ms') (ho : Only (YF y lv) w w') : XAt base w' x kv ms pv pb := by
  have hyx : x ≠ y := by intro e; subst e; have := hX.block.symm.trans hY.block; simp at this
  exact ⟨(ho.block x (lt_of_block hX.block) (fun h => h.elim hyx (row_ne hY.row hX.block (by decide)))).trans hX.block, hX.le, owns_at hX.row (fun g hg => ho.block g (hX.row.lt g hg).2 (fun h => h.elim (fun e => row_ne hX.row hY.block (by decide) (by rw [← e]; exact hg)) (fun e => rows_differ (by decide) hX.row hY.row hg e))), owns_at hX.prow (fun g hg => ho.block g (hX.prow.lt g hg).2 (fun h => h.elim (fun e => row_ne hX.prow hY.block (by decide) (by rw [← e]; exact hg)) (fun e => rows_differ (by decide) hX.prow hY.row hg e)))⟩
theorem XAt.overG {pv : Value} {pb : List UInt8} {base : Nat} {w w' : World} {x g : Nat} {kv : Value} {ms : List Nat} (hX : XAt base w x kv ms pv pb) (ho : Only (· = g) w w') (h1 : x ≠ g) (h2 : kv.ownBlock ≠ some g) (h3 : pv.ownBlock ≠ some g) : XAt base w' x kv ms pv pb :=
  ⟨(ho.block x (lt_of_block hX.block) h1).trans hX.block, hX.le, owns_at hX.row (fun k hk => ho.block k (hX.row.lt k hk).2 (fun e => h2 (by rw [← e]; exact hk))), owns_at hX.prow (fun k hk => ho.block k (hX.prow.lt k hk).2 (fun e => h3 (by rw [← e]; exact hk)))⟩
theorem YAt.overG {base : Nat} {w w' : World} {y g : Nat} {lv : Value} {vs : List Value} {ms : List Nat} (hY : YAt base w y lv vs ms) (ho : Only (· = g) w w') (h1 : y ≠ g) (h2 : lv.ownBlock ≠ some g) (h3 : ∀ v, v ∈ vs → v.ownBlock ≠ some g) : YAt base w' y lv vs ms :=
  ⟨(ho.block y (lt_of_block hY.block) h1).trans hY.block, hY.le, owns_at hY.row (fun k hk => ho.block k (hY.row.lt k hk).2 (fun e => h2 (by rw [← e]; exact hk))), hY.rows.1, fun i r c hr hc =>
    owns_at (hY.rows.2 i r c hr hc) (fun k hk => ho.block k ((hY.rows.2 i r c hr hc).lt k hk).2 (fun e => h3 r (List.mem_of_getElem? hr) (by rw [← e]; exact hk)))⟩
theorem lies_only {F : Nat → Prop} {w w' : World} {v : Value} {vs : List Value} (h : Lies w v vs) (ho : Only F w w') (hn : vs ≠ [] → ∀ g, v.ownBlock = some g → g < w.heap.size → ¬ F g) : Lies w' v vs := by
  rcases h with h | ⟨b, off, cap, hp, rfl, hb, hc⟩
  · exact .inl h
  · exact .inr ⟨b, off, cap, hp, rfl, Nat.lt_of_lt_of_le hb ho.size, fun k x hx => (World.cell?_of_block (w := w) (a := ⟨b, off + k, none⟩) (ho.block b hb (hn (List.length_pos_iff.1 hp) b rfl hb))).trans (hc k x hx)⟩

/-- A step's value. -/
def opVal (kind a b : Int) (s t : List UInt8) (v : Value) : Value := .agg #[.int .i64 kind, .int .i64 a, .int .i64 b, .string (bs s), .string (bs t), v]

/-- What a step on a side comes to. -/
def StepOk (base B n L : Nat) (w w' : World) : Prop := WAt base w' B n L ∧ Below base w w'

end Go.Proofs.YtekkkoipcghlmaaGreatDoor

namespace Go.Proofs.YtekkkoipcghlmaaGreatDoor
open Go.RowKit

theorem words_index (x : List UInt8) : (Lib.index x [32] = -1 ∧ ∀ cur, Sp.wordsAux cur x = [cur ++ x]) ∨
    ∃ i : Nat, Lib.index x [32] = i ∧ i < x.length ∧ ∀ cur, Sp.wordsAux cur x = (cur ++ x.take i) :: Sp.wordsAux [] (x.drop (i + 1)) := by
  induction x with
  | nil => exact .inl ⟨rfl, fun cur => by simp [Sp.wordsAux]⟩
  | cons b l ih =>
    by_cases hb : b = 32
    · subst hb
      exact .inr ⟨0, by simp [Lib.index], by simp, fun cur => by simp [Sp.wordsAux]⟩
    · have hp : ([32] : List UInt8).isPrefixOf (b :: l) = false := by
        simp [List.isPrefixOf]; exact fun h => hb h.symm
      rcases ih with ⟨h1, h2⟩ | ⟨i, h1, h2, h3⟩
      · refine .inl ⟨by unfold Lib.index; rw [hp, h1]; rfl, fun cur => ?_⟩
        unfold Sp.wordsAux
        rw [if_neg hb, h2]
        simp
      · refine .inr ⟨i + 1, ?_, by simp; omega, fun cur => ?_⟩
        · unfold Lib.index
          rw [hp, h1]
          have : ((i : Int) == -1) = false := by rw [beq_eq_false_iff_ne]; omega
          simp [this]
        · conv => lhs; unfold Sp.wordsAux
          rw [if_neg hb, h3]
          simp

theorem indexB_bs (x y : List UInt8) : Lib.indexB (bs x) (bs y) = Lib.index x y := by
  show Lib.index (bs x).data.toList (bs y).data.toList = _
  simp [bs]

theorem split_bs : ∀ (n : Nat) (x : List UInt8), x.length ≤ n → Lib.splitB (bs [32]) 0 (Lib.countB (bs x) (bs [32])) (bs x) = (Sp.wordsAux [] x).map bs := by
  intro n
  have h1 : 1 ≤ (bs [32]).size := by rw [bs_size]; simp
  have hz : (bs [32]).size = 1 := by rw [bs_size]; simp
  induction n with
  | zero =>
    intro x hx
    have : x = [] := List.length_eq_zero_iff.1 (by omega)
    subst this
    have hi : Lib.indexB (bs []) (bs [32]) = -1 := by rw [indexB_bs]; rfl
    rw [Lib.countB_miss _ _ hi, Lib.splitB_miss _ _ _ _ hi]; rfl
  | succ n ih =>
    intro x hx
    rcases words_index x with ⟨h2, h3⟩ | ⟨i, h2, h3, h4⟩
    · have hi : Lib.indexB (bs x) (bs [32]) = -1 := by rw [indexB_bs]; exact h2
      rw [Lib.splitB_miss _ _ _ _ hi, h3]
      simp
    · have hi : Lib.indexB (bs x) (bs [32]) = i := by rw [indexB_bs]; exact h2
      have hcut : (bs x).extract (i + 1) (bs x).size = bs (x.drop (i + 1)) := by
        rw [bs_extract, bs_size, List.take_of_length_le (by simp)]
      rw [Lib.countB_hit _ _ i h1 hi, hz, hcut, Nat.add_comm 1]
      unfold Lib.splitB
      have : ((i : Int) == -1) = false := by rw [beq_eq_false_iff_ne]; omega
      rw [hi, this]
      simp only [Bool.false_eq_true, if_false, Int.toNat_natCast, Nat.add_zero, hz]
      rw [hcut, ih _ (by simp; omega), h4, bs_extract]
      simp

end Go.Proofs.YtekkkoipcghlmaaGreatDoor
