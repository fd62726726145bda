import Derived.Test.YtekkkoipcghlmabDoorJ06
import Derived.Test.YtekkkoipcghlmabDoorJ01
import Derived.Test.YtekkkoipcghlmabDoorJ04
import Derived.Test.YtekkkoipcghlmabDoorProg
import Derived.Lib.AtoiAll
import Derived.Lib.ItoaNum
namespace Go.Proofs.YtekkkoipcghlmabDoor
open Go.RowKit

section
variable {P : Program}
theorem append_nothing {ao : Option Addr} {cap : Nat} (t ty e : TypeId) (w : World) {z : Value} {bytes : Nat} (ht : P.underlying t = some (.slice e)) (hinfo : (P.info? e).map (fun i => (i.zero, i.size, i.bytes)) = some (some z, 1, bytes)) :
    (Builtin.append_ #[t, t] ty #[.slice none 0 0, .slice ao 0 cap]).run P w = .ok (.slice none 0 0) w := by
  obtain ⟨i, hi, hz0, hz1, hz2⟩ := info_parts hinfo
  cases ao <;> simp [Builtin.append_, run_underlying ht, sizeOf, typeInfo, hi, Builtin.lenOf, Builtin.firstCells, loadCells, loadCellsFrom]

/-- 'next = append(next, l...)', next nil. -/
theorem append_copy {ops : Array Oper} {rest : List Oper} {o : Oper} {a : Act} {Q : Exit → Act → World → Prop} {w0 wr : World} {base bytes : Nat} {z lv : Value} {vs : List Value}
    (hgd : o.guard = none) (s x : Operand) (t e : TypeId)
    (ho : o.op = .call { callee := .builtin .append, args := #[s, x], argTypes := #[t, t] })
    (ht : P.underlying t = some (.slice e)) (hinfo : (P.info? e).map (fun i => (i.zero, i.size, i.bytes)) = some (some z, 1, bytes)) (hzs : z.cells.size = 1) (hby : bytes ≤ 24)
    (hs : a.eval s = .slice none 0 0) (hx : a.eval x = lv) (hl : Lies wr lv vs) (h1 : ∀ u ∈ vs, u.oneCell' = true)
    (hn : vs.length ≤ 20000000) (hb : base ≤ w0.heap.size) (hbel : Below base w0 wr)
    (h : ∀ v' w', w'.ownsRow base e 1 v' vs.length vs → Below base w0 w' → Below wr.heap.size wr w' → wpList P ops Q rest (a.put o.dst v') w') :
    wpList P ops Q (o :: rest) a wr := by
  have hsz := hbel.size
  rcases hl with ⟨h0, ao, cap, rfl⟩ | ⟨b, off, cap, hp, rfl, hbb, hc⟩
  · subst h0
    refine wpList_plain hgd fun K hK => ?_
    have hr := append_nothing (P := P) (ao := ao) (cap := cap) t o.type e wr ht hinfo
    unfold Oper.wp execOp
    simp only [ho, resolve, invoke, builtin, Sem.run_bind, Sem.run_pure, Result.andThen_ok, List.map_toArray, List.map_cons, List.map_nil, hs, hx, hr]
    exact hK _ _ (h _ _ (World.ownsRow_nil _ _ _ _) hbel (Below.refl _ _))
  · obtain ⟨i0, hi, hz0, hz1, hz2⟩ := info_parts hinfo
    have hnb : (0 + vs.length) * bytes ≤ 140737488355328 := Nat.le_trans (Nat.mul_le_mul (show 0 + vs.length ≤ 20000000 by omega) hby) (by omega)
    refine wpList_append_own _ hgd s x t ho base e i0 z 1 bytes ht hi hz0 hz1 hz2 hzs (by decide) (.slice none 0 0) 0 [] hs (World.ownsRow_nil _ _ _ _) ⟨b, off, none⟩ vs.length cap vs hx (by omega) (fun j u hu => by rw [Addr.add_lit]; exact hc j u hu) h1 (by unfold maxLen; omega) hnb (by omega) ?_
    intro v' w' ho' hg _
    have hbw : ∀ {n : Nat} {v0 : World}, n ≤ v0.heap.size → Below n v0 wr → Below n v0 w' := fun hle hbl => hbl.grown hg (by have := hbl.size; omega) (fun j hj => by cases hj)
    exact h v' w' (by simpa using ho') (hbw hb hbel) (hbw (Nat.le_refl _) (Below.refl _ _))
end

namespace Sp
/-- Lines with their ends. -/
def flag (e : Bool) : List (List UInt8) → List (List UInt8 × Bool)
  | [] => []
  | [x] => [(x, e)]
  | x :: y :: r => (x, true) :: flag e (y :: r)
theorem segs_flag (r : List UInt8) : ∀ cur, segsAux cur r = flag (endAux cur r) (linesAux cur r) := by
  induction r with
  | nil =>
    intro cur
    unfold segsAux linesAux endAux
    by_cases hc : cur = []
    · simp [hc, flag]
    · have : cur.isEmpty = false := by simpa using hc
      simp [hc, flag]
  | cons c r ih =>
    intro cur
    unfold segsAux linesAux endAux
    by_cases hc : c = 10
    · rw [if_pos hc, if_pos hc, if_pos hc, ih]
      cases hl : linesAux [] r with
      | nil => rw [lines_nil r [] hl]; rfl
      | cons y t => rfl
    · rw [if_neg hc, if_neg hc, if_neg hc]; exact ih _
theorem flag_len (e : Bool) : ∀ L, (flag e L).length = L.length
  | [] => rfl
  | [_] => rfl
  | _ :: y :: r => by simp [flag, flag_len e (y :: r)]
theorem flag_step (e : Bool) : ∀ (L : List (List UInt8)) (k : Nat) (h : k < L.length), (flag e L).drop k = (L[k], e || !decide (k + 1 = L.length)) :: (flag e L).drop (k + 1)
  | [], _, h => by simp at h
  | [x], k, h => by
    have : k = 0 := by simp at h; exact h
    subst this; simp [flag]
  | x :: y :: r, 0, h => by simp [flag]
  | x :: y :: r, k + 1, h => by
    have := flag_step e (y :: r) k (by simpa using h)
    simp only [flag, List.drop_succ_cons, List.getElem_cons_succ, List.length_cons] at this ⊢
    rw [this]
    congr 3
    simp

theorem wordsAux_head (l : List UInt8) : ∀ cur, ∃ t rest, wordsAux cur l = (cur ++ t) :: rest := by
  induction l with
  | nil => intro cur; exact ⟨[], [], by simp [wordsAux]⟩
  | cons c r ih =>
    intro cur
    unfold wordsAux
    split
    · exact ⟨[], wordsAux [] r, by simp⟩
    · obtain ⟨t, rest, h⟩ := ih (cur ++ [c])
      exact ⟨c :: t, rest, by rw [h]; simp⟩

/-- The four ways of a line. -/
theorem step_other {y : List UInt8} (h : ∀ r, y ≠ 100 :: r) : stepOf y = (false, words y) := by
  unfold stepOf
  split
  · rename_i w0 r hw
    have hne : w0 ≠ [100] := by
      rintro rfl
      match y, h, hw with
      | [], _, hw => simp [words] at hw
      | c :: q, h, hw =>
        have hc : c ≠ 100 := fun e => h q (by rw [e])
        unfold words at hw
        rw [if_neg (by simp)] at hw
        unfold wordsAux at hw
        split at hw
        · simp at hw
        · obtain ⟨t, rest, ht⟩ := wordsAux_head q ([] ++ [c])
          rw [ht] at hw
          simp at hw
          exact hc hw.1.1
    rw [if_neg hne, hw]
  · rename_i hw; rw [hw]
theorem step_d : stepOf [100] = (true, []) := by decide
theorem step_go (r : List UInt8) : stepOf (100 :: 32 :: r) = (true, wordsAux [] r) ∧ words (100 :: 32 :: r) = [100] :: wordsAux [] r := by
  have : words (100 :: 32 :: r) = [100] :: wordsAux [] r := by
    unfold words; rw [if_neg (by simp)]
    simp [wordsAux]
  refine ⟨?_, this⟩
  unfold stepOf
  rw [this]
  simp
theorem step_bad (c : UInt8) (r : List UInt8) (hc : c ≠ 32) (b : Bool) : stepOk (100 :: c :: r, b) = false := by
  obtain ⟨t, rest, ht⟩ := wordsAux_head r ([] ++ [100] ++ [c])
  have hw : words (100 :: c :: r) = (100 :: c :: t) :: rest := by
    unfold words; rw [if_neg (by simp)]
    have h1 : wordsAux [] (100 :: c :: r) = wordsAux ([] ++ [100] ++ [c]) r := by
      rw [wordsAux, if_neg (by decide), wordsAux, if_neg hc]
    rw [h1, ht]; simp
  unfold stepOk stepOf
  simp only [hw]
  rw [if_neg (by simp)]
  have hl : lit (100 :: c :: t) = 0 := by
    unfold lit
    simp only
    rw [if_neg (by decide)]
    unfold num
    split
    · rename_i h; simp at h
    · rename_i a b' h
      simp at h
      obtain ⟨rfl, -, -⟩ := h
      rw [if_neg (fun h' => absurd h'.1 (by decide))]
    · rfl
  simp [hl]
end Sp

theorem stepMask_lt (y : List UInt8) : Sp.stepMask y < 2 ^ 24 := Sp.maskOf_lt _ fun x hx => by
  obtain ⟨s, _, rfl⟩ := List.mem_map.1 hx
  exact Sp.lit_bd s

theorem lies_tail {w : World} {n cap : Nat} {x : Value} {xs : List Value} {b off : Nat} (h : Lies w (.slice (some ⟨b, off, none⟩) n cap) (x :: xs)) (c' : Nat) : Lies w (.slice (some ⟨b, off + 1, none⟩) xs.length c') xs := by
  rcases h with ⟨h0, _⟩ | ⟨b', off', cap', hp, hv, hlt, hc⟩
  · cases h0
  · simp at hv
    obtain ⟨⟨rfl, rfl⟩, -, rfl⟩ := hv
    by_cases h0 : xs = []
    · subst h0; exact .inl ⟨rfl, _, _, rfl⟩
    · exact .inr ⟨b, off + 1, c', List.length_pos_iff.2 h0, rfl, hlt, fun k y hy => by
        have := hc (k + 1) y (by simpa using hy)
        rwa [show off + 1 + k = off + (k + 1) from by omega]⟩

theorem owns_pos {w : World} {base : Nat} {e : TypeId} {v : Value} {n : Nat} {xs : List Value} (h : w.ownsRow base e 1 v n xs) (hn : 0 < n) : ∃ g cap, v = .slice (some ⟨g, 0, none⟩) n cap := by
  rcases h.2 with ⟨h', h0⟩ | ⟨g, cap, cur, h1, _⟩
  · omega
  · exact ⟨_, _, h1⟩
theorem words_pos (c : UInt8) (r : List UInt8) : 0 < (Sp.words (c :: r)).length := by
  unfold Sp.words; rw [if_neg (by simp)]
  obtain ⟨t, rest, h⟩ := Sp.wordsAux_head (c :: r) []
  rw [h]; simp

theorem tail_slice {w : World} {base n : Nat} {v : Value} {y : List UInt8} {ys : List (List UInt8)} (h : w.ownsRow base 9 1 v n (strs (y :: ys))) :
    ∃ (g cap : Nat) (vt : Value), v = .slice (some ⟨g, 0, none⟩) n cap ∧ (∀ wx, (Instr.slice 43 (.slice (some ⟨g, 0, none⟩) n cap) (some (.int .i64 1)) none none).run Tryd.prog wx = .ok vt wx) ∧ Lies w vt (strs ys) := by
  have hn : n = ys.length + 1 := by have := h.1; simp [strs] at this; omega
  have hl := lies_of_owns h (by simp [strs]; omega)
  obtain ⟨g, cap, rfl⟩ := owns_pos h (by omega)
  refine ⟨g, cap, sliced (some ⟨g, 0, none⟩) 1 n cap 1, rfl, fun wx => ?_, ?_⟩
  · rw [run_slice_l (P := Tryd.prog) wx 43 (some ⟨g, 0, none⟩) n cap (by kernel_rfl) .i64 1 (by omega) (by omega)]
    have : (sizeOf (Tryd.prog.elem 43)).run Tryd.prog wx = .ok 1 wx := by
      rw [show Tryd.prog.elem 43 = 9 from by kernel_rfl]
      obtain ⟨i, hi, hz0, hz1, hz2⟩ := info_parts Tryd.infoStr
      simp [sizeOf, typeInfo, hi, hz1]
    rw [this]
    rfl
  · unfold sliced
    rw [show n - 1 = (strs ys).length from by simp [strs]; omega]
    by_cases hc : cap = 1
    · rw [if_pos hc]
      have h0 : ys = [] := by
        rcases h.2 with ⟨h', _⟩ | ⟨g', cap', cur, h', _, _, hle, _⟩
        · cases h'
        · simp at h'
          exact List.length_eq_zero_iff.1 (by omega)
      subst h0
      exact .inl ⟨rfl, _, _, rfl⟩
    · rw [if_neg hc]
      exact lies_tail (b := g) (off := 0) hl _

/-- What Shows hands back. -/
def ShowRes (L : List Nat) (s : List UInt8) (w : World) (e : Ending) (w' : World) : Prop := ∃ r : Int × Int, e = .returned (.tuple #[.int .i64 r.1, .int .i64 r.2]) ∧ Sp.Outcome L 0 (Sp.segs s) r ∧ Below w.heap.size w w'

def StillSo (L : List Nat) (S : List (List UInt8 × Bool)) (M : List Nat) (k : Nat) : Prop := ∀ r, Sp.Outcome M k (S.drop k) r → Sp.Outcome L 0 S r
def Small (M : List Nat) : Prop := ∀ c, c ∈ M → c < 2 ^ 24
theorem Small.erase {M : List Nat} (h : Small M) (m : Nat) : Small (M.erase m) := fun c hc => h c (List.mem_of_mem_erase hc)
theorem Small.snoc {M : List Nat} (h : Small M) {m : Nat} (hm : m < 2 ^ 24) : Small (M ++ [m]) := fun c hc => by
  rcases List.mem_append.1 hc with hc | hc
  · exact h c hc
  · simp at hc; subst hc; exact hm

section
variable {L M : List Nat} {S : List (List UInt8 × Bool)} {k : Nat} {x : List UInt8 × Bool} (h : StillSo L S M k) (hd : S.drop k = x :: S.drop (k + 1))
include h hd
theorem still_bad (hx : Sp.stepOk x = false) : Sp.Outcome L 0 S (6, (k : Int) + 1) := h _ (by rw [hd]; exact .inl ⟨hx, rfl⟩)
theorem still_lost (hx : Sp.stepOk x = true) (hg : (Sp.stepOf x.1).1 = true) (hm : Sp.stepMask x.1 ∉ M) : Sp.Outcome L 0 S (7, (k : Int) + 1) := h _ (by rw [hd]; exact .inr ⟨hx, .inl ⟨hg, .inr ⟨hm, rfl⟩⟩⟩)
theorem still_gone (hx : Sp.stepOk x = true) (hg : (Sp.stepOf x.1).1 = true) (hm : Sp.stepMask x.1 ∈ M) : StillSo L S (M.erase (Sp.stepMask x.1)) (k + 1) := fun r hr => h _ (by rw [hd]; exact .inr ⟨hx, .inl ⟨hg, .inl ⟨hm, hr⟩⟩⟩)
theorem still_step (hx : Sp.stepOk x = true) (hg : (Sp.stepOf x.1).1 = false) (hm : ¬ Sp.Fol M (Sp.stepMask x.1)) : Sp.Outcome L 0 S (8, (k : Int) + 1) := h _ (by rw [hd]; exact .inr ⟨hx, .inr ⟨hg, .inr ⟨hm, rfl⟩⟩⟩)
theorem still_more (hx : Sp.stepOk x = true) (hg : (Sp.stepOf x.1).1 = false) (hm : Sp.Fol M (Sp.stepMask x.1)) : StillSo L S (M ++ [Sp.stepMask x.1]) (k + 1) := fun r hr => h _ (by rw [hd]; exact .inr ⟨hx, .inr ⟨hg, .inl ⟨hm, hr⟩⟩⟩)
end

/-- The ways of a line, as the walk asks. -/
theorem line_ways (x : List UInt8) :
    (∃ (h0 : 0 < (bs x).size) (h1 : 1 < (bs x).size), (bs x).toList.isEmpty = false ∧ ((((bs x)[0]'h0).toNat : Int) == 100) = true ∧ ((((bs x)[1]'h1).toNat : Int) == 32) = false ∧ (∃ y ys, Sp.words x = y :: ys) ∧ ∀ b, Sp.stepOk (x, b) = false) ∨
    (Sp.stepOf x = (false, Sp.words x) ∧ ((bs x).toList.isEmpty = true ∨ ∃ (h0 : 0 < (bs x).size), (bs x).toList.isEmpty = false ∧ ((((bs x)[0]'h0).toNat : Int) == 100) = false)) ∨
    (∃ (h0 : 0 < (bs x).size) (ys : List (List UInt8)), (bs x).toList.isEmpty = false ∧ ((((bs x)[0]'h0).toNat : Int) == 100) = true ∧ Sp.words x = [100] :: ys ∧ Sp.stepOf x = (true, ys) ∧ ((bs x).size = 1 ∨ ∃ (h1 : 1 < (bs x).size), ((((bs x)[1]'h1).toNat : Int) == 32) = true)) := by
  have hsz := bs_size x
  rcases x with _ | ⟨c, r⟩
  · exact .inr (.inl ⟨Sp.step_other (by simp), .inl (by rw [bs_toList]; rfl)⟩)
  · have h0 : 0 < (bs (c :: r)).size := by rw [hsz]; simp
    have hg0 : (bs (c :: r))[0] = c := bs_get (l := c :: r) (k := 0) (by simp)
    have hemp : (bs (c :: r)).toList.isEmpty = false := bs_nonempty (by simp)
    by_cases hc : c = 100
    · subst hc
      have hq : ((((bs (100 :: r))[0]'h0).toNat : Int) == 100) = true := by rw [hg0]; rfl
      rcases r with _ | ⟨c, r⟩
      · exact .inr (.inr ⟨h0, [], hemp, hq, by decide, Sp.step_d, .inl (by rw [hsz]; rfl)⟩)
      · have h1 : 1 < (bs (100 :: c :: r)).size := by rw [hsz]; simp
        have hg1 : (bs (100 :: c :: r))[1] = c := bs_get (l := 100 :: c :: r) (k := 1) (by simp)
        by_cases hc : c = 32
        · subst hc
          exact .inr (.inr ⟨h0, _, hemp, hq, (Sp.step_go r).2, (Sp.step_go r).1, .inr ⟨h1, by rw [hg1]; rfl⟩⟩)
        · refine .inl ⟨h0, h1, hemp, hq, by rw [hg1]; exact byte_ne (by decide) hc, ?_, fun b => Sp.step_bad c r hc b⟩
          unfold Sp.words; rw [if_neg (by simp)]
          obtain ⟨t, rest, h⟩ := Sp.wordsAux_head (100 :: c :: r) []
          exact ⟨_, _, h⟩
    · exact .inr (.inl ⟨Sp.step_other (fun q hq => hc (by simpa using (List.cons.inj hq).1)), .inr ⟨h0, hemp, by rw [hg0]; exact byte_ne (by decide) hc⟩⟩)

/-- A clause's numbers, out of its words. -/
theorem clause_lits {x : List UInt8} {ws : List (List UInt8)} {g : Bool} (h : Sp.stepOf x = (g, ws)) (hok : allLit ws = true) : Sp.sorted (ws.map Sp.lit) = Sp.litsOf (Sp.stepMask x) := by
  unfold Sp.stepMask
  rw [h, Sp.litsOf_maskOf]
  intro y hy
  obtain ⟨z, hz, rfl⟩ := List.mem_map.1 hy
  have := List.all_eq_true.1 hok z hz
  simpa using this
theorem step_ok {x : List UInt8} {ws : List (List UInt8)} {g : Bool} (h : Sp.stepOf x = (g, ws)) (b : Bool) : Sp.stepOk (x, b) = (allLit ws && b) := by
  unfold Sp.stepOk; rw [h]; rfl

end Go.Proofs.YtekkkoipcghlmabDoor

namespace Go.Proofs.YtekkkoipcghlmabDoor
open Go.RowKit

theorem pow_plus (n : Int) (h1 : 1 ≤ n) (h2 : n ≤ 12) : (2 : Int) ^ (2 * (n - 1)).toNat % 4294967296 = (Sp.bit n : Int) := by
  have : n = 1 ∨ n = 2 ∨ n = 3 ∨ n = 4 ∨ n = 5 ∨ n = 6 ∨ n = 7 ∨ n = 8 ∨ n = 9 ∨ n = 10 ∨ n = 11 ∨ n = 12 := by omega
  rcases this with rfl | rfl | rfl | rfl | rfl | rfl | rfl | rfl | rfl | rfl | rfl | rfl <;> decide
theorem pow_minus (n : Int) (h1 : -12 ≤ n) (h2 : n ≤ -1) : (2 : Int) * 2 ^ (2 * (-n - 1)).toNat % 4294967296 = (Sp.bit n : Int) := by
  have : n = -1 ∨ n = -2 ∨ n = -3 ∨ n = -4 ∨ n = -5 ∨ n = -6 ∨ n = -7 ∨ n = -8 ∨ n = -9 ∨ n = -10 ∨ n = -11 ∨ n = -12 := by omega
  rcases this with rfl | rfl | rfl | rfl | rfl | rfl | rfl | rfl | rfl | rfl | rfl | rfl <;> decide

theorem ret_bit {a b : Int} (h : a = b) : Ending.returned (.tuple #[.int .u32 a, .bool true]) = .returned (.tuple #[.int .u32 b, .bool true]) := by rw [h]

set_option maxRecDepth 100000 in
set_option maxHeartbeats 400000 in
theorem of_yes (n : Int) (w : World) (h1 : -12 ≤ n) (h2 : n ≤ 12) (h0 : n ≠ 0) :
    Calls Tryd.prog 41 #[.int .i64 n] w fun e w' => e = .returned (.tuple #[.int .u32 (Sp.bit n : Int), .bool true]) ∧ w' = w := by
  by_cases hp : 0 < n
  · have h1' : 1 ≤ n := by omega
    have HP := hide (pow_plus n h1' h2)
    go_enter Tryd.func41, Tryd.ntmps41
    go_wp2
    go_ret2
    exact ⟨ret_bit (unhide HP), rfl⟩
  · have h1' : n ≤ -1 := by omega
    have HP := hide (pow_minus n h1 h1')
    go_enter Tryd.func41, Tryd.ntmps41
    go_wp2
    go_ret2
    exact ⟨ret_bit (unhide HP), rfl⟩

set_option maxRecDepth 100000 in
set_option maxHeartbeats 400000 in
theorem of_no (n : Int) (w : World) (h1 : n = 0 ∨ n < -12 ∨ 12 < n) :
    Calls Tryd.prog 41 #[.int .i64 n] w fun e w' => e = .returned (.tuple #[.int .u32 0, .bool false]) ∧ w' = w := by
  rcases h1 with rfl | h | h
  · go_enter Tryd.func41, Tryd.ntmps41
    go_wp2
    go_ret2
    exact ⟨rfl, rfl⟩
  · go_enter Tryd.func41, Tryd.ntmps41
    go_wp2
    go_ret2
    exact ⟨rfl, rfl⟩
  · go_enter Tryd.func41, Tryd.ntmps41
    go_wp2
    go_ret2
    exact ⟨rfl, rfl⟩

end Go.Proofs.YtekkkoipcghlmabDoor

namespace Go.Proofs.YtekkkoipcghlmabDoor.Sp

theorem dec12 (u : Nat) (h1 : 1 ≤ u) (h2 : u ≤ 12) : Lib.decDigits u = digs u := by
  by_cases h : u < 10
  · rw [Lib.decDigits, dif_pos h, digs, if_pos h]
  · rw [Lib.decDigits, dif_neg h, Lib.decDigits, dif_pos (by omega), digs, if_neg h, show u / 10 = 1 from by omega, show 48 + u % 10 = 38 + u from by omega]; rfl
theorem itoa_lw (x : Int) (h0 : x ≠ 0) (h1 : -12 ≤ x) (h2 : x ≤ 12) : Lib.itoa x = lw x := by
  unfold Lib.itoa lw
  split
  · rw [dec12 _ (by omega) (by omega)]
  · rw [dec12 _ (by omega) (by omega), show x.toNat = x.natAbs from by omega]

theorem all24 (p : Int → Prop) (h : ∀ k : Fin 12, p ((k.val : Int) + 1) ∧ p (-((k.val : Int) + 1))) (x : Int) (h0 : x ≠ 0) (h1 : -12 ≤ x) (h2 : x ≤ 12) : p x := by
  by_cases hp : 0 < x
  · have := (h ⟨(x - 1).toNat, by omega⟩).1
    simp only at this
    rwa [show (((x - 1).toNat : Nat) : Int) + 1 = x from by omega] at this
  · have := (h ⟨(-x - 1).toNat, by omega⟩).2
    simp only at this
    rwa [show -((((-x - 1).toNat : Nat) : Int) + 1) = x from by omega] at this

theorem lit_lw (x : Int) (h0 : x ≠ 0) (h1 : -12 ≤ x) (h2 : x ≤ 12) : lit (lw x) = x := all24 (fun x => lit (lw x) = x) (by decide) x h0 h1 h2
theorem atoi_lw (x : Int) (h0 : x ≠ 0) (h1 : -12 ≤ x) (h2 : x ≤ 12) : Lib.atoiAll (lw x) = .ok x := all24 (fun x => Lib.atoiAll (lw x) = .ok x) (by decide) x h0 h1 h2

theorem num_digs (r : List UInt8) (h : num r ≠ 0) : r = digs (num r).toNat := by
  unfold num at h ⊢
  split at h
  · rename_i a
    split at h
    · rename_i hh
      simp only [hh, and_self, if_true]
      rw [digs, if_pos (by omega)]
      congr 1
      apply UInt8.toNat_inj.1
      rw [UInt8.toNat_ofNat']
      omega
    · exact absurd rfl h
  · rename_i a b
    split at h
    · rename_i hh
      simp only [hh, and_self, if_true]
      rw [digs, if_neg (by omega)]
      congr 1
      · apply UInt8.toNat_inj.1
        rw [hh.1]; rfl
      · congr 1
        apply UInt8.toNat_inj.1
        rw [UInt8.toNat_ofNat']
        omega
    · exact absurd rfl h
  · exact absurd rfl h

theorem lw_lit (s : List UInt8) (h : lit s ≠ 0) : s = lw (lit s) := by
  rcases s with _ | ⟨a, r⟩
  · exact absurd rfl h
  · have hb := num_bd r
    have hb2 := num_bd (a :: r)
    unfold lit at h ⊢
    simp only at h ⊢
    split at h
    · rename_i ha
      subst ha
      simp only [if_true]
      have hn : num r ≠ 0 := by omega
      unfold lw
      rw [if_pos (by omega), show (-num r).natAbs = (num r).toNat from by omega, ← num_digs r hn]
    · rename_i ha
      rw [if_neg ha]
      unfold lw
      rw [if_neg (by omega), show (num (a :: r)).natAbs = (num (a :: r)).toNat from by omega]
      exact num_digs (a :: r) h

/-- What fromWord hands back, by how Atoi ends. -/
theorem fromWord_ok (s : List UInt8) (v : Int) (h : Lib.atoiAll s = .ok v) (hi : Lib.itoa v = s) : lit s = if -12 ≤ v ∧ v ≤ 12 then v else 0 := by
  split
  · rename_i hr
    by_cases h0 : v = 0
    · subst h0
      rw [← hi]
      show lit (Lib.itoa 0) = 0
      unfold Lib.itoa
      rw [if_neg (by omega), Lib.decDigits, dif_pos (by decide)]
      decide
    · rw [← hi, itoa_lw v h0 hr.1 hr.2, lit_lw v h0 hr.1 hr.2]
  · rename_i hr
    by_cases h0 : lit s = 0
    · exact h0
    · exfalso
      have hb := lit_bd s
      have := lw_lit s h0
      have ha := atoi_lw (lit s) h0 hb.1 hb.2
      rw [← this, h] at ha
      injection ha with ha
      exact hr (by omega)
theorem fromWord_other (s : List UInt8) (v : Int) (h : Lib.atoiAll s = .ok v) (hi : ¬ Lib.itoa v = s) : lit s = 0 := by
  by_cases h0 : lit s = 0
  · exact h0
  · exfalso
    have hb := lit_bd s
    have hs := lw_lit s h0
    have ha := atoi_lw (lit s) h0 hb.1 hb.2
    rw [← hs, h] at ha
    injection ha with ha
    rw [ha, itoa_lw _ h0 hb.1 hb.2] at hi
    exact hi hs.symm
theorem fromWord_bad (s : List UInt8) (h : ∀ v, Lib.atoiAll s ≠ .ok v) : lit s = 0 := by
  by_cases h0 : lit s = 0
  · exact h0
  · exfalso
    have hb := lit_bd s
    have hs := lw_lit s h0
    have ha := atoi_lw (lit s) h0 hb.1 hb.2
    rw [← hs] at ha
    exact h _ ha

end Go.Proofs.YtekkkoipcghlmabDoor.Sp
