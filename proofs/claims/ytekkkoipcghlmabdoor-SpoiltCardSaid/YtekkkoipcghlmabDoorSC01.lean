import Derived.WalkKit
import Derived.Deep.QuietTactic
import Derived.BigQuiet
import Derived.WalkSpells
import Derived.WalkLawsBesides
import Derived.Lib.Strings
import Derived.Maps.AppendAt
import Derived.Test.YtekkkoipcghlmabDoorProg
import Derived.Lib.TrailingZeros
import Derived.Lib.AtoiAll
import Derived.Lib.ItoaNum
import Derived.Test.YtekkkoipcghlmabDoorShelf
import Derived.Lib.Join
import Derived.Deep.AppendLies
import Derived.Deep.RegionWith
set_option linter.all false
namespace Go.Proofs.YtekkkoipcghlmabDoor
open Go.RowKit

theorem hide {p : Prop} (h : p) : Hid p := h
theorem unhide {p : Prop} (h : Hid p) : p := h

/-- A slice value that reads as these one-cell values. -/
def Lies (w : World) (v : Value) (vs : List Value) : Prop :=
  (vs = [] ∧ ∃ ao cap, v = .slice ao 0 cap) ∨
  (∃ b off cap, 0 < vs.length ∧ v = .slice (some ⟨b, off, none⟩) vs.length cap ∧ b < w.heap.size ∧ ∀ k x, vs[k]? = some x → w.cell? ⟨b, off + k, none⟩ = some x)

theorem Lies.below {w w' : World} {v : Value} {vs : List Value} (h : Lies w v vs) (hb : Below w.heap.size w w') : Lies w' v vs := by
  rcases h with h | ⟨b, off, cap, hp, hv, hlt, hc⟩
  · exact .inl h
  · exact .inr ⟨b, off, cap, hp, hv, Nat.lt_of_lt_of_le hlt hb.size, fun k x hx => (hb.cell (p := ⟨b, off + k, none⟩) hlt).trans (hc k x hx)⟩

theorem Lies.nil (w : World) : Lies w (.slice none 0 0) [] := .inl ⟨rfl, _, _, rfl⟩

theorem lies_of_owns {w : World} {base : Nat} {e : TypeId} {v : Value} {n : Nat} {xs : List Value} (h : w.ownsRow base e 1 v n xs) (hn : xs.length = n) : Lies w v xs := by
  by_cases h0 : n = 0
  · subst h0
    have hx : xs = [] := List.length_eq_zero_iff.1 hn
    refine .inl ⟨hx, ?_⟩
    rcases h.2 with ⟨hv, _⟩ | ⟨g, cap, cur, hv, _⟩
    · exact ⟨_, _, hv⟩
    · exact ⟨_, _, hv⟩
  · obtain ⟨m, rfl⟩ : ∃ m, n = m + 1 := ⟨n - 1, by omega⟩
    have hlt := h.lt
    obtain ⟨g, cap, rfl⟩ : ∃ g cap, v = .slice (some ⟨g, 0, none⟩) (m + 1) cap := by
      rcases h.2 with ⟨hv, hx⟩ | ⟨g, cap, cur, hv, _⟩
      · omega
      · exact ⟨g, cap, hv⟩
    refine .inr ⟨g, 0, cap, by omega, by rw [hn], (hlt g rfl).2, fun k x hx => ?_⟩
    have hk : k < xs.length := by
      rcases Nat.lt_or_ge k xs.length with h | h
      · exact h
      · rw [List.getElem?_eq_none h] at hx; cases hx
    have := h.cellAt k (by omega)
    rw [Nat.zero_add, this, hx]

def bs (l : List UInt8) : ByteArray := ⟨l.toArray⟩
def ints (xs : List Int) : List Value := xs.map (Value.int .i64)
def strs (ss : List (List UInt8)) : List Value := ss.map (fun l => Value.string (bs l))
/-- Masks as cells. -/
def us (ms : List Nat) : List Value := ms.map (fun (m : Nat) => Value.int .u32 (m : Int))
theorem bs_size (l : List UInt8) : (bs l).size = l.length := by show l.toArray.size = l.length; simp
theorem bs_toList (l : List UInt8) : (bs l).toList = l := by
  rw [Go.ByteArray.toList_eq]; simp [bs]
theorem bs_extract (l : List UInt8) (a b : Nat) : (bs l).extract a b = bs ((l.drop a).take (b - a)) := by
  unfold bs; rw [ByteArray.extract_mk]
theorem bs_append (a b : List UInt8) : bs a ++ bs b = bs (a ++ b) := by
  unfold bs; apply ByteArray.ext; simp
theorem bs_nonempty {l : List UInt8} (h : l ≠ []) : (bs l).toList.isEmpty = false := by
  rw [bs_toList]; simpa using h

theorem grown_of_below {w w' : World} (h : Below w.heap.size w w') : w.grownBy w' none := ⟨h.os, h.tape, h.output, h.size, fun k hk _ => h.block k hk⟩
theorem owns_shape {w : World} {base : Nat} {e : TypeId} {v : Value} {n : Nat} {xs : List Value} (h : w.ownsRow base e 1 v n xs) : ∃ ao c, v = .slice ao n c := by
  rcases h.2 with ⟨h', h0⟩ | ⟨g, cap, cur, h1, _⟩
  · subst h0; exact ⟨_, _, h'⟩
  · exact ⟨_, _, h1⟩
theorem owns_below {w w' : World} {base : Nat} {e : TypeId} {v : Value} {n : Nat} {xs : List Value} (h : w.ownsRow base e 1 v n xs) (hb : Below w.heap.size w w') : w'.ownsRow base e 1 v n xs := by
  refine h.kept (grown_of_below hb) ?_
  cases hv : v.ownBlock with
  | none => exact .inl rfl
  | some g => exact .inr (by simp)
/-- Rows of two element types lie apart. -/
theorem rows_apart {w : World} {b1 b2 n m : Nat} {e1 e2 : TypeId} {x y : Value} {xs ys : List Value} (he : e1 ≠ e2) (hx : w.ownsRow b1 e1 1 x n xs) (hy : w.ownsRow b2 e2 1 y m ys) : x.ownBlock = none ∨ x.ownBlock ≠ y.ownBlock := by
  rcases hx.2 with ⟨rfl, _⟩ | ⟨g, cap, cur, rfl, _, hg, _⟩
  · exact .inl rfl
  · rcases hy.2 with ⟨rfl, _⟩ | ⟨g', cap', cur', rfl, _, hg', _⟩
    · exact .inr (by simp [Value.ownBlock])
    · refine .inr (fun h => ?_)
      simp only [Value.ownBlock, Option.some.injEq] at h
      subst h
      rw [hg] at hg'
      simp only [Option.some.injEq, Obj.cells.injEq] at hg'
      exact he hg'.2.1

section
variable {P : Program}
theorem slice_from_bs (t : TypeId) (hu : P.underlying t = some .string) (l : List UInt8) (i : Int) (a : Nat) (hi : i = a) (h2 : a ≤ l.length) (wx : World) :
    (Instr.slice t (.string (bs l)) (some (.int .i64 i)) none none).run P wx = .ok (.string (bs (l.drop a))) wx := by
  subst hi
  rw [run_slice_string_from_if wx t (bs l) .i64 a hu, if_pos (by rw [bs_size]; omega)]
  simp only [Int.toNat_natCast, bs_size, bs_extract]
  rw [List.take_of_length_le (by simp)]
theorem add_bs (a b : List UInt8) (h : a.length + b.length ≤ 9223372036854775807) (wx : World) : (Op.stringOp .add (bs a) (bs b)).run P wx = .ok (.string (bs (a ++ b))) wx := by
  rw [run_string_add_sum wx (bs a) (bs b) (by rw [bs_size, bs_size]; exact h), bs_append]
/-- 'out = append(out, x)', out the call's own. -/
theorem append_one {ops : Array Oper} {rest : List Oper} {o : Oper} {a : Act} {Q : Exit → Act → World → Prop} {w0 wr : World} {base n bytes : Nat} {tt : TypeId} {z v val : Value} {xs : List Value}
    (hgd : o.guard = none) (s x : Operand) (t e : TypeId)
    (ho : o.op = .call { callee := .builtin .append, args := #[s, x], argTypes := #[t, t] })
    (ht : P.underlying t = some (.slice e)) (hinfo : (P.info? e).map (fun i => (i.zero, i.size, i.bytes)) = some (some z, 1, bytes)) (hzs : z.cells.size = 1) (hby : bytes ≤ 24)
    (hown : wr.ownsRow base e 1 v n xs) (hs : a.eval s = v) (hx : a.eval x = .slice (some ⟨wr.heap.size, 0, none⟩) 1 1) (h1 : val.oneCell' = true)
    (hn : n ≤ 20000000) (hb : base ≤ w0.heap.size) (hbel : Below base w0 wr)
    (h : ∀ v' w', w'.ownsRow base e 1 v' (n + 1) (xs ++ [val]) → Below base w0 w' → (wr.alloc (.cells #[val] tt)).grownBy w' v.ownBlock → wpList P ops Q rest (a.put o.dst v') w') :
    wpList P ops Q (o :: rest) a (wr.alloc (.cells #[val] tt)) := by
  obtain ⟨i0, hi, hz0, hz1, hz2⟩ := info_parts hinfo
  have hsz := hbel.size
  have hnb : (n + 1) * bytes ≤ 140737488355328 := Nat.le_trans (Nat.mul_le_mul (Nat.add_le_add_right hn 1) hby) (by omega)
  refine wpList_append_own _ hgd s x t ho base e i0 z 1 bytes ht hi hz0 hz1 hz2 hzs (by decide) v n xs hs (hown.alloc _) ⟨wr.heap.size, 0, none⟩ 1 1 [val] hx rfl (cell_one_new _ _ _)
    (by intro u hu; simp at hu; subst hu; exact h1) (by unfold maxLen; omega) hnb (by simp; omega) ?_
  intro v' w' ho' hg _
  exact h v' w' ho' ((hbel.alloc (by omega) _).grown hg (by simp; omega) (fun j hj => (hown.lt j hj).1)) hg
end

end Go.Proofs.YtekkkoipcghlmabDoor

namespace Go.Proofs.YtekkkoipcghlmabDoor.Sp

def wordsAux (cur : List UInt8) : List UInt8 → List (List UInt8)
  | [] => [cur]
  | c :: r => if c = 32 then cur :: wordsAux [] r else wordsAux (cur ++ [c]) r
def words (l : List UInt8) : List (List UInt8) := if l = [] then [] else wordsAux [] l

def linesAux (cur : List UInt8) : List UInt8 → List (List UInt8)
  | [] => if cur = [] then [] else [cur]
  | c :: r => if c = 10 then cur :: linesAux [] r else linesAux (cur ++ [c]) r
def lines (l : List UInt8) : List (List UInt8) := linesAux [] l
def endAux (cur : List UInt8) : List UInt8 → Bool
  | [] => cur.isEmpty
  | c :: r => if c = 10 then endAux [] r else endAux (cur ++ [c]) r
def ended (l : List UInt8) : Bool := endAux [] l

def num (w : List UInt8) : Int :=
  match w with
  | [a] => if 49 ≤ a.toNat ∧ a.toNat ≤ 57 then (a.toNat : Int) - 48 else 0
  | [a, b] => if a.toNat = 49 ∧ 48 ≤ b.toNat ∧ b.toNat ≤ 50 then (b.toNat : Int) - 38 else 0
  | _ => 0
def lit (w : List UInt8) : Int :=
  match w with
  | a :: r => if a = 45 then - num r else num (a :: r)
  | [] => 0

theorem num_bd (w : List UInt8) : 0 ≤ num w ∧ num w ≤ 12 := by
  unfold num; split <;> (try split) <;> omega
theorem lit_bd (w : List UInt8) : -12 ≤ lit w ∧ lit w ≤ 12 := by
  unfold lit
  split
  · rename_i a r
    have h1 := num_bd r; have h2 := num_bd (a :: r)
    split <;> omega
  · omega

def okLine (l : List UInt8) : Bool := (words l).all fun w => lit w != 0
def digs (n : Nat) : List UInt8 := if n < 10 then [UInt8.ofNat (48 + n)] else [49, UInt8.ofNat (38 + n)]
def lw (x : Int) : List UInt8 := if x < 0 then 45 :: digs x.natAbs else digs x.natAbs
def join : List (List UInt8) → List UInt8
  | [] => []
  | [a] => a
  | a :: b :: r => a ++ 32 :: join (b :: r)
theorem join_snoc (xs : List (List UInt8)) (y : List UInt8) : join (xs ++ [y]) = (if xs = [] then y else join xs ++ 32 :: y) := by
  induction xs with
  | nil => rfl
  | cons a xs ih =>
    cases xs with
    | nil => rfl
    | cons b r =>
      simp only [List.cons_append] at ih ⊢
      rw [join, ih]
      simp [join]
def toldBody (l : List Int) : List UInt8 := join (l.map lw)
def told (l : List Int) : List UInt8 := toldBody l ++ [10]

theorem words_len (l : List UInt8) : ∀ cur, (wordsAux cur l).length ≤ l.length + 1 := by
  induction l with
  | nil => intro cur; simp [wordsAux]
  | cons c r ih =>
    intro cur
    unfold wordsAux
    split
    · have := ih []; simp; omega
    · have := ih (cur ++ [c]); simp; omega
theorem words_len' (l : List UInt8) : (words l).length ≤ l.length + 1 := by
  unfold words; split
  · simp
  · exact words_len l []
end Go.Proofs.YtekkkoipcghlmabDoor.Sp

namespace Go.Proofs.YtekkkoipcghlmabDoor
/-- Are all words literals. -/
def allLit (ws : List (List UInt8)) : Bool := ws.all fun w => Sp.lit w != 0
end Go.Proofs.YtekkkoipcghlmabDoor

namespace Go.Proofs.YtekkkoipcghlmabDoor
open Go.RowKit

theorem Tryd.infoStr : (Tryd.prog.info? 9).map (fun i => (i.zero, i.size, i.bytes)) = some (some (.string ⟨#[]⟩), 1, 16) := by kernel_rfl

end Go.Proofs.YtekkkoipcghlmabDoor

namespace Go.Proofs.YtekkkoipcghlmabDoor
open Go.RowKit

theorem toldBody_snoc (l : List Int) (x : Int) : Sp.toldBody (l ++ [x]) = (if l = [] then Sp.lw x else Sp.toldBody l ++ 32 :: Sp.lw x) := by
  unfold Sp.toldBody
  rw [List.map_append, List.map_singleton, Sp.join_snoc]
  simp
theorem digs_len (n : Nat) : (Sp.digs n).length ≤ 2 := by unfold Sp.digs; split <;> simp
theorem lw_len (x : Int) : (Sp.lw x).length ≤ 3 := by
  unfold Sp.lw; have := digs_len x.natAbs; split <;> simp <;> omega
theorem toldBody_len (l : List Int) : (Sp.toldBody l).length ≤ 4 * l.length := by
  unfold Sp.toldBody
  induction l with
  | nil => simp [Sp.join]
  | cons a r ih =>
    have := lw_len a
    cases r with
    | nil => simp [Sp.join]; omega
    | cons b r => simp [Sp.join] at ih ⊢; omega

theorem take_nil_iff {xs : List Int} {k : Nat} (h : k < xs.length) : xs.take k = [] ↔ k = 0 := by
  rw [List.take_eq_nil_iff]
  constructor
  · rintro (h' | h')
    · exact h'
    · subst h'; simp at h
  · exact fun h' => .inl h'

end Go.Proofs.YtekkkoipcghlmabDoor

namespace Go.Proofs.YtekkkoipcghlmabDoor
open Go.RowKit

theorem Tryd.infoIntW : (Tryd.prog.info? 3).map (fun i => (i.zero, i.size, i.bytes)) = some (some (.int .i64 0), 1, 8) := by kernel_rfl

end Go.Proofs.YtekkkoipcghlmabDoor

namespace Go.Proofs.YtekkkoipcghlmabDoor.Sp

/-- The place of a literal's bit. -/
def bitIx (x : Int) : Nat := if 0 < x then 2 * (x.toNat - 1) else 2 * ((-x).toNat - 1) + 1
def bit (x : Int) : Nat := 2 ^ bitIx x
def maskOf (l : List Int) : Nat := l.foldl (fun m x => m ||| bit x) 0
theorem maskFrom_testBit (l : List Int) : ∀ (m i : Nat), (l.foldl (fun m x => m ||| bit x) m).testBit i = (m.testBit i || l.any fun x => bitIx x == i) := by
  induction l with
  | nil => simp
  | cons a r ih =>
    intro m i
    rw [List.foldl_cons, ih, Nat.testBit_or, List.any_cons]
    unfold bit
    rw [Nat.testBit_two_pow, Bool.or_assoc]
    congr 1
theorem maskOf_testBit (l : List Int) (i : Nat) : (maskOf l).testBit i = l.any fun x => bitIx x == i := by
  unfold maskOf; rw [maskFrom_testBit]; simp

theorem maskOf_snoc (l : List Int) (x : Int) : maskOf (l ++ [x]) = maskOf l ||| bit x := by
  unfold maskOf; rw [List.foldl_append]; rfl

theorem bitIx_lt (x : Int) (h : -12 ≤ x ∧ x ≤ 12) : bitIx x < 24 := by unfold bitIx; split <;> omega
theorem maskOf_lt (l : List Int) (h : ∀ x, x ∈ l → -12 ≤ x ∧ x ≤ 12) : maskOf l < 2 ^ 24 := by
  apply Nat.lt_pow_two_of_testBit
  intro i hi
  rw [maskOf_testBit, List.any_eq_false]
  intro x hx
  have := bitIx_lt x (h x hx)
  simp; omega

end Go.Proofs.YtekkkoipcghlmabDoor.Sp

namespace Go.Proofs.YtekkkoipcghlmabDoor
open Go.RowKit

theorem pow_plus (n : Int) (h1 : 1 ≤ n) (h2 : n ≤ 12) : (2 : Int) ^ (2 * (n - 1)).toNat % 4294967296 = (Sp.bit n : Int) := by
  have : n = 1 ∨ n = 2 ∨ n = 3 ∨ n = 4 ∨ n = 5 ∨ n = 6 ∨ n = 7 ∨ n = 8 ∨ n = 9 ∨ n = 10 ∨ n = 11 ∨ n = 12 := by omega
  rcases this with rfl | rfl | rfl | rfl | rfl | rfl | rfl | rfl | rfl | rfl | rfl | rfl <;> decide
theorem pow_minus (n : Int) (h1 : -12 ≤ n) (h2 : n ≤ -1) : (2 : Int) * 2 ^ (2 * (-n - 1)).toNat % 4294967296 = (Sp.bit n : Int) := by
  have : n = -1 ∨ n = -2 ∨ n = -3 ∨ n = -4 ∨ n = -5 ∨ n = -6 ∨ n = -7 ∨ n = -8 ∨ n = -9 ∨ n = -10 ∨ n = -11 ∨ n = -12 := by omega
  rcases this with rfl | rfl | rfl | rfl | rfl | rfl | rfl | rfl | rfl | rfl | rfl | rfl <;> decide

theorem ret_bit {a b : Int} (h : a = b) : Ending.returned (.tuple #[.int .u32 a, .bool true]) = .returned (.tuple #[.int .u32 b, .bool true]) := by rw [h]

set_option maxRecDepth 100000 in
set_option maxHeartbeats 400000 in
theorem of_yes (n : Int) (w : World) (h1 : -12 ≤ n) (h2 : n ≤ 12) (h0 : n ≠ 0) :
    Calls Tryd.prog 41 #[.int .i64 n] w fun e w' => e = .returned (.tuple #[.int .u32 (Sp.bit n : Int), .bool true]) ∧ w' = w := by
  by_cases hp : 0 < n
  · have h1' : 1 ≤ n := by omega
    have HP := hide (pow_plus n h1' h2)
    go_enter Tryd.func41, Tryd.ntmps41
    go_wp2
    go_ret2
    exact ⟨ret_bit (unhide HP), rfl⟩
  · have h1' : n ≤ -1 := by omega
    have HP := hide (pow_minus n h1 h1')
    go_enter Tryd.func41, Tryd.ntmps41
    go_wp2
    go_ret2
    exact ⟨ret_bit (unhide HP), rfl⟩

set_option maxRecDepth 100000 in
set_option maxHeartbeats 400000 in
theorem of_no (n : Int) (w : World) (h1 : n = 0 ∨ n < -12 ∨ 12 < n) :
    Calls Tryd.prog 41 #[.int .i64 n] w fun e w' => e = .returned (.tuple #[.int .u32 0, .bool false]) ∧ w' = w := by
  rcases h1 with rfl | h | h
  · go_enter Tryd.func41, Tryd.ntmps41
    go_wp2
    go_ret2
    exact ⟨rfl, rfl⟩
  · go_enter Tryd.func41, Tryd.ntmps41
    go_wp2
    go_ret2
    exact ⟨rfl, rfl⟩
  · go_enter Tryd.func41, Tryd.ntmps41
    go_wp2
    go_ret2
    exact ⟨rfl, rfl⟩

end Go.Proofs.YtekkkoipcghlmabDoor

namespace Go.Proofs.YtekkkoipcghlmabDoor.Sp

theorem dec12 (u : Nat) (h1 : 1 ≤ u) (h2 : u ≤ 12) : Lib.decDigits u = digs u := by
  by_cases h : u < 10
  · rw [Lib.decDigits, dif_pos h, digs, if_pos h]
  · rw [Lib.decDigits, dif_neg h, Lib.decDigits, dif_pos (by omega), digs, if_neg h, show u / 10 = 1 from by omega, show 48 + u % 10 = 38 + u from by omega]; rfl
theorem itoa_lw (x : Int) (h0 : x ≠ 0) (h1 : -12 ≤ x) (h2 : x ≤ 12) : Lib.itoa x = lw x := by
  unfold Lib.itoa lw
  split
  · rw [dec12 _ (by omega) (by omega)]
  · rw [dec12 _ (by omega) (by omega), show x.toNat = x.natAbs from by omega]

theorem all24 (p : Int → Prop) (h : ∀ k : Fin 12, p ((k.val : Int) + 1) ∧ p (-((k.val : Int) + 1))) (x : Int) (h0 : x ≠ 0) (h1 : -12 ≤ x) (h2 : x ≤ 12) : p x := by
  by_cases hp : 0 < x
  · have := (h ⟨(x - 1).toNat, by omega⟩).1
    simp only at this
    rwa [show (((x - 1).toNat : Nat) : Int) + 1 = x from by omega] at this
  · have := (h ⟨(-x - 1).toNat, by omega⟩).2
    simp only at this
    rwa [show -((((-x - 1).toNat : Nat) : Int) + 1) = x from by omega] at this

theorem lit_lw (x : Int) (h0 : x ≠ 0) (h1 : -12 ≤ x) (h2 : x ≤ 12) : lit (lw x) = x := all24 (fun x => lit (lw x) = x) (by decide) x h0 h1 h2
theorem atoi_lw (x : Int) (h0 : x ≠ 0) (h1 : -12 ≤ x) (h2 : x ≤ 12) : Lib.atoiAll (lw x) = .ok x := all24 (fun x => Lib.atoiAll (lw x) = .ok x) (by decide) x h0 h1 h2

theorem num_digs (r : List UInt8) (h : num r ≠ 0) : r = digs (num r).toNat := by
  unfold num at h ⊢
  split at h
  · rename_i a
    split at h
    · rename_i hh
      simp only [hh, and_self, if_true]
      rw [digs, if_pos (by omega)]
      congr 1
      apply UInt8.toNat_inj.1
      rw [UInt8.toNat_ofNat']
      omega
    · exact absurd rfl h
  · rename_i a b
    split at h
    · rename_i hh
      simp only [hh, and_self, if_true]
      rw [digs, if_neg (by omega)]
      congr 1
      · apply UInt8.toNat_inj.1
        rw [hh.1]; rfl
      · congr 1
        apply UInt8.toNat_inj.1
        rw [UInt8.toNat_ofNat']
        omega
    · exact absurd rfl h
  · exact absurd rfl h

theorem lw_lit (s : List UInt8) (h : lit s ≠ 0) : s = lw (lit s) := by
  rcases s with _ | ⟨a, r⟩
  · exact absurd rfl h
  · have hb := num_bd r
    have hb2 := num_bd (a :: r)
    unfold lit at h ⊢
    simp only at h ⊢
    split at h
    · rename_i ha
      subst ha
      simp only [if_true]
      have hn : num r ≠ 0 := by omega
      unfold lw
      rw [if_pos (by omega), show (-num r).natAbs = (num r).toNat from by omega, ← num_digs r hn]
    · rename_i ha
      rw [if_neg ha]
      unfold lw
      rw [if_neg (by omega), show (num (a :: r)).natAbs = (num (a :: r)).toNat from by omega]
      exact num_digs (a :: r) h

/-- What fromWord hands back, by how Atoi ends. -/
theorem fromWord_ok (s : List UInt8) (v : Int) (h : Lib.atoiAll s = .ok v) (hi : Lib.itoa v = s) : lit s = if -12 ≤ v ∧ v ≤ 12 then v else 0 := by
  split
  · rename_i hr
    by_cases h0 : v = 0
    · subst h0
      rw [← hi]
      show lit (Lib.itoa 0) = 0
      unfold Lib.itoa
      rw [if_neg (by omega), Lib.decDigits, dif_pos (by decide)]
      decide
    · rw [← hi, itoa_lw v h0 hr.1 hr.2, lit_lw v h0 hr.1 hr.2]
  · rename_i hr
    by_cases h0 : lit s = 0
    · exact h0
    · exfalso
      have hb := lit_bd s
      have := lw_lit s h0
      have ha := atoi_lw (lit s) h0 hb.1 hb.2
      rw [← this, h] at ha
      injection ha with ha
      exact hr (by omega)
theorem fromWord_other (s : List UInt8) (v : Int) (h : Lib.atoiAll s = .ok v) (hi : ¬ Lib.itoa v = s) : lit s = 0 := by
  by_cases h0 : lit s = 0
  · exact h0
  · exfalso
    have hb := lit_bd s
    have hs := lw_lit s h0
    have ha := atoi_lw (lit s) h0 hb.1 hb.2
    rw [← hs, h] at ha
    injection ha with ha
    rw [ha, itoa_lw _ h0 hb.1 hb.2] at hi
    exact hi hs.symm
theorem fromWord_bad (s : List UInt8) (h : ∀ v, Lib.atoiAll s ≠ .ok v) : lit s = 0 := by
  by_cases h0 : lit s = 0
  · exact h0
  · exfalso
    have hb := lit_bd s
    have hs := lw_lit s h0
    have ha := atoi_lw (lit s) h0 hb.1 hb.2
    rw [← hs] at ha
    exact h _ ha

end Go.Proofs.YtekkkoipcghlmabDoor.Sp

namespace Go.Proofs.YtekkkoipcghlmabDoor
open Go.RowKit

theorem var_below {P : Program} {w w' : World} {n : String} {g : Nat} {cs : Array Value} (hg : P.globalNamed n = some g) (hv : w.var? P n = some cs) (hb : Below w.heap.size w w') : w'.var? P n = some cs := by
  unfold World.var? at hv ⊢
  rw [hg] at hv ⊢
  simp only [Option.bind_some] at hv ⊢
  have hlt : g < w.heap.size := by
    rcases Nat.lt_or_ge g w.heap.size with h' | h'
    · exact h'
    · rw [Array.getElem?_eq_none h'] at hv; cases hv
  rw [hb.block g hlt]
  exact hv

/-- The package's variables that the road reads. -/
structure EnvT (w : World) : Prop where
  tab : Lib.TabIs Tryd.prog w "internal/strconv.uint64pow10" .u64 Lib.pow10Tab
  brj : 2 < w.heap.size ∧ TabAt 2 Lib.deBruijn32tab w
structure Env (w : World) : Prop extends EnvT w where
  syn : ∃ tp p, w.var? Tryd.prog "strconv.ErrSyntax" = some #[.iface tp p]
  rng : ∃ tp p, w.var? Tryd.prog "strconv.ErrRange" = some #[.iface tp p]
  len : 1 < w.heap.size ∧ ∃ m, w.cell? ⟨1, 0, none⟩ = some (.int .i64 m)

theorem Tryd.gTab : Tryd.prog.globalNamed "internal/strconv.uint64pow10" = some 0 := by kernel_rfl
theorem Tryd.gSyn : Tryd.prog.globalNamed "strconv.ErrSyntax" = some 4 := by kernel_rfl
theorem Tryd.gRng : Tryd.prog.globalNamed "strconv.ErrRange" = some 5 := by kernel_rfl

theorem EnvT.below {w w' : World} (h : EnvT w) (hb : Below w.heap.size w w') : EnvT w' :=
  ⟨var_below Tryd.gTab h.tab hb, ⟨Nat.lt_of_lt_of_le h.brj.1 hb.size, fun j hj => (hb.cell (p := ⟨2, j, none⟩) h.brj.1).trans (h.brj.2 j hj)⟩⟩
theorem Env.below {w w' : World} (h : Env w) (hb : Below w.heap.size w w') : Env w' := by
  obtain ⟨t, p, hs⟩ := h.syn
  obtain ⟨t2, p2, hr⟩ := h.rng
  obtain ⟨hl, m, hm⟩ := h.len
  exact ⟨h.toEnvT.below hb, ⟨t, p, var_below Tryd.gSyn hs hb⟩, ⟨t2, p2, var_below Tryd.gRng hr hb⟩,
    ⟨Nat.lt_of_lt_of_le hl hb.size, m, (hb.cell (p := ⟨1, 0, none⟩) hl).trans hm⟩⟩

theorem bs_data (l : List UInt8) : (bs l).data.toList = l := by simp [bs]

theorem below_grow2 (w : World) (k : Nat) (os : Array Obj) : Below w.heap.size w (Sort.grow (w.drewN k) os) :=
  ⟨rfl, rfl, rfl, by show w.heap.size ≤ (w.heap ++ os).size; simp, fun j hj => by show (w.heap ++ os)[j]? = w.heap[j]?; rw [Array.getElem?_append_left hj]⟩

theorem itoa_any (n : Int) (h0 : -9223372036854775808 ≤ n) (h1 : n ≤ 9223372036854775807) (w : World) (he : EnvT w) :
    Calls Tryd.prog 12 #[.int .i64 n] w fun e w' => e = .returned (.string (bs (Lib.itoa n))) ∧ Below w.heap.size w w' := by
  refine (Tryd.strconv_Itoa n h0 h1 w he.tab).mono ?_
  rintro e w' ⟨rfl, k, os, rfl⟩
  exact ⟨rfl, below_grow2 w k os⟩

/-- What strconv.Atoi hands back. -/
theorem atoi_any (s : List UInt8) (w : World) (hs : s.length ≤ 6000) (he : Env w) :
    Calls Tryd.prog 40 #[.string (bs s)] w fun e w' => Below w.heap.size w w' ∧
      ((∃ v, Lib.atoiAll s = .ok v ∧ e = .returned (.tuple #[.int .i64 v, .nilIface])) ∨
       ((∀ v, Lib.atoiAll s ≠ .ok v) ∧ ∃ (v : Int) (N : Nat), e = .returned (.tuple #[.int .i64 v, .iface 104 (.pointer (some ⟨N, 0, none⟩))]))) := by
  have hd := bs_data s
  have hz := bs_size s
  rcases h : Lib.atoiAll s with v | _ | _
  · refine (Any.strconv_Atoi_ok Tryd.laysC172 (bs s) (by omega) v (by rw [hd]; exact h) w).mono ?_
    rintro e w' ⟨rfl, rfl | ⟨t, rfl⟩⟩
    · exact ⟨Below.refl _ _, .inl ⟨v, rfl, rfl⟩⟩
    · exact ⟨Lib.bytesWorld_below _ _ _, .inl ⟨v, rfl, rfl⟩⟩
  · obtain ⟨tp, p, hv⟩ := he.syn
    refine (Any.strconv_Atoi_syntax_var Tryd.laysC172 (bs s) (by omega) (by rw [hd]; exact h) tp p w hv).mono ?_
    rintro e w' ⟨N, rfl, _, _, hb⟩
    exact ⟨hb, .inr ⟨fun v hv => (by cases hv), 0, N, rfl⟩⟩
  · obtain ⟨tp, p, hv⟩ := he.rng
    refine (Any.strconv_Atoi_range_var Tryd.laysC172 (bs s) (by omega) (by rw [hd]; exact h) tp p w hv).mono ?_
    rintro e w' ⟨N, rfl, _, _, hb⟩
    exact ⟨hb, .inr ⟨fun v hv => (by cases hv), _, N, rfl⟩⟩

theorem atoi_bd {s : List UInt8} {v : Int} (h : Lib.atoiAll s = .ok v) : -9223372036854775808 ≤ v ∧ v ≤ 9223372036854775807 := by
  unfold Lib.atoiAll at h
  split at h
  · cases h
  · simp only at h
    split at h
    · cases h
    · cases h
    · split at h
      · cases h
      · split at h
        · cases h
        · injection h with h
          subst h
          split <;> omega

/-- The bit of a word's literal, and whether it is one. -/
def fw (s : List UInt8) : Int := if Sp.lit s = 0 then 0 else (Sp.bit (Sp.lit s) : Int)
def fwOk (s : List UInt8) : Bool := Sp.lit s != 0
theorem fw_no {s : List UInt8} (h : Sp.lit s = 0) : fw s = 0 ∧ fwOk s = false := by unfold fw fwOk; rw [h]; exact ⟨rfl, rfl⟩
theorem fw_yes {s : List UInt8} (h : Sp.lit s ≠ 0) : fw s = (Sp.bit (Sp.lit s) : Int) ∧ fwOk s = true := by unfold fw fwOk; exact ⟨if_neg h, by simpa using h⟩

set_option maxRecDepth 100000 in
set_option maxHeartbeats 400000 in
theorem fromWord_any (s : List UInt8) (w : World) (hs : s.length ≤ 6000) (he : Env w) :
    Calls Tryd.prog 30 #[.string (bs s)] w fun e w' => Below w.heap.size w w' ∧
      e = .returned (.tuple #[.int .u32 (fw s), .bool (fwOk s)]) := by
  have HA := hide (atoi_any s w hs he)
  go_enter Tryd.func30, Tryd.ntmps30
  go_wp2_with fail
  refine (unhide HA).mono ?_
  rintro e w1 ⟨hb1, ⟨v, hv, rfl⟩ | ⟨hno, v, N, rfl⟩⟩
  · have HE := hide (he.below hb1)
    have hbd := atoi_bd hv
    have HV := hide hv
    clear hv
    go_wp2_with fail
    refine (itoa_any v hbd.1 hbd.2 w1 (unhide HE).toEnvT).mono ?_
    rintro e w2 ⟨rfl, hb2⟩
    by_cases hi : Lib.itoa v = s
    · have ht : ((bs (Lib.itoa v)).toList == (bs s).toList) = true := by rw [hi]; simp
      have HI := hide hi
      have HF := hide (Sp.fromWord_ok s v (unhide HV) hi)
      clear hi
      by_cases hr : -12 ≤ v ∧ v ≤ 12
      · rw [if_pos hr] at HF
        by_cases h0 : v = 0
        · have HO := hide (of_no v w2 (.inl h0))
          have HZ := hide ((unhide HF).trans h0)
          clear h0
          go_wp2_with fail
          refine (unhide HO).mono ?_
          rintro e w3 ⟨rfl, rfl⟩
          go_wp2
          go_ret2
          exact ⟨hb1.trans (hb2.mono hb1.size), by rw [(fw_no (unhide HZ)).1, (fw_no (unhide HZ)).2]; rfl⟩
        · have HO := hide (of_yes v w2 hr.1 hr.2 h0)
          have HZ : Hid (Sp.lit s ≠ 0) := hide (by rw [unhide HF]; exact h0)
          clear h0
          go_wp2_with fail
          refine (unhide HO).mono ?_
          rintro e w3 ⟨rfl, rfl⟩
          go_wp2
          go_ret2
          exact ⟨hb1.trans (hb2.mono hb1.size), by rw [(fw_yes (unhide HZ)).1, (fw_yes (unhide HZ)).2, unhide HF]; rfl⟩
      · rw [if_neg hr] at HF
        have HO := hide (of_no v w2 (by omega))
        clear hr
        go_wp2_with fail
        refine (unhide HO).mono ?_
        rintro e w3 ⟨rfl, rfl⟩
        go_wp2
        go_ret2
        exact ⟨hb1.trans (hb2.mono hb1.size), by rw [(fw_no (unhide HF)).1, (fw_no (unhide HF)).2]; rfl⟩
    · have ht : ((bs (Lib.itoa v)).toList == (bs s).toList) = false := by rw [bs_toList, bs_toList]; simpa using hi
      have HF := hide (Sp.fromWord_other s v (unhide HV) hi)
      clear hi
      go_wp2
      go_ret2
      exact ⟨hb1.trans (hb2.mono hb1.size), by rw [(fw_no (unhide HF)).1, (fw_no (unhide HF)).2]; rfl⟩
  · have HF := hide (Sp.fromWord_bad s hno)
    clear hno
    go_wp2
    go_ret2
    exact ⟨hb1, by rw [(fw_no (unhide HF)).1, (fw_no (unhide HF)).2]; rfl⟩

end Go.Proofs.YtekkkoipcghlmabDoor

namespace Go.Proofs.YtekkkoipcghlmabDoor
open Go.RowKit

theorem ret_lt {n : Nat} {a : Int} (h0 : 0 ≤ a) (h1 : a < n) : ∃ d : Nat, d < n ∧ Ending.returned (.int .i64 a) = .returned (.int .i64 d) := ⟨a.toNat, by omega, by rw [Int.toNat_of_nonneg h0]⟩
theorem pickK_any (c : Int) (n : Nat) (w : World) (h0 : -9223372036854775808 ≤ c) (h1 : c ≤ 9223372036854775807) (hn : 0 < n) (hn4 : n ≤ 1000) :
    Calls Tryd.prog 9 #[.int .i64 c, .int .i64 n] w fun e w' => (∃ d : Nat, d < n ∧ e = .returned (.int .i64 d)) ∧ w' = w := by
  by_cases hc : c < 0
  · go_enter Tryd.func9, Tryd.ntmps9
    go_wp2
    go_ret
    have e1 : -(c + 1).tmod (n : Int) = (-(c + 1)) % (n : Int) := by rw [← Int.neg_tmod, Int.tmod_eq_emod_of_nonneg (by omega)]
    exact ⟨ret_lt (a := -(c + 1).tmod (n : Int)) (by rw [e1]; exact Int.emod_nonneg _ (by omega)) (by rw [e1]; exact Int.emod_lt_of_pos _ (by omega)), rfl⟩
  · go_enter Tryd.func9, Tryd.ntmps9
    go_wp2
    go_ret
    exact ⟨ret_lt (a := c % (n : Int)) (Int.emod_nonneg _ (by omega)) (Int.emod_lt_of_pos _ (by omega)), rfl⟩

set_option maxRecDepth 100000 in
set_option maxHeartbeats 1600000 in
theorem literalK_any (c : Int) (n : Nat) (w : World) (h0 : -9223372036854775808 ≤ c) (h1 : c ≤ 9223372036854775807) (hn : 0 < n) (hn4 : n ≤ 12) :
    Calls Tryd.prog 10 #[.int .i64 c, .int .i64 n] w fun e w' => (∃ x : Int, (x ≠ 0 ∧ -(n : Int) ≤ x ∧ x ≤ n) ∧ e = .returned (.int .i64 x)) ∧ w' = w := by
  have H1 := hide (pickK_any c n w h0 h1 hn (by omega))
  have hq : -9223372036854775808 ≤ c.tdiv 64 ∧ c.tdiv 64 ≤ 9223372036854775807 := by
    have e : c.tdiv 64 = if 0 ≤ c then c / 64 else -((-c) / 64) := by
      split
      · exact Int.tdiv_eq_ediv_of_nonneg (by omega)
      · rw [← Int.neg_neg (c.tdiv 64), ← Int.neg_tdiv, Int.tdiv_eq_ediv_of_nonneg (by omega)]
    rw [e]; split <;> omega
  have H2 : Hid (Calls Tryd.prog 9 #[.int .i64 (c.tdiv 64), .int .i64 2] w fun e w' => (∃ d : Nat, d < 2 ∧ e = .returned (.int .i64 d)) ∧ w' = w) := hide (pickK_any (c.tdiv 64) 2 w hq.1 hq.2 (by decide) (by decide))
  go_enter Tryd.func10, Tryd.ntmps10
  go_wp2_with fail
  refine (unhide H1).mono ?_
  rintro e w1 ⟨⟨d, hd, rfl⟩, rfl⟩
  go_wp2_with fail
  refine (unhide H2).mono ?_
  rintro e w2 ⟨⟨d2, hd2, rfl⟩, rfl⟩
  by_cases h2 : d2 = 1
  · subst h2
    go_wp2
    go_ret
    exact ⟨⟨-(1 + (d : Int)), ⟨by omega, by omega, by omega⟩, rfl⟩, rfl⟩
  · have hz : d2 = 0 := by omega
    subst hz
    go_wp2
    go_ret
    exact ⟨⟨1 + (d : Int), ⟨by omega, by omega, by omega⟩, rfl⟩, rfl⟩

end Go.Proofs.YtekkkoipcghlmabDoor

namespace Go.Proofs.YtekkkoipcghlmabDoor
open Go.RowKit

theorem wordsAux_mem (l : List UInt8) : ∀ cur x, x ∈ Sp.wordsAux cur l → x.length ≤ cur.length + l.length := by
  induction l with
  | nil => intro cur x hx; simp [Sp.wordsAux] at hx; subst hx; simp
  | cons c r ih =>
    intro cur x hx
    unfold Sp.wordsAux at hx
    split at hx
    · rcases List.mem_cons.1 hx with rfl | hx
      · simp
      · have := ih [] x hx; simp at this ⊢; omega
    · have := ih _ x hx; simp at this ⊢; omega
theorem words_mem (l x : List UInt8) (hx : x ∈ Sp.words l) : x.length ≤ l.length := by
  unfold Sp.words at hx
  split at hx
  · simp at hx
  · simpa using wordsAux_mem l [] x hx
theorem Tryd.infoInts : (Tryd.prog.info? 22).map (fun i => (i.zero, i.size, i.bytes)) = some (some (.slice none 0 0), 1, 24) := by kernel_rfl

/-- Rows of numbers that lie at a list of values. -/
def RowsAt (w : World) (base : Nat) (vs : List Value) (cs : List (List Int)) : Prop := vs.length = cs.length ∧ ∀ (i : Nat) (x : Value) (c : List Int), vs[i]? = some x → cs[i]? = some c → w.ownsRow base 3 1 x c.length (ints c)

theorem RowsAt.below {w w' : World} {base : Nat} {vs : List Value} {cs : List (List Int)} (h : RowsAt w base vs cs) (hb : Below w.heap.size w w') : RowsAt w' base vs cs :=
  ⟨h.1, fun i x c hx hc => owns_below (h.2 i x c hx hc) hb⟩

theorem RowsAt.grown {w w' : World} {base b2 m : Nat} {vs ys : List Value} {cs : List (List Int)} {y : Value} (h : RowsAt w base vs cs) (hy : w.ownsRow b2 22 1 y m ys) (hg : w.grownBy w' y.ownBlock) : RowsAt w' base vs cs :=
  ⟨h.1, fun i x c hx hc => (h.2 i x c hx hc).kept hg (rows_apart (by decide) (h.2 i x c hx hc) hy)⟩

theorem RowsAt.snoc {w : World} {base : Nat} {vs : List Value} {cs : List (List Int)} {x : Value} {c : List Int} (h : RowsAt w base vs cs) (hx : w.ownsRow base 3 1 x c.length (ints c)) : RowsAt w base (vs ++ [x]) (cs ++ [c]) := by
  refine ⟨by simp [h.1], fun i y d hy hd => ?_⟩
  by_cases hi : i < vs.length
  · rw [List.getElem?_append_left hi] at hy
    rw [List.getElem?_append_left (by rw [← h.1]; exact hi)] at hd
    exact h.2 i y d hy hd
  · have hi' : i = vs.length := by
      rcases Nat.lt_or_ge vs.length i with hh | hh
      · rw [List.getElem?_eq_none (by simp; omega)] at hy; cases hy
      · omega
    subst hi'
    rw [List.getElem?_append_right (Nat.le_refl _)] at hy
    rw [h.1, List.getElem?_append_right (Nat.le_refl _)] at hd
    simp at hy hd
    subst hy hd
    exact hx

end Go.Proofs.YtekkkoipcghlmabDoor

namespace Go.Proofs.YtekkkoipcghlmabDoor.Sp

/-- The opposite literal's place. -/
def opp (i : Nat) : Nat := if i % 2 = 0 then i + 1 else i - 1
/-- Sets of literals, by their places: U is closed under what comes of the clauses L, and there is no conflict. -/
def Stable (L : List Nat) (U : Nat → Prop) : Prop :=
  ∀ c, c ∈ L → (∃ i, c.testBit i = true ∧ ¬ U i) ∧ ∀ i, c.testBit i = true → ¬ U i → (∀ j, c.testBit j = true → j ≠ i → U j) → U (opp i)

/-- A clause m follows from the clauses L. -/
def Fol (L : List Nat) (m : Nat) : Prop :=
  (∃ i, m.testBit i = true ∧ m.testBit (opp i) = true) ∨ ∀ U : Nat → Prop, (∀ i, m.testBit i = true → U i) → ¬ Stable L U

/-- The step of a line: does a clause go; its words. -/
def stepOf (y : List UInt8) : Bool × List (List UInt8) :=
  match words y with
  | w0 :: r => if w0 = [100] then (true, r) else (false, w0 :: r)
  | [] => (false, [])
def stepMask (y : List UInt8) : Nat := maskOf ((stepOf y).2.map lit)
def stepOk (x : List UInt8 × Bool) : Bool := ((stepOf x.1).2.all fun w => lit w != 0) && x.2

/-- What a proof comes to, step by step: the error, and the step's number. -/
def Outcome (L : List Nat) (n : Nat) : List (List UInt8 × Bool) → Int × Int → Prop
  | [], r => r = (0, 0)
  | x :: rest, r =>
    (stepOk x = false ∧ r = (6, (n : Int) + 1)) ∨
    (stepOk x = true ∧
      (((stepOf x.1).1 = true ∧ ((stepMask x.1 ∈ L ∧ Outcome (L.erase (stepMask x.1)) (n + 1) rest r) ∨ (stepMask x.1 ∉ L ∧ r = (7, (n : Int) + 1)))) ∨
       ((stepOf x.1).1 = false ∧ ((Fol L (stepMask x.1) ∧ Outcome (L ++ [stepMask x.1]) (n + 1) rest r) ∨ (¬ Fol L (stepMask x.1) ∧ r = (8, (n : Int) + 1))))))

theorem Outcome.unique (xs : List (List UInt8 × Bool)) : ∀ (L : List Nat) (n : Nat) (r r' : Int × Int), Outcome L n xs r → Outcome L n xs r' → r = r' := by
  induction xs with
  | nil => intro L n r r' h h'; unfold Outcome at h h'; rw [h, h']
  | cons x rest ih =>
    intro L n r r' h h'
    unfold Outcome at h h'
    rcases h with ⟨h1, h2⟩ | ⟨h1, h2⟩ <;> rcases h' with ⟨g1, g2⟩ | ⟨g1, g2⟩
    · rw [h2, g2]
    · rw [h1] at g1; cases g1
    · rw [h1] at g1; cases g1
    · rcases h2 with ⟨h3, h4⟩ | ⟨h3, h4⟩ <;> rcases g2 with ⟨g3, g4⟩ | ⟨g3, g4⟩
      · rcases h4 with ⟨h5, h6⟩ | ⟨h5, h6⟩ <;> rcases g4 with ⟨g5, g6⟩ | ⟨g5, g6⟩
        · exact ih _ _ _ _ h6 g6
        · exact absurd h5 g5
        · exact absurd g5 h5
        · rw [h6, g6]
      · rw [h3] at g3; cases g3
      · rw [h3] at g3; cases g3
      · rcases h4 with ⟨h5, h6⟩ | ⟨h5, h6⟩ <;> rcases g4 with ⟨g5, g6⟩ | ⟨g5, g6⟩
        · exact ih _ _ _ _ h6 g6
        · exact absurd h5 g5
        · exact absurd g5 h5
        · rw [h6, g6]

end Go.Proofs.YtekkkoipcghlmabDoor.Sp

namespace Go.Proofs.YtekkkoipcghlmabDoor
open Go.RowKit

theorem lies_shape {w : World} {v : Value} {vs : List Value} (h : Lies w v vs) : ∃ ao cap, v = .slice ao vs.length cap := by
  rcases h with ⟨h0, ao, cap, rfl⟩ | ⟨b, off, cap, hp, rfl, hb, hc⟩
  · subst h0; exact ⟨_, _, rfl⟩
  · exact ⟨_, _, rfl⟩

end Go.Proofs.YtekkkoipcghlmabDoor
