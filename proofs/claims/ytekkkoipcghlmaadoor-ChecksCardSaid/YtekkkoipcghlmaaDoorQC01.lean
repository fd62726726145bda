import Derived.WalkKit
import Derived.Deep.QuietTactic
import Derived.BigQuiet
import Derived.WalkSpells
import Derived.WalkLawsBesides
import Derived.Lib.Strings
import Derived.Maps.AppendAt
import Derived.Lib.TrailingZeros
import Derived.Test.YtekkkoipcghlmaaDoorProg
import Derived.Lib.AtoiAll
import Derived.Lib.ItoaNum
import Derived.Test.YtekkkoipcghlmaaDoorShelf
set_option linter.all false
namespace Go.Proofs.YtekkkoipcghlmaaDoor
open Go.RowKit

theorem hide {p : Prop} (h : p) : Hid p := h
theorem unhide {p : Prop} (h : Hid p) : p := h

/-- A slice value that reads as these one-cell values. -/
def Lies (w : World) (v : Value) (vs : List Value) : Prop :=
  (vs = [] ∧ ∃ ao cap, v = .slice ao 0 cap) ∨
  (∃ b off cap, 0 < vs.length ∧ v = .slice (some ⟨b, off, none⟩) vs.length cap ∧ b < w.heap.size ∧ ∀ k x, vs[k]? = some x → w.cell? ⟨b, off + k, none⟩ = some x)

theorem Lies.below {w w' : World} {v : Value} {vs : List Value} (h : Lies w v vs) (hb : Below w.heap.size w w') : Lies w' v vs := by
  rcases h with h | ⟨b, off, cap, hp, hv, hlt, hc⟩
  · exact .inl h
  · exact .inr ⟨b, off, cap, hp, hv, Nat.lt_of_lt_of_le hlt hb.size, fun k x hx => (hb.cell (p := ⟨b, off + k, none⟩) hlt).trans (hc k x hx)⟩

theorem Lies.nil (w : World) : Lies w (.slice none 0 0) [] := .inl ⟨rfl, _, _, rfl⟩

theorem lies_of_owns {w : World} {base : Nat} {e : TypeId} {v : Value} {n : Nat} {xs : List Value} (h : w.ownsRow base e 1 v n xs) (hn : xs.length = n) : Lies w v xs := by
  by_cases h0 : n = 0
  · subst h0
    have hx : xs = [] := List.length_eq_zero_iff.1 hn
    refine .inl ⟨hx, ?_⟩
    rcases h.2 with ⟨hv, _⟩ | ⟨g, cap, cur, hv, _⟩
    · exact ⟨_, _, hv⟩
    · exact ⟨_, _, hv⟩
  · obtain ⟨m, rfl⟩ : ∃ m, n = m + 1 := ⟨n - 1, by omega⟩
    have hlt := h.lt
    obtain ⟨g, cap, rfl⟩ : ∃ g cap, v = .slice (some ⟨g, 0, none⟩) (m + 1) cap := by
      rcases h.2 with ⟨hv, hx⟩ | ⟨g, cap, cur, hv, _⟩
      · omega
      · exact ⟨g, cap, hv⟩
    refine .inr ⟨g, 0, cap, by omega, by rw [hn], (hlt g rfl).2, fun k x hx => ?_⟩
    have hk : k < xs.length := by
      rcases Nat.lt_or_ge k xs.length with h | h
      · exact h
      · rw [List.getElem?_eq_none h] at hx; cases hx
    have := h.cellAt k (by omega)
    rw [Nat.zero_add, this, hx]

def bs (l : List UInt8) : ByteArray := ⟨l.toArray⟩
def ints (xs : List Int) : List Value := xs.map (Value.int .i64)
def strs (ss : List (List UInt8)) : List Value := ss.map (fun l => Value.string (bs l))
/-- Masks as cells. -/
def us (ms : List Nat) : List Value := ms.map (fun (m : Nat) => Value.int .u32 (m : Int))
theorem bs_size (l : List UInt8) : (bs l).size = l.length := by show l.toArray.size = l.length; simp
theorem bs_toList (l : List UInt8) : (bs l).toList = l := by
  rw [Go.ByteArray.toList_eq]; simp [bs]
theorem bs_get {l : List UInt8} {k : Nat} (h : k < l.length) : (bs l)[k]'(by rw [bs_size]; exact h) = l[k] := by
  show (l.toArray)[k]'(by simpa using h) = l[k]; simp
theorem byte_ne {c : UInt8} {n : Nat} (hn : n < 256) (h : ¬ c = UInt8.ofNat n) : ((c.toNat : Int) == (n : Int)) = false := by
  rw [beq_eq_false_iff_ne]; intro h'
  exact h (UInt8.toNat_inj.1 (by rw [UInt8.toNat_ofNat']; omega))
theorem bs_extract (l : List UInt8) (a b : Nat) : (bs l).extract a b = bs ((l.drop a).take (b - a)) := by
  unfold bs; rw [ByteArray.extract_mk]
theorem bs_append (a b : List UInt8) : bs a ++ bs b = bs (a ++ b) := by
  unfold bs; apply ByteArray.ext; simp
theorem bs_nonempty {l : List UInt8} (h : l ≠ []) : (bs l).toList.isEmpty = false := by
  rw [bs_toList]; simpa using h

theorem grown_of_below {w w' : World} (h : Below w.heap.size w w') : w.grownBy w' none := ⟨h.os, h.tape, h.output, h.size, fun k hk _ => h.block k hk⟩
theorem owns_mono {w : World} {base base' : Nat} {e : TypeId} {v : Value} {n : Nat} {xs : List Value} (h : w.ownsRow base e 1 v n xs) (hb : base' ≤ base) : w.ownsRow base' e 1 v n xs := by
  refine ⟨h.1, ?_⟩
  rcases h.2 with h' | ⟨g, cap, cur, h1, h2, h3⟩
  · exact .inl h'
  · exact .inr ⟨g, cap, cur, h1, Nat.le_trans hb h2, h3⟩
theorem owns_shape {w : World} {base : Nat} {e : TypeId} {v : Value} {n : Nat} {xs : List Value} (h : w.ownsRow base e 1 v n xs) : ∃ ao c, v = .slice ao n c := by
  rcases h.2 with ⟨h', h0⟩ | ⟨g, cap, cur, h1, _⟩
  · subst h0; exact ⟨_, _, h'⟩
  · exact ⟨_, _, h1⟩
theorem owns_below {w w' : World} {base : Nat} {e : TypeId} {v : Value} {n : Nat} {xs : List Value} (h : w.ownsRow base e 1 v n xs) (hb : Below w.heap.size w w') : w'.ownsRow base e 1 v n xs := by
  refine h.kept (grown_of_below hb) ?_
  cases hv : v.ownBlock with
  | none => exact .inl rfl
  | some g => exact .inr (by simp)
/-- Rows of two element types lie apart. -/
theorem rows_apart {w : World} {b1 b2 n m : Nat} {e1 e2 : TypeId} {x y : Value} {xs ys : List Value} (he : e1 ≠ e2) (hx : w.ownsRow b1 e1 1 x n xs) (hy : w.ownsRow b2 e2 1 y m ys) : x.ownBlock = none ∨ x.ownBlock ≠ y.ownBlock := by
  rcases hx.2 with ⟨rfl, _⟩ | ⟨g, cap, cur, rfl, _, hg, _⟩
  · exact .inl rfl
  · rcases hy.2 with ⟨rfl, _⟩ | ⟨g', cap', cur', rfl, _, hg', _⟩
    · exact .inr (by simp [Value.ownBlock])
    · refine .inr (fun h => ?_)
      simp only [Value.ownBlock, Option.some.injEq] at h
      subst h
      rw [hg] at hg'
      simp only [Option.some.injEq, Obj.cells.injEq] at hg'
      exact he hg'.2.1

section
variable {P : Program}
theorem slice_bs (t : TypeId) (hu : P.underlying t = some .string) (l : List UInt8) (i j : Int) (a b : Nat) (hi : i = a) (hj : j = b) (h1 : a ≤ b) (h2 : b ≤ l.length) (wx : World) :
    (Instr.slice t (.string (bs l)) (some (.int .i64 i)) (some (.int .i64 j)) none).run P wx = .ok (.string (bs ((l.drop a).take (b - a)))) wx := by
  subst hi hj
  rw [run_slice_string wx t (bs l) .i64 .i64 a b hu (by omega) (by omega) (by rw [bs_size]; omega)]
  simp [bs_extract]
theorem slice_from_bs (t : TypeId) (hu : P.underlying t = some .string) (l : List UInt8) (i : Int) (a : Nat) (hi : i = a) (h2 : a ≤ l.length) (wx : World) :
    (Instr.slice t (.string (bs l)) (some (.int .i64 i)) none none).run P wx = .ok (.string (bs (l.drop a))) wx := by
  subst hi
  rw [run_slice_string_from_if wx t (bs l) .i64 a hu, if_pos (by rw [bs_size]; omega)]
  simp only [Int.toNat_natCast, bs_size, bs_extract]
  rw [List.take_of_length_le (by simp)]
theorem add_bs (a b : List UInt8) (h : a.length + b.length ≤ 9223372036854775807) (wx : World) : (Op.stringOp .add (bs a) (bs b)).run P wx = .ok (.string (bs (a ++ b))) wx := by
  rw [run_string_add_sum wx (bs a) (bs b) (by rw [bs_size, bs_size]; exact h), bs_append]
/-- 'out = append(out, x)', out the call's own. -/
theorem append_one {ops : Array Oper} {rest : List Oper} {o : Oper} {a : Act} {Q : Exit → Act → World → Prop} {w0 wr : World} {base n bytes : Nat} {tt : TypeId} {z v val : Value} {xs : List Value}
    (hgd : o.guard = none) (s x : Operand) (t e : TypeId)
    (ho : o.op = .call { callee := .builtin .append, args := #[s, x], argTypes := #[t, t] })
    (ht : P.underlying t = some (.slice e)) (hinfo : (P.info? e).map (fun i => (i.zero, i.size, i.bytes)) = some (some z, 1, bytes)) (hzs : z.cells.size = 1) (hby : bytes ≤ 24)
    (hown : wr.ownsRow base e 1 v n xs) (hs : a.eval s = v) (hx : a.eval x = .slice (some ⟨wr.heap.size, 0, none⟩) 1 1) (h1 : val.oneCell' = true)
    (hn : n ≤ 20000000) (hb : base ≤ w0.heap.size) (hbel : Below base w0 wr)
    (h : ∀ v' w', w'.ownsRow base e 1 v' (n + 1) (xs ++ [val]) → Below base w0 w' → (wr.alloc (.cells #[val] tt)).grownBy w' v.ownBlock → wpList P ops Q rest (a.put o.dst v') w') :
    wpList P ops Q (o :: rest) a (wr.alloc (.cells #[val] tt)) := by
  obtain ⟨i0, hi, hz0, hz1, hz2⟩ := info_parts hinfo
  have hsz := hbel.size
  have hnb : (n + 1) * bytes ≤ 140737488355328 := Nat.le_trans (Nat.mul_le_mul (Nat.add_le_add_right hn 1) hby) (by omega)
  refine wpList_append_own _ hgd s x t ho base e i0 z 1 bytes ht hi hz0 hz1 hz2 hzs (by decide) v n xs hs (hown.alloc _) ⟨wr.heap.size, 0, none⟩ 1 1 [val] hx rfl (cell_one_new _ _ _)
    (by intro u hu; simp at hu; subst hu; exact h1) (by unfold maxLen; omega) hnb (by simp; omega) ?_
  intro v' w' ho' hg _
  exact h v' w' ho' ((hbel.alloc (by omega) _).grown hg (by simp; omega) (fun j hj => (hown.lt j hj).1)) hg
end

end Go.Proofs.YtekkkoipcghlmaaDoor

namespace Go.Proofs.YtekkkoipcghlmaaDoor.Sp

def wordsAux (cur : List UInt8) : List UInt8 → List (List UInt8)
  | [] => [cur]
  | c :: r => if c = 32 then cur :: wordsAux [] r else wordsAux (cur ++ [c]) r
def words (l : List UInt8) : List (List UInt8) := if l = [] then [] else wordsAux [] l

def linesAux (cur : List UInt8) : List UInt8 → List (List UInt8)
  | [] => if cur = [] then [] else [cur]
  | c :: r => if c = 10 then cur :: linesAux [] r else linesAux (cur ++ [c]) r
def lines (l : List UInt8) : List (List UInt8) := linesAux [] l
def endAux (cur : List UInt8) : List UInt8 → Bool
  | [] => cur.isEmpty
  | c :: r => if c = 10 then endAux [] r else endAux (cur ++ [c]) r
def ended (l : List UInt8) : Bool := endAux [] l

def num (w : List UInt8) : Int :=
  match w with
  | [a] => if 49 ≤ a.toNat ∧ a.toNat ≤ 57 then (a.toNat : Int) - 48 else 0
  | [a, b] => if a.toNat = 49 ∧ 48 ≤ b.toNat ∧ b.toNat ≤ 50 then (b.toNat : Int) - 38 else 0
  | _ => 0
def lit (w : List UInt8) : Int :=
  match w with
  | a :: r => if a = 45 then - num r else num (a :: r)
  | [] => 0

theorem num_bd (w : List UInt8) : 0 ≤ num w ∧ num w ≤ 12 := by
  unfold num; split <;> (try split) <;> omega
theorem lit_bd (w : List UInt8) : -12 ≤ lit w ∧ lit w ≤ 12 := by
  unfold lit
  split
  · rename_i a r
    have h1 := num_bd r; have h2 := num_bd (a :: r)
    split <;> omega
  · omega

def okLine (l : List UInt8) : Bool := (words l).all fun w => lit w != 0
def sortedAt (l : List Int) (i : Nat) : List Int :=
  (if l.contains ((i : Int) + 1) then [(i : Int) + 1] else []) ++ (if l.contains (-((i : Int) + 1)) then [-((i : Int) + 1)] else [])
def sortedTo (l : List Int) (n : Nat) : List Int := (List.range n).flatMap (sortedAt l)
def sorted (l : List Int) : List Int := sortedTo l 12
def clauseOf (l : List UInt8) : List Int := sorted ((words l).map lit)

theorem sortedTo_succ (l : List Int) (n : Nat) : sortedTo l (n + 1) = sortedTo l n ++ sortedAt l n := by
  unfold sortedTo; rw [List.range_succ, List.flatMap_append]; simp
theorem sortedTo_len (l : List Int) (n : Nat) : (sortedTo l n).length ≤ 2 * n := by
  induction n with
  | zero => simp [sortedTo]
  | succ n ih =>
    rw [sortedTo_succ, List.length_append]
    have : (sortedAt l n).length ≤ 2 := by
      unfold sortedAt; split <;> split <;> simp
    omega
def digs (n : Nat) : List UInt8 := if n < 10 then [UInt8.ofNat (48 + n)] else [49, UInt8.ofNat (38 + n)]
def lw (x : Int) : List UInt8 := if x < 0 then 45 :: digs x.natAbs else digs x.natAbs
/-- The first line that is no clause's, counted from n + 1 on. -/
def scan (e : Bool) : Nat → List (List UInt8) → Option Nat
  | _, [] => none
  | n, l :: r => if !okLine l || (!e && r.isEmpty) then some (n + 1) else scan e (n + 1) r

theorem words_len (l : List UInt8) : ∀ cur, (wordsAux cur l).length ≤ l.length + 1 := by
  induction l with
  | nil => intro cur; simp [wordsAux]
  | cons c r ih =>
    intro cur
    unfold wordsAux
    split
    · have := ih []; simp; omega
    · have := ih (cur ++ [c]); simp; omega
theorem words_len' (l : List UInt8) : (words l).length ≤ l.length + 1 := by
  unfold words; split
  · simp
  · exact words_len l []
theorem lines_len (l : List UInt8) : ∀ cur, (linesAux cur l).length ≤ l.length + 1 := by
  induction l with
  | nil => intro cur; unfold linesAux; split <;> simp
  | cons c r ih =>
    intro cur
    unfold linesAux
    split
    · have := ih []; simp; omega
    · have := ih (cur ++ [c]); simp; omega

end Go.Proofs.YtekkkoipcghlmaaDoor.Sp

namespace Go.Proofs.YtekkkoipcghlmaaDoor
/-- Are all words literals. -/
def allLit (ws : List (List UInt8)) : Bool := ws.all fun w => Sp.lit w != 0
end Go.Proofs.YtekkkoipcghlmaaDoor

namespace Go.Proofs.YtekkkoipcghlmaaDoor.Sp

/-- The place of a literal's bit. -/
def bitIx (x : Int) : Nat := if 0 < x then 2 * (x.toNat - 1) else 2 * ((-x).toNat - 1) + 1
def litAt (i : Nat) : Int := if i % 2 = 0 then ((i / 2 + 1 : Nat) : Int) else -((i / 2 + 1 : Nat) : Int)
def bit (x : Int) : Nat := 2 ^ bitIx x
def maskOf (l : List Int) : Nat := l.foldl (fun m x => m ||| bit x) 0
def litsOf (m : Nat) : List Int := ((List.range 24).filter (fun i => m.testBit i)).map litAt

theorem maskFrom_testBit (l : List Int) : ∀ (m i : Nat), (l.foldl (fun m x => m ||| bit x) m).testBit i = (m.testBit i || l.any fun x => bitIx x == i) := by
  induction l with
  | nil => simp
  | cons a r ih =>
    intro m i
    rw [List.foldl_cons, ih, Nat.testBit_or, List.any_cons]
    unfold bit
    rw [Nat.testBit_two_pow, Bool.or_assoc]
    congr 1
theorem maskOf_testBit (l : List Int) (i : Nat) : (maskOf l).testBit i = l.any fun x => bitIx x == i := by
  unfold maskOf; rw [maskFrom_testBit]; simp

theorem maskOf_snoc (l : List Int) (x : Int) : maskOf (l ++ [x]) = maskOf l ||| bit x := by
  unfold maskOf; rw [List.foldl_append]; rfl

theorem bitIx_lt (x : Int) (h : -12 ≤ x ∧ x ≤ 12) : bitIx x < 24 := by unfold bitIx; split <;> omega
theorem maskOf_lt (l : List Int) (h : ∀ x, x ∈ l → -12 ≤ x ∧ x ≤ 12) : maskOf l < 2 ^ 24 := by
  apply Nat.lt_pow_two_of_testBit
  intro i hi
  rw [maskOf_testBit, List.any_eq_false]
  intro x hx
  have := bitIx_lt x (h x hx)
  simp; omega

theorem range24 : List.range 24 = (List.range 12).flatMap (fun i => [2 * i, 2 * i + 1]) := by decide

theorem any_plus (l : List Int) (h : ∀ x, x ∈ l → x ≠ 0) (i : Nat) : (l.any fun x => bitIx x == 2 * i) = l.contains ((i : Int) + 1) := by
  rw [Bool.eq_iff_iff, List.any_eq_true, List.contains_iff_mem]
  constructor
  · rintro ⟨x, hx, hb⟩
    have h0 := h x hx
    have hb' : bitIx x = 2 * i := by simpa using hb
    unfold bitIx at hb'
    split at hb'
    · rwa [show (i : Int) + 1 = x from by omega]
    · omega
  · intro hx
    refine ⟨_, hx, ?_⟩
    unfold bitIx
    rw [if_pos (by omega)]
    simp
theorem any_minus (l : List Int) (h : ∀ x, x ∈ l → x ≠ 0) (i : Nat) : (l.any fun x => bitIx x == 2 * i + 1) = l.contains (-((i : Int) + 1)) := by
  rw [Bool.eq_iff_iff, List.any_eq_true, List.contains_iff_mem]
  constructor
  · rintro ⟨x, hx, hb⟩
    have h0 := h x hx
    have hb' : bitIx x = 2 * i + 1 := by simpa using hb
    unfold bitIx at hb'
    split at hb'
    · omega
    · rwa [show -((i : Int) + 1) = x from by omega]
  · intro hx
    refine ⟨_, hx, ?_⟩
    unfold bitIx
    rw [if_neg (by omega)]
    simp

theorem litsOf_maskOf (l : List Int) (h : ∀ x, x ∈ l → x ≠ 0) : litsOf (maskOf l) = sorted l := by
  unfold litsOf sorted sortedTo
  rw [range24, List.filter_flatMap, List.map_flatMap]
  congr 1
  funext i
  have e1 : litAt (2 * i) = (i : Int) + 1 := by unfold litAt; rw [if_pos (by omega)]; omega
  have e2 : litAt (2 * i + 1) = -((i : Int) + 1) := by unfold litAt; rw [if_neg (by omega)]; omega
  have t1 := (maskOf_testBit l (2 * i)).trans (any_plus l h i)
  have t2 := (maskOf_testBit l (2 * i + 1)).trans (any_minus l h i)
  unfold sortedAt
  simp only [List.filter_cons, List.filter_nil, t1, t2]
  split <;> split <;> simp [e1, e2]

end Go.Proofs.YtekkkoipcghlmaaDoor.Sp

namespace Go.Proofs.YtekkkoipcghlmaaDoor
open Go.RowKit

theorem pow_plus (n : Int) (h1 : 1 ≤ n) (h2 : n ≤ 12) : (2 : Int) ^ (2 * (n - 1)).toNat % 4294967296 = (Sp.bit n : Int) := by
  have : n = 1 ∨ n = 2 ∨ n = 3 ∨ n = 4 ∨ n = 5 ∨ n = 6 ∨ n = 7 ∨ n = 8 ∨ n = 9 ∨ n = 10 ∨ n = 11 ∨ n = 12 := by omega
  rcases this with rfl | rfl | rfl | rfl | rfl | rfl | rfl | rfl | rfl | rfl | rfl | rfl <;> decide
theorem pow_minus (n : Int) (h1 : -12 ≤ n) (h2 : n ≤ -1) : (2 : Int) * 2 ^ (2 * (-n - 1)).toNat % 4294967296 = (Sp.bit n : Int) := by
  have : n = -1 ∨ n = -2 ∨ n = -3 ∨ n = -4 ∨ n = -5 ∨ n = -6 ∨ n = -7 ∨ n = -8 ∨ n = -9 ∨ n = -10 ∨ n = -11 ∨ n = -12 := by omega
  rcases this with rfl | rfl | rfl | rfl | rfl | rfl | rfl | rfl | rfl | rfl | rfl | rfl <;> decide

theorem ret_bit {a b : Int} (h : a = b) : Ending.returned (.tuple #[.int .u32 a, .bool true]) = .returned (.tuple #[.int .u32 b, .bool true]) := by rw [h]

set_option maxRecDepth 100000 in
set_option maxHeartbeats 400000 in
theorem of_yes (n : Int) (w : World) (h1 : -12 ≤ n) (h2 : n ≤ 12) (h0 : n ≠ 0) :
    Calls Tryd.prog 54 #[.int .i64 n] w fun e w' => e = .returned (.tuple #[.int .u32 (Sp.bit n : Int), .bool true]) ∧ w' = w := by
  by_cases hp : 0 < n
  · have h1' : 1 ≤ n := by omega
    have HP := hide (pow_plus n h1' h2)
    go_enter Tryd.func54, Tryd.ntmps54
    go_wp2
    go_ret2
    exact ⟨ret_bit (unhide HP), rfl⟩
  · have h1' : n ≤ -1 := by omega
    have HP := hide (pow_minus n h1 h1')
    go_enter Tryd.func54, Tryd.ntmps54
    go_wp2
    go_ret2
    exact ⟨ret_bit (unhide HP), rfl⟩

set_option maxRecDepth 100000 in
set_option maxHeartbeats 400000 in
theorem of_no (n : Int) (w : World) (h1 : n = 0 ∨ n < -12 ∨ 12 < n) :
    Calls Tryd.prog 54 #[.int .i64 n] w fun e w' => e = .returned (.tuple #[.int .u32 0, .bool false]) ∧ w' = w := by
  rcases h1 with rfl | h | h
  · go_enter Tryd.func54, Tryd.ntmps54
    go_wp2
    go_ret2
    exact ⟨rfl, rfl⟩
  · go_enter Tryd.func54, Tryd.ntmps54
    go_wp2
    go_ret2
    exact ⟨rfl, rfl⟩
  · go_enter Tryd.func54, Tryd.ntmps54
    go_wp2
    go_ret2
    exact ⟨rfl, rfl⟩

end Go.Proofs.YtekkkoipcghlmaaDoor

namespace Go.Proofs.YtekkkoipcghlmaaDoor.Sp

theorem dec12 (u : Nat) (h1 : 1 ≤ u) (h2 : u ≤ 12) : Lib.decDigits u = digs u := by
  by_cases h : u < 10
  · rw [Lib.decDigits, dif_pos h, digs, if_pos h]
  · rw [Lib.decDigits, dif_neg h, Lib.decDigits, dif_pos (by omega), digs, if_neg h, show u / 10 = 1 from by omega, show 48 + u % 10 = 38 + u from by omega]; rfl
theorem itoa_lw (x : Int) (h0 : x ≠ 0) (h1 : -12 ≤ x) (h2 : x ≤ 12) : Lib.itoa x = lw x := by
  unfold Lib.itoa lw
  split
  · rw [dec12 _ (by omega) (by omega)]
  · rw [dec12 _ (by omega) (by omega), show x.toNat = x.natAbs from by omega]

theorem all24 (p : Int → Prop) (h : ∀ k : Fin 12, p ((k.val : Int) + 1) ∧ p (-((k.val : Int) + 1))) (x : Int) (h0 : x ≠ 0) (h1 : -12 ≤ x) (h2 : x ≤ 12) : p x := by
  by_cases hp : 0 < x
  · have := (h ⟨(x - 1).toNat, by omega⟩).1
    simp only at this
    rwa [show (((x - 1).toNat : Nat) : Int) + 1 = x from by omega] at this
  · have := (h ⟨(-x - 1).toNat, by omega⟩).2
    simp only at this
    rwa [show -((((-x - 1).toNat : Nat) : Int) + 1) = x from by omega] at this

theorem lit_lw (x : Int) (h0 : x ≠ 0) (h1 : -12 ≤ x) (h2 : x ≤ 12) : lit (lw x) = x := all24 (fun x => lit (lw x) = x) (by decide) x h0 h1 h2
theorem atoi_lw (x : Int) (h0 : x ≠ 0) (h1 : -12 ≤ x) (h2 : x ≤ 12) : Lib.atoiAll (lw x) = .ok x := all24 (fun x => Lib.atoiAll (lw x) = .ok x) (by decide) x h0 h1 h2

theorem num_digs (r : List UInt8) (h : num r ≠ 0) : r = digs (num r).toNat := by
  unfold num at h ⊢
  split at h
  · rename_i a
    split at h
    · rename_i hh
      simp only [hh, and_self, if_true]
      rw [digs, if_pos (by omega)]
      congr 1
      apply UInt8.toNat_inj.1
      rw [UInt8.toNat_ofNat']
      omega
    · exact absurd rfl h
  · rename_i a b
    split at h
    · rename_i hh
      simp only [hh, and_self, if_true]
      rw [digs, if_neg (by omega)]
      congr 1
      · apply UInt8.toNat_inj.1
        rw [hh.1]; rfl
      · congr 1
        apply UInt8.toNat_inj.1
        rw [UInt8.toNat_ofNat']
        omega
    · exact absurd rfl h
  · exact absurd rfl h

theorem lw_lit (s : List UInt8) (h : lit s ≠ 0) : s = lw (lit s) := by
  rcases s with _ | ⟨a, r⟩
  · exact absurd rfl h
  · have hb := num_bd r
    have hb2 := num_bd (a :: r)
    unfold lit at h ⊢
    simp only at h ⊢
    split at h
    · rename_i ha
      subst ha
      simp only [if_true]
      have hn : num r ≠ 0 := by omega
      unfold lw
      rw [if_pos (by omega), show (-num r).natAbs = (num r).toNat from by omega, ← num_digs r hn]
    · rename_i ha
      rw [if_neg ha]
      unfold lw
      rw [if_neg (by omega), show (num (a :: r)).natAbs = (num (a :: r)).toNat from by omega]
      exact num_digs (a :: r) h

/-- What fromWord hands back, by how Atoi ends. -/
theorem fromWord_ok (s : List UInt8) (v : Int) (h : Lib.atoiAll s = .ok v) (hi : Lib.itoa v = s) : lit s = if -12 ≤ v ∧ v ≤ 12 then v else 0 := by
  split
  · rename_i hr
    by_cases h0 : v = 0
    · subst h0
      rw [← hi]
      show lit (Lib.itoa 0) = 0
      unfold Lib.itoa
      rw [if_neg (by omega), Lib.decDigits, dif_pos (by decide)]
      decide
    · rw [← hi, itoa_lw v h0 hr.1 hr.2, lit_lw v h0 hr.1 hr.2]
  · rename_i hr
    by_cases h0 : lit s = 0
    · exact h0
    · exfalso
      have hb := lit_bd s
      have := lw_lit s h0
      have ha := atoi_lw (lit s) h0 hb.1 hb.2
      rw [← this, h] at ha
      injection ha with ha
      exact hr (by omega)
theorem fromWord_other (s : List UInt8) (v : Int) (h : Lib.atoiAll s = .ok v) (hi : ¬ Lib.itoa v = s) : lit s = 0 := by
  by_cases h0 : lit s = 0
  · exact h0
  · exfalso
    have hb := lit_bd s
    have hs := lw_lit s h0
    have ha := atoi_lw (lit s) h0 hb.1 hb.2
    rw [← hs, h] at ha
    injection ha with ha
    rw [ha, itoa_lw _ h0 hb.1 hb.2] at hi
    exact hi hs.symm
theorem fromWord_bad (s : List UInt8) (h : ∀ v, Lib.atoiAll s ≠ .ok v) : lit s = 0 := by
  by_cases h0 : lit s = 0
  · exact h0
  · exfalso
    have hb := lit_bd s
    have hs := lw_lit s h0
    have ha := atoi_lw (lit s) h0 hb.1 hb.2
    rw [← hs] at ha
    exact h _ ha

end Go.Proofs.YtekkkoipcghlmaaDoor.Sp

namespace Go.Proofs.YtekkkoipcghlmaaDoor
open Go.RowKit

theorem var_below {P : Program} {w w' : World} {n : String} {g : Nat} {cs : Array Value} (hg : P.globalNamed n = some g) (hv : w.var? P n = some cs) (hb : Below w.heap.size w w') : w'.var? P n = some cs := by
  unfold World.var? at hv ⊢
  rw [hg] at hv ⊢
  simp only [Option.bind_some] at hv ⊢
  have hlt : g < w.heap.size := by
    rcases Nat.lt_or_ge g w.heap.size with h' | h'
    · exact h'
    · rw [Array.getElem?_eq_none h'] at hv; cases hv
  rw [hb.block g hlt]
  exact hv

/-- The package's variables that the road reads. -/
structure EnvT (w : World) : Prop where
  tab : Lib.TabIs Tryd.prog w "internal/strconv.uint64pow10" .u64 Lib.pow10Tab
  brj : 1 < w.heap.size ∧ TabAt 1 Lib.deBruijn32tab w
structure Env (w : World) : Prop extends EnvT w where
  syn : ∃ tp p, w.var? Tryd.prog "strconv.ErrSyntax" = some #[.iface tp p]
  rng : ∃ tp p, w.var? Tryd.prog "strconv.ErrRange" = some #[.iface tp p]
  len : 0 < w.heap.size ∧ ∃ m, w.cell? ⟨0, 0, none⟩ = some (.int .i64 m)

theorem Tryd.gTab : Tryd.prog.globalNamed "internal/strconv.uint64pow10" = some 4 := by kernel_rfl
theorem Tryd.gSyn : Tryd.prog.globalNamed "strconv.ErrSyntax" = some 2 := by kernel_rfl
theorem Tryd.gRng : Tryd.prog.globalNamed "strconv.ErrRange" = some 3 := by kernel_rfl

theorem EnvT.below {w w' : World} (h : EnvT w) (hb : Below w.heap.size w w') : EnvT w' :=
  ⟨var_below Tryd.gTab h.tab hb, ⟨Nat.lt_of_lt_of_le h.brj.1 hb.size, fun j hj => (hb.cell (p := ⟨1, j, none⟩) h.brj.1).trans (h.brj.2 j hj)⟩⟩
theorem Env.below {w w' : World} (h : Env w) (hb : Below w.heap.size w w') : Env w' := by
  obtain ⟨t, p, hs⟩ := h.syn
  obtain ⟨t2, p2, hr⟩ := h.rng
  obtain ⟨hl, m, hm⟩ := h.len
  exact ⟨h.toEnvT.below hb, ⟨t, p, var_below Tryd.gSyn hs hb⟩, ⟨t2, p2, var_below Tryd.gRng hr hb⟩,
    ⟨Nat.lt_of_lt_of_le hl hb.size, m, (hb.cell (p := ⟨0, 0, none⟩) hl).trans hm⟩⟩

theorem bs_data (l : List UInt8) : (bs l).data.toList = l := by simp [bs]

theorem below_grow2 (w : World) (k : Nat) (os : Array Obj) : Below w.heap.size w (Sort.grow (w.drewN k) os) :=
  ⟨rfl, rfl, rfl, by show w.heap.size ≤ (w.heap ++ os).size; simp, fun j hj => by show (w.heap ++ os)[j]? = w.heap[j]?; rw [Array.getElem?_append_left hj]⟩

theorem itoa_any (n : Int) (h0 : -9223372036854775808 ≤ n) (h1 : n ≤ 9223372036854775807) (w : World) (he : EnvT w) :
    Calls Tryd.prog 39 #[.int .i64 n] w fun e w' => e = .returned (.string (bs (Lib.itoa n))) ∧ Below w.heap.size w w' := by
  refine (Tryd.strconv_Itoa n h0 h1 w he.tab).mono ?_
  rintro e w' ⟨rfl, k, os, rfl⟩
  exact ⟨rfl, below_grow2 w k os⟩

/-- What strconv.Atoi hands back. -/
theorem atoi_any (s : List UInt8) (w : World) (hs : s.length ≤ 6000) (he : Env w) :
    Calls Tryd.prog 53 #[.string (bs s)] w fun e w' => Below w.heap.size w w' ∧
      ((∃ v, Lib.atoiAll s = .ok v ∧ e = .returned (.tuple #[.int .i64 v, .nilIface])) ∨
       ((∀ v, Lib.atoiAll s ≠ .ok v) ∧ ∃ (v : Int) (N : Nat), e = .returned (.tuple #[.int .i64 v, .iface 116 (.pointer (some ⟨N, 0, none⟩))]))) := by
  have hd := bs_data s
  have hz := bs_size s
  rcases h : Lib.atoiAll s with v | _ | _
  · refine (Any.strconv_Atoi_ok Tryd.laysC172 (bs s) (by omega) v (by rw [hd]; exact h) w).mono ?_
    rintro e w' ⟨rfl, rfl | ⟨t, rfl⟩⟩
    · exact ⟨Below.refl _ _, .inl ⟨v, rfl, rfl⟩⟩
    · exact ⟨Lib.bytesWorld_below _ _ _, .inl ⟨v, rfl, rfl⟩⟩
  · obtain ⟨tp, p, hv⟩ := he.syn
    refine (Any.strconv_Atoi_syntax_var Tryd.laysC172 (bs s) (by omega) (by rw [hd]; exact h) tp p w hv).mono ?_
    rintro e w' ⟨N, rfl, _, _, hb⟩
    exact ⟨hb, .inr ⟨fun v hv => (by cases hv), 0, N, rfl⟩⟩
  · obtain ⟨tp, p, hv⟩ := he.rng
    refine (Any.strconv_Atoi_range_var Tryd.laysC172 (bs s) (by omega) (by rw [hd]; exact h) tp p w hv).mono ?_
    rintro e w' ⟨N, rfl, _, _, hb⟩
    exact ⟨hb, .inr ⟨fun v hv => (by cases hv), _, N, rfl⟩⟩

theorem atoi_bd {s : List UInt8} {v : Int} (h : Lib.atoiAll s = .ok v) : -9223372036854775808 ≤ v ∧ v ≤ 9223372036854775807 := by
  unfold Lib.atoiAll at h
  split at h
  · cases h
  · simp only at h
    split at h
    · cases h
    · cases h
    · split at h
      · cases h
      · split at h
        · cases h
        · injection h with h
          subst h
          split <;> omega

/-- The bit of a word's literal, and whether it is one. -/
def fw (s : List UInt8) : Int := if Sp.lit s = 0 then 0 else (Sp.bit (Sp.lit s) : Int)
def fwOk (s : List UInt8) : Bool := Sp.lit s != 0
theorem fw_no {s : List UInt8} (h : Sp.lit s = 0) : fw s = 0 ∧ fwOk s = false := by unfold fw fwOk; rw [h]; exact ⟨rfl, rfl⟩
theorem fw_yes {s : List UInt8} (h : Sp.lit s ≠ 0) : fw s = (Sp.bit (Sp.lit s) : Int) ∧ fwOk s = true := by unfold fw fwOk; exact ⟨if_neg h, by simpa using h⟩

set_option maxRecDepth 100000 in
set_option maxHeartbeats 400000 in
theorem fromWord_any (s : List UInt8) (w : World) (hs : s.length ≤ 6000) (he : Env w) :
    Calls Tryd.prog 36 #[.string (bs s)] w fun e w' => Below w.heap.size w w' ∧
      e = .returned (.tuple #[.int .u32 (fw s), .bool (fwOk s)]) := by
  have HA := hide (atoi_any s w hs he)
  go_enter Tryd.func36, Tryd.ntmps36
  go_wp2_with fail
  refine (unhide HA).mono ?_
  rintro e w1 ⟨hb1, ⟨v, hv, rfl⟩ | ⟨hno, v, N, rfl⟩⟩
  · have HE := hide (he.below hb1)
    have hbd := atoi_bd hv
    have HV := hide hv
    clear hv
    go_wp2_with fail
    refine (itoa_any v hbd.1 hbd.2 w1 (unhide HE).toEnvT).mono ?_
    rintro e w2 ⟨rfl, hb2⟩
    by_cases hi : Lib.itoa v = s
    · have ht : ((bs (Lib.itoa v)).toList == (bs s).toList) = true := by rw [hi]; simp
      have HI := hide hi
      have HF := hide (Sp.fromWord_ok s v (unhide HV) hi)
      clear hi
      by_cases hr : -12 ≤ v ∧ v ≤ 12
      · rw [if_pos hr] at HF
        by_cases h0 : v = 0
        · have HO := hide (of_no v w2 (.inl h0))
          have HZ := hide ((unhide HF).trans h0)
          clear h0
          go_wp2_with fail
          refine (unhide HO).mono ?_
          rintro e w3 ⟨rfl, rfl⟩
          go_wp2
          go_ret2
          exact ⟨hb1.trans (hb2.mono hb1.size), by rw [(fw_no (unhide HZ)).1, (fw_no (unhide HZ)).2]; rfl⟩
        · have HO := hide (of_yes v w2 hr.1 hr.2 h0)
          have HZ : Hid (Sp.lit s ≠ 0) := hide (by rw [unhide HF]; exact h0)
          clear h0
          go_wp2_with fail
          refine (unhide HO).mono ?_
          rintro e w3 ⟨rfl, rfl⟩
          go_wp2
          go_ret2
          exact ⟨hb1.trans (hb2.mono hb1.size), by rw [(fw_yes (unhide HZ)).1, (fw_yes (unhide HZ)).2, unhide HF]; rfl⟩
      · rw [if_neg hr] at HF
        have HO := hide (of_no v w2 (by omega))
        clear hr
        go_wp2_with fail
        refine (unhide HO).mono ?_
        rintro e w3 ⟨rfl, rfl⟩
        go_wp2
        go_ret2
        exact ⟨hb1.trans (hb2.mono hb1.size), by rw [(fw_no (unhide HF)).1, (fw_no (unhide HF)).2]; rfl⟩
    · have ht : ((bs (Lib.itoa v)).toList == (bs s).toList) = false := by rw [bs_toList, bs_toList]; simpa using hi
      have HF := hide (Sp.fromWord_other s v (unhide HV) hi)
      clear hi
      go_wp2
      go_ret2
      exact ⟨hb1.trans (hb2.mono hb1.size), by rw [(fw_no (unhide HF)).1, (fw_no (unhide HF)).2]; rfl⟩
  · have HF := hide (Sp.fromWord_bad s hno)
    clear hno
    go_wp2
    go_ret2
    exact ⟨hb1, by rw [(fw_no (unhide HF)).1, (fw_no (unhide HF)).2]; rfl⟩

end Go.Proofs.YtekkkoipcghlmaaDoor

namespace Go.Proofs.YtekkkoipcghlmaaDoor
open Go.RowKit

theorem bits_or_u32 (a b : Nat) (ha : a < 4294967296) (hb : b < 4294967296) : bits .or .u32 (a : Int) (b : Int) = ((a ||| b : Nat) : Int) := by
  have hx : a ||| b < 2 ^ 32 := Nat.or_lt_two_pow (by omega) (by omega)
  have h1 : (BitVec.ofInt 32 (a : Int)).toNat = a := by
    rw [BitVec.ofInt_natCast, BitVec.toNat_ofNat]; exact Nat.mod_eq_of_lt (by omega)
  have h2 : (BitVec.ofInt 32 (b : Int)).toNat = b := by
    rw [BitVec.ofInt_natCast, BitVec.toNat_ofNat]; exact Nat.mod_eq_of_lt (by omega)
  show IntKind.u32.wrap ((BitVec.ofInt 32 (a : Int) ||| BitVec.ofInt 32 (b : Int)).toNat : Int) = _
  rw [BitVec.toNat_or, h1, h2, wrap_u32']
  omega

set_option maxRecDepth 100000 in
set_option maxHeartbeats 400000 in
theorem unionS_any (v : Value) (ws : List (List UInt8)) (w : World) (hl : ws.length ≤ 10000000) (hw : ∀ x, x ∈ ws → x.length ≤ 6000) (hv : Lies w v (strs ws)) (he : Env w) :
    Calls Tryd.prog 35 #[v, .func (.func 36) #[] #[]] w fun e w' => Below w.heap.size w w' ∧
      ((allLit ws = false ∧ e = .returned (.tuple #[.int .u32 0, .bool false])) ∨ (allLit ws = true ∧ e = .returned (.tuple #[.int .u32 (Sp.maskOf (ws.map Sp.lit) : Int), .bool true]))) := by
  rcases hv with ⟨h0, ao, cap, rfl⟩ | ⟨b, off, cap, hp, rfl, hb, hc⟩
  · have hx0 : ws = [] := by simpa [strs] using h0
    subst hx0
    go_enter Tryd.func35, Tryd.ntmps35
    go_wp2
    refine wp_loop_rounds 1 ?_
    rw [rounds_succ]
    go_wp2
    go_ret2
    exact ⟨Below.refl _ _, .inr ⟨rfl, rfl⟩⟩
  · have hlen : (strs ws).length = ws.length := by simp [strs]
    rw [hlen] at hp ⊢
    go_enter Tryd.func35, Tryd.ntmps35
    go_wp2
    go_loopw [6, 13] (fun m i wr => ∃ k : Nat, k ≤ ws.length ∧ i = .int .i64 k ∧ m = .int .u32 (Sp.maskOf ((ws.take k).map Sp.lit) : Int) ∧ Below w.heap.size w wr ∧ Hid (allLit (ws.take k) = true)) (fun _ i _ => ws.length - (intOf i).toNat)
    case atStart => exact ⟨0, Nat.zero_le _, rfl, rfl, Below.refl _ _, rfl⟩
    case round =>
      obtain ⟨k, hk, rfl, rfl, hbel, HA⟩ := hrel
      by_cases hlt : k < ws.length
      · have hcell : wr.cell? ⟨b, off + k, none⟩ = some (.string (bs ws[k])) := (hbel.cell (p := ⟨b, off + k, none⟩) hb).trans (hc k (.string (bs ws[k])) (by simp [strs, hlt]))
        have hxl := hw ws[k] (List.getElem_mem hlt)
        have HM : Hid (ws[k] ∈ ws) := hide (List.getElem_mem hlt)
        have HS : Hid (ws.take (k + 1) = ws.take k ++ [ws[k]]) := hide (List.take_succ_eq_append_getElem hlt)
        generalize ws[k] = x at hcell HS hxl HM
        clear hc hw
        have HW := hide (fromWord_any x wr hxl (he.below hbel))
        have hbd := Sp.lit_bd x
        by_cases hz : Sp.lit x = 0
        · rw [(fw_no hz).1, (fw_no hz).2] at HW
          have HZ := hide hz
          clear hz
          go_wp2_with fail
          refine (unhide HW).mono ?_
          rintro e w1 ⟨hb1, rfl⟩
          go_wp2
          go_ret2
          have hfalse : allLit ws = false := by
            rw [allLit, List.all_eq_false]
            exact ⟨x, unhide HM, by simp [unhide HZ]⟩
          exact ⟨hbel.trans (hb1.mono hbel.size), .inl ⟨hfalse, rfl⟩⟩
        · rw [(fw_yes hz).1, (fw_yes hz).2] at HW
          have HZ := hide hz
          clear hz
          have HMB : Hid (Sp.maskOf ((ws.take (k + 1)).map Sp.lit) = Sp.maskOf ((ws.take k).map Sp.lit) ||| Sp.bit (Sp.lit x)) := hide (by rw [unhide HS, List.map_append, ← Sp.maskOf_snoc]; rfl)
          have hm1 : Sp.maskOf ((ws.take k).map Sp.lit) < 2 ^ 24 := Sp.maskOf_lt _ (fun y hy => by obtain ⟨z, _, rfl⟩ := List.mem_map.1 hy; exact Sp.lit_bd z)
          have hm2 : Sp.bit (Sp.lit x) < 2 ^ 24 := Nat.pow_lt_pow_right (by decide) (Sp.bitIx_lt _ hbd)
          generalize Sp.maskOf ((ws.take k).map Sp.lit) = m1 at *
          generalize Sp.bit (Sp.lit x) = m2 at *
          have HOR : Hid (bits BinOp.or IntKind.u32 (m1 : Int) (m2 : Int) = ((m1 ||| m2 : Nat) : Int)) := hide (bits_or_u32 m1 m2 (Nat.lt_trans hm1 (by decide)) (Nat.lt_trans hm2 (by decide)))
          go_wp2_with fail
          refine (unhide HW).mono ?_
          rintro e w1 ⟨hb1, rfl⟩
          go_wp2
          go_roundw
          case rel => exact ⟨k + 1, by omega, by go_num, by rw [unhide HMB, ← unhide HOR], hbel.trans (hb1.mono hbel.size), hide (by rw [unhide HS]; have := unhide HA; simp [allLit] at this ⊢; exact ⟨this, unhide HZ⟩)⟩
          case measure => simp [intOf]; omega
      · have HT : Hid (ws.take k = ws) := hide (List.take_of_length_le (by omega))
        go_wp2
        go_ret2
        have htrue : allLit ws = true := by rw [← unhide HT]; exact unhide HA
        exact ⟨hbel, .inr ⟨htrue, by rw [unhide HT]; rfl⟩⟩

set_option maxRecDepth 100000 in
set_option maxHeartbeats 400000 in
theorem fromWords_any (v : Value) (ws : List (List UInt8)) (w : World) (hl : ws.length ≤ 10000000) (hw : ∀ x, x ∈ ws → x.length ≤ 6000) (hv : Lies w v (strs ws)) (he : Env w) :
    Calls Tryd.prog 19 #[v] w fun e w' => Below w.heap.size w w' ∧
      ((allLit ws = false ∧ e = .returned (.tuple #[.int .u32 0, .bool false])) ∨ (allLit ws = true ∧ e = .returned (.tuple #[.int .u32 (Sp.maskOf (ws.map Sp.lit) : Int), .bool true]))) := by
  have HU := hide (unionS_any v ws w hl hw hv he)
  generalize allLit ws = al at *
  generalize Sp.maskOf (ws.map Sp.lit) = mk at *
  clear hw hv hl
  go_enter Tryd.func19, Tryd.ntmps19
  go_wp2_with fail
  refine (unhide HU).mono ?_
  rintro e w1 ⟨hb1, ⟨h1, rfl⟩ | ⟨h1, rfl⟩⟩
  · have H1 := hide h1
    clear h1
    go_wp2
    go_ret2
    exact ⟨hb1, .inl ⟨unhide H1, rfl⟩⟩
  · have H1 := hide h1
    clear h1
    go_wp2
    go_ret2
    exact ⟨hb1, .inr ⟨unhide H1, rfl⟩⟩

end Go.Proofs.YtekkkoipcghlmaaDoor
