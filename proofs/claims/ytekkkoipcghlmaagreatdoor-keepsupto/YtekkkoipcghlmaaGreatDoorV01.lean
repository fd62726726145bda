import Derived.WalkKit
import Derived.Deep.QuietTactic
import Derived.BigQuiet
import Derived.WalkSpells
import Derived.WalkLawsBesides
import Derived.Lib.Strings
import Derived.Maps.AppendAt
import Derived.Lib.TrailingZeros
import Derived.Deep.AppendLies
import Derived.Test.YtekkkoipcghlmaaGreatDoorProg
import Derived.Lib.AtoiAll
import Derived.Lib.ItoaNum
set_option linter.all false
namespace Go.Proofs.YtekkkoipcghlmaaGreatDoor
open Go.RowKit

theorem hide {p : Prop} (h : p) : Hid p := h
theorem unhide {p : Prop} (h : Hid p) : p := h

/-- A slice value that reads as these one-cell values. -/
def Lies (w : World) (v : Value) (vs : List Value) : Prop :=
  (vs = [] ∧ ∃ ao cap, v = .slice ao 0 cap) ∨
  (∃ b off cap, 0 < vs.length ∧ v = .slice (some ⟨b, off, none⟩) vs.length cap ∧ b < w.heap.size ∧ ∀ k x, vs[k]? = some x → w.cell? ⟨b, off + k, none⟩ = some x)

theorem Lies.below {w w' : World} {v : Value} {vs : List Value} (h : Lies w v vs) (hb : Below w.heap.size w w') : Lies w' v vs := by
  rcases h with h | ⟨b, off, cap, hp, hv, hlt, hc⟩
  · exact .inl h
  · exact .inr ⟨b, off, cap, hp, hv, Nat.lt_of_lt_of_le hlt hb.size, fun k x hx => (hb.cell (p := ⟨b, off + k, none⟩) hlt).trans (hc k x hx)⟩

theorem Lies.nil (w : World) : Lies w (.slice none 0 0) [] := .inl ⟨rfl, _, _, rfl⟩

theorem lies_of_owns {w : World} {base : Nat} {e : TypeId} {v : Value} {n : Nat} {xs : List Value} (h : w.ownsRow base e 1 v n xs) (hn : xs.length = n) : Lies w v xs := by
  by_cases h0 : n = 0
  · subst h0
    have hx : xs = [] := List.length_eq_zero_iff.1 hn
    refine .inl ⟨hx, ?_⟩
    rcases h.2 with ⟨hv, _⟩ | ⟨g, cap, cur, hv, _⟩
    · exact ⟨_, _, hv⟩
    · exact ⟨_, _, hv⟩
  · obtain ⟨m, rfl⟩ : ∃ m, n = m + 1 := ⟨n - 1, by omega⟩
    have hlt := h.lt
    obtain ⟨g, cap, rfl⟩ : ∃ g cap, v = .slice (some ⟨g, 0, none⟩) (m + 1) cap := by
      rcases h.2 with ⟨hv, hx⟩ | ⟨g, cap, cur, hv, _⟩
      · omega
      · exact ⟨g, cap, hv⟩
    refine .inr ⟨g, 0, cap, by omega, by rw [hn], (hlt g rfl).2, fun k x hx => ?_⟩
    have hk : k < xs.length := by
      rcases Nat.lt_or_ge k xs.length with h | h
      · exact h
      · rw [List.getElem?_eq_none h] at hx; cases hx
    have := h.cellAt k (by omega)
    rw [Nat.zero_add, this, hx]

def bs (l : List UInt8) : ByteArray := ⟨l.toArray⟩
def ints (xs : List Int) : List Value := xs.map (Value.int .i64)
def strs (ss : List (List UInt8)) : List Value := ss.map (fun l => Value.string (bs l))
/-- Masks as cells. -/
def us (ms : List Nat) : List Value := ms.map (fun (m : Nat) => Value.int .u32 (m : Int))
theorem bs_size (l : List UInt8) : (bs l).size = l.length := by show l.toArray.size = l.length; simp
theorem bs_toList (l : List UInt8) : (bs l).toList = l := by
  rw [Go.ByteArray.toList_eq]; simp [bs]
theorem bs_get {l : List UInt8} {k : Nat} (h : k < l.length) : (bs l)[k]'(by rw [bs_size]; exact h) = l[k] := by
  show (l.toArray)[k]'(by simpa using h) = l[k]; simp
theorem byte_ne {c : UInt8} {n : Nat} (hn : n < 256) (h : ¬ c = UInt8.ofNat n) : ((c.toNat : Int) == (n : Int)) = false := by
  rw [beq_eq_false_iff_ne]; intro h'
  exact h (UInt8.toNat_inj.1 (by rw [UInt8.toNat_ofNat']; omega))
theorem bs_extract (l : List UInt8) (a b : Nat) : (bs l).extract a b = bs ((l.drop a).take (b - a)) := by
  unfold bs; rw [ByteArray.extract_mk]
theorem bs_append (a b : List UInt8) : bs a ++ bs b = bs (a ++ b) := by
  unfold bs; apply ByteArray.ext; simp
theorem bs_nonempty {l : List UInt8} (h : l ≠ []) : (bs l).toList.isEmpty = false := by
  rw [bs_toList]; simpa using h

theorem grown_of_below {w w' : World} (h : Below w.heap.size w w') : w.grownBy w' none := ⟨h.os, h.tape, h.output, h.size, fun k hk _ => h.block k hk⟩
theorem owns_mono {w : World} {base base' : Nat} {e : TypeId} {v : Value} {n : Nat} {xs : List Value} (h : w.ownsRow base e 1 v n xs) (hb : base' ≤ base) : w.ownsRow base' e 1 v n xs := by
  refine ⟨h.1, ?_⟩
  rcases h.2 with h' | ⟨g, cap, cur, h1, h2, h3⟩
  · exact .inl h'
  · exact .inr ⟨g, cap, cur, h1, Nat.le_trans hb h2, h3⟩
theorem owns_shape {w : World} {base : Nat} {e : TypeId} {v : Value} {n : Nat} {xs : List Value} (h : w.ownsRow base e 1 v n xs) : ∃ ao c, v = .slice ao n c := by
  rcases h.2 with ⟨h', h0⟩ | ⟨g, cap, cur, h1, _⟩
  · subst h0; exact ⟨_, _, h'⟩
  · exact ⟨_, _, h1⟩
theorem owns_below {w w' : World} {base : Nat} {e : TypeId} {v : Value} {n : Nat} {xs : List Value} (h : w.ownsRow base e 1 v n xs) (hb : Below w.heap.size w w') : w'.ownsRow base e 1 v n xs := by
  refine h.kept (grown_of_below hb) ?_
  cases hv : v.ownBlock with
  | none => exact .inl rfl
  | some g => exact .inr (by simp)
/-- Rows of two element types lie apart. -/
theorem rows_apart {w : World} {b1 b2 n m : Nat} {e1 e2 : TypeId} {x y : Value} {xs ys : List Value} (he : e1 ≠ e2) (hx : w.ownsRow b1 e1 1 x n xs) (hy : w.ownsRow b2 e2 1 y m ys) : x.ownBlock = none ∨ x.ownBlock ≠ y.ownBlock := by
  rcases hx.2 with ⟨rfl, _⟩ | ⟨g, cap, cur, rfl, _, hg, _⟩
  · exact .inl rfl
  · rcases hy.2 with ⟨rfl, _⟩ | ⟨g', cap', cur', rfl, _, hg', _⟩
    · exact .inr (by simp [Value.ownBlock])
    · refine .inr (fun h => ?_)
      simp only [Value.ownBlock, Option.some.injEq] at h
      subst h
      rw [hg] at hg'
      simp only [Option.some.injEq, Obj.cells.injEq] at hg'
      exact he hg'.2.1

section
variable {P : Program}
theorem slice_bs (t : TypeId) (hu : P.underlying t = some .string) (l : List UInt8) (i j : Int) (a b : Nat) (hi : i = a) (hj : j = b) (h1 : a ≤ b) (h2 : b ≤ l.length) (wx : World) :
    (Instr.slice t (.string (bs l)) (some (.int .i64 i)) (some (.int .i64 j)) none).run P wx = .ok (.string (bs ((l.drop a).take (b - a)))) wx := by
  subst hi hj
  rw [run_slice_string wx t (bs l) .i64 .i64 a b hu (by omega) (by omega) (by rw [bs_size]; omega)]
  simp [bs_extract]
theorem slice_from_bs (t : TypeId) (hu : P.underlying t = some .string) (l : List UInt8) (i : Int) (a : Nat) (hi : i = a) (h2 : a ≤ l.length) (wx : World) :
    (Instr.slice t (.string (bs l)) (some (.int .i64 i)) none none).run P wx = .ok (.string (bs (l.drop a))) wx := by
  subst hi
  rw [run_slice_string_from_if wx t (bs l) .i64 a hu, if_pos (by rw [bs_size]; omega)]
  simp only [Int.toNat_natCast, bs_size, bs_extract]
  rw [List.take_of_length_le (by simp)]
theorem conv_one (src dst e : TypeId) (hs : P.underlying src = some (.slice e)) (he : P.underlying e = some (.int .u8)) (hd : P.underlying dst = some .string) (x : Int) (h0 : 0 ≤ x) (h1 : x ≤ 255) (wx : World) :
    (convert src dst (.slice (some ⟨wx.heap.size, 0, none⟩) 1 1)).run P (wx.alloc (.cells #[.int .u8 x] e)) = .ok (.string (bs [UInt8.ofNat x.toNat])) (wx.alloc (.cells #[.int .u8 x] e)) := by
  have := run_convert_bytes_back (P := P) (wx.alloc (.cells #[.int .u8 x] e)) src dst e ⟨wx.heap.size, 0, none⟩ 1 [UInt8.ofNat x.toNat] hs he hd (fun j hj => by
    have hj0 : j = 0 := by simpa using hj
    subst hj0
    have : ((UInt8.ofNat x.toNat).toNat : Int) = x := by rw [UInt8.toNat_ofNat']; omega
    simp only [List.getElem_cons_zero, this]
    exact cell_one_new wx (.int .u8 x) e 0 _ rfl)
  exact this
theorem add_bs (a b : List UInt8) (h : a.length + b.length ≤ 9223372036854775807) (wx : World) : (Op.stringOp .add (bs a) (bs b)).run P wx = .ok (.string (bs (a ++ b))) wx := by
  rw [run_string_add_sum wx (bs a) (bs b) (by rw [bs_size, bs_size]; exact h), bs_append]
/-- 'out = append(out, x)', out the call's own. -/
theorem append_one {ops : Array Oper} {rest : List Oper} {o : Oper} {a : Act} {Q : Exit → Act → World → Prop} {w0 wr : World} {base n bytes : Nat} {tt : TypeId} {z v val : Value} {xs : List Value}
    (hgd : o.guard = none) (s x : Operand) (t e : TypeId)
    (ho : o.op = .call { callee := .builtin .append, args := #[s, x], argTypes := #[t, t] })
    (ht : P.underlying t = some (.slice e)) (hinfo : (P.info? e).map (fun i => (i.zero, i.size, i.bytes)) = some (some z, 1, bytes)) (hzs : z.cells.size = 1) (hby : bytes ≤ 24)
    (hown : wr.ownsRow base e 1 v n xs) (hs : a.eval s = v) (hx : a.eval x = .slice (some ⟨wr.heap.size, 0, none⟩) 1 1) (h1 : val.oneCell' = true)
    (hn : n ≤ 20000000) (hb : base ≤ w0.heap.size) (hbel : Below base w0 wr)
    (h : ∀ v' w', w'.ownsRow base e 1 v' (n + 1) (xs ++ [val]) → Below base w0 w' → (wr.alloc (.cells #[val] tt)).grownBy w' v.ownBlock → wpList P ops Q rest (a.put o.dst v') w') :
    wpList P ops Q (o :: rest) a (wr.alloc (.cells #[val] tt)) := by
  obtain ⟨i0, hi, hz0, hz1, hz2⟩ := info_parts hinfo
  have hsz := hbel.size
  have hnb : (n + 1) * bytes ≤ 140737488355328 := Nat.le_trans (Nat.mul_le_mul (Nat.add_le_add_right hn 1) hby) (by omega)
  refine wpList_append_own _ hgd s x t ho base e i0 z 1 bytes ht hi hz0 hz1 hz2 hzs (by decide) v n xs hs (hown.alloc _) ⟨wr.heap.size, 0, none⟩ 1 1 [val] hx rfl (cell_one_new _ _ _)
    (by intro u hu; simp at hu; subst hu; exact h1) (by unfold maxLen; omega) hnb (by simp; omega) ?_
  intro v' w' ho' hg _
  exact h v' w' ho' ((hbel.alloc (by omega) _).grown hg (by simp; omega) (fun j hj => (hown.lt j hj).1)) hg
end

end Go.Proofs.YtekkkoipcghlmaaGreatDoor

namespace Go.Proofs.YtekkkoipcghlmaaGreatDoor
open Go.RowKit

theorem belowDrew {B : Nat} {a w : World} (h : Below B a w) (q : Nat) : Below B a (w.drewN q) := h.trans ⟨rfl, rfl, rfl, Nat.le_refl _, fun _ _ => rfl⟩
/-- All blocks but some stay. -/
structure Only (F : Nat → Prop) (w w' : World) : Prop where
  os : w'.os = w.os
  tape : w'.tape = w.tape
  output : w'.output = w.output
  size : w.heap.size ≤ w'.heap.size
  block : ∀ k, k < w.heap.size → ¬ F k → w'.heap[k]? = w.heap[k]?

section
variable {F G : Nat → Prop} {a b c w w' : World}
theorem Only.refl (F : Nat → Prop) (w : World) : Only F w w := ⟨rfl, rfl, rfl, Nat.le_refl _, fun _ _ _ => rfl⟩
theorem Only.trans (h : Only F a b) (h' : Only F b c) : Only F a c :=
  ⟨h'.os.trans h.os, h'.tape.trans h.tape, h'.output.trans h.output, Nat.le_trans h.size h'.size, fun k hk hn => (h'.block k (Nat.lt_of_lt_of_le hk h.size) hn).trans (h.block k hk hn)⟩
theorem Only.weaken (h : Only F a b) (hF : ∀ k, k < a.heap.size → F k → G k) : Only G a b := ⟨h.os, h.tape, h.output, h.size, fun k hk hn => h.block k hk (fun hf => hn (hF k hk hf))⟩
theorem Only.of_below (F : Nat → Prop) (h : Below a.heap.size a b) : Only F a b := ⟨h.os, h.tape, h.output, h.size, fun k hk _ => h.block k hk⟩
theorem Only.alloc (F : Nat → Prop) (w : World) (o : Obj) : Only F w (w.alloc o) := Only.of_below F ((Below.refl _ _).alloc (Nat.le_refl _) o)
theorem Only.setCell {p : Addr} (hp : F p.block) (w : World) (u : Value) : Only F w (w.setCell p u) :=
  ⟨rfl, rfl, rfl, by simp [World.setCell], fun k _ hn => Below.heap_setCell _ _ _ _ (fun e => hn (by rw [e]; exact hp))⟩
theorem Only.grown {row : Option Nat} (hg : w.grownBy w' row) (hr : ∀ k, row = some k → F k) : Only F w w' :=
  ⟨hg.os, hg.tape, hg.output, hg.size, fun k hk hn => hg.block k hk (fun e => hn (hr k e.symm))⟩
theorem Only.below {B : Nat} (h : Only F w w') (hF : ∀ k, F k → B ≤ k) (hB : B ≤ w.heap.size) : Below B w w' :=
  ⟨h.os, h.tape, h.output, h.size, fun k hk => h.block k (by omega) (fun hf => by have := hF k hf; omega)⟩
end

theorem owns_at {w w' : World} {base : Nat} {e : TypeId} {s : Nat} {v : Value} {n : Nat} {xs : List Value} (h : w.ownsRow base e s v n xs) (hb : ∀ g, v.ownBlock = some g → w'.heap[g]? = w.heap[g]?) : w'.ownsRow base e s v n xs := by
  obtain ⟨h1, h2⟩ := h
  refine ⟨h1, ?_⟩
  rcases h2 with h2 | ⟨g, cap, cur, hv, h3, h4, h5⟩
  · exact .inl h2
  · exact .inr ⟨g, cap, cur, hv, h3, (hb g (by rw [hv]; rfl)).trans h4, h5⟩
theorem lt_of_block {w : World} {p : Nat} {o : Obj} (h : w.heap[p]? = some o) : p < w.heap.size := (Array.getElem?_eq_some_iff.1 h).1
/-- A row lies in no block of another make. -/
theorem row_ne {w : World} {base : Nat} {e : TypeId} {s : Nat} {v : Value} {n : Nat} {xs : List Value} (h : w.ownsRow base e s v n xs) {p : Nat} {cs : Array Value} {t : TypeId} {fz : Nat × Nat} (hp : w.heap[p]? = some (.cells cs t fz)) (ht : t ≠ e) : v.ownBlock ≠ some p := by
  intro he
  rcases h.2 with ⟨hv, _⟩ | ⟨g, cap, cur, hv, _, hg, _⟩
  · rw [hv] at he; cases he
  · rw [hv] at he
    simp [Value.ownBlock] at he
    subst he
    rw [hp] at hg
    simp at hg
    exact ht hg.2.1

end Go.Proofs.YtekkkoipcghlmaaGreatDoor

namespace Go.Proofs.YtekkkoipcghlmaaGreatDoor.Sp

def wordsAux (cur : List UInt8) : List UInt8 → List (List UInt8)
  | [] => [cur]
  | c :: r => if c = 32 then cur :: wordsAux [] r else wordsAux (cur ++ [c]) r
def words (l : List UInt8) : List (List UInt8) := if l = [] then [] else wordsAux [] l

def linesAux (cur : List UInt8) : List UInt8 → List (List UInt8)
  | [] => if cur = [] then [] else [cur]
  | c :: r => if c = 10 then cur :: linesAux [] r else linesAux (cur ++ [c]) r
def lines (l : List UInt8) : List (List UInt8) := linesAux [] l
def endAux (cur : List UInt8) : List UInt8 → Bool
  | [] => cur.isEmpty
  | c :: r => if c = 10 then endAux [] r else endAux (cur ++ [c]) r
def ended (l : List UInt8) : Bool := endAux [] l

def num (w : List UInt8) : Int :=
  match w with
  | [a] => if 49 ≤ a.toNat ∧ a.toNat ≤ 57 then (a.toNat : Int) - 48 else 0
  | [a, b] => if a.toNat = 49 ∧ 48 ≤ b.toNat ∧ b.toNat ≤ 50 then (b.toNat : Int) - 38 else 0
  | _ => 0
def lit (w : List UInt8) : Int :=
  match w with
  | a :: r => if a = 45 then - num r else num (a :: r)
  | [] => 0

theorem num_bd (w : List UInt8) : 0 ≤ num w ∧ num w ≤ 12 := by
  unfold num; split <;> (try split) <;> omega
theorem lit_bd (w : List UInt8) : -12 ≤ lit w ∧ lit w ≤ 12 := by
  unfold lit
  split
  · rename_i a r
    have h1 := num_bd r; have h2 := num_bd (a :: r)
    split <;> omega
  · omega

def okLine (l : List UInt8) : Bool := (words l).all fun w => lit w != 0
def sortedAt (l : List Int) (i : Nat) : List Int :=
  (if l.contains ((i : Int) + 1) then [(i : Int) + 1] else []) ++ (if l.contains (-((i : Int) + 1)) then [-((i : Int) + 1)] else [])
def sortedTo (l : List Int) (n : Nat) : List Int := (List.range n).flatMap (sortedAt l)
def sorted (l : List Int) : List Int := sortedTo l 12
def clauseOf (l : List UInt8) : List Int := sorted ((words l).map lit)

theorem sortedTo_succ (l : List Int) (n : Nat) : sortedTo l (n + 1) = sortedTo l n ++ sortedAt l n := by
  unfold sortedTo; rw [List.range_succ, List.flatMap_append]; simp
theorem sortedTo_len (l : List Int) (n : Nat) : (sortedTo l n).length ≤ 2 * n := by
  induction n with
  | zero => simp [sortedTo]
  | succ n ih =>
    rw [sortedTo_succ, List.length_append]
    have : (sortedAt l n).length ≤ 2 := by
      unfold sortedAt; split <;> split <;> simp
    omega
theorem sortedTo_bd (l : List Int) (n : Nat) : ∀ x, x ∈ sortedTo l n → x ≠ 0 ∧ -(n : Int) ≤ x ∧ x ≤ n := by
  induction n with
  | zero => simp [sortedTo]
  | succ n ih =>
    intro x hx
    rw [sortedTo_succ, List.mem_append] at hx
    rcases hx with h | h
    · have := ih x h; omega
    · unfold sortedAt at h
      rw [List.mem_append] at h
      rcases h with h | h
      · split at h <;> simp at h; omega
      · split at h <;> simp at h; omega

def digs (n : Nat) : List UInt8 := if n < 10 then [UInt8.ofNat (48 + n)] else [49, UInt8.ofNat (38 + n)]
def lw (x : Int) : List UInt8 := if x < 0 then 45 :: digs x.natAbs else digs x.natAbs
def join : List (List UInt8) → List UInt8
  | [] => []
  | [a] => a
  | a :: b :: r => a ++ 32 :: join (b :: r)
theorem join_snoc (xs : List (List UInt8)) (y : List UInt8) : join (xs ++ [y]) = (if xs = [] then y else join xs ++ 32 :: y) := by
  induction xs with
  | nil => rfl
  | cons a xs ih =>
    cases xs with
    | nil => rfl
    | cons b r =>
      simp only [List.cons_append] at ih ⊢
      rw [join, ih]
      simp [join]
def toldBody (l : List Int) : List UInt8 := join (l.map lw)
def told (l : List Int) : List UInt8 := toldBody l ++ [10]

/-- The first line that is no clause's, counted from n + 1 on. -/
def scan (e : Bool) : Nat → List (List UInt8) → Option Nat
  | _, [] => none
  | n, l :: r => if !okLine l || (!e && r.isEmpty) then some (n + 1) else scan e (n + 1) r

theorem words_len (l : List UInt8) : ∀ cur, (wordsAux cur l).length ≤ l.length + 1 := by
  induction l with
  | nil => intro cur; simp [wordsAux]
  | cons c r ih =>
    intro cur
    unfold wordsAux
    split
    · have := ih []; simp; omega
    · have := ih (cur ++ [c]); simp; omega
theorem words_len' (l : List UInt8) : (words l).length ≤ l.length + 1 := by
  unfold words; split
  · simp
  · exact words_len l []
theorem lines_len (l : List UInt8) : ∀ cur, (linesAux cur l).length ≤ l.length + 1 := by
  induction l with
  | nil => intro cur; unfold linesAux; split <;> simp
  | cons c r ih =>
    intro cur
    unfold linesAux
    split
    · have := ih []; simp; omega
    · have := ih (cur ++ [c]); simp; omega

end Go.Proofs.YtekkkoipcghlmaaGreatDoor.Sp

namespace Go.Proofs.YtekkkoipcghlmaaGreatDoor
/-- Are all words literals. -/
def allLit (ws : List (List UInt8)) : Bool := ws.all fun w => Sp.lit w != 0
end Go.Proofs.YtekkkoipcghlmaaGreatDoor

namespace Go.Proofs.YtekkkoipcghlmaaGreatDoor.Sp

/-- The place of a literal's bit. -/
def bitIx (x : Int) : Nat := if 0 < x then 2 * (x.toNat - 1) else 2 * ((-x).toNat - 1) + 1
def litAt (i : Nat) : Int := if i % 2 = 0 then ((i / 2 + 1 : Nat) : Int) else -((i / 2 + 1 : Nat) : Int)
def bit (x : Int) : Nat := 2 ^ bitIx x
def maskOf (l : List Int) : Nat := l.foldl (fun m x => m ||| bit x) 0
def litsOf (m : Nat) : List Int := ((List.range 24).filter (fun i => m.testBit i)).map litAt

theorem maskFrom_testBit (l : List Int) : ∀ (m i : Nat), (l.foldl (fun m x => m ||| bit x) m).testBit i = (m.testBit i || l.any fun x => bitIx x == i) := by
  induction l with
  | nil => simp
  | cons a r ih =>
    intro m i
    rw [List.foldl_cons, ih, Nat.testBit_or, List.any_cons]
    unfold bit
    rw [Nat.testBit_two_pow, Bool.or_assoc]
    congr 1
theorem maskOf_testBit (l : List Int) (i : Nat) : (maskOf l).testBit i = l.any fun x => bitIx x == i := by
  unfold maskOf; rw [maskFrom_testBit]; simp

theorem maskOf_snoc (l : List Int) (x : Int) : maskOf (l ++ [x]) = maskOf l ||| bit x := by
  unfold maskOf; rw [List.foldl_append]; rfl

theorem bitIx_lt (x : Int) (h : -12 ≤ x ∧ x ≤ 12) : bitIx x < 24 := by unfold bitIx; split <;> omega
theorem maskOf_lt (l : List Int) (h : ∀ x, x ∈ l → -12 ≤ x ∧ x ≤ 12) : maskOf l < 2 ^ 24 := by
  apply Nat.lt_pow_two_of_testBit
  intro i hi
  rw [maskOf_testBit, List.any_eq_false]
  intro x hx
  have := bitIx_lt x (h x hx)
  simp; omega

theorem range24 : List.range 24 = (List.range 12).flatMap (fun i => [2 * i, 2 * i + 1]) := by decide

theorem any_plus (l : List Int) (h : ∀ x, x ∈ l → x ≠ 0) (i : Nat) : (l.any fun x => bitIx x == 2 * i) = l.contains ((i : Int) + 1) := by
  rw [Bool.eq_iff_iff, List.any_eq_true, List.contains_iff_mem]
  constructor
  · rintro ⟨x, hx, hb⟩
    have h0 := h x hx
    have hb' : bitIx x = 2 * i := by simpa using hb
    unfold bitIx at hb'
    split at hb'
    · rwa [show (i : Int) + 1 = x from by omega]
    · omega
  · intro hx
    refine ⟨_, hx, ?_⟩
    unfold bitIx
    rw [if_pos (by omega)]
    simp
theorem any_minus (l : List Int) (h : ∀ x, x ∈ l → x ≠ 0) (i : Nat) : (l.any fun x => bitIx x == 2 * i + 1) = l.contains (-((i : Int) + 1)) := by
  rw [Bool.eq_iff_iff, List.any_eq_true, List.contains_iff_mem]
  constructor
  · rintro ⟨x, hx, hb⟩
    have h0 := h x hx
    have hb' : bitIx x = 2 * i + 1 := by simpa using hb
    unfold bitIx at hb'
    split at hb'
    · omega
    · rwa [show -((i : Int) + 1) = x from by omega]
  · intro hx
    refine ⟨_, hx, ?_⟩
    unfold bitIx
    rw [if_neg (by omega)]
    simp

theorem litsOf_maskOf (l : List Int) (h : ∀ x, x ∈ l → x ≠ 0) : litsOf (maskOf l) = sorted l := by
  unfold litsOf sorted sortedTo
  rw [range24, List.filter_flatMap, List.map_flatMap]
  congr 1
  funext i
  have e1 : litAt (2 * i) = (i : Int) + 1 := by unfold litAt; rw [if_pos (by omega)]; omega
  have e2 : litAt (2 * i + 1) = -((i : Int) + 1) := by unfold litAt; rw [if_neg (by omega)]; omega
  have t1 := (maskOf_testBit l (2 * i)).trans (any_plus l h i)
  have t2 := (maskOf_testBit l (2 * i + 1)).trans (any_minus l h i)
  unfold sortedAt
  simp only [List.filter_cons, List.filter_nil, t1, t2]
  split <;> split <;> simp [e1, e2]

theorem filter_head (p q : Nat → Bool) (k : Nat) (hp : p k = true) (hlo : ∀ i, i < k → p i = false) (hq : ∀ i, q i = (p i && i != k)) : ∀ n, k < n → (List.range n).filter p = k :: (List.range n).filter q := by
  have hz : ∀ n, n ≤ k → (List.range n).filter p = [] ∧ (List.range n).filter q = [] := by
    intro n hn
    constructor
    · rw [List.filter_eq_nil_iff]; intro a ha; have := List.mem_range.1 ha; rw [hlo a (by omega)]; simp
    · rw [List.filter_eq_nil_iff]; intro a ha; have := List.mem_range.1 ha; rw [hq, hlo a (by omega)]; simp
  intro n
  induction n with
  | zero => intro h; omega
  | succ n ih =>
    intro h
    rw [List.range_succ, List.filter_append, List.filter_append]
    by_cases hkn : k < n
    · rw [ih hkn]
      have : q n = p n := by rw [hq]; have : (n != k) = true := by simp; omega
                             rw [this, Bool.and_true]
      simp [List.filter_cons, this]
    · have : n = k := by omega
      subst this
      rw [(hz n (Nat.le_refl _)).1, (hz n (Nat.le_refl _)).2]
      simp [hp, hq]

theorem drop_low (m : Nat) (h0 : m ≠ 0) (h : m < 2 ^ 32) :
    m.testBit (Lib.ctz 32 m) = true ∧ (∀ i, i < Lib.ctz 32 m → m.testBit i = false) ∧ ∀ i, (m &&& (m - 1)).testBit i = (m.testBit i && i != Lib.ctz 32 m) := by
  obtain ⟨q, hm, hk⟩ := Lib.ctzFrom_spec 32 m (by omega) h
  have e : Lib.ctz 32 m = Lib.ctzFrom 32 m := by simp [Lib.ctz, h0]
  rw [e]
  generalize Lib.ctzFrom 32 m = k at hm hk ⊢
  have hp : 0 < 2 ^ k := Nat.two_pow_pos k
  have tm : ∀ j, m.testBit j = if j < k then false else (2 * q + 1).testBit (j - k) := by
    intro j
    have := Nat.testBit_two_pow_mul_add (2 * q + 1) (b := 0) hp j
    rw [Nat.add_zero, ← hm] at this
    rw [this]; simp
  have hm1 : m - 1 = 2 ^ k * (2 * q) + (2 ^ k - 1) := by
    rw [hm, Nat.mul_add, Nat.mul_one]; omega
  have tm1 : ∀ j, (m - 1).testBit j = if j < k then (2 ^ k - 1).testBit j else (2 * q).testBit (j - k) := by
    intro j
    rw [hm1]
    exact Nat.testBit_two_pow_mul_add (2 * q) (b := 2 ^ k - 1) (by omega) j
  have od : ∀ i, (2 * q + 1).testBit i = if i = 0 then true else q.testBit (i - 1) := by
    intro i
    cases i with
    | zero => simp [Nat.testBit_zero]
    | succ i => rw [Nat.testBit_succ, show (2 * q + 1) / 2 = q from by omega]; simp
  have ev : ∀ i, (2 * q).testBit i = if i = 0 then false else q.testBit (i - 1) := by
    intro i
    cases i with
    | zero => simp [Nat.testBit_zero]
    | succ i => rw [Nat.testBit_succ, show (2 * q) / 2 = q from by omega]; simp
  refine ⟨?_, ?_, ?_⟩
  · rw [tm, if_neg (by omega), od, if_pos (by omega)]
  · intro i hi; rw [tm, if_pos hi]
  · intro i
    rw [Nat.testBit_and, tm, tm1]
    by_cases h1 : i < k
    · simp [h1]
    · rw [if_neg h1, if_neg h1, od, ev]
      by_cases h2 : i = k
      · subst h2; simp
      · have : (i != k) = true := by simpa using h2
        rw [this, if_neg (by omega), if_neg (by omega)]
        simp

theorem litsOf_step (m : Nat) (h0 : m ≠ 0) (h : m < 2 ^ 24) : litsOf m = litAt (Lib.ctz 32 m) :: litsOf (m &&& (m - 1)) ∧ Lib.ctz 32 m < 24 := by
  obtain ⟨a, b, c⟩ := drop_low m h0 (Nat.lt_trans h (by decide))
  have hk : Lib.ctz 32 m < 24 := by
    rcases Nat.lt_or_ge (Lib.ctz 32 m) 24 with h' | h'
    · exact h'
    · exfalso
      have : m.testBit (Lib.ctz 32 m) = false := Nat.testBit_lt_two_pow (Nat.lt_of_lt_of_le h (Nat.pow_le_pow_right (by decide) h'))
      rw [a] at this; cases this
  refine ⟨?_, hk⟩
  unfold litsOf
  rw [filter_head (fun i => m.testBit i) (fun i => (m &&& (m - 1)).testBit i) (Lib.ctz 32 m) a b c 24 hk]
  rfl

theorem litsOf_zero : litsOf 0 = [] := by decide

end Go.Proofs.YtekkkoipcghlmaaGreatDoor.Sp

namespace Go.Proofs.YtekkkoipcghlmaaGreatDoor
open Go.RowKit

/-- How many literals clauses have. -/
def sizes (ms : List Nat) : Nat := (ms.map fun m => (Sp.litsOf m).length).sum
theorem sizes_snoc (ms : List Nat) (m : Nat) : sizes (ms ++ [m]) = sizes ms + (Sp.litsOf m).length := by simp [sizes]

/-- Bytes as cells. -/
def bytesV (pb : List UInt8) : List Value := pb.map (fun b => Value.int .u8 (b.toNat : Int))
/-- The program's solver, at block x: the clauses that it keeps, and its proof. -/
structure XAt (base : Nat) (w : World) (x : Nat) (kv : Value) (ms : List Nat) (pv : Value) (pb : List UInt8) : Prop where
  block : w.heap[x]? = some (.cells #[kv, .int .i64 (sizes ms : Int), pv] 77 (0, 0))
  le : base ≤ x
  row : w.ownsRow base 69 1 kv ms.length (us ms)
  prow : w.ownsRow base 5 1 pv pb.length (bytesV pb)
def XFoot (F : Nat → Prop) (x : Nat) (kv pv : Value) : Prop := F x ∧ (∀ g, kv.ownBlock = some g → F g) ∧ ∀ g, pv.ownBlock = some g → F g
theorem XAt.keep {base : Nat} {w w' : World} {x : Nat} {kv pv : Value} {ms : List Nat} {pb : List UInt8} (h : XAt base w x kv ms pv pb) {F : Nat → Prop} (hf : XFoot F x kv pv) (hk : ∀ k, F k → w'.heap[k]? = w.heap[k]?) : XAt base w' x kv ms pv pb :=
  ⟨(hk x hf.1).trans h.block, h.le, owns_at h.row (fun g hg => hk g (hf.2.1 g hg)), owns_at h.prow (fun g hg => hk g (hf.2.2 g hg))⟩

end Go.Proofs.YtekkkoipcghlmaaGreatDoor

namespace Go.Proofs.YtekkkoipcghlmaaGreatDoor
open Go.RowKit

theorem append_cell {P : Program} {ops : Array Oper} {rest : List Oper} {o : Oper} {a : Act} {Q : Exit → Act → World → Prop} {w1 : World} {base n bytes : Nat} {v val z : Value} {xs : List Value} {tt : TypeId}
    (hgd : o.guard = none) (s x : Operand) (t e : TypeId) (ho : o.op = .call { callee := .builtin .append, args := #[s, x], argTypes := #[t, t] })
    (ht : P.underlying t = some (.slice e)) (hinfo : (P.info? e).map (fun i => (i.zero, i.size, i.bytes)) = some (some z, 1, bytes)) (hzs : z.cells.size = 1) (hby : bytes ≤ 24)
    (hown : w1.ownsRow base e 1 v n xs) (hs : a.eval s = v) (hx : a.eval x = .slice (some ⟨w1.heap.size, 0, none⟩) 1 1) (h1 : val.oneCell' = true) (hn : n ≤ 20000000) (hbase : base ≤ w1.heap.size)
    (h : ∀ (g cap : Nat) (w' : World), w'.ownsRow base e 1 (.slice (some ⟨g, 0, none⟩) (n + 1) cap) (n + 1) (xs ++ [val]) → (w1.alloc (.cells #[val] tt)).grownBy w' v.ownBlock → (v.ownBlock = some g ∨ g = (w1.alloc (.cells #[val] tt)).heap.size) → wpList P ops Q rest (a.put o.dst (.slice (some ⟨g, 0, none⟩) (n + 1) cap)) w') :
    wpList P ops Q (o :: rest) a (w1.alloc (.cells #[val] tt)) := by
  obtain ⟨i0, hi0, hz0, hz1, hz2⟩ := info_parts hinfo
  have hnb : (n + 1) * bytes ≤ 140737488355328 := Nat.le_trans (Nat.mul_le_mul (Nat.add_le_add_right hn 1) hby) (by omega)
  refine wpList_append_lies (P := P) _ hgd s x t ho base e i0 _ 1 bytes ht hi0 hz0 hz1 hz2 hzs (by decide) v n xs hs (hown.alloc _) ⟨w1.heap.size, 0, none⟩ 1 1 [val] hx rfl (cell_one_new _ _ _) ?_ (by decide) (by unfold maxLen; omega) hnb (by simp; omega) _ rfl ?_
  · intro u hu; simp at hu; subst hu; exact h1
  · intro g cap w' h1 h2 h3 _
    exact h g cap w' h1 h2 h3

end Go.Proofs.YtekkkoipcghlmaaGreatDoor

namespace Go.Proofs.YtekkkoipcghlmaaGreatDoor
open Go.RowKit

theorem pow_plus (n : Int) (h1 : 1 ≤ n) (h2 : n ≤ 12) : (2 : Int) ^ (2 * (n - 1)).toNat % 4294967296 = (Sp.bit n : Int) := by
  have : n = 1 ∨ n = 2 ∨ n = 3 ∨ n = 4 ∨ n = 5 ∨ n = 6 ∨ n = 7 ∨ n = 8 ∨ n = 9 ∨ n = 10 ∨ n = 11 ∨ n = 12 := by omega
  rcases this with rfl | rfl | rfl | rfl | rfl | rfl | rfl | rfl | rfl | rfl | rfl | rfl <;> decide
theorem pow_minus (n : Int) (h1 : -12 ≤ n) (h2 : n ≤ -1) : (2 : Int) * 2 ^ (2 * (-n - 1)).toNat % 4294967296 = (Sp.bit n : Int) := by
  have : n = -1 ∨ n = -2 ∨ n = -3 ∨ n = -4 ∨ n = -5 ∨ n = -6 ∨ n = -7 ∨ n = -8 ∨ n = -9 ∨ n = -10 ∨ n = -11 ∨ n = -12 := by omega
  rcases this with rfl | rfl | rfl | rfl | rfl | rfl | rfl | rfl | rfl | rfl | rfl | rfl <;> decide

theorem ret_bit {a b : Int} (h : a = b) : Ending.returned (.tuple #[.int .u32 a, .bool true]) = .returned (.tuple #[.int .u32 b, .bool true]) := by rw [h]

set_option maxRecDepth 100000 in
set_option maxHeartbeats 400000 in
theorem of_yes (n : Int) (w : World) (h1 : -12 ≤ n) (h2 : n ≤ 12) (h0 : n ≠ 0) :
    Calls Tryz.prog 62 #[.int .i64 n] w fun e w' => e = .returned (.tuple #[.int .u32 (Sp.bit n : Int), .bool true]) ∧ w' = w := by
  by_cases hp : 0 < n
  · have h1' : 1 ≤ n := by omega
    have HP := hide (pow_plus n h1' h2)
    go_enter Tryz.func62, Tryz.ntmps62
    go_wp2
    go_ret2
    exact ⟨ret_bit (unhide HP), rfl⟩
  · have h1' : n ≤ -1 := by omega
    have HP := hide (pow_minus n h1 h1')
    go_enter Tryz.func62, Tryz.ntmps62
    go_wp2
    go_ret2
    exact ⟨ret_bit (unhide HP), rfl⟩

set_option maxRecDepth 100000 in
set_option maxHeartbeats 400000 in
theorem of_no (n : Int) (w : World) (h1 : n = 0 ∨ n < -12 ∨ 12 < n) :
    Calls Tryz.prog 62 #[.int .i64 n] w fun e w' => e = .returned (.tuple #[.int .u32 0, .bool false]) ∧ w' = w := by
  rcases h1 with rfl | h | h
  · go_enter Tryz.func62, Tryz.ntmps62
    go_wp2
    go_ret2
    exact ⟨rfl, rfl⟩
  · go_enter Tryz.func62, Tryz.ntmps62
    go_wp2
    go_ret2
    exact ⟨rfl, rfl⟩
  · go_enter Tryz.func62, Tryz.ntmps62
    go_wp2
    go_ret2
    exact ⟨rfl, rfl⟩

end Go.Proofs.YtekkkoipcghlmaaGreatDoor

namespace Go.Proofs.YtekkkoipcghlmaaGreatDoor.Sp

theorem dec12 (u : Nat) (h1 : 1 ≤ u) (h2 : u ≤ 12) : Lib.decDigits u = digs u := by
  by_cases h : u < 10
  · rw [Lib.decDigits, dif_pos h, digs, if_pos h]
  · rw [Lib.decDigits, dif_neg h, Lib.decDigits, dif_pos (by omega), digs, if_neg h, show u / 10 = 1 from by omega, show 48 + u % 10 = 38 + u from by omega]; rfl
theorem itoa_lw (x : Int) (h0 : x ≠ 0) (h1 : -12 ≤ x) (h2 : x ≤ 12) : Lib.itoa x = lw x := by
  unfold Lib.itoa lw
  split
  · rw [dec12 _ (by omega) (by omega)]
  · rw [dec12 _ (by omega) (by omega), show x.toNat = x.natAbs from by omega]

theorem all24 (p : Int → Prop) (h : ∀ k : Fin 12, p ((k.val : Int) + 1) ∧ p (-((k.val : Int) + 1))) (x : Int) (h0 : x ≠ 0) (h1 : -12 ≤ x) (h2 : x ≤ 12) : p x := by
  by_cases hp : 0 < x
  · have := (h ⟨(x - 1).toNat, by omega⟩).1
    simp only at this
    rwa [show (((x - 1).toNat : Nat) : Int) + 1 = x from by omega] at this
  · have := (h ⟨(-x - 1).toNat, by omega⟩).2
    simp only at this
    rwa [show -((((-x - 1).toNat : Nat) : Int) + 1) = x from by omega] at this

theorem lit_lw (x : Int) (h0 : x ≠ 0) (h1 : -12 ≤ x) (h2 : x ≤ 12) : lit (lw x) = x := all24 (fun x => lit (lw x) = x) (by decide) x h0 h1 h2
theorem atoi_lw (x : Int) (h0 : x ≠ 0) (h1 : -12 ≤ x) (h2 : x ≤ 12) : Lib.atoiAll (lw x) = .ok x := all24 (fun x => Lib.atoiAll (lw x) = .ok x) (by decide) x h0 h1 h2

theorem num_digs (r : List UInt8) (h : num r ≠ 0) : r = digs (num r).toNat := by
  unfold num at h ⊢
  split at h
  · rename_i a
    split at h
    · rename_i hh
      simp only [hh, and_self, if_true]
      rw [digs, if_pos (by omega)]
      congr 1
      apply UInt8.toNat_inj.1
      rw [UInt8.toNat_ofNat']
      omega
    · exact absurd rfl h
  · rename_i a b
    split at h
    · rename_i hh
      simp only [hh, and_self, if_true]
      rw [digs, if_neg (by omega)]
      congr 1
      · apply UInt8.toNat_inj.1
        rw [hh.1]; rfl
      · congr 1
        apply UInt8.toNat_inj.1
        rw [UInt8.toNat_ofNat']
        omega
    · exact absurd rfl h
  · exact absurd rfl h

theorem lw_lit (s : List UInt8) (h : lit s ≠ 0) : s = lw (lit s) := by
  rcases s with _ | ⟨a, r⟩
  · exact absurd rfl h
  · have hb := num_bd r
    have hb2 := num_bd (a :: r)
    unfold lit at h ⊢
    simp only at h ⊢
    split at h
    · rename_i ha
      subst ha
      simp only [if_true]
      have hn : num r ≠ 0 := by omega
      unfold lw
      rw [if_pos (by omega), show (-num r).natAbs = (num r).toNat from by omega, ← num_digs r hn]
    · rename_i ha
      rw [if_neg ha]
      unfold lw
      rw [if_neg (by omega), show (num (a :: r)).natAbs = (num (a :: r)).toNat from by omega]
      exact num_digs (a :: r) h

/-- What fromWord hands back, by how Atoi ends. -/
theorem fromWord_ok (s : List UInt8) (v : Int) (h : Lib.atoiAll s = .ok v) (hi : Lib.itoa v = s) : lit s = if -12 ≤ v ∧ v ≤ 12 then v else 0 := by
  split
  · rename_i hr
    by_cases h0 : v = 0
    · subst h0
      rw [← hi]
      show lit (Lib.itoa 0) = 0
      unfold Lib.itoa
      rw [if_neg (by omega), Lib.decDigits, dif_pos (by decide)]
      decide
    · rw [← hi, itoa_lw v h0 hr.1 hr.2, lit_lw v h0 hr.1 hr.2]
  · rename_i hr
    by_cases h0 : lit s = 0
    · exact h0
    · exfalso
      have hb := lit_bd s
      have := lw_lit s h0
      have ha := atoi_lw (lit s) h0 hb.1 hb.2
      rw [← this, h] at ha
      injection ha with ha
      exact hr (by omega)
theorem fromWord_other (s : List UInt8) (v : Int) (h : Lib.atoiAll s = .ok v) (hi : ¬ Lib.itoa v = s) : lit s = 0 := by
  by_cases h0 : lit s = 0
  · exact h0
  · exfalso
    have hb := lit_bd s
    have hs := lw_lit s h0
    have ha := atoi_lw (lit s) h0 hb.1 hb.2
    rw [← hs, h] at ha
    injection ha with ha
    rw [ha, itoa_lw _ h0 hb.1 hb.2] at hi
    exact hi hs.symm
theorem fromWord_bad (s : List UInt8) (h : ∀ v, Lib.atoiAll s ≠ .ok v) : lit s = 0 := by
  by_cases h0 : lit s = 0
  · exact h0
  · exfalso
    have hb := lit_bd s
    have hs := lw_lit s h0
    have ha := atoi_lw (lit s) h0 hb.1 hb.2
    rw [← hs] at ha
    exact h _ ha

end Go.Proofs.YtekkkoipcghlmaaGreatDoor.Sp
