import Derived.WalkKit
import Derived.Deep.QuietTactic
import Derived.BigQuiet
import Derived.WalkSpells
import Derived.WalkLawsBesides
import Derived.Lib.Strings
import Derived.Maps.AppendAt
namespace Go.Proofs.YtekkkoipcghlmaaGreatDoor
open Go.RowKit

theorem hide {p : Prop} (h : p) : Hid p := h
theorem unhide {p : Prop} (h : Hid p) : p := h

/-- A slice value that reads as these one-cell values. -/
def Lies (w : World) (v : Value) (vs : List Value) : Prop :=
  (vs = [] ∧ ∃ ao cap, v = .slice ao 0 cap) ∨
  (∃ b off cap, 0 < vs.length ∧ v = .slice (some ⟨b, off, none⟩) vs.length cap ∧ b < w.heap.size ∧ ∀ k x, vs[k]? = some x → w.cell? ⟨b, off + k, none⟩ = some x)

theorem Lies.below {w w' : World} {v : Value} {vs : List Value} (h : Lies w v vs) (hb : Below w.heap.size w w') : Lies w' v vs := by
  rcases h with h | ⟨b, off, cap, hp, hv, hlt, hc⟩
  · exact .inl h
  · exact .inr ⟨b, off, cap, hp, hv, Nat.lt_of_lt_of_le hlt hb.size, fun k x hx => (hb.cell (p := ⟨b, off + k, none⟩) hlt).trans (hc k x hx)⟩

theorem Lies.belowAt {n₀ : Nat} {w w' : World} {v : Value} {vs : List Value} (h : Lies w v vs) (hn : w.heap.size ≤ n₀) (hb : Below n₀ w w') : Lies w' v vs := h.below (hb.mono hn)

theorem Lies.nil (w : World) : Lies w (.slice none 0 0) [] := .inl ⟨rfl, _, _, rfl⟩

theorem lies_of_owns {w : World} {base : Nat} {e : TypeId} {v : Value} {n : Nat} {xs : List Value} (h : w.ownsRow base e 1 v n xs) (hn : xs.length = n) : Lies w v xs := by
  by_cases h0 : n = 0
  · subst h0
    have hx : xs = [] := List.length_eq_zero_iff.1 hn
    refine .inl ⟨hx, ?_⟩
    rcases h.2 with ⟨hv, _⟩ | ⟨g, cap, cur, hv, _⟩
    · exact ⟨_, _, hv⟩
    · exact ⟨_, _, hv⟩
  · obtain ⟨m, rfl⟩ : ∃ m, n = m + 1 := ⟨n - 1, by omega⟩
    have hlt := h.lt
    obtain ⟨g, cap, rfl⟩ : ∃ g cap, v = .slice (some ⟨g, 0, none⟩) (m + 1) cap := by
      rcases h.2 with ⟨hv, hx⟩ | ⟨g, cap, cur, hv, _⟩
      · omega
      · exact ⟨g, cap, hv⟩
    refine .inr ⟨g, 0, cap, by omega, by rw [hn], (hlt g rfl).2, fun k x hx => ?_⟩
    have hk : k < xs.length := by
      rcases Nat.lt_or_ge k xs.length with h | h
      · exact h
      · rw [List.getElem?_eq_none h] at hx; cases hx
    have := h.cellAt k (by omega)
    rw [Nat.zero_add, this, hx]

theorem ret_string {a b : ByteArray} (h : a = b) : Ending.returned (.string a) = .returned (.string b) := by rw [h]
def bs (l : List UInt8) : ByteArray := ⟨l.toArray⟩
def str (l : List UInt8) : Value := .string (bs l)
def ints (xs : List Int) : List Value := xs.map (Value.int .i64)
def strs (ss : List (List UInt8)) : List Value := ss.map (fun l => Value.string (bs l))
/-- Masks as cells. -/
def us (ms : List Nat) : List Value := ms.map (fun (m : Nat) => Value.int .u32 (m : Int))
theorem bs_size (l : List UInt8) : (bs l).size = l.length := by show l.toArray.size = l.length; simp
theorem bs_toList (l : List UInt8) : (bs l).toList = l := by
  rw [Go.ByteArray.toList_eq]; simp [bs]
theorem bs_get {l : List UInt8} {k : Nat} (h : k < l.length) : (bs l)[k]'(by rw [bs_size]; exact h) = l[k] := by
  show (l.toArray)[k]'(by simpa using h) = l[k]; simp
theorem byte_ne {c : UInt8} {n : Nat} (hn : n < 256) (h : ¬ c = UInt8.ofNat n) : ((c.toNat : Int) == (n : Int)) = false := by
  rw [beq_eq_false_iff_ne]; intro h'
  exact h (UInt8.toNat_inj.1 (by rw [UInt8.toNat_ofNat']; omega))
theorem bs_extract (l : List UInt8) (a b : Nat) : (bs l).extract a b = bs ((l.drop a).take (b - a)) := by
  unfold bs; rw [ByteArray.extract_mk]
theorem bs_append (a b : List UInt8) : bs a ++ bs b = bs (a ++ b) := by
  unfold bs; apply ByteArray.ext; simp
theorem bs_nonempty {l : List UInt8} (h : l ≠ []) : (bs l).toList.isEmpty = false := by
  rw [bs_toList]; simpa using h

theorem grown_of_below {w w' : World} (h : Below w.heap.size w w') : w.grownBy w' none := ⟨h.os, h.tape, h.output, h.size, fun k hk _ => h.block k hk⟩
theorem owns_mono {w : World} {base base' : Nat} {e : TypeId} {v : Value} {n : Nat} {xs : List Value} (h : w.ownsRow base e 1 v n xs) (hb : base' ≤ base) : w.ownsRow base' e 1 v n xs := by
  refine ⟨h.1, ?_⟩
  rcases h.2 with h' | ⟨g, cap, cur, h1, h2, h3⟩
  · exact .inl h'
  · exact .inr ⟨g, cap, cur, h1, Nat.le_trans hb h2, h3⟩
theorem owns_shape {w : World} {base : Nat} {e : TypeId} {v : Value} {n : Nat} {xs : List Value} (h : w.ownsRow base e 1 v n xs) : ∃ ao c, v = .slice ao n c := by
  rcases h.2 with ⟨h', h0⟩ | ⟨g, cap, cur, h1, _⟩
  · subst h0; exact ⟨_, _, h'⟩
  · exact ⟨_, _, h1⟩
theorem owns_below {w w' : World} {base : Nat} {e : TypeId} {v : Value} {n : Nat} {xs : List Value} (h : w.ownsRow base e 1 v n xs) (hb : Below w.heap.size w w') : w'.ownsRow base e 1 v n xs := by
  refine h.kept (grown_of_below hb) ?_
  cases hv : v.ownBlock with
  | none => exact .inl rfl
  | some g => exact .inr (by simp)
/-- Rows of two element types lie apart. -/
theorem rows_apart {w : World} {b1 b2 n m : Nat} {e1 e2 : TypeId} {x y : Value} {xs ys : List Value} (he : e1 ≠ e2) (hx : w.ownsRow b1 e1 1 x n xs) (hy : w.ownsRow b2 e2 1 y m ys) : x.ownBlock = none ∨ x.ownBlock ≠ y.ownBlock := by
  rcases hx.2 with ⟨rfl, _⟩ | ⟨g, cap, cur, rfl, _, hg, _⟩
  · exact .inl rfl
  · rcases hy.2 with ⟨rfl, _⟩ | ⟨g', cap', cur', rfl, _, hg', _⟩
    · exact .inr (by simp [Value.ownBlock])
    · refine .inr (fun h => ?_)
      simp only [Value.ownBlock, Option.some.injEq] at h
      subst h
      rw [hg] at hg'
      simp only [Option.some.injEq, Obj.cells.injEq] at hg'
      exact he hg'.2.1

section
variable {P : Program}
theorem slice_bs (t : TypeId) (hu : P.underlying t = some .string) (l : List UInt8) (i j : Int) (a b : Nat) (hi : i = a) (hj : j = b) (h1 : a ≤ b) (h2 : b ≤ l.length) (wx : World) :
    (Instr.slice t (.string (bs l)) (some (.int .i64 i)) (some (.int .i64 j)) none).run P wx = .ok (.string (bs ((l.drop a).take (b - a)))) wx := by
  subst hi hj
  rw [run_slice_string wx t (bs l) .i64 .i64 a b hu (by omega) (by omega) (by rw [bs_size]; omega)]
  simp [bs_extract]
theorem slice_from_bs (t : TypeId) (hu : P.underlying t = some .string) (l : List UInt8) (i : Int) (a : Nat) (hi : i = a) (h2 : a ≤ l.length) (wx : World) :
    (Instr.slice t (.string (bs l)) (some (.int .i64 i)) none none).run P wx = .ok (.string (bs (l.drop a))) wx := by
  subst hi
  rw [run_slice_string_from_if wx t (bs l) .i64 a hu, if_pos (by rw [bs_size]; omega)]
  simp only [Int.toNat_natCast, bs_size, bs_extract]
  rw [List.take_of_length_le (by simp)]
theorem conv_one (src dst e : TypeId) (hs : P.underlying src = some (.slice e)) (he : P.underlying e = some (.int .u8)) (hd : P.underlying dst = some .string) (x : Int) (h0 : 0 ≤ x) (h1 : x ≤ 255) (wx : World) :
    (convert src dst (.slice (some ⟨wx.heap.size, 0, none⟩) 1 1)).run P (wx.alloc (.cells #[.int .u8 x] e)) = .ok (.string (bs [UInt8.ofNat x.toNat])) (wx.alloc (.cells #[.int .u8 x] e)) := by
  have := run_convert_bytes_back (P := P) (wx.alloc (.cells #[.int .u8 x] e)) src dst e ⟨wx.heap.size, 0, none⟩ 1 [UInt8.ofNat x.toNat] hs he hd (fun j hj => by
    have hj0 : j = 0 := by simpa using hj
    subst hj0
    have : ((UInt8.ofNat x.toNat).toNat : Int) = x := by rw [UInt8.toNat_ofNat']; omega
    simp only [List.getElem_cons_zero, this]
    exact cell_one_new wx (.int .u8 x) e 0 _ rfl)
  exact this
theorem add_bs (a b : List UInt8) (h : a.length + b.length ≤ 9223372036854775807) (wx : World) : (Op.stringOp .add (bs a) (bs b)).run P wx = .ok (.string (bs (a ++ b))) wx := by
  rw [run_string_add_sum wx (bs a) (bs b) (by rw [bs_size, bs_size]; exact h), bs_append]
/-- 'out = append(out, x)', out the call's own. -/
theorem append_one {ops : Array Oper} {rest : List Oper} {o : Oper} {a : Act} {Q : Exit → Act → World → Prop} {w0 wr : World} {base n bytes : Nat} {tt : TypeId} {z v val : Value} {xs : List Value}
    (hgd : o.guard = none) (s x : Operand) (t e : TypeId)
    (ho : o.op = .call { callee := .builtin .append, args := #[s, x], argTypes := #[t, t] })
    (ht : P.underlying t = some (.slice e)) (hinfo : (P.info? e).map (fun i => (i.zero, i.size, i.bytes)) = some (some z, 1, bytes)) (hzs : z.cells.size = 1) (hby : bytes ≤ 24)
    (hown : wr.ownsRow base e 1 v n xs) (hs : a.eval s = v) (hx : a.eval x = .slice (some ⟨wr.heap.size, 0, none⟩) 1 1) (h1 : val.oneCell' = true)
    (hn : n ≤ 20000000) (hb : base ≤ w0.heap.size) (hbel : Below base w0 wr)
    (h : ∀ v' w', w'.ownsRow base e 1 v' (n + 1) (xs ++ [val]) → Below base w0 w' → (wr.alloc (.cells #[val] tt)).grownBy w' v.ownBlock → wpList P ops Q rest (a.put o.dst v') w') :
    wpList P ops Q (o :: rest) a (wr.alloc (.cells #[val] tt)) := by
  obtain ⟨i0, hi, hz0, hz1, hz2⟩ := info_parts hinfo
  have hsz := hbel.size
  have hnb : (n + 1) * bytes ≤ 140737488355328 := Nat.le_trans (Nat.mul_le_mul (Nat.add_le_add_right hn 1) hby) (by omega)
  refine wpList_append_own _ hgd s x t ho base e i0 z 1 bytes ht hi hz0 hz1 hz2 hzs (by decide) v n xs hs (hown.alloc _) ⟨wr.heap.size, 0, none⟩ 1 1 [val] hx rfl (cell_one_new _ _ _)
    (by intro u hu; simp at hu; subst hu; exact h1) (by unfold maxLen; omega) hnb (by simp; omega) ?_
  intro v' w' ho' hg _
  exact h v' w' ho' ((hbel.alloc (by omega) _).grown hg (by simp; omega) (fun j hj => (hown.lt j hj).1)) hg
end


end Go.Proofs.YtekkkoipcghlmaaGreatDoor

namespace Go.Proofs.YtekkkoipcghlmaaGreatDoor
open Go.RowKit

theorem belowDrew {B : Nat} {a w : World} (h : Below B a w) (q : Nat) : Below B a (w.drewN q) := h.trans ⟨rfl, rfl, rfl, Nat.le_refl _, fun _ _ => rfl⟩
/-- All blocks but some stay. -/
structure Only (F : Nat → Prop) (w w' : World) : Prop where
  os : w'.os = w.os
  tape : w'.tape = w.tape
  output : w'.output = w.output
  size : w.heap.size ≤ w'.heap.size
  block : ∀ k, k < w.heap.size → ¬ F k → w'.heap[k]? = w.heap[k]?

section
variable {F G : Nat → Prop} {a b c w w' : World}
theorem Only.refl (F : Nat → Prop) (w : World) : Only F w w := ⟨rfl, rfl, rfl, Nat.le_refl _, fun _ _ _ => rfl⟩
theorem Only.trans (h : Only F a b) (h' : Only F b c) : Only F a c :=
  ⟨h'.os.trans h.os, h'.tape.trans h.tape, h'.output.trans h.output, Nat.le_trans h.size h'.size, fun k hk hn => (h'.block k (Nat.lt_of_lt_of_le hk h.size) hn).trans (h.block k hk hn)⟩
theorem Only.weaken (h : Only F a b) (hF : ∀ k, k < a.heap.size → F k → G k) : Only G a b := ⟨h.os, h.tape, h.output, h.size, fun k hk hn => h.block k hk (fun hf => hn (hF k hk hf))⟩
theorem Only.of_below (F : Nat → Prop) (h : Below a.heap.size a b) : Only F a b := ⟨h.os, h.tape, h.output, h.size, fun k hk _ => h.block k hk⟩
theorem Only.alloc (F : Nat → Prop) (w : World) (o : Obj) : Only F w (w.alloc o) := Only.of_below F ((Below.refl _ _).alloc (Nat.le_refl _) o)
theorem Only.setCell {p : Addr} (hp : F p.block) (w : World) (u : Value) : Only F w (w.setCell p u) :=
  ⟨rfl, rfl, rfl, by simp [World.setCell], fun k _ hn => Below.heap_setCell _ _ _ _ (fun e => hn (by rw [e]; exact hp))⟩
theorem Only.grown {row : Option Nat} (hg : w.grownBy w' row) (hr : ∀ k, row = some k → F k) : Only F w w' :=
  ⟨hg.os, hg.tape, hg.output, hg.size, fun k hk hn => hg.block k hk (fun e => hn (hr k e.symm))⟩
theorem Only.below {B : Nat} (h : Only F w w') (hF : ∀ k, F k → B ≤ k) (hB : B ≤ w.heap.size) : Below B w w' :=
  ⟨h.os, h.tape, h.output, h.size, fun k hk => h.block k (by omega) (fun hf => by have := hF k hf; omega)⟩
end

theorem owns_at {w w' : World} {base : Nat} {e : TypeId} {s : Nat} {v : Value} {n : Nat} {xs : List Value} (h : w.ownsRow base e s v n xs) (hb : ∀ g, v.ownBlock = some g → w'.heap[g]? = w.heap[g]?) : w'.ownsRow base e s v n xs := by
  obtain ⟨h1, h2⟩ := h
  refine ⟨h1, ?_⟩
  rcases h2 with h2 | ⟨g, cap, cur, hv, h3, h4, h5⟩
  · exact .inl h2
  · exact .inr ⟨g, cap, cur, hv, h3, (hb g (by rw [hv]; rfl)).trans h4, h5⟩
theorem lt_of_block {w : World} {p : Nat} {o : Obj} (h : w.heap[p]? = some o) : p < w.heap.size := (Array.getElem?_eq_some_iff.1 h).1
/-- A row lies in no block of another make. -/
theorem row_ne {w : World} {base : Nat} {e : TypeId} {s : Nat} {v : Value} {n : Nat} {xs : List Value} (h : w.ownsRow base e s v n xs) {p : Nat} {cs : Array Value} {t : TypeId} {fz : Nat × Nat} (hp : w.heap[p]? = some (.cells cs t fz)) (ht : t ≠ e) : v.ownBlock ≠ some p := by
  intro he
  rcases h.2 with ⟨hv, _⟩ | ⟨g, cap, cur, hv, _, hg, _⟩
  · rw [hv] at he; cases he
  · rw [hv] at he
    simp [Value.ownBlock] at he
    subst he
    rw [hp] at hg
    simp at hg
    exact ht hg.2.1

end Go.Proofs.YtekkkoipcghlmaaGreatDoor

namespace Go.Proofs.YtekkkoipcghlmaaGreatDoor.Sp

def wordsAux (cur : List UInt8) : List UInt8 → List (List UInt8)
  | [] => [cur]
  | c :: r => if c = 32 then cur :: wordsAux [] r else wordsAux (cur ++ [c]) r
def words (l : List UInt8) : List (List UInt8) := if l = [] then [] else wordsAux [] l

def linesAux (cur : List UInt8) : List UInt8 → List (List UInt8)
  | [] => if cur = [] then [] else [cur]
  | c :: r => if c = 10 then cur :: linesAux [] r else linesAux (cur ++ [c]) r
def lines (l : List UInt8) : List (List UInt8) := linesAux [] l
def endAux (cur : List UInt8) : List UInt8 → Bool
  | [] => cur.isEmpty
  | c :: r => if c = 10 then endAux [] r else endAux (cur ++ [c]) r
def ended (l : List UInt8) : Bool := endAux [] l

def num (w : List UInt8) : Int :=
  match w with
  | [a] => if 49 ≤ a.toNat ∧ a.toNat ≤ 57 then (a.toNat : Int) - 48 else 0
  | [a, b] => if a.toNat = 49 ∧ 48 ≤ b.toNat ∧ b.toNat ≤ 50 then (b.toNat : Int) - 38 else 0
  | _ => 0
def lit (w : List UInt8) : Int :=
  match w with
  | a :: r => if a = 45 then - num r else num (a :: r)
  | [] => 0

theorem num_bd (w : List UInt8) : 0 ≤ num w ∧ num w ≤ 12 := by
  unfold num; split <;> (try split) <;> omega
theorem lit_bd (w : List UInt8) : -12 ≤ lit w ∧ lit w ≤ 12 := by
  unfold lit
  split
  · rename_i a r
    have h1 := num_bd r; have h2 := num_bd (a :: r)
    split <;> omega
  · omega

def okLine (l : List UInt8) : Bool := (words l).all fun w => lit w != 0
def sortedAt (l : List Int) (i : Nat) : List Int :=
  (if l.contains ((i : Int) + 1) then [(i : Int) + 1] else []) ++ (if l.contains (-((i : Int) + 1)) then [-((i : Int) + 1)] else [])
def sortedTo (l : List Int) (n : Nat) : List Int := (List.range n).flatMap (sortedAt l)
def sorted (l : List Int) : List Int := sortedTo l 12
def clauseOf (l : List UInt8) : List Int := sorted ((words l).map lit)

theorem sortedTo_succ (l : List Int) (n : Nat) : sortedTo l (n + 1) = sortedTo l n ++ sortedAt l n := by
  unfold sortedTo; rw [List.range_succ, List.flatMap_append]; simp
theorem sortedTo_len (l : List Int) (n : Nat) : (sortedTo l n).length ≤ 2 * n := by
  induction n with
  | zero => simp [sortedTo]
  | succ n ih =>
    rw [sortedTo_succ, List.length_append]
    have : (sortedAt l n).length ≤ 2 := by
      unfold sortedAt; split <;> split <;> simp
    omega
theorem sortedTo_bd (l : List Int) (n : Nat) : ∀ x, x ∈ sortedTo l n → x ≠ 0 ∧ -(n : Int) ≤ x ∧ x ≤ n := by
  induction n with
  | zero => simp [sortedTo]
  | succ n ih =>
    intro x hx
    rw [sortedTo_succ, List.mem_append] at hx
    rcases hx with h | h
    · have := ih x h; omega
    · unfold sortedAt at h
      rw [List.mem_append] at h
      rcases h with h | h
      · split at h <;> simp at h; omega
      · split at h <;> simp at h; omega

def digs (n : Nat) : List UInt8 := if n < 10 then [UInt8.ofNat (48 + n)] else [49, UInt8.ofNat (38 + n)]
def lw (x : Int) : List UInt8 := if x < 0 then 45 :: digs x.natAbs else digs x.natAbs
def join : List (List UInt8) → List UInt8
  | [] => []
  | [a] => a
  | a :: b :: r => a ++ 32 :: join (b :: r)
theorem join_snoc (xs : List (List UInt8)) (y : List UInt8) : join (xs ++ [y]) = (if xs = [] then y else join xs ++ 32 :: y) := by
  induction xs with
  | nil => rfl
  | cons a xs ih =>
    cases xs with
    | nil => rfl
    | cons b r =>
      simp only [List.cons_append] at ih ⊢
      rw [join, ih]
      simp [join]
def toldBody (l : List Int) : List UInt8 := join (l.map lw)
def told (l : List Int) : List UInt8 := toldBody l ++ [10]

/-- The first line that is no clause's, counted from n + 1 on. -/
def scan (e : Bool) : Nat → List (List UInt8) → Option Nat
  | _, [] => none
  | n, l :: r => if !okLine l || (!e && r.isEmpty) then some (n + 1) else scan e (n + 1) r

theorem words_len (l : List UInt8) : ∀ cur, (wordsAux cur l).length ≤ l.length + 1 := by
  induction l with
  | nil => intro cur; simp [wordsAux]
  | cons c r ih =>
    intro cur
    unfold wordsAux
    split
    · have := ih []; simp; omega
    · have := ih (cur ++ [c]); simp; omega
theorem words_len' (l : List UInt8) : (words l).length ≤ l.length + 1 := by
  unfold words; split
  · simp
  · exact words_len l []
theorem lines_len (l : List UInt8) : ∀ cur, (linesAux cur l).length ≤ l.length + 1 := by
  induction l with
  | nil => intro cur; unfold linesAux; split <;> simp
  | cons c r ih =>
    intro cur
    unfold linesAux
    split
    · have := ih []; simp; omega
    · have := ih (cur ++ [c]); simp; omega

end Go.Proofs.YtekkkoipcghlmaaGreatDoor.Sp

namespace Go.Proofs.YtekkkoipcghlmaaGreatDoor
/-- Are all words literals. -/
def allLit (ws : List (List UInt8)) : Bool := ws.all fun w => Sp.lit w != 0
end Go.Proofs.YtekkkoipcghlmaaGreatDoor
