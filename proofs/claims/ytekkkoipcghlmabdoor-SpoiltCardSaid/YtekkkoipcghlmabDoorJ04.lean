import Derived.Test.YtekkkoipcghlmabDoorJ02
import Derived.Test.YtekkkoipcghlmabDoorJ03
import Derived.Test.YtekkkoipcghlmabDoorJ01
import Derived.Lib.TrailingZeros
namespace Go.Proofs.YtekkkoipcghlmabDoor
open Go.RowKit

end Go.Proofs.YtekkkoipcghlmabDoor

namespace Go.Proofs.YtekkkoipcghlmabDoor
open Go.RowKit

theorem wordsAux_mem (l : List UInt8) : ∀ cur x, x ∈ Sp.wordsAux cur l → x.length ≤ cur.length + l.length := by
  induction l with
  | nil => intro cur x hx; simp [Sp.wordsAux] at hx; subst hx; simp
  | cons c r ih =>
    intro cur x hx
    unfold Sp.wordsAux at hx
    split at hx
    · rcases List.mem_cons.1 hx with rfl | hx
      · simp
      · have := ih [] x hx; simp at this ⊢; omega
    · have := ih _ x hx; simp at this ⊢; omega
theorem words_mem (l x : List UInt8) (hx : x ∈ Sp.words l) : x.length ≤ l.length := by
  unfold Sp.words at hx
  split at hx
  · simp at hx
  · simpa using wordsAux_mem l [] x hx
theorem linesAux_mem (l : List UInt8) : ∀ cur x, x ∈ Sp.linesAux cur l → x.length ≤ cur.length + l.length := by
  induction l with
  | nil =>
    intro cur x hx; unfold Sp.linesAux at hx
    split at hx
    · simp at hx
    · simp at hx; subst hx; simp
  | cons c r ih =>
    intro cur x hx
    unfold Sp.linesAux at hx
    split at hx
    · rcases List.mem_cons.1 hx with rfl | hx
      · simp
      · have := ih [] x hx; simp at this ⊢; omega
    · have := ih _ x hx; simp at this ⊢; omega
theorem lines_mem (l x : List UInt8) (hx : x ∈ Sp.lines l) : x.length ≤ l.length := by simpa using linesAux_mem l [] x hx

theorem Tryd.infoInts : (Tryd.prog.info? 22).map (fun i => (i.zero, i.size, i.bytes)) = some (some (.slice none 0 0), 1, 24) := by kernel_rfl

/-- Rows of numbers that lie at a list of values. -/
def RowsAt (w : World) (base : Nat) (vs : List Value) (cs : List (List Int)) : Prop := vs.length = cs.length ∧ ∀ (i : Nat) (x : Value) (c : List Int), vs[i]? = some x → cs[i]? = some c → w.ownsRow base 3 1 x c.length (ints c)

theorem RowsAt.below {w w' : World} {base : Nat} {vs : List Value} {cs : List (List Int)} (h : RowsAt w base vs cs) (hb : Below w.heap.size w w') : RowsAt w' base vs cs :=
  ⟨h.1, fun i x c hx hc => owns_below (h.2 i x c hx hc) hb⟩

theorem RowsAt.grown {w w' : World} {base b2 m : Nat} {vs ys : List Value} {cs : List (List Int)} {y : Value} (h : RowsAt w base vs cs) (hy : w.ownsRow b2 22 1 y m ys) (hg : w.grownBy w' y.ownBlock) : RowsAt w' base vs cs :=
  ⟨h.1, fun i x c hx hc => (h.2 i x c hx hc).kept hg (rows_apart (by decide) (h.2 i x c hx hc) hy)⟩

theorem RowsAt.snoc {w : World} {base : Nat} {vs : List Value} {cs : List (List Int)} {x : Value} {c : List Int} (h : RowsAt w base vs cs) (hx : w.ownsRow base 3 1 x c.length (ints c)) : RowsAt w base (vs ++ [x]) (cs ++ [c]) := by
  refine ⟨by simp [h.1], fun i y d hy hd => ?_⟩
  by_cases hi : i < vs.length
  · rw [List.getElem?_append_left hi] at hy
    rw [List.getElem?_append_left (by rw [← h.1]; exact hi)] at hd
    exact h.2 i y d hy hd
  · have hi' : i = vs.length := by
      rcases Nat.lt_or_ge vs.length i with hh | hh
      · rw [List.getElem?_eq_none (by simp; omega)] at hy; cases hy
      · omega
    subst hi'
    rw [List.getElem?_append_right (Nat.le_refl _)] at hy
    rw [h.1, List.getElem?_append_right (Nat.le_refl _)] at hd
    simp at hy hd
    subst hy hd
    exact hx

theorem scan_step (e : Bool) (L : List (List UInt8)) (k : Nat) (h : k < L.length) :
    Sp.scan e k (L.drop k) = if !Sp.okLine L[k] || (!e && decide (k + 1 = L.length)) then some (k + 1) else Sp.scan e (k + 1) (L.drop (k + 1)) := by
  rw [List.drop_eq_getElem_cons h, Sp.scan]
  have : (L.drop (k + 1)).isEmpty = decide (k + 1 = L.length) := by
    by_cases hk : k + 1 = L.length
    · simp [hk]
    · have h1 : k + 1 < L.length := by omega
      simp [hk]; omega
  rw [this]

/-- What Parse hands back. -/
def Parsed (w w' : World) (s : List UInt8) (e : Ending) : Prop :=
  ∃ v, Below w.heap.size w w' ∧
    ((∃ n, Sp.scan (Sp.ended s) 0 (Sp.lines s) = some n ∧ e = .returned (.tuple #[.slice none 0 0, .int .i64 5, .int .i64 n])) ∨
     (Sp.scan (Sp.ended s) 0 (Sp.lines s) = none ∧ e = .returned (.tuple #[v, .int .i64 0, .int .i64 0]) ∧
      ∃ vs, w'.ownsRow w.heap.size 22 1 v (Sp.lines s).length vs ∧ RowsAt w' w.heap.size vs ((Sp.lines s).map Sp.clauseOf)))

end Go.Proofs.YtekkkoipcghlmabDoor

namespace Go.Proofs.YtekkkoipcghlmabDoor.Sp

/-- The place of a literal's bit. -/
def bitIx (x : Int) : Nat := if 0 < x then 2 * (x.toNat - 1) else 2 * ((-x).toNat - 1) + 1
def litAt (i : Nat) : Int := if i % 2 = 0 then ((i / 2 + 1 : Nat) : Int) else -((i / 2 + 1 : Nat) : Int)
def bit (x : Int) : Nat := 2 ^ bitIx x
def maskOf (l : List Int) : Nat := l.foldl (fun m x => m ||| bit x) 0
def litsOf (m : Nat) : List Int := ((List.range 24).filter (fun i => m.testBit i)).map litAt

theorem maskFrom_testBit (l : List Int) : ∀ (m i : Nat), (l.foldl (fun m x => m ||| bit x) m).testBit i = (m.testBit i || l.any fun x => bitIx x == i) := by
  induction l with
  | nil => simp
  | cons a r ih =>
    intro m i
    rw [List.foldl_cons, ih, Nat.testBit_or, List.any_cons]
    unfold bit
    rw [Nat.testBit_two_pow, Bool.or_assoc]
    congr 1
theorem maskOf_testBit (l : List Int) (i : Nat) : (maskOf l).testBit i = l.any fun x => bitIx x == i := by
  unfold maskOf; rw [maskFrom_testBit]; simp

theorem maskOf_snoc (l : List Int) (x : Int) : maskOf (l ++ [x]) = maskOf l ||| bit x := by
  unfold maskOf; rw [List.foldl_append]; rfl

theorem bitIx_lt (x : Int) (h : -12 ≤ x ∧ x ≤ 12) : bitIx x < 24 := by unfold bitIx; split <;> omega
theorem maskOf_lt (l : List Int) (h : ∀ x, x ∈ l → -12 ≤ x ∧ x ≤ 12) : maskOf l < 2 ^ 24 := by
  apply Nat.lt_pow_two_of_testBit
  intro i hi
  rw [maskOf_testBit, List.any_eq_false]
  intro x hx
  have := bitIx_lt x (h x hx)
  simp; omega

theorem range24 : List.range 24 = (List.range 12).flatMap (fun i => [2 * i, 2 * i + 1]) := by decide

theorem any_plus (l : List Int) (h : ∀ x, x ∈ l → x ≠ 0) (i : Nat) : (l.any fun x => bitIx x == 2 * i) = l.contains ((i : Int) + 1) := by
  rw [Bool.eq_iff_iff, List.any_eq_true, List.contains_iff_mem]
  constructor
  · rintro ⟨x, hx, hb⟩
    have h0 := h x hx
    have hb' : bitIx x = 2 * i := by simpa using hb
    unfold bitIx at hb'
    split at hb'
    · rwa [show (i : Int) + 1 = x from by omega]
    · omega
  · intro hx
    refine ⟨_, hx, ?_⟩
    unfold bitIx
    rw [if_pos (by omega)]
    simp
theorem any_minus (l : List Int) (h : ∀ x, x ∈ l → x ≠ 0) (i : Nat) : (l.any fun x => bitIx x == 2 * i + 1) = l.contains (-((i : Int) + 1)) := by
  rw [Bool.eq_iff_iff, List.any_eq_true, List.contains_iff_mem]
  constructor
  · rintro ⟨x, hx, hb⟩
    have h0 := h x hx
    have hb' : bitIx x = 2 * i + 1 := by simpa using hb
    unfold bitIx at hb'
    split at hb'
    · omega
    · rwa [show -((i : Int) + 1) = x from by omega]
  · intro hx
    refine ⟨_, hx, ?_⟩
    unfold bitIx
    rw [if_neg (by omega)]
    simp

theorem litsOf_maskOf (l : List Int) (h : ∀ x, x ∈ l → x ≠ 0) : litsOf (maskOf l) = sorted l := by
  unfold litsOf sorted sortedTo
  rw [range24, List.filter_flatMap, List.map_flatMap]
  congr 1
  funext i
  have e1 : litAt (2 * i) = (i : Int) + 1 := by unfold litAt; rw [if_pos (by omega)]; omega
  have e2 : litAt (2 * i + 1) = -((i : Int) + 1) := by unfold litAt; rw [if_neg (by omega)]; omega
  have t1 := (maskOf_testBit l (2 * i)).trans (any_plus l h i)
  have t2 := (maskOf_testBit l (2 * i + 1)).trans (any_minus l h i)
  unfold sortedAt
  simp only [List.filter_cons, List.filter_nil, t1, t2]
  split <;> split <;> simp [e1, e2]

theorem filter_head (p q : Nat → Bool) (k : Nat) (hp : p k = true) (hlo : ∀ i, i < k → p i = false) (hq : ∀ i, q i = (p i && i != k)) : ∀ n, k < n → (List.range n).filter p = k :: (List.range n).filter q := by
  have hz : ∀ n, n ≤ k → (List.range n).filter p = [] ∧ (List.range n).filter q = [] := by
    intro n hn
    constructor
    · rw [List.filter_eq_nil_iff]; intro a ha; have := List.mem_range.1 ha; rw [hlo a (by omega)]; simp
    · rw [List.filter_eq_nil_iff]; intro a ha; have := List.mem_range.1 ha; rw [hq, hlo a (by omega)]; simp
  intro n
  induction n with
  | zero => intro h; omega
  | succ n ih =>
    intro h
    rw [List.range_succ, List.filter_append, List.filter_append]
    by_cases hkn : k < n
    · rw [ih hkn]
      have : q n = p n := by rw [hq]; have : (n != k) = true := by simp; omega
                             rw [this, Bool.and_true]
      simp [List.filter_cons, this]
    · have : n = k := by omega
      subst this
      rw [(hz n (Nat.le_refl _)).1, (hz n (Nat.le_refl _)).2]
      simp [hp, hq]

theorem drop_low (m : Nat) (h0 : m ≠ 0) (h : m < 2 ^ 32) :
    m.testBit (Lib.ctz 32 m) = true ∧ (∀ i, i < Lib.ctz 32 m → m.testBit i = false) ∧ ∀ i, (m &&& (m - 1)).testBit i = (m.testBit i && i != Lib.ctz 32 m) := by
  obtain ⟨q, hm, hk⟩ := Lib.ctzFrom_spec 32 m (by omega) h
  have e : Lib.ctz 32 m = Lib.ctzFrom 32 m := by simp [Lib.ctz, h0]
  rw [e]
  generalize Lib.ctzFrom 32 m = k at hm hk ⊢
  have hp : 0 < 2 ^ k := Nat.two_pow_pos k
  have tm : ∀ j, m.testBit j = if j < k then false else (2 * q + 1).testBit (j - k) := by
    intro j
    have := Nat.testBit_two_pow_mul_add (2 * q + 1) (b := 0) hp j
    rw [Nat.add_zero, ← hm] at this
    rw [this]; simp
  have hm1 : m - 1 = 2 ^ k * (2 * q) + (2 ^ k - 1) := by
    rw [hm, Nat.mul_add, Nat.mul_one]; omega
  have tm1 : ∀ j, (m - 1).testBit j = if j < k then (2 ^ k - 1).testBit j else (2 * q).testBit (j - k) := by
    intro j
    rw [hm1]
    exact Nat.testBit_two_pow_mul_add (2 * q) (b := 2 ^ k - 1) (by omega) j
  have od : ∀ i, (2 * q + 1).testBit i = if i = 0 then true else q.testBit (i - 1) := by
    intro i
    cases i with
    | zero => simp [Nat.testBit_zero]
    | succ i => rw [Nat.testBit_succ, show (2 * q + 1) / 2 = q from by omega]; simp
  have ev : ∀ i, (2 * q).testBit i = if i = 0 then false else q.testBit (i - 1) := by
    intro i
    cases i with
    | zero => simp [Nat.testBit_zero]
    | succ i => rw [Nat.testBit_succ, show (2 * q) / 2 = q from by omega]; simp
  refine ⟨?_, ?_, ?_⟩
  · rw [tm, if_neg (by omega), od, if_pos (by omega)]
  · intro i hi; rw [tm, if_pos hi]
  · intro i
    rw [Nat.testBit_and, tm, tm1]
    by_cases h1 : i < k
    · simp [h1]
    · rw [if_neg h1, if_neg h1, od, ev]
      by_cases h2 : i = k
      · subst h2; simp
      · have : (i != k) = true := by simpa using h2
        rw [this, if_neg (by omega), if_neg (by omega)]
        simp

theorem litsOf_step (m : Nat) (h0 : m ≠ 0) (h : m < 2 ^ 24) : litsOf m = litAt (Lib.ctz 32 m) :: litsOf (m &&& (m - 1)) ∧ Lib.ctz 32 m < 24 := by
  obtain ⟨a, b, c⟩ := drop_low m h0 (Nat.lt_trans h (by decide))
  have hk : Lib.ctz 32 m < 24 := by
    rcases Nat.lt_or_ge (Lib.ctz 32 m) 24 with h' | h'
    · exact h'
    · exfalso
      have : m.testBit (Lib.ctz 32 m) = false := Nat.testBit_lt_two_pow (Nat.lt_of_lt_of_le h (Nat.pow_le_pow_right (by decide) h'))
      rw [a] at this; cases this
  refine ⟨?_, hk⟩
  unfold litsOf
  rw [filter_head (fun i => m.testBit i) (fun i => (m &&& (m - 1)).testBit i) (Lib.ctz 32 m) a b c 24 hk]
  rfl

theorem litsOf_zero : litsOf 0 = [] := by decide

end Go.Proofs.YtekkkoipcghlmabDoor.Sp
