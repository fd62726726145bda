namespace Go.Proofs.YtekkkoipcghlmaaDoor.Sp

def wordsAux (cur : List UInt8) : List UInt8 → List (List UInt8)
  | [] => [cur]
  | c :: r => if c = 32 then cur :: wordsAux [] r else wordsAux (cur ++ [c]) r
def words (l : List UInt8) : List (List UInt8) := if l = [] then [] else wordsAux [] l

def linesAux (cur : List UInt8) : List UInt8 → List (List UInt8)
  | [] => if cur = [] then [] else [cur]
  | c :: r => if c = 10 then cur :: linesAux [] r else linesAux (cur ++ [c]) r
def lines (l : List UInt8) : List (List UInt8) := linesAux [] l
def endAux (cur : List UInt8) : List UInt8 → Bool
  | [] => cur.isEmpty
  | c :: r => if c = 10 then endAux [] r else endAux (cur ++ [c]) r
def ended (l : List UInt8) : Bool := endAux [] l

def num (w : List UInt8) : Int :=
  match w with
  | [a] => if 49 ≤ a.toNat ∧ a.toNat ≤ 57 then (a.toNat : Int) - 48 else 0
  | [a, b] => if a.toNat = 49 ∧ 48 ≤ b.toNat ∧ b.toNat ≤ 50 then (b.toNat : Int) - 38 else 0
  | _ => 0
def lit (w : List UInt8) : Int :=
  match w with
  | a :: r => if a = 45 then - num r else num (a :: r)
  | [] => 0

theorem num_bd (w : List UInt8) : 0 ≤ num w ∧ num w ≤ 12 := by
  unfold num; split <;> (try split) <;> omega
theorem lit_bd (w : List UInt8) : -12 ≤ lit w ∧ lit w ≤ 12 := by
  unfold lit
  split
  · rename_i a r
    have h1 := num_bd r; have h2 := num_bd (a :: r)
    split <;> omega
  · omega

def okLine (l : List UInt8) : Bool := (words l).all fun w => lit w != 0
def sortedAt (l : List Int) (i : Nat) : List Int :=
  (if l.contains ((i : Int) + 1) then [(i : Int) + 1] else []) ++ (if l.contains (-((i : Int) + 1)) then [-((i : Int) + 1)] else [])
def sortedTo (l : List Int) (n : Nat) : List Int := (List.range n).flatMap (sortedAt l)
def sorted (l : List Int) : List Int := sortedTo l 12
def clauseOf (l : List UInt8) : List Int := sorted ((words l).map lit)

theorem sortedTo_succ (l : List Int) (n : Nat) : sortedTo l (n + 1) = sortedTo l n ++ sortedAt l n := by
  unfold sortedTo; rw [List.range_succ, List.flatMap_append]; simp
theorem sortedTo_len (l : List Int) (n : Nat) : (sortedTo l n).length ≤ 2 * n := by
  induction n with
  | zero => simp [sortedTo]
  | succ n ih =>
    rw [sortedTo_succ, List.length_append]
    have : (sortedAt l n).length ≤ 2 := by
      unfold sortedAt; split <;> split <;> simp
    omega
theorem sortedTo_bd (l : List Int) (n : Nat) : ∀ x, x ∈ sortedTo l n → x ≠ 0 ∧ -(n : Int) ≤ x ∧ x ≤ n := by
  induction n with
  | zero => simp [sortedTo]
  | succ n ih =>
    intro x hx
    rw [sortedTo_succ, List.mem_append] at hx
    rcases hx with h | h
    · have := ih x h; omega
    · unfold sortedAt at h
      rw [List.mem_append] at h
      rcases h with h | h
      · split at h <;> simp at h; omega
      · split at h <;> simp at h; omega

def digs (n : Nat) : List UInt8 := if n < 10 then [UInt8.ofNat (48 + n)] else [49, UInt8.ofNat (38 + n)]
def lw (x : Int) : List UInt8 := if x < 0 then 45 :: digs x.natAbs else digs x.natAbs
def join : List (List UInt8) → List UInt8
  | [] => []
  | [a] => a
  | a :: b :: r => a ++ 32 :: join (b :: r)
theorem join_snoc (xs : List (List UInt8)) (y : List UInt8) : join (xs ++ [y]) = (if xs = [] then y else join xs ++ 32 :: y) := by
  induction xs with
  | nil => rfl
  | cons a xs ih =>
    cases xs with
    | nil => rfl
    | cons b r =>
      simp only [List.cons_append] at ih ⊢
      rw [join, ih]
      simp [join]
def toldBody (l : List Int) : List UInt8 := join (l.map lw)
def told (l : List Int) : List UInt8 := toldBody l ++ [10]

/-- The first line that is no clause's, counted from n + 1 on. -/
def scan (e : Bool) : Nat → List (List UInt8) → Option Nat
  | _, [] => none
  | n, l :: r => if !okLine l || (!e && r.isEmpty) then some (n + 1) else scan e (n + 1) r

theorem words_len (l : List UInt8) : ∀ cur, (wordsAux cur l).length ≤ l.length + 1 := by
  induction l with
  | nil => intro cur; simp [wordsAux]
  | cons c r ih =>
    intro cur
    unfold wordsAux
    split
    · have := ih []; simp; omega
    · have := ih (cur ++ [c]); simp; omega
theorem words_len' (l : List UInt8) : (words l).length ≤ l.length + 1 := by
  unfold words; split
  · simp
  · exact words_len l []
theorem lines_len (l : List UInt8) : ∀ cur, (linesAux cur l).length ≤ l.length + 1 := by
  induction l with
  | nil => intro cur; unfold linesAux; split <;> simp
  | cons c r ih =>
    intro cur
    unfold linesAux
    split
    · have := ih []; simp; omega
    · have := ih (cur ++ [c]); simp; omega

end Go.Proofs.YtekkkoipcghlmaaDoor.Sp

namespace Go.Proofs.YtekkkoipcghlmaaDoor
/-- Are all words literals. -/
def allLit (ws : List (List UInt8)) : Bool := ws.all fun w => Sp.lit w != 0
end Go.Proofs.YtekkkoipcghlmaaDoor
