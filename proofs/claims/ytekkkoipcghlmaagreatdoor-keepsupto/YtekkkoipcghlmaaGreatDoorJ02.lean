import Derived.Test.YtekkkoipcghlmaaGreatDoorJ01
import Derived.Lib.TrailingZeros
import Derived.Deep.AppendLies
namespace Go.Proofs.YtekkkoipcghlmaaGreatDoor.Sp

/-- The place of a literal's bit. -/
def bitIx (x : Int) : Nat := if 0 < x then 2 * (x.toNat - 1) else 2 * ((-x).toNat - 1) + 1
def litAt (i : Nat) : Int := if i % 2 = 0 then ((i / 2 + 1 : Nat) : Int) else -((i / 2 + 1 : Nat) : Int)
def bit (x : Int) : Nat := 2 ^ bitIx x
def maskOf (l : List Int) : Nat := l.foldl (fun m x => m ||| bit x) 0
def litsOf (m : Nat) : List Int := ((List.range 24).filter (fun i => m.testBit i)).map litAt

theorem maskFrom_testBit (l : List Int) : ∀ (m i : Nat), (l.foldl (fun m x => m ||| bit x) m).testBit i = (m.testBit i || l.any fun x => bitIx x == i) := by
  induction l with
  | nil => simp
  | cons a r ih =>
    intro m i
    rw [List.foldl_cons, ih, Nat.testBit_or, List.any_cons]
    unfold bit
    rw [Nat.testBit_two_pow, Bool.or_assoc]
    congr 1
theorem maskOf_testBit (l : List Int) (i : Nat) : (maskOf l).testBit i = l.any fun x => bitIx x == i := by
  unfold maskOf; rw [maskFrom_testBit]; simp

theorem maskOf_snoc (l : List Int) (x : Int) : maskOf (l ++ [x]) = maskOf l ||| bit x := by
  unfold maskOf; rw [List.foldl_append]; rfl

theorem bitIx_lt (x : Int) (h : -12 ≤ x ∧ x ≤ 12) : bitIx x < 24 := by unfold bitIx; split <;> omega
theorem maskOf_lt (l : List Int) (h : ∀ x, x ∈ l → -12 ≤ x ∧ x ≤ 12) : maskOf l < 2 ^ 24 := by
  apply Nat.lt_pow_two_of_testBit
  intro i hi
  rw [maskOf_testBit, List.any_eq_false]
  intro x hx
  have := bitIx_lt x (h x hx)
  simp; omega

theorem range24 : List.range 24 = (List.range 12).flatMap (fun i => [2 * i, 2 * i + 1]) := by decide

theorem any_plus (l : List Int) (h : ∀ x, x ∈ l → x ≠ 0) (i : Nat) : (l.any fun x => bitIx x == 2 * i) = l.contains ((i : Int) + 1) := by
  rw [Bool.eq_iff_iff, List.any_eq_true, List.contains_iff_mem]
  constructor
  · rintro ⟨x, hx, hb⟩
    have h0 := h x hx
    have hb' : bitIx x = 2 * i := by simpa using hb
    unfold bitIx at hb'
    split at hb'
    · rwa [show (i : Int) + 1 = x from by omega]
    · omega
  · intro hx
    refine ⟨_, hx, ?_⟩
    unfold bitIx
    rw [if_pos (by omega)]
    simp
theorem any_minus (l : List Int) (h : ∀ x, x ∈ l → x ≠ 0) (i : Nat) : (l.any fun x => bitIx x == 2 * i + 1) = l.contains (-((i : Int) + 1)) := by
  rw [Bool.eq_iff_iff, List.any_eq_true, List.contains_iff_mem]
  constructor
  · rintro ⟨x, hx, hb⟩
    have h0 := h x hx
    have hb' : bitIx x = 2 * i + 1 := by simpa using hb
    unfold bitIx at hb'
    split at hb'
    · omega
    · rwa [show -((i : Int) + 1) = x from by omega]
  · intro hx
    refine ⟨_, hx, ?_⟩
    unfold bitIx
    rw [if_neg (by omega)]
    simp

theorem litsOf_maskOf (l : List Int) (h : ∀ x, x ∈ l → x ≠ 0) : litsOf (maskOf l) = sorted l := by
  unfold litsOf sorted sortedTo
  rw [range24, List.filter_flatMap, List.map_flatMap]
  congr 1
  funext i
  have e1 : litAt (2 * i) = (i : Int) + 1 := by unfold litAt; rw [if_pos (by omega)]; omega
  have e2 : litAt (2 * i + 1) = -((i : Int) + 1) := by unfold litAt; rw [if_neg (by omega)]; omega
  have t1 := (maskOf_testBit l (2 * i)).trans (any_plus l h i)
  have t2 := (maskOf_testBit l (2 * i + 1)).trans (any_minus l h i)
  unfold sortedAt
  simp only [List.filter_cons, List.filter_nil, t1, t2]
  split <;> split <;> simp [e1, e2]

theorem filter_head (p q : Nat → Bool) (k : Nat) (hp : p k = true) (hlo : ∀ i, i < k → p i = false) (hq : ∀ i, q i = (p i && i != k)) : ∀ n, k < n → (List.range n).filter p = k :: (List.range n).filter q := by
  have hz : ∀ n, n ≤ k → (List.range n).filter p = [] ∧ (List.range n).filter q = [] := by
    intro n hn
    constructor
    · rw [List.filter_eq_nil_iff]; intro a ha; have := List.mem_range.1 ha; rw [hlo a (by omega)]; simp
    · rw [List.filter_eq_nil_iff]; intro a ha; have := List.mem_range.1 ha; rw [hq, hlo a (by omega)]; simp
  intro n
  induction n with
  | zero => intro h; omega
  | succ n ih =>
    intro h
    rw [List.range_succ, List.filter_append, List.filter_append]
    by_cases hkn : k < n
    · rw [ih hkn]
      have : q n = p n := by rw [hq]; have : (n != k) = true := by simp; omega
                             rw [this, Bool.and_true]
      simp [List.filter_cons, this]
    · have : n = k := by omega
      subst this
      rw [(hz n (Nat.le_refl _)).1, (hz n (Nat.le_refl _)).2]
      simp [hp, hq]

theorem drop_low (m : Nat) (h0 : m ≠ 0) (h : m < 2 ^ 32) :
    m.testBit (Lib.ctz 32 m) = true ∧ (∀ i, i < Lib.ctz 32 m → m.testBit i = false) ∧ ∀ i, (m &&& (m - 1)).testBit i = (m.testBit i && i != Lib.ctz 32 m) := by
  obtain ⟨q, hm, hk⟩ := Lib.ctzFrom_spec 32 m (by omega) h
  have e : Lib.ctz 32 m = Lib.ctzFrom 32 m := by simp [Lib.ctz, h0]
  rw [e]
  generalize Lib.ctzFrom 32 m = k at hm hk ⊢
  have hp : 0 < 2 ^ k := Nat.two_pow_pos k
  have tm : ∀ j, m.testBit j = if j < k then false else (2 * q + 1).testBit (j - k) := by
    intro j
    have := Nat.testBit_two_pow_mul_add (2 * q + 1) (b := 0) hp j
    rw [Nat.add_zero, ← hm] at this
    rw [this]; simp
  have hm1 : m - 1 = 2 ^ k * (2 * q) + (2 ^ k - 1) := by
    rw [hm, Nat.mul_add, Nat.mul_one]; omega
  have tm1 : ∀ j, (m - 1).testBit j = if j < k then (2 ^ k - 1).testBit j else (2 * q).testBit (j - k) := by
    intro j
    rw [hm1]
    exact Nat.testBit_two_pow_mul_add (2 * q) (b := 2 ^ k - 1) (by omega) j
  have od : ∀ i, (2 * q + 1).testBit i = if i = 0 then true else q.testBit (i - 1) := by
    intro i
    cases i with
    | zero => simp [Nat.testBit_zero]
    | succ i => rw [Nat.testBit_succ, show (2 * q + 1) / 2 = q from by omega]; simp
  have ev : ∀ i, (2 * q).testBit i = if i = 0 then false else q.testBit (i - 1) := by
    intro i
    cases i with
    | zero => simp [Nat.testBit_zero]
    | succ i => rw [Nat.testBit_succ, show (2 * q) / 2 = q from by omega]; simp
  refine ⟨?_, ?_, ?_⟩
  · rw [tm, if_neg (by omega), od, if_pos (by omega)]
  · intro i hi; rw [tm, if_pos hi]
  · intro i
    rw [Nat.testBit_and, tm, tm1]
    by_cases h1 : i < k
    · simp [h1]
    · rw [if_neg h1, if_neg h1, od, ev]
      by_cases h2 : i = k
      · subst h2; simp
      · have : (i != k) = true := by simpa using h2
        rw [this, if_neg (by omega), if_neg (by omega)]
        simp

theorem litsOf_step (m : Nat) (h0 : m ≠ 0) (h : m < 2 ^ 24) : litsOf m = litAt (Lib.ctz 32 m) :: litsOf (m &&& (m - 1)) ∧ Lib.ctz 32 m < 24 := by
  obtain ⟨a, b, c⟩ := drop_low m h0 (Nat.lt_trans h (by decide))
  have hk : Lib.ctz 32 m < 24 := by
    rcases Nat.lt_or_ge (Lib.ctz 32 m) 24 with h' | h'
    · exact h'
    · exfalso
      have : m.testBit (Lib.ctz 32 m) = false := Nat.testBit_lt_two_pow (Nat.lt_of_lt_of_le h (Nat.pow_le_pow_right (by decide) h'))
      rw [a] at this; cases this
  refine ⟨?_, hk⟩
  unfold litsOf
  rw [filter_head (fun i => m.testBit i) (fun i => (m &&& (m - 1)).testBit i) (Lib.ctz 32 m) a b c 24 hk]
  rfl

theorem litsOf_zero : litsOf 0 = [] := by decide

end Go.Proofs.YtekkkoipcghlmaaGreatDoor.Sp

namespace Go.Proofs.YtekkkoipcghlmaaGreatDoor
open Go.RowKit

/-- How many literals clauses have. -/
def sizes (ms : List Nat) : Nat := (ms.map fun m => (Sp.litsOf m).length).sum
theorem sizes_snoc (ms : List Nat) (m : Nat) : sizes (ms ++ [m]) = sizes ms + (Sp.litsOf m).length := by simp [sizes]

/-- Bytes as cells. -/
def bytesV (pb : List UInt8) : List Value := pb.map (fun b => Value.int .u8 (b.toNat : Int))
/-- The program's solver, at block x: the clauses that it keeps, and its proof. -/
structure XAt (base : Nat) (w : World) (x : Nat) (kv : Value) (ms : List Nat) (pv : Value) (pb : List UInt8) : Prop where
  block : w.heap[x]? = some (.cells #[kv, .int .i64 (sizes ms : Int), pv] 77 (0, 0))
  le : base ≤ x
  row : w.ownsRow base 69 1 kv ms.length (us ms)
  prow : w.ownsRow base 5 1 pv pb.length (bytesV pb)
def XFoot (F : Nat → Prop) (x : Nat) (kv pv : Value) : Prop := F x ∧ (∀ g, kv.ownBlock = some g → F g) ∧ ∀ g, pv.ownBlock = some g → F g
theorem XAt.keep {base : Nat} {w w' : World} {x : Nat} {kv pv : Value} {ms : List Nat} {pb : List UInt8} (h : XAt base w x kv ms pv pb) {F : Nat → Prop} (hf : XFoot F x kv pv) (hk : ∀ k, F k → w'.heap[k]? = w.heap[k]?) : XAt base w' x kv ms pv pb :=
  ⟨(hk x hf.1).trans h.block, h.le, owns_at h.row (fun g hg => hk g (hf.2.1 g hg)), owns_at h.prow (fun g hg => hk g (hf.2.2 g hg))⟩

end Go.Proofs.YtekkkoipcghlmaaGreatDoor

namespace Go.Proofs.YtekkkoipcghlmaaGreatDoor
open Go.RowKit

theorem append_cell {P : Program} {ops : Array Oper} {rest : List Oper} {o : Oper} {a : Act} {Q : Exit → Act → World → Prop} {w1 : World} {base n bytes : Nat} {v val z : Value} {xs : List Value} {tt : TypeId}
    (hgd : o.guard = none) (s x : Operand) (t e : TypeId) (ho : o.op = .call { callee := .builtin .append, args := #[s, x], argTypes := #[t, t] })
    (ht : P.underlying t = some (.slice e)) (hinfo : (P.info? e).map (fun i => (i.zero, i.size, i.bytes)) = some (some z, 1, bytes)) (hzs : z.cells.size = 1) (hby : bytes ≤ 24)
    (hown : w1.ownsRow base e 1 v n xs) (hs : a.eval s = v) (hx : a.eval x = .slice (some ⟨w1.heap.size, 0, none⟩) 1 1) (h1 : val.oneCell' = true) (hn : n ≤ 20000000) (hbase : base ≤ w1.heap.size)
    (h : ∀ (g cap : Nat) (w' : World), w'.ownsRow base e 1 (.slice (some ⟨g, 0, none⟩) (n + 1) cap) (n + 1) (xs ++ [val]) → (w1.alloc (.cells #[val] tt)).grownBy w' v.ownBlock → (v.ownBlock = some g ∨ g = (w1.alloc (.cells #[val] tt)).heap.size) → wpList P ops Q rest (a.put o.dst (.slice (some ⟨g, 0, none⟩) (n + 1) cap)) w') :
    wpList P ops Q (o :: rest) a (w1.alloc (.cells #[val] tt)) := by
  obtain ⟨i0, hi0, hz0, hz1, hz2⟩ := info_parts hinfo
  have hnb : (n + 1) * bytes ≤ 140737488355328 := Nat.le_trans (Nat.mul_le_mul (Nat.add_le_add_right hn 1) hby) (by omega)
  refine wpList_append_lies (P := P) _ hgd s x t ho base e i0 _ 1 bytes ht hi0 hz0 hz1 hz2 hzs (by decide) v n xs hs (hown.alloc _) ⟨w1.heap.size, 0, none⟩ 1 1 [val] hx rfl (cell_one_new _ _ _) ?_ (by decide) (by unfold maxLen; omega) hnb (by simp; omega) _ rfl ?_
  · intro u hu; simp at hu; subst hu; exact h1
  · intro g cap w' h1 h2 h3 _
    exact h g cap w' h1 h2 h3

/-- The same at a step of a region that draws. -/
theorem step_cell {P : Program} {ops : Array Oper} {o : Oper} {a : Act} {K : Act → World → Prop} {Q : Exit → Act → World → Prop} {E : Prop} {wz : World} {base n bytes B : Nat} {v val z : Value} {xs : List Value} {tt : TypeId}
    (hgd : o.guard = none) (s x : Operand) (t e : TypeId) (ho : o.op = .call { callee := .builtin .append, args := #[s, x], argTypes := #[t, t] })
    (ht : P.underlying t = some (.slice e)) (hinfo : (P.info? e).map (fun i => (i.zero, i.size, i.bytes)) = some (some z, 1, bytes)) (hzs : z.cells.size = 1) (hby : bytes ≤ 24)
    (hown : wz.ownsRow base e 1 v n xs) (hs : a.eval s = v) (hx : a.eval x = .slice (some ⟨B, 0, none⟩) 1 1) (hB : wz.heap[B]? = some (.cells #[val] tt (0, 0))) (h1 : val.oneCell' = true) (hn : n ≤ 20000000) (hbase : base ≤ wz.heap.size)
    (h : ∀ (g cap : Nat) (w' : World), w'.ownsRow base e 1 (.slice (some ⟨g, 0, none⟩) (n + 1) cap) (n + 1) (xs ++ [val]) → wz.grownBy w' v.ownBlock → (v.ownBlock = some g ∨ g = wz.heap.size) → K (a.put o.dst (.slice (some ⟨g, 0, none⟩) (n + 1) cap)) w') :
    if Region.wanted o (yielded ops a.tmps) = true then Oper.wp P o a wz K Q else E := by
  obtain ⟨i0, hi0, hz0, hz1, hz2⟩ := info_parts hinfo
  have hnb : (n + 1) * bytes ≤ 140737488355328 := Nat.le_trans (Nat.mul_le_mul (Nat.add_le_add_right hn 1) hby) (by omega)
  refine step_append_lies (P := P) wz hgd s x t ho base e i0 _ 1 bytes ht hi0 hz0 hz1 hz2 hzs (by decide) v n xs hs hown ⟨B, 0, none⟩ 1 1 [val] hx rfl (World.news_of_block hB) ?_ (by decide) (by unfold maxLen; omega) hnb hbase _ rfl ?_
  · intro u hu; simp at hu; subst hu; exact h1
  · intro g cap w' h1 h2 h3 _
    exact h g cap w' h1 h2 h3

/-- 'x = append(x, a, b)'. -/
theorem append_two {P : Program} {ops : Array Oper} {rest : List Oper} {o : Oper} {a : Act} {Q : Exit → Act → World → Prop} {w1 : World} {base n bytes : Nat} {v val val2 z : Value} {xs : List Value} {tt : TypeId}
    (hgd : o.guard = none) (s x : Operand) (t e : TypeId) (ho : o.op = .call { callee := .builtin .append, args := #[s, x], argTypes := #[t, t] })
    (ht : P.underlying t = some (.slice e)) (hinfo : (P.info? e).map (fun i => (i.zero, i.size, i.bytes)) = some (some z, 1, bytes)) (hzs : z.cells.size = 1) (hby : bytes ≤ 24)
    (hown : w1.ownsRow base e 1 v n xs) (hs : a.eval s = v) (hx : a.eval x = .slice (some ⟨w1.heap.size, 0, none⟩) 2 2) (h1 : val.oneCell' = true) (h2 : val2.oneCell' = true) (hn : n ≤ 10000000) (hbase : base ≤ w1.heap.size)
    (h : ∀ (g cap : Nat) (w' : World), w'.ownsRow base e 1 (.slice (some ⟨g, 0, none⟩) (n + 2) cap) (n + 2) (xs ++ [val, val2]) → (w1.alloc (.cells #[val, val2] tt)).grownBy w' v.ownBlock → (v.ownBlock = some g ∨ g = (w1.alloc (.cells #[val, val2] tt)).heap.size) → wpList P ops Q rest (a.put o.dst (.slice (some ⟨g, 0, none⟩) (n + 2) cap)) w') :
    wpList P ops Q (o :: rest) a (w1.alloc (.cells #[val, val2] tt)) := by
  obtain ⟨i0, hi0, hz0, hz1, hz2⟩ := info_parts hinfo
  have hnb : (n + 2) * bytes ≤ 140737488355328 := Nat.le_trans (Nat.mul_le_mul (Nat.add_le_add_right hn 2) hby) (by omega)
  refine wpList_append_lies (P := P) _ hgd s x t ho base e i0 _ 1 bytes ht hi0 hz0 hz1 hz2 hzs (by decide) v n xs hs (hown.alloc _) ⟨w1.heap.size, 0, none⟩ 2 2 [val, val2] hx rfl (World.news_of_block (heap_alloc_new w1 _)) ?_ (by decide) (by unfold maxLen; omega) hnb (by simp; omega) _ rfl ?_
  · intro u hu
    simp at hu
    rcases hu with rfl | rfl
    · exact h1
    · exact h2
  · intro g cap w' h1 h2 h3 _
    exact h g cap w' h1 h2 h3

section
variable {P : Program}
theorem append_types (t t' ty e e' : TypeId) (i : TypeInfo) (ht : P.underlying t = some (.slice e)) (ht' : P.underlying t' = some (.slice e')) (hi : P.info? e = some i) (bo : Option Addr) (n c : Nat) (b : Value) (w : World) : (Builtin.append_ #[t, t'] ty #[.slice bo n c, b]).run P w = (Builtin.append_ #[t, t] ty #[.slice bo n c, b]).run P w := by
  simp [Builtin.append_, run_underlying ht, run_underlying ht', sizeOf, typeInfo, hi]
theorem append_none (t ty e : TypeId) (w : World) {z : Value} {bytes : Nat} (ht : P.underlying t = some (.slice e)) (hinfo : (P.info? e).map (fun i => (i.zero, i.size, i.bytes)) = some (some z, 1, bytes)) {base n : Nat} {v : Value} {xs : List Value} (hown : w.ownsRow base e 1 v n xs) (ao : Option Addr) (cap : Nat) :
    (Builtin.append_ #[t, t] ty #[v, .slice ao 0 cap]).run P w = .ok v w := by
  obtain ⟨i, hi, hz0, hz1, hz2⟩ := info_parts hinfo
  rcases hown.2 with ⟨rfl, rfl⟩ | ⟨g, c, cur, rfl, _, hg, hle, _⟩
  · cases ao <;> simp [Builtin.append_, run_underlying ht, sizeOf, typeInfo, hi, Builtin.lenOf, Builtin.firstCells, loadCells, loadCellsFrom]
  · cases ao <;> simp [Builtin.append_, run_underlying ht, sizeOf, typeInfo, hi, Builtin.lenOf, Builtin.firstCells, loadCells, loadCellsFrom, hle, storeCells]
/-- 'x = append(x, l...)', l of whatever length. -/
theorem append_list {ops : Array Oper} {rest : List Oper} {o : Oper} {a : Act} {Q : Exit → Act → World → Prop} {w1 : World} {base n bytes : Nat} {v lv z : Value} {xs vs : List Value}
    (hgd : o.guard = none) (s x : Operand) (t t' e e' : TypeId) (ho : o.op = .call { callee := .builtin .append, args := #[s, x], argTypes := #[t, t'] })
    (ht : P.underlying t = some (.slice e)) (ht' : P.underlying t' = some (.slice e')) (hinfo : (P.info? e).map (fun i => (i.zero, i.size, i.bytes)) = some (some z, 1, bytes)) (hzs : z.cells.size = 1) (hby : bytes ≤ 24)
    (hown : w1.ownsRow base e 1 v n xs) (hs : a.eval s = v) (hx : a.eval x = lv) (hl : Lies w1 lv vs) (h1 : ∀ u, u ∈ vs → u.oneCell' = true) (hn : n + vs.length ≤ 20000000) (hbase : base ≤ w1.heap.size)
    (h : ∀ (v' : Value) (w' : World), w'.ownsRow base e 1 v' (n + vs.length) (xs ++ vs) → w1.grownBy w' v.ownBlock → (v'.ownBlock = v.ownBlock ∨ v'.ownBlock = some w1.heap.size) → (0 < vs.length → ∃ g cap, v' = .slice (some ⟨g, 0, none⟩) (n + vs.length) cap) → (vs = [] → v' = v) → wpList P ops Q rest (a.put o.dst v') w') :
    wpList P ops Q (o :: rest) a w1 := by
  obtain ⟨i0, hi0, hz0, hz1, hz2⟩ := info_parts hinfo
  obtain ⟨vo, vc, hvs⟩ : ∃ vo vc, v = .slice vo n vc := by
    rcases hown.2 with ⟨h', h0⟩ | ⟨g, cap, cur, h1, _⟩
    · subst h0; exact ⟨_, _, h'⟩
    · exact ⟨_, _, h1⟩
  subst hvs
  rcases hl with ⟨rfl, ao, cap, rfl⟩ | ⟨b, off, cap, hp, rfl, hb, hc⟩
  · refine wpList_plain hgd fun K hK => ?_
    have hr := append_none (P := P) t o.type e w1 ht hinfo hown ao cap
    unfold Oper.wp execOp
    simp only [ho, resolve, invoke, builtin, Sem.run_bind, Sem.run_pure, Result.andThen_ok, List.map_toArray, List.map_cons, List.map_nil, hs, hx, append_types t t' o.type e e' i0 ht ht' hi0, hr]
    exact hK _ _ (h _ w1 (by simpa using hown) ⟨rfl, rfl, rfl, Nat.le_refl _, fun _ _ _ => rfl⟩ (.inl rfl) (fun h => absurd h (by simp)) (fun _ => rfl))
  · have hnb : (n + vs.length) * bytes ≤ 140737488355328 := Nat.le_trans (Nat.mul_le_mul hn hby) (by omega)
    obtain ⟨g, c, w', hr, h2, h3, h4, h5⟩ := run_append_lies (P := P) w1 t o.type base e i0 _ 1 bytes ht hi0 hz0 hz1 hz2 hzs (by decide) _ n xs hown ⟨b, off, none⟩ vs.length cap vs (by simp) (fun j u hu => by
      have hadd : (⟨b, off, none⟩ : Addr).add j = ⟨b, off + j, none⟩ := by unfold Addr.add; split <;> simp_all
      rw [hadd]; exact hc j u hu) h1 hp (by unfold maxLen; omega) hnb hbase _ rfl
    refine wpList_plain hgd fun K hK => ?_
    unfold Oper.wp execOp
    simp only [ho, resolve, invoke, builtin, Sem.run_bind, Sem.run_pure, Result.andThen_ok, List.map_toArray, List.map_cons, List.map_nil, hs, hx, append_types t t' o.type e e' i0 ht ht' hi0, hr]
    refine hK _ _ (h _ w' h2 h3 ?_ (fun _ => ⟨g, c, rfl⟩) (fun e => by rw [e] at hp; simp at hp))
    rcases h4 with h4 | h4
    · exact .inl h4.symm
    · exact .inr (by rw [h4]; rfl)
end

end Go.Proofs.YtekkkoipcghlmaaGreatDoor
