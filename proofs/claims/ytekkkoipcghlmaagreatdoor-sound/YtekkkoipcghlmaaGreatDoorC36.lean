import Derived.Test.YtekkkoipcghlmaaGreatDoorC35
import Derived.Test.YtekkkoipcghlmaaGreatDoorC32
import Derived.Deep.AppendLies
import Derived.Deep.RegionWith
import Derived.Deep.QuietTactic
import Derived.BigQuiet
import Derived.Test.YtekkkoipcghlmaaGreatDoorC33
set_option linter.all false
namespace Go.Proofs.YtekkkoipcghlmaaGreatDoor
open Go.RowKit

theorem litAt_bitIx {x : Int} (h : x ≠ 0) : Sp.litAt (Sp.bitIx x) = x := by
  unfold Sp.litAt Sp.bitIx
  by_cases hp : 0 < x
  · rw [if_pos hp, if_pos (by omega)]; omega
  · rw [if_neg hp, if_neg (by omega)]; omega
theorem mask_lit {c : List Int} (hc : ∀ x, x ∈ c → x ≠ 0) {i : Nat} (h : (Sp.maskOf c).testBit i = true) : Sp.litAt i ∈ c := by
  unfold Sp.maskOf at h
  rw [Sp.maskFrom_testBit] at h
  simp only [Nat.zero_testBit, Bool.false_or, List.any_eq_true] at h
  obtain ⟨x, hx, hi⟩ := h
  have : Sp.bitIx x = i := by simpa using hi
  rw [← this, litAt_bitIx (hc x hx)]
  exact hx
theorem holdsB_mask {b : Nat} {c : List Int} (hc : ∀ x, x ∈ c → x ≠ 0) : holdsB b (Sp.maskOf c) ↔ holdsOf b c = true := by
  refine ⟨fun h => ?_, holds_mask hc⟩
  obtain ⟨i, h1, h2⟩ := h
  exact holds_iff.2 ⟨_, mask_lit hc h1, h2⟩
theorem always_holds {b : Nat} {c : List Int} (hc : ∀ x, x ∈ c → x ≠ 0) (hm : Sp.maskOf c < 2 ^ 24) (h : alwaysMask (Sp.maskOf c) = true) : holdsOf b c = true := by
  obtain ⟨i, h1, h2⟩ := (alwaysMask_iff hm).1 h
  have m1 := mask_lit hc h1
  have m2 := mask_lit hc h2
  rw [Sp.litAt_opp] at m2
  rw [holds_iff]
  cases ht : tru b (Sp.litAt i)
  · exact ⟨_, m2, by rw [tru_neg b (litAt_ne i), ht]; rfl⟩
  · exact ⟨_, m1, ht⟩

theorem filter_or_len (p : Nat → Bool) (j : Nat) : ∀ l : List Nat, l.Nodup → (l.filter (fun i => p i || i == j)).length ≤ (l.filter p).length + 1 := by
  intro l
  induction l with
  | nil => intro _; simp
  | cons a l ih =>
    intro h
    rw [List.nodup_cons] at h
    by_cases ha : a = j
    · subst ha
      have hsame : l.filter (fun i => p i || i == a) = l.filter p := List.filter_congr (fun x hx => by
        have : (x == a) = false := by
          rw [beq_eq_false_iff_ne]
          exact fun e => h.1 (e ▸ hx)
        rw [this, Bool.or_false])
      rw [List.filter_cons, List.filter_cons, hsame]
      cases p a <;> simp
    · have hb : (a == j) = false := by simpa using ha
      have := ih h.2
      rw [List.filter_cons, List.filter_cons, hb, Bool.or_false]
      cases p a
      · simpa using this
      · simpa using this
theorem litsMask_len (c : List Int) : (Sp.litsOf (Sp.maskOf c)).length ≤ c.length := by
  have : ∀ n, (Sp.litsOf (Sp.maskOf (c.take n))).length ≤ n := by
    intro n
    induction n with
    | zero => simp [Sp.maskOf, Sp.litsOf]
    | succ n ih =>
      rcases Nat.lt_or_ge n c.length with hn | hn
      · rw [List.take_succ_eq_append_getElem hn]
        have e : Sp.maskOf (c.take n ++ [c[n]]) = Sp.maskOf (c.take n) ||| 2 ^ Sp.bitIx c[n] := by
          unfold Sp.maskOf Sp.bit
          rw [List.foldl_append]
          rfl
        rw [e]
        unfold Sp.litsOf at ih ⊢
        rw [List.length_map] at ih ⊢
        have e2 : (fun i => (Sp.maskOf (c.take n) ||| 2 ^ Sp.bitIx c[n]).testBit i) = fun i => (Sp.maskOf (c.take n)).testBit i || i == Sp.bitIx c[n] := by
          funext i
          rw [Nat.testBit_or, Nat.testBit_two_pow]
          congr 1
          by_cases hh : Sp.bitIx c[n] = i
          · subst hh; simp
          · have : (i == Sp.bitIx c[n]) = false := by rw [beq_eq_false_iff_ne]; exact fun e => hh e.symm
            rw [this]
            simpa using hh
        rw [e2]
        have := filter_or_len (fun i => (Sp.maskOf (c.take n)).testBit i) (Sp.bitIx c[n]) (List.range 24) List.nodup_range
        omega
      · rw [List.take_of_length_le hn] at ih
        rw [List.take_of_length_le (by omega)]
        omega
  have := this c.length
  rwa [List.take_length] at this

section
variable {L : List (List Int)}
/-- Whether all clauses hold, by those that are kept. -/
theorem kept_all (hL : ∀ c, c ∈ L → Lits c) (hok : ∀ k (h : k < L.length), (addTo (keptTo L k) L[k]).1 = 0) (b : Nat) : ∀ k, k ≤ L.length → ((∀ g, g ∈ keptTo L k → holdsB b g) ↔ ∀ c, c ∈ L.take k → holdsOf b c = true) := by
  intro k
  induction k with
  | zero => intro _; simp [keptTo]
  | succ k ih =>
    intro hk
    have hk' : k < L.length := by omega
    have ih := ih (by omega)
    have h0 := hok k hk'
    have hl := hL L[k] (List.getElem_mem hk')
    have hc0 : ∀ x, x ∈ L[k] → x ≠ 0 := fun x hx => (hl x hx).1
    have hm : Sp.maskOf L[k] < 2 ^ 24 := Sp.maskOf_lt _ (fun y hy => (hl y hy).2)
    rw [keptTo_succ L k hk', List.take_succ_eq_append_getElem hk']
    have hsplit : (∀ c, c ∈ L.take k ++ [L[k]] → holdsOf b c = true) ↔ (∀ c, c ∈ L.take k → holdsOf b c = true) ∧ holdsOf b L[k] = true := by
      constructor
      · exact fun h => ⟨fun c hc => h c (List.mem_append_left _ hc), h _ (List.mem_append_right _ (List.mem_singleton.2 rfl))⟩
      · rintro ⟨h1, h2⟩ c hc
        rcases List.mem_append.1 hc with hc | hc
        · exact h1 c hc
        · rw [List.mem_singleton.1 hc]; exact h2
    rw [hsplit, ← ih]
    unfold addTo at h0 ⊢
    split at h0
    · simp at h0
    · rename_i h1
      rw [if_neg h1]
      split at h0
      · rename_i h2
        rw [if_pos h2]
        have := always_holds (b := b) hc0 hm h2
        simp [this]
      · rename_i h2
        rw [if_neg h2]
        split at h0
        · simp at h0
        · rename_i h3
          rw [if_neg h3]
          simp only [List.mem_append, List.mem_singleton, or_imp, forall_and, forall_eq]
          rw [holdsB_mask hc0]
theorem kept_ok (hL : ∀ c, c ∈ L → Lits c) (k : Nat) : k ≤ L.length → (∀ m, m ∈ keptTo L k → m < 2 ^ 24 ∧ alwaysMask m = false) ∧ sizes (keptTo L k) ≤ 400 := by
  induction k with
  | zero => intro _; simp [keptTo, sizes]
  | succ k ih =>
    intro hk
    have hk' : k < L.length := by omega
    obtain ⟨i1, i2⟩ := ih (by omega)
    have hl := hL L[k] (List.getElem_mem hk')
    have hm : Sp.maskOf L[k] < 2 ^ 24 := Sp.maskOf_lt _ (fun y hy => (hl y hy).2)
    rw [keptTo_succ L k hk']
    unfold addTo
    split
    · exact ⟨i1, i2⟩
    · split
      · exact ⟨i1, i2⟩
      · rename_i h2
        split
        · exact ⟨i1, i2⟩
        · rename_i h3
          refine ⟨fun m hmm => ?_, by rw [sizes_snoc]; omega⟩
          rcases List.mem_append.1 hmm with hmm | hmm
          · exact i1 m hmm
          · simp at hmm
            subst hmm
            exact ⟨hm, by simpa using h2⟩
theorem kept_small (hL : ∀ c, c ∈ L → Lits c ∧ c.length ≤ 3) (k : Nat) : k ≤ L.length → sizes (keptTo L k) ≤ 3 * k := by
  induction k with
  | zero => intro _; simp [keptTo, sizes]
  | succ k ih =>
    intro hk
    have hk' : k < L.length := by omega
    have ih := ih (by omega)
    have h3 := (hL L[k] (List.getElem_mem hk')).2
    have := litsMask_len L[k]
    rw [keptTo_succ L k hk']
    unfold addTo
    split
    · show sizes (keptTo L k) ≤ _; omega
    · split
      · show sizes (keptTo L k) ≤ _; omega
      · split
        · show sizes (keptTo L k) ≤ _; omega
        · rw [sizes_snoc]; omega
theorem kept_adds (hL : ∀ c, c ∈ L → Lits c ∧ c.length ≤ 3) (hl : L.length ≤ 100) : ∀ k (h : k < L.length), (addTo (keptTo L k) L[k]).1 = 0 := by
  intro k hk
  have h1 := kept_small hL k (by omega)
  have h2 := hL L[k] (List.getElem_mem hk)
  have h3 := litsMask_len L[k]
  have hall : allInt L[k] = true := by
    rw [allInt, List.all_eq_true]
    exact fun x hx => isLit_iff.2 (h2.1 x hx)
  unfold addTo
  rw [if_neg (by rw [hall]; simp)]
  split
  · rfl
  · rw [if_neg (by omega)]
end

section
variable {base x : Nat} {kv pv vm vc : Value} {ms : List Nat} {pb : List UInt8} {A : List Int} {B kind cf : Int} {w w' : World}
/-- No model. -/
theorem SolveRes.noModel (h : SolveRes base x kv ms pv pb A B w kind vm vc cf w') (hA : ∀ y, y ∈ A → y ≠ 0) (hk : kind = 2) (b : Nat) (hG : ∀ g, g ∈ ms → holdsB b g) : ∃ y, y ∈ A ∧ tru b y = false := by
  obtain ⟨S, D, pv', core, -, hch, -, -, -, -, h6⟩ := h
  rcases h6 with ⟨h1, -⟩ | ⟨-, -, ⟨p, rfl⟩, -, hf⟩ | ⟨h1, -⟩
  · omega
  · have := fol_ent hf (b := b) (fun c hc => (List.mem_append.1 hc).elim (hG c) (hch.ent hG c))
    have hne : ∀ y, y ∈ (A.filter p).map (fun x => -x) → y ≠ 0 := fun y hy => by
      obtain ⟨z, hz, rfl⟩ := List.mem_map.1 hy
      have := hA z (List.mem_filter.1 hz).1
      omega
    obtain ⟨y, hy, ht⟩ := holds_iff.1 ((holdsB_mask hne).1 this)
    obtain ⟨z, hz, rfl⟩ := List.mem_map.1 hy
    have hzA := (List.mem_filter.1 hz).1
    rw [tru_neg b (hA z hzA)] at ht
    exact ⟨z, hzA, by simpa using ht⟩
  · omega
/-- A verdict without a budget. -/
theorem SolveRes.two (h : SolveRes base x kv ms pv pb A 0 w kind vm vc cf w') (hA : ∀ y, y ∈ A → y ≠ 0) : (kind = 1 ∧ vc = .slice none 0 0 ∧ ∃ b, b < 4096 ∧ (∀ x, x ∈ A → tru b x = true) ∧ (∀ g, g ∈ ms → holdsB b g) ∧ w'.ownsRow w.heap.size 3 1 vm 12 (ints (modelOf b))) ∨ (kind = 2 ∧ vm = .slice none 0 0 ∧ ∀ b, (∀ g, g ∈ ms → holdsB b g) → ∃ y, y ∈ A ∧ tru b y = false) := by
  have h0 := h
  obtain ⟨S, D, pv', core, -, hch, -, -, -, -, h6⟩ := h
  rcases h6 with h1 | ⟨h1, h2, -⟩ | ⟨-, -, -, h1, -⟩
  · exact .inl h1
  · exact .inr ⟨h1, h2, fun b hG => h0.noModel hA h1 b hG⟩
  · omega
end

end Go.Proofs.YtekkkoipcghlmaaGreatDoor

namespace Go.Proofs.YtekkkoipcghlmaaGreatDoor
open Go.RowKit

def In (n : Nat) (xs : List Int) : Prop := ∀ x, x ∈ xs → x ≠ 0 ∧ -(n : Int) ≤ x ∧ x ≤ n
theorem In.snoc {n : Nat} {xs : List Int} {x : Int} (h : In n xs) (hx : x ≠ 0 ∧ -(n : Int) ≤ x ∧ x ≤ n) : In n (xs ++ [x]) := fun y hy => by
  rcases List.mem_append.1 hy with hy | hy
  · exact h y hy
  · simp at hy; subst hy; exact hx
def Fits (zs : List Int) : Prop := ∀ z, z ∈ zs → -9223372036854775808 ≤ z ∧ z ≤ 9223372036854775807

end Go.Proofs.YtekkkoipcghlmaaGreatDoor

namespace Go.Proofs.YtekkkoipcghlmaaGreatDoor
open Go.RowKit

theorem RowsAt.lt {w : World} {base : Nat} {vs : List Value} {cs : List (List Int)} (h : RowsAt w base vs cs) {v : Value} (hv : v ∈ vs) {g : Nat} (hg : v.ownBlock = some g) : g < w.heap.size := by
  obtain ⟨i, hi⟩ := List.getElem?_of_mem hv
  have hil : i < vs.length := (List.getElem?_eq_some_iff.1 hi).1
  have hc : i < cs.length := by rw [← h.1]; exact hil
  exact ((h.2 i v _ hi (List.getElem?_eq_getElem hc)).lt g hg).2

end Go.Proofs.YtekkkoipcghlmaaGreatDoor

namespace Go.Proofs.YtekkkoipcghlmaaGreatDoor
open Go.RowKit

/-- Blocks of some types stay. -/
def KeptT (T : TypeId → Prop) (w w' : World) : Prop := ∀ (k : Nat) (cs : Array Value) (t : TypeId) (fz : Nat × Nat), T t → w.heap[k]? = some (.cells cs t fz) → w'.heap[k]? = w.heap[k]?
/-- The block of a slice has this type. -/
def TypedAt (w : World) (v : Value) (e : TypeId) : Prop := ∀ g, v.ownBlock = some g → ∃ cs fz, w.heap[g]? = some (.cells cs e fz)
def NotSolver (t : TypeId) : Prop := t ≠ 77 ∧ t ≠ 5

section
variable {T U : TypeId → Prop} {a b c w w' : World} {v : Value} {e : TypeId}
theorem KeptT.refl (T : TypeId → Prop) (w : World) : KeptT T w w := fun _ _ _ _ _ _ => rfl
theorem KeptT.trans (h : KeptT T a b) (h' : KeptT T b c) : KeptT T a c := fun k cs t fz ht hk => by
  have h1 := h k cs t fz ht hk
  rw [h' k cs t fz ht (h1.trans hk), h1]
theorem KeptT.mono (h : KeptT T a b) (hU : ∀ t, U t → T t) : KeptT U a b := fun k cs t fz ht hk => h k cs t fz (hU t ht) hk
theorem KeptT.of_below (T : TypeId → Prop) (h : Below w.heap.size w w') : KeptT T w w' := fun k _ _ _ _ hk => h.block k (lt_of_block hk)
theorem KeptT.grown {row : Option Nat} (hg : w.grownBy w' row) (hr : ∀ g, row = some g → ∃ cs fz, w.heap[g]? = some (.cells cs e fz)) : KeptT (fun t => t ≠ e) w w' := fun k cs t fz ht hk => by
  refine hg.block k (lt_of_block hk) (fun h => ?_)
  obtain ⟨cs2, fz2, h2⟩ := hr k h.symm
  rw [hk] at h2
  cases h2
  exact ht rfl
theorem TypedAt.kept (h : TypedAt w v e) (hk : KeptT T w w') (ht : T e) : TypedAt w' v e := fun g hg => by
  obtain ⟨cs, fz, h1⟩ := h g hg
  exact ⟨cs, fz, (hk g cs e fz ht h1).trans h1⟩
theorem TypedAt.of_owns {base n : Nat} {s : Nat} {xs : List Value} (h : w.ownsRow base e s v n xs) : TypedAt w v e := fun g hg => by
  rcases h.2 with ⟨rfl, _⟩ | ⟨g', cap, cur, rfl, _, h1, _⟩
  · cases hg
  · simp [Value.ownBlock] at hg
    subst hg
    exact ⟨_, _, h1⟩
theorem lies_kept {xs : List Value} (h : Lies w v xs) (hty : TypedAt w v e) (hk : KeptT T w w') (ht : T e) : Lies w' v xs := by
  rcases h with h | ⟨g, off, cap, hp, rfl, hlt, hc⟩
  · exact .inl h
  · obtain ⟨cs, fz, h1⟩ := hty g rfl
    have h2 := hk g cs e fz ht h1
    exact .inr ⟨g, off, cap, hp, rfl, lt_of_block (h2.trans h1), fun k x hx => (World.cell?_of_block (a := ⟨g, off + k, none⟩) h2).trans (hc k x hx)⟩
theorem owns_kept {base n s : Nat} {xs : List Value} (h : w.ownsRow base e s v n xs) (hk : KeptT T w w') (ht : T e) : w'.ownsRow base e s v n xs := owns_at h (fun g hg => by
  obtain ⟨cs, fz, h1⟩ := TypedAt.of_owns h g hg
  exact hk g cs e fz ht h1)
end

/-- Numbers that lie in a block of numbers. -/
def RowT (w : World) (v : Value) (xs : List Int) : Prop := Lies w v (ints xs) ∧ TypedAt w v 3
/-- Lists of numbers, in blocks of their types. -/
def UnitsT (w : World) (v : Value) (L : List (List Int)) : Prop := ∃ vs, Lies w v vs ∧ TypedAt w v 25 ∧ vs.length = L.length ∧ ∀ (i : Nat) (x : Value) (c : List Int), vs[i]? = some x → L[i]? = some c → RowT w x c

section
variable {T : TypeId → Prop} {w w' : World} {v : Value} {L : List (List Int)} {xs : List Int}
theorem RowT.of_owns {base n : Nat} (h : w.ownsRow base 3 1 v n (ints xs)) (hn : xs.length = n) : RowT w v xs := ⟨lies_of_owns h (by simpa [ints] using hn), TypedAt.of_owns h⟩
theorem RowT.kept (h : RowT w v xs) (hk : KeptT T w w') (ht : T 3) : RowT w' v xs := ⟨lies_kept h.1 h.2 hk ht, h.2.kept hk ht⟩
theorem RowT.below (h : RowT w v xs) (hb : Below w.heap.size w w') : RowT w' v xs := h.kept (KeptT.of_below (fun _ => True) hb) trivial
theorem UnitsT.kept (h : UnitsT w v L) (hk : KeptT T w w') (h1 : T 3) (h2 : T 25) : UnitsT w' v L := by
  obtain ⟨vs, a1, a2, a3, a4⟩ := h
  exact ⟨vs, lies_kept a1 a2 hk h2, a2.kept hk h2, a3, fun i x c hx hc => (a4 i x c hx hc).kept hk h1⟩
theorem UnitsT.below (h : UnitsT w v L) (hb : Below w.heap.size w w') : UnitsT w' v L := h.kept (KeptT.of_below (fun _ => True) hb) trivial trivial
theorem UnitsT.rows (h : UnitsT w v L) : RowsK w v L := by
  obtain ⟨vs, a1, _, a3, a4⟩ := h
  exact ⟨vs, a1, a3, fun i x c hx hc => (a4 i x c hx hc).1⟩
end

section
variable {T : TypeId → Prop} {base x : Nat} {kv pv : Value} {ms : List Nat} {pb : List UInt8} {w w' : World}
theorem XAt.kept (h : XAt base w x kv ms pv pb) (hk : KeptT T w w') (h1 : T 77) (h2 : T 69) (h3 : T 5) : XAt base w' x kv ms pv pb :=
  ⟨(hk x _ _ _ h1 h.block).trans h.block, h.le, owns_kept h.row hk h2, owns_kept h.prow hk h3⟩
theorem KeptT.solver (hX : XAt base w x kv ms pv pb) (ho : Only (XF x pv) w w') : KeptT NotSolver w w' := fun k cs t fz ht hk => ho.block k (lt_of_block hk) (fun hf => by
  rcases hf with rfl | hf
  · rw [hX.block] at hk
    cases hk
    exact ht.1 rfl
  · exact row_ne hX.prow hk ht.2 hf)
theorem Only.solver (hX : XAt base w x kv ms pv pb) (ho : Only (XF x pv) w w') : Below base w w' := ho.below (fun k hk => by
  rcases hk with rfl | hk
  · exact hX.le
  · exact (hX.prow.lt k hk).1) (by have := hX.le; have := lt_of_block hX.block; omega)
end

/-- What Solve leaves, in short. -/
theorem SolveRes.out {base x : Nat} {kv pv vm vc : Value} {ms : List Nat} {pb : List UInt8} {A : List Int} {B kind cf : Int} {w w' : World} (h : SolveRes base x kv ms pv pb A B w kind vm vc cf w') (hX : XAt base w x kv ms pv pb) : KeptT NotSolver w w' ∧ Below base w w' ∧ ∃ pv' S, XAt base w' x kv ms pv' (pb ++ S) ∧ S.length ≤ 1000000000 := by
  obtain ⟨S, D, pv', core, hW, -, -, h3, -⟩ := h
  refine ⟨KeptT.solver hX hW.2.1, Only.solver hX hW.2.1, pv', _, hW.1, ?_⟩
  have h1 := stepsText_len S
  have h2 := toldBody_len (Sp.litsOf (oppMask (Sp.maskOf core)))
  have h4 := litsOf_len (oppMask (Sp.maskOf core))
  rw [List.length_append]
  split
  · unfold Sp.told
    simp only [List.length_append, List.length_cons, List.length_nil]
    omega
  · simp only [List.length_nil]; omega

theorem tru_mod {b n : Nat} {x : Int} (h : x ≠ 0 ∧ -(n : Int) ≤ x ∧ x ≤ n) : tru (b % 2 ^ n) x = tru b x := by
  unfold tru
  rw [Nat.testBit_mod_two_pow, decide_eq_true (by omega : x.natAbs - 1 < n), Bool.true_and]
theorem holds_mod {b n : Nat} {c : List Int} (h : In n c) : holdsOf (b % 2 ^ n) c = holdsOf b c := by
  rw [Bool.eq_iff_iff, holds_iff, holds_iff]
  constructor
  · rintro ⟨x, hx, ht⟩; exact ⟨x, hx, by rw [← tru_mod (h x hx)]; exact ht⟩
  · rintro ⟨x, hx, ht⟩; exact ⟨x, hx, by rw [tru_mod (h x hx)]; exact ht⟩
theorem models_none {L : List (List Int)} {k : Nat} : modelsTo L k = 0 ↔ ∀ b, b < k → ¬ ∀ c, c ∈ L → holdsOf b c = true := by
  unfold modelsTo
  rw [List.length_eq_zero_iff, List.filter_eq_nil_iff]
  constructor
  · intro h b hb ha
    exact h b (List.mem_range.2 hb) (by rw [List.all_eq_true]; exact ha)
  · intro h b hb ha
    rw [List.all_eq_true] at ha
    exact h b (List.mem_range.1 hb) ha
/-- No model of n variables: no model. -/
theorem models_any {L : List (List Int)} {n : Nat} (hL : ∀ c, c ∈ L → In n c) : modelsTo L (2 ^ n) = 0 ↔ ∀ b, ¬ ∀ c, c ∈ L → holdsOf b c = true := by
  rw [models_none]
  constructor
  · intro h b hb
    exact h (b % 2 ^ n) (Nat.mod_lt _ (Nat.two_pow_pos n)) (fun c hc => by rw [holds_mod (hL c hc)]; exact hb c hc)
  · intro h b _
    exact h b
theorem In.mono {n m : Nat} {c : List Int} (h : In n c) (hm : n ≤ m) : In m c := fun x hx => by have := h x hx; omega
theorem In.all {n : Nat} {c : List Int} (h : In n c) (hn : n ≤ 12) : allInt c = true := by
  rw [allInt, List.all_eq_true]
  exact fun x hx => isLit_iff.2 (by have := h x hx; omega)
theorem In.lits {n : Nat} {c : List Int} (h : In n c) (hn : n ≤ 12) : Lits c := fun x hx => by have := h x hx; omega
section
variable {L : List (List Int)}
/-- The clauses that a solver made of small clauses keeps. -/
theorem kept_fine (hL : ∀ c, c ∈ L → Lits c ∧ c.length ≤ 3) (hl : L.length ≤ 100) : KeptOK (keptTo L L.length) := by
  have h1 := kept_ok (fun c hc => (hL c hc).1) L.length (Nat.le_refl _)
  have h2 := keptTo_len L L.length
  exact ⟨h1.1, h1.2, by omega⟩
theorem kept_same (hL : ∀ c, c ∈ L → Lits c ∧ c.length ≤ 3) (hl : L.length ≤ 100) (b : Nat) : (∀ g, g ∈ keptTo L L.length → holdsB b g) ↔ ∀ c, c ∈ L → holdsOf b c = true := by
  have := kept_all (fun c hc => (hL c hc).1) (kept_adds hL hl) b L.length (Nat.le_refl _)
  rwa [List.take_length] at this
end

section
variable {base x : Nat} {kv pv vm vc : Value} {ms : List Nat} {pb : List UInt8} {A : List Int} {kind cf : Int} {w w' : World}
/-- The verdict, by all values. -/
theorem SolveRes.verdict (h : SolveRes base x kv ms pv pb (once A) 0 w kind vm vc cf w') (hA : ∀ y, y ∈ A → y ≠ 0) :
    (kind = 1 ∧ vc = .slice none 0 0 ∧ ∃ b, b < 4096 ∧ (∀ y, y ∈ A → tru b y = true) ∧ (∀ g, g ∈ ms → holdsB b g) ∧ w'.ownsRow w.heap.size 3 1 vm 12 (ints (modelOf b))) ∨
    (kind = 2 ∧ vm = .slice none 0 0 ∧ ∀ b, (∀ g, g ∈ ms → holdsB b g) → ¬ ∀ y, y ∈ A → tru b y = true) := by
  rcases h.two (fun y hy => hA y ((once_mem A y).1 hy)) with ⟨h1, h2, b, h3, h4, h5, h6⟩ | ⟨h1, h2, h3⟩
  · exact .inl ⟨h1, h2, b, h3, fun y hy => h4 y ((once_mem A y).2 hy), h5, h6⟩
  · refine .inr ⟨h1, h2, fun b hb hall => ?_⟩
    obtain ⟨y, hy, ht⟩ := h3 b hb
    rw [hall y ((once_mem A y).1 hy)] at ht
    cases ht
theorem SolveRes.vals (h : SolveRes base x kv ms pv pb A 0 w kind vm vc cf w') : (∃ ao n c, vm = .slice ao n c) ∧ ∃ ao n c, vc = .slice ao n c := by
  obtain ⟨S, D, pv', core, -, -, -, -, -, -, h6⟩ := h
  rcases h6 with ⟨_, h2, b, _, _, _, h3⟩ | ⟨_, h2, _, h3, _⟩ | ⟨_, _, _, h4, _⟩
  · exact ⟨slice_of h3, by rw [h2]; exact ⟨_, _, _, rfl⟩⟩
  · exact ⟨by rw [h2]; exact ⟨_, _, _, rfl⟩, slice_of h3⟩
  · omega
end

end Go.Proofs.YtekkkoipcghlmaaGreatDoor

namespace Go.Proofs.YtekkkoipcghlmaaGreatDoor
open Go.RowKit

/-- Clauses, and behind them literals as clauses: a list that grows. -/
structure UInv (base : Nat) (w0 wr : World) (u : Value) (vs : List Value) (L : List (List Int)) : Prop where
  row : wr.ownsRow base 25 1 u L.length vs
  rows : ∀ (i : Nat) (x : Value) (c : List Int), vs[i]? = some x → L[i]? = some c → RowT wr x c
  below : Below base w0 wr
  kept : KeptT (fun t => t ≠ 25) w0 wr
section
variable {base : Nat} {w0 wr w' : World} {u u' : Value} {vs : List Value} {L : List (List Int)}
theorem UInv.len (h : UInv base w0 wr u vs L) : vs.length = L.length := by have := h.row.1; simpa using this
theorem UInv.push (h : UInv base w0 wr u vs L) {o : Obj} {x : Value} {c : List Int} {n : Nat} (hn : n = L.length + 1) (hown : w'.ownsRow base 25 1 u' n (vs ++ [x])) (hg : (wr.alloc o).grownBy w' u.ownBlock) (hx : RowT wr x c) (hb : base ≤ wr.heap.size) : UInv base w0 w' u' (vs ++ [x]) (L ++ [c]) := by
  have hal : Below wr.heap.size wr (wr.alloc o) := (Below.refl _ _).alloc (Nat.le_refl _) _
  have hk : KeptT (fun t => t ≠ 25) wr w' := (KeptT.of_below _ hal).trans (KeptT.grown hg (fun g hg' => (TypedAt.of_owns h.row).kept (KeptT.of_below (fun _ => True) hal) trivial g hg'))
  refine ⟨by rw [List.length_append, List.length_singleton, ← hn]; exact hown, fun i y d hy hd => ?_, ?_, h.kept.trans hk⟩
  · by_cases hi : i < vs.length
    · rw [List.getElem?_append_left hi] at hy
      rw [List.getElem?_append_left (by rw [← h.len]; exact hi)] at hd
      exact (h.rows i y d hy hd).kept hk (by decide)
    · have hl := (List.getElem?_eq_some_iff.1 hy).1
      simp at hl
      have : i = vs.length := by omega
      subst this
      rw [List.getElem?_append_right (Nat.le_refl _)] at hy
      rw [h.len, List.getElem?_append_right (Nat.le_refl _)] at hd
      simp at hy hd
      subst hy
      subst hd
      exact hx.kept hk (by decide)
  · have hle : base ≤ (wr.alloc o).heap.size := by simp; omega
    exact (h.below.alloc hb o).grown hg hle (fun j hj => (h.row.lt j hj).1)
end

/-- A part of a row. -/
theorem RowT.one {w : World} {g k cap c : Nat} {xs : List Int} (h : RowT w (.slice (some ⟨g, 0, none⟩) xs.length cap) xs) (hk : k < xs.length) : RowT w (.slice (some ⟨g, k, none⟩) 1 c) [xs[k]] := by
  refine ⟨?_, fun q hq => h.2 q (by simpa [Value.ownBlock] using hq)⟩
  rcases h.1 with ⟨h0, _⟩ | ⟨b, off, cap', hp, hv, hb, hc⟩
  · exfalso; have := congrArg List.length h0; simp [ints] at this; rw [this] at hk; simp at hk
  · simp only [Value.slice.injEq, Option.some.injEq, Addr.mk.injEq] at hv
    obtain ⟨⟨rfl, rfl, -⟩, -, rfl⟩ := hv
    refine .inr ⟨g, k, c, by simp [ints], rfl, hb, fun j y hy => ?_⟩
    have hj : j = 0 := by
      have := (List.getElem?_eq_some_iff.1 hy).1
      simpa [ints] using this
    subst hj
    have := hc k (.int .i64 xs[k]) (by simp [ints, hk])
    simp [ints] at hy
    subst hy
    rw [Nat.zero_add] at this
    exact this

end Go.Proofs.YtekkkoipcghlmaaGreatDoor

namespace Go.Proofs.YtekkkoipcghlmaaGreatDoor
open Go.RowKit

theorem Tryz.laysWS : Lays.n166 Tryz.prog Tryz.lays156_ren := {
  mixed := Tryz.lays156.mixed
  f166 := Tryz.lays156.f166
  f240 := Tryz.lays156.f240
  f276 := Tryz.lays156.f276
  t0 := Tryz.lays156.t0
  a0 := Tryz.lays156.a0
  z0 := Tryz.lays156.z0
  v0 := Tryz.lays156.v0
  t3 := Tryz.lays156.t3
  a3 := Tryz.lays156.a3
  z3 := Tryz.lays156.z3
  v3 := Tryz.lays156.v3
  t4 := Tryz.lays156.t4
  a4 := Tryz.lays156.a4
  z4 := Tryz.lays156.z4
  v4 := Tryz.lays156.v4
  t9 := Tryz.lays156.t9
  a9 := Tryz.lays156.a9
  z9 := Tryz.lays156.z9
  v9 := Tryz.lays156.v9
  t20 := Tryz.lays156.t20
  a20 := Tryz.lays156.a20
  z20 := Tryz.lays156.z20
  v20 := Tryz.lays156.v20
  t37 := Tryz.lays156.t37
  a37 := Tryz.lays156.a37
  z37 := Tryz.lays156.z37
  v37 := Tryz.lays156.v37
  t70 := Tryz.lays156.t70
  a70 := Tryz.lays156.a70
  z70 := Tryz.lays156.z70
  v70 := Tryz.lays156.v70
  t72 := Tryz.lays156.t72
  a72 := Tryz.lays156.a72
  z72 := Tryz.lays156.z72
  v72 := Tryz.lays156.v72
  t75 := Tryz.lays156.t75
  a75 := Tryz.lays156.a75
  z75 := Tryz.lays156.z75
  v75 := Tryz.lays156.v75
  t164 := Tryz.lays156.t164
  a164 := Tryz.lays156.a164
  z164 := Tryz.lays156.z164
  v164 := Tryz.lays156.v164 }

theorem Tryz.laysST : Lays.n169 Tryz.prog Tryz.lays156_ren := {
  mixed := Tryz.lays156.mixed
  f169 := Tryz.lays156.f169
  t0 := Tryz.lays156.t0
  a0 := Tryz.lays156.a0
  z0 := Tryz.lays156.z0
  v0 := Tryz.lays156.v0
  t3 := Tryz.lays156.t3
  a3 := Tryz.lays156.a3
  z3 := Tryz.lays156.z3
  v3 := Tryz.lays156.v3
  t9 := Tryz.lays156.t9
  a9 := Tryz.lays156.a9
  z9 := Tryz.lays156.z9
  v9 := Tryz.lays156.v9
  t37 := Tryz.lays156.t37
  a37 := Tryz.lays156.a37
  z37 := Tryz.lays156.z37
  v37 := Tryz.lays156.v37
  t70 := Tryz.lays156.t70
  a70 := Tryz.lays156.a70
  z70 := Tryz.lays156.z70
  v70 := Tryz.lays156.v70
  t72 := Tryz.lays156.t72
  a72 := Tryz.lays156.a72
  z72 := Tryz.lays156.z72
  v72 := Tryz.lays156.v72
  t127 := Tryz.lays156.t127
  a127 := Tryz.lays156.a127
  z127 := Tryz.lays156.z127
  v127 := Tryz.lays156.v127 }

theorem IsBuilder.below {T e : TypeId} {B b : Nat} {cs : List Value} {w w' : World} (h : Lib.IsBuilder T e B b cs w) (hb : Below w.heap.size w w') : Lib.IsBuilder T e B b cs w' := by
  have key : ∀ p, Lib.BuilderAt T e B b p cs w → Lib.BuilderAt T e B b p cs w' := by
    rintro p ⟨h1, v, h2, h3, h4⟩
    have hlt := (Array.getElem?_eq_some_iff.1 h2).1
    exact ⟨h1, v, (hb.block b hlt).trans h2, owns_below h3 hb, h4⟩
  rcases h with h | h
  · exact .inl (key _ h)
  · exact .inr (key _ h)

def maskText (ms : List Nat) : List UInt8 := ms.flatMap (fun m => Sp.told (Sp.litsOf m))
theorem maskText_snoc (ms : List Nat) (m : Nat) : maskText (ms ++ [m]) = maskText ms ++ Sp.told (Sp.litsOf m) := by
  unfold maskText; rw [List.flatMap_append]; simp
theorem maskTold_len (m : Nat) : (Sp.told (Sp.litsOf m)).length ≤ 97 := by
  have h1 := toldBody_len (Sp.litsOf m); have h2 := litsOf_len m
  simp [Sp.told]; omega
theorem maskText_len (ms : List Nat) : (maskText ms).length ≤ 97 * ms.length := by
  induction ms with
  | nil => simp [maskText]
  | cons a r ih =>
    have h1 := maskTold_len a
    simp only [maskText, List.flatMap_cons, List.length_append, List.length_cons] at ih ⊢
    omega

theorem writeString_any (B b : Nat) (l t : List UInt8) (w : World) (h : Lib.IsBuilder 138 5 B b (Lib.byteCells l) w) (hlen : l.length + t.length ≤ 140737488355328) (hBw : B ≤ w.heap.size) :
    Calls Tryz.prog 88 #[.pointer (some ⟨b, 0, none⟩), .string (bs t)] w fun e w' => ∃ n : Int, e = .returned (.tuple #[.int .i64 n, .nilIface]) ∧ Lib.IsBuilder 138 5 B b (Lib.byteCells (l ++ t)) w' ∧ Below B w w' := by
  refine (Any.Builder_WriteString Tryz.laysWS Tryz.Builder_Extra_156 B b (Lib.byteCells l) (bs t) w h (by rw [Lib.byteCells_length, bs_size]; exact hlen) hBw).mono ?_
  rintro e w' ⟨rfl, hb, hbel⟩
  refine ⟨_, rfl, .inr ?_, hbel⟩
  have e1 : Lib.byteCells l ++ Lib.strCells (bs t) = Lib.byteCells (l ++ t) := by
    rw [Lib.strCells_eq, bs_data]; simp [Lib.byteCells]
  rw [e1] at hb
  exact hb

theorem builderString_any (B b : Nat) (l : List UInt8) (w : World) (h : Lib.IsBuilder 138 5 B b (Lib.byteCells l) w) (hBw : B ≤ w.heap.size) :
    Calls Tryz.prog 89 #[.pointer (some ⟨b, 0, none⟩)] w fun e w' => e = .returned (.string (bs l)) ∧ Below B w w' :=
  Any.Builder_String_any Tryz.laysST Tryz.Builder_Extra_156 B b l w h hBw

set_option maxRecDepth 100000 in
set_option maxHeartbeats 800000 in
theorem clausePlain_any (v : Value) (ms : List Nat) (w : World) (hl : ms.length ≤ 10000000) (hm : ∀ m, m ∈ ms → m < 2 ^ 24) (hv : Lies w v (us ms)) (he : EnvT w) :
    Calls Tryz.prog 48 #[v] w fun e w' => e = .returned (.string (bs (maskText ms))) ∧ Below w.heap.size w w' := by
  have hfresh := hide (Lib.fresh_isBuilder 138 5 w)
  have hb0 : Below w.heap.size w (w.alloc (.cells #[.pointer none, .slice none 0 0] 138)) := (Below.refl _ _).alloc (Nat.le_refl _) _
  rcases hv with ⟨h0, ao, cap, rfl⟩ | ⟨b, off, cap, hp, rfl, hb, hc⟩
  · have hx : ms = [] := by simpa [us] using h0
    subst hx
    go_enter Tryz.func48, Tryz.ntmps48
    go_wp2
    refine wp_loop_rounds 1 ?_
    rw [rounds_succ]
    go_wp2_with fail
    refine (builderString_any w.heap.size w.heap.size [] _ (unhide hfresh) (by simp)).mono ?_
    rintro e w1 ⟨rfl, hb1⟩
    go_wp2
    go_ret
    exact ⟨rfl, hb0.trans hb1⟩
  · have hlen : (us ms).length = ms.length := by simp [us]
    rw [hlen] at hp ⊢
    go_enter Tryz.func48, Tryz.ntmps48
    go_wp2
    go_loopw [8] (fun i wr => ∃ k : Nat, k ≤ ms.length ∧ i = .int .i64 k ∧ Lib.IsBuilder 138 5 w.heap.size w.heap.size (Lib.byteCells (maskText (ms.take k))) wr ∧ Below w.heap.size w wr) (fun i _ => ms.length - (intOf i).toNat)
    case atStart => exact ⟨0, Nat.zero_le _, rfl, unhide hfresh, hb0⟩
    case round =>
      obtain ⟨k, hk, rfl, hbu, hbel⟩ := hrel
      have HB := hide hbu
      clear hbu
      have hml := maskText_len (ms.take k)
      have hml2 : (ms.take k).length ≤ k := List.length_take_le _ _
      by_cases hlt : k < ms.length
      · have hcell : wr.cell? ⟨b, off + k, none⟩ = some (.int .u32 (ms[k] : Int)) := (hbel.cell (p := ⟨b, off + k, none⟩) hb).trans (hc k (.int .u32 (ms[k] : Int)) (by simp [us, hlt]))
        have hmm := hm ms[k] (List.getElem_mem hlt)
        have HS : Hid (ms.take (k + 1) = ms.take k ++ [ms[k]]) := hide (List.take_succ_eq_append_getElem hlt)
        generalize ms[k] = m at hcell HS hmm
        clear hc hm
        have htl := maskTold_len m
        have HL := hide (line_any m wr hmm (he.below hbel))
        have HSN := hide (maskText_snoc (ms.take k) m)
        go_wp2_with fail
        refine (unhide HL).mono ?_
        rintro e w1 ⟨rfl, hb1⟩
        have hsz := hbel.size
        have hsz1 := hb1.size
        have HW := hide (writeString_any w.heap.size w.heap.size (maskText (ms.take k)) (Sp.told (Sp.litsOf m)) w1 (IsBuilder.below (unhide HB) hb1) (by omega) (by omega))
        go_wp2_with fail
        refine (unhide HW).mono ?_
        rintro e w2 ⟨n, rfl, hbu2, hb2⟩
        have HB2 := hide hbu2
        clear hbu2
        go_wp2
        go_roundw
        case rel => exact ⟨k + 1, by omega, by go_num, by rw [unhide HS, unhide HSN]; exact unhide HB2, (hbel.trans (hb1.mono hbel.size)).trans hb2⟩
        case measure => simp [intOf]; omega
      · have HT : Hid (ms.take k = ms) := hide (List.take_of_length_le (by omega))
        have hsz := hbel.size
        have HSt := hide (builderString_any w.heap.size w.heap.size (maskText (ms.take k)) wr (unhide HB) (by omega))
        go_wp2_with fail
        refine (unhide HSt).mono ?_
        rintro e w1 ⟨rfl, hb1⟩
        go_wp2
        go_ret
        exact ⟨by rw [unhide HT]; rfl, hbel.trans hb1⟩

end Go.Proofs.YtekkkoipcghlmaaGreatDoor

namespace Go.Proofs.YtekkkoipcghlmaaGreatDoor
open Go.RowKit

set_option maxRecDepth 100000 in
theorem clausesX_any (base x : Nat) (kv : Value) (ms : List Nat) (w : World) (pv : Value) (pb : List UInt8) (hX : XAt base w x kv ms pv pb) (hms : ms.length ≤ 10000000) (hsm : ∀ m, m ∈ ms → m < 2 ^ 24) (he : EnvT w) :
    Calls Tryz.prog 27 #[.pointer (some ⟨x, 0, none⟩)] w fun e w' => e = .returned (.string (bs (maskText ms))) ∧ Below w.heap.size w w' := by
  have HP := hide (clausePlain_any kv ms w hms hsm (lies_of_owns hX.row (by simp [us])) he)
  have hc0 : w.cell? ⟨x, 0, none⟩ = some kv := by simp [World.cell?, hX.block]
  obtain ⟨ao, cp, hsh⟩ := owns_shape hX.row
  subst hsh
  clear hX
  go_enter Tryz.func27, Tryz.ntmps27
  go_wp2_with fail
  refine (unhide HP).mono ?_
  rintro e w1 ⟨rfl, hb1⟩
  go_wp2
  go_ret
  exact ⟨rfl, hb1⟩

end Go.Proofs.YtekkkoipcghlmaaGreatDoor
