import Derived.Test.YtekkkoipcghlmabGreatDoorE34
import Derived.Test.YtekkkoipcghlmabGreatDoorE29
import Derived.Test.YtekkkoipcghlmabGreatDoorE31
import Derived.Laws.BytesArg
import Derived.Laws.IdiomStrings
set_option linter.all false
namespace Go.Proofs.YtekkkoipcghlmabGreatDoor
open Go.RowKit

/-- Blocks of some types stay. -/
def KeptT (T : TypeId → Prop) (w w' : World) : Prop := ∀ (k : Nat) (cs : Array Value) (t : TypeId) (fz : Nat × Nat), T t → w.heap[k]? = some (.cells cs t fz) → w'.heap[k]? = w.heap[k]?
/-- The block of a slice has this type. -/
def TypedAt (w : World) (v : Value) (e : TypeId) : Prop := ∀ g, v.ownBlock = some g → ∃ cs fz, w.heap[g]? = some (.cells cs e fz)
def NotSolver (t : TypeId) : Prop := t ≠ 57 ∧ t ≠ 5

section
variable {T U : TypeId → Prop} {a b c w w' : World} {v : Value} {e : TypeId}
theorem KeptT.refl (T : TypeId → Prop) (w : World) : KeptT T w w := fun _ _ _ _ _ _ => rfl
theorem KeptT.trans (h : KeptT T a b) (h' : KeptT T b c) : KeptT T a c := fun k cs t fz ht hk => by
  have h1 := h k cs t fz ht hk
  rw [h' k cs t fz ht (h1.trans hk), h1]
theorem KeptT.mono (h : KeptT T a b) (hU : ∀ t, U t → T t) : KeptT U a b := fun k cs t fz ht hk => h k cs t fz (hU t ht) hk
theorem KeptT.of_below (T : TypeId → Prop) (h : Below w.heap.size w w') : KeptT T w w' := fun k _ _ _ _ hk => h.block k (lt_of_block hk)
theorem KeptT.grown {row : Option Nat} (hg : w.grownBy w' row) (hr : ∀ g, row = some g → ∃ cs fz, w.heap[g]? = some (.cells cs e fz)) : KeptT (fun t => t ≠ e) w w' := fun k cs t fz ht hk => by
  refine hg.block k (lt_of_block hk) (fun h => ?_)
  obtain ⟨cs2, fz2, h2⟩ := hr k h.symm
  rw [hk] at h2
  cases h2
  exact ht rfl
theorem TypedAt.kept (h : TypedAt w v e) (hk : KeptT T w w') (ht : T e) : TypedAt w' v e := fun g hg => by
  obtain ⟨cs, fz, h1⟩ := h g hg
  exact ⟨cs, fz, (hk g cs e fz ht h1).trans h1⟩
theorem TypedAt.of_owns {base n : Nat} {s : Nat} {xs : List Value} (h : w.ownsRow base e s v n xs) : TypedAt w v e := fun g hg => by
  rcases h.2 with ⟨rfl, _⟩ | ⟨g', cap, cur, rfl, _, h1, _⟩
  · cases hg
  · simp [Value.ownBlock] at hg
    subst hg
    exact ⟨_, _, h1⟩
theorem lies_kept {xs : List Value} (h : Lies w v xs) (hty : TypedAt w v e) (hk : KeptT T w w') (ht : T e) : Lies w' v xs := by
  rcases h with h | ⟨g, off, cap, hp, rfl, hlt, hc⟩
  · exact .inl h
  · obtain ⟨cs, fz, h1⟩ := hty g rfl
    have h2 := hk g cs e fz ht h1
    exact .inr ⟨g, off, cap, hp, rfl, lt_of_block (h2.trans h1), fun k x hx => (World.cell?_of_block (a := ⟨g, off + k, none⟩) h2).trans (hc k x hx)⟩
theorem owns_kept {base n s : Nat} {xs : List Value} (h : w.ownsRow base e s v n xs) (hk : KeptT T w w') (ht : T e) : w'.ownsRow base e s v n xs := owns_at h (fun g hg => by
  obtain ⟨cs, fz, h1⟩ := TypedAt.of_owns h g hg
  exact hk g cs e fz ht h1)
end

/-- Numbers that lie in a block of numbers. -/
def RowT (w : World) (v : Value) (xs : List Int) : Prop := Lies w v (ints xs) ∧ TypedAt w v 3
/-- Lists of numbers, in blocks of their types. -/
def UnitsT (w : World) (v : Value) (L : List (List Int)) : Prop := ∃ vs, Lies w v vs ∧ TypedAt w v 22 ∧ vs.length = L.length ∧ ∀ (i : Nat) (x : Value) (c : List Int), vs[i]? = some x → L[i]? = some c → RowT w x c

section
variable {T : TypeId → Prop} {w w' : World} {v : Value} {L : List (List Int)} {xs : List Int}
theorem RowT.of_owns {base n : Nat} (h : w.ownsRow base 3 1 v n (ints xs)) (hn : xs.length = n) : RowT w v xs := ⟨lies_of_owns h (by simpa [ints] using hn), TypedAt.of_owns h⟩
theorem RowT.kept (h : RowT w v xs) (hk : KeptT T w w') (ht : T 3) : RowT w' v xs := ⟨lies_kept h.1 h.2 hk ht, h.2.kept hk ht⟩
theorem RowT.below (h : RowT w v xs) (hb : Below w.heap.size w w') : RowT w' v xs := h.kept (KeptT.of_below (fun _ => True) hb) trivial
theorem UnitsT.kept (h : UnitsT w v L) (hk : KeptT T w w') (h1 : T 3) (h2 : T 22) : UnitsT w' v L := by
  obtain ⟨vs, a1, a2, a3, a4⟩ := h
  exact ⟨vs, lies_kept a1 a2 hk h2, a2.kept hk h2, a3, fun i x c hx hc => (a4 i x c hx hc).kept hk h1⟩
theorem UnitsT.below (h : UnitsT w v L) (hb : Below w.heap.size w w') : UnitsT w' v L := h.kept (KeptT.of_below (fun _ => True) hb) trivial trivial
theorem UnitsT.rows (h : UnitsT w v L) : RowsK w v L := by
  obtain ⟨vs, a1, _, a3, a4⟩ := h
  exact ⟨vs, a1, a3, fun i x c hx hc => (a4 i x c hx hc).1⟩
theorem UnitsT.of_rows {base : Nat} {vs : List Value} (h : w.ownsRow base 22 1 v L.length vs) (hr : RowsAt w base vs L) : UnitsT w v L :=
  ⟨vs, lies_of_owns h hr.1, TypedAt.of_owns h, hr.1, fun i x c hx hc => RowT.of_owns (hr.2 i x c hx hc) rfl⟩
end

section
variable {T : TypeId → Prop} {base x : Nat} {kv pv : Value} {ms : List Nat} {pb : List UInt8} {w w' : World}
theorem XAt.kept (h : XAt base w x kv ms pv pb) (hk : KeptT T w w') (h1 : T 57) (h2 : T 59) (h3 : T 5) : XAt base w' x kv ms pv pb :=
  ⟨(hk x _ _ _ h1 h.block).trans h.block, h.le, owns_kept h.row hk h2, owns_kept h.prow hk h3⟩
theorem KeptT.solver (hX : XAt base w x kv ms pv pb) (ho : Only (XF x pv) w w') : KeptT NotSolver w w' := fun k cs t fz ht hk => ho.block k (lt_of_block hk) (fun hf => by
  rcases hf with rfl | hf
  · rw [hX.block] at hk
    cases hk
    exact ht.1 rfl
  · exact row_ne hX.prow hk ht.2 hf)
theorem Only.solver (hX : XAt base w x kv ms pv pb) (ho : Only (XF x pv) w w') : Below base w w' := ho.below (fun k hk => by
  rcases hk with rfl | hk
  · exact hX.le
  · exact (hX.prow.lt k hk).1) (by have := hX.le; have := lt_of_block hX.block; omega)
end

/-- What Solve leaves, in short. -/
theorem SolveRes.out {base x : Nat} {kv pv vm vc : Value} {ms : List Nat} {pb : List UInt8} {A : List Int} {B kind cf : Int} {w w' : World} (h : SolveRes base x kv ms pv pb A B w kind vm vc cf w') (hX : XAt base w x kv ms pv pb) : KeptT NotSolver w w' ∧ Below base w w' ∧ ∃ pv' S, XAt base w' x kv ms pv' (pb ++ S) ∧ S.length ≤ 1000000000 := by
  obtain ⟨S, D, pv', core, hW, -, -, h3, -⟩ := h
  refine ⟨KeptT.solver hX hW.2.1, Only.solver hX hW.2.1, pv', _, hW.1, ?_⟩
  have h1 := stepsText_len S
  have h2 := toldBody_len (Sp.litsOf (oppMask (Sp.maskOf core)))
  have h4 := litsOf_len (oppMask (Sp.maskOf core))
  rw [List.length_append]
  split
  · unfold Sp.told
    simp only [List.length_append, List.length_cons, List.length_nil]
    omega
  · simp only [List.length_nil]; omega

theorem In.mono {n m : Nat} {c : List Int} (h : In n c) (hm : n ≤ m) : In m c := fun x hx => by have := h x hx; omega
theorem In.all {n : Nat} {c : List Int} (h : In n c) (hn : n ≤ 12) : allInt c = true := by
  rw [allInt, List.all_eq_true]
  exact fun x hx => isLit_iff.2 (by have := h x hx; omega)
theorem In.lits {n : Nat} {c : List Int} (h : In n c) (hn : n ≤ 12) : Lits c := fun x hx => by have := h x hx; omega
section
variable {L : List (List Int)}
/-- The clauses that a solver made of small clauses keeps. -/
theorem kept_fine (hL : ∀ c, c ∈ L → Lits c ∧ c.length ≤ 3) (hl : L.length ≤ 100) : KeptOK (keptTo L L.length) := by
  have h1 := kept_ok (fun c hc => (hL c hc).1) L.length (Nat.le_refl _)
  have h2 := keptTo_len L L.length
  exact ⟨h1.1, h1.2, by omega⟩
theorem kept_same (hL : ∀ c, c ∈ L → Lits c ∧ c.length ≤ 3) (hl : L.length ≤ 100) (b : Nat) : (∀ g, g ∈ keptTo L L.length → holdsB b g) ↔ ∀ c, c ∈ L → holdsOf b c = true := by
  have := kept_all (fun c hc => (hL c hc).1) (kept_adds hL hl) b L.length (Nat.le_refl _)
  rwa [List.take_length] at this
end

section
variable {base x : Nat} {kv pv vm vc : Value} {ms : List Nat} {pb : List UInt8} {A : List Int} {kind cf : Int} {w w' : World}
/-- The verdict, by all values. -/
theorem SolveRes.verdict (h : SolveRes base x kv ms pv pb (once A) 0 w kind vm vc cf w') (hA : ∀ y, y ∈ A → y ≠ 0) :
    (kind = 1 ∧ vc = .slice none 0 0 ∧ ∃ b, b < 4096 ∧ (∀ y, y ∈ A → tru b y = true) ∧ (∀ g, g ∈ ms → holdsB b g) ∧ w'.ownsRow w.heap.size 3 1 vm 12 (ints (modelOf b))) ∨
    (kind = 2 ∧ vm = .slice none 0 0 ∧ ∀ b, (∀ g, g ∈ ms → holdsB b g) → ¬ ∀ y, y ∈ A → tru b y = true) := by
  rcases h.two (fun y hy => hA y ((once_mem A y).1 hy)) with ⟨h1, h2, b, h3, h4, h5, h6⟩ | ⟨h1, h2, h3⟩
  · exact .inl ⟨h1, h2, b, h3, fun y hy => h4 y ((once_mem A y).2 hy), h5, h6⟩
  · refine .inr ⟨h1, h2, fun b hb hall => ?_⟩
    obtain ⟨y, hy, ht⟩ := h3 b hb
    rw [hall y ((once_mem A y).1 hy)] at ht
    cases ht
theorem SolveRes.vals (h : SolveRes base x kv ms pv pb A 0 w kind vm vc cf w') : (∃ ao n c, vm = .slice ao n c) ∧ ∃ ao n c, vc = .slice ao n c := by
  obtain ⟨S, D, pv', core, -, -, -, -, -, -, h6⟩ := h
  rcases h6 with ⟨_, h2, b, _, _, _, h3⟩ | ⟨_, h2, _, h3, _⟩ | ⟨_, _, _, h4, _⟩
  · exact ⟨slice_of h3, by rw [h2]; exact ⟨_, _, _, rfl⟩⟩
  · exact ⟨by rw [h2]; exact ⟨_, _, _, rfl⟩, slice_of h3⟩
  · omega
end

end Go.Proofs.YtekkkoipcghlmabGreatDoor

namespace Go.Proofs.YtekkkoipcghlmabGreatDoor
open Go.RowKit

/-- A part of a row. -/
theorem RowT.one {w : World} {g k cap c : Nat} {xs : List Int} (h : RowT w (.slice (some ⟨g, 0, none⟩) xs.length cap) xs) (hk : k < xs.length) : RowT w (.slice (some ⟨g, k, none⟩) 1 c) [xs[k]] := by
  refine ⟨?_, fun q hq => h.2 q (by simpa [Value.ownBlock] using hq)⟩
  rcases h.1 with ⟨h0, _⟩ | ⟨b, off, cap', hp, hv, hb, hc⟩
  · exfalso; have := congrArg List.length h0; simp [ints] at this; rw [this] at hk; simp at hk
  · simp only [Value.slice.injEq, Option.some.injEq, Addr.mk.injEq] at hv
    obtain ⟨⟨rfl, rfl, -⟩, -, rfl⟩ := hv
    refine .inr ⟨g, k, c, by simp [ints], rfl, hb, fun j y hy => ?_⟩
    have hj : j = 0 := by
      have := (List.getElem?_eq_some_iff.1 hy).1
      simpa [ints] using this
    subst hj
    have := hc k (.int .i64 xs[k]) (by simp [ints, hk])
    simp [ints] at hy
    subst hy
    rw [Nat.zero_add] at this
    exact this

end Go.Proofs.YtekkkoipcghlmabGreatDoor

namespace Go.Proofs.YtekkkoipcghlmabGreatDoor
open Go.RowKit

theorem Tryz.laysWS : Lays.n166 Tryz.prog Tryz.lays156_ren := {
  mixed := Tryz.lays156.mixed
  f166 := Tryz.lays156.f166
  f240 := Tryz.lays156.f240
  f276 := Tryz.lays156.f276
  t0 := Tryz.lays156.t0
  a0 := Tryz.lays156.a0
  z0 := Tryz.lays156.z0
  v0 := Tryz.lays156.v0
  t3 := Tryz.lays156.t3
  a3 := Tryz.lays156.a3
  z3 := Tryz.lays156.z3
  v3 := Tryz.lays156.v3
  t4 := Tryz.lays156.t4
  a4 := Tryz.lays156.a4
  z4 := Tryz.lays156.z4
  v4 := Tryz.lays156.v4
  t9 := Tryz.lays156.t9
  a9 := Tryz.lays156.a9
  z9 := Tryz.lays156.z9
  v9 := Tryz.lays156.v9
  t20 := Tryz.lays156.t20
  a20 := Tryz.lays156.a20
  z20 := Tryz.lays156.z20
  v20 := Tryz.lays156.v20
  t37 := Tryz.lays156.t37
  a37 := Tryz.lays156.a37
  z37 := Tryz.lays156.z37
  v37 := Tryz.lays156.v37
  t70 := Tryz.lays156.t70
  a70 := Tryz.lays156.a70
  z70 := Tryz.lays156.z70
  v70 := Tryz.lays156.v70
  t72 := Tryz.lays156.t72
  a72 := Tryz.lays156.a72
  z72 := Tryz.lays156.z72
  v72 := Tryz.lays156.v72
  t75 := Tryz.lays156.t75
  a75 := Tryz.lays156.a75
  z75 := Tryz.lays156.z75
  v75 := Tryz.lays156.v75
  t164 := Tryz.lays156.t164
  a164 := Tryz.lays156.a164
  z164 := Tryz.lays156.z164
  v164 := Tryz.lays156.v164 }

theorem Tryz.laysST : Lays.n169 Tryz.prog Tryz.lays156_ren := {
  mixed := Tryz.lays156.mixed
  f169 := Tryz.lays156.f169
  t0 := Tryz.lays156.t0
  a0 := Tryz.lays156.a0
  z0 := Tryz.lays156.z0
  v0 := Tryz.lays156.v0
  t3 := Tryz.lays156.t3
  a3 := Tryz.lays156.a3
  z3 := Tryz.lays156.z3
  v3 := Tryz.lays156.v3
  t9 := Tryz.lays156.t9
  a9 := Tryz.lays156.a9
  z9 := Tryz.lays156.z9
  v9 := Tryz.lays156.v9
  t37 := Tryz.lays156.t37
  a37 := Tryz.lays156.a37
  z37 := Tryz.lays156.z37
  v37 := Tryz.lays156.v37
  t70 := Tryz.lays156.t70
  a70 := Tryz.lays156.a70
  z70 := Tryz.lays156.z70
  v70 := Tryz.lays156.v70
  t72 := Tryz.lays156.t72
  a72 := Tryz.lays156.a72
  z72 := Tryz.lays156.z72
  v72 := Tryz.lays156.v72
  t127 := Tryz.lays156.t127
  a127 := Tryz.lays156.a127
  z127 := Tryz.lays156.z127
  v127 := Tryz.lays156.v127 }

theorem IsBuilder.below {T e : TypeId} {B b : Nat} {cs : List Value} {w w' : World} (h : Lib.IsBuilder T e B b cs w) (hb : Below w.heap.size w w') : Lib.IsBuilder T e B b cs w' := by
  have key : ∀ p, Lib.BuilderAt T e B b p cs w → Lib.BuilderAt T e B b p cs w' := by
    rintro p ⟨h1, v, h2, h3, h4⟩
    have hlt := (Array.getElem?_eq_some_iff.1 h2).1
    exact ⟨h1, v, (hb.block b hlt).trans h2, owns_below h3 hb, h4⟩
  rcases h with h | h
  · exact .inl (key _ h)
  · exact .inr (key _ h)

def maskText (ms : List Nat) : List UInt8 := ms.flatMap (fun m => Sp.told (Sp.litsOf m))
theorem maskText_snoc (ms : List Nat) (m : Nat) : maskText (ms ++ [m]) = maskText ms ++ Sp.told (Sp.litsOf m) := by
  unfold maskText; rw [List.flatMap_append]; simp
theorem maskTold_len (m : Nat) : (Sp.told (Sp.litsOf m)).length ≤ 97 := by
  have h1 := toldBody_len (Sp.litsOf m); have h2 := litsOf_len m
  simp [Sp.told]; omega
theorem maskText_len (ms : List Nat) : (maskText ms).length ≤ 97 * ms.length := by
  induction ms with
  | nil => simp [maskText]
  | cons a r ih =>
    have h1 := maskTold_len a
    simp only [maskText, List.flatMap_cons, List.length_append, List.length_cons] at ih ⊢
    omega

theorem writeString_any (B b : Nat) (l t : List UInt8) (w : World) (h : Lib.IsBuilder 118 5 B b (Lib.byteCells l) w) (hlen : l.length + t.length ≤ 140737488355328) (hBw : B ≤ w.heap.size) :
    Calls Tryz.prog 69 #[.pointer (some ⟨b, 0, none⟩), .string (bs t)] w fun e w' => ∃ n : Int, e = .returned (.tuple #[.int .i64 n, .nilIface]) ∧ Lib.IsBuilder 118 5 B b (Lib.byteCells (l ++ t)) w' ∧ Below B w w' := by
  refine (Any.Builder_WriteString Tryz.laysWS Tryz.Builder_Extra_156 B b (Lib.byteCells l) (bs t) w h (by rw [Lib.byteCells_length, bs_size]; exact hlen) hBw).mono ?_
  rintro e w' ⟨rfl, hb, hbel⟩
  refine ⟨_, rfl, .inr ?_, hbel⟩
  have e1 : Lib.byteCells l ++ Lib.strCells (bs t) = Lib.byteCells (l ++ t) := by
    rw [Lib.strCells_eq, bs_data]; simp [Lib.byteCells]
  rw [e1] at hb
  exact hb

theorem builderString_any (B b : Nat) (l : List UInt8) (w : World) (h : Lib.IsBuilder 118 5 B b (Lib.byteCells l) w) (hBw : B ≤ w.heap.size) :
    Calls Tryz.prog 70 #[.pointer (some ⟨b, 0, none⟩)] w fun e w' => e = .returned (.string (bs l)) ∧ Below B w w' :=
  Any.Builder_String_any Tryz.laysST Tryz.Builder_Extra_156 B b l w h hBw

set_option maxRecDepth 100000 in
set_option maxHeartbeats 800000 in
theorem clausePlain_any (v : Value) (ms : List Nat) (w : World) (hl : ms.length ≤ 10000000) (hm : ∀ m, m ∈ ms → m < 2 ^ 24) (hv : Lies w v (us ms)) (he : EnvT w) :
    Calls Tryz.prog 35 #[v] w fun e w' => e = .returned (.string (bs (maskText ms))) ∧ Below w.heap.size w w' := by
  have hfresh := hide (Lib.fresh_isBuilder 118 5 w)
  have hb0 : Below w.heap.size w (w.alloc (.cells #[.pointer none, .slice none 0 0] 118)) := (Below.refl _ _).alloc (Nat.le_refl _) _
  rcases hv with ⟨h0, ao, cap, rfl⟩ | ⟨b, off, cap, hp, rfl, hb, hc⟩
  · have hx : ms = [] := by simpa [us] using h0
    subst hx
    go_enter Tryz.func35, Tryz.ntmps35
    go_wp2
    refine wp_loop_rounds 1 ?_
    rw [rounds_succ]
    go_wp2_with fail
    refine (builderString_any w.heap.size w.heap.size [] _ (unhide hfresh) (by simp)).mono ?_
    rintro e w1 ⟨rfl, hb1⟩
    go_wp2
    go_ret
    exact ⟨rfl, hb0.trans hb1⟩
  · have hlen : (us ms).length = ms.length := by simp [us]
    rw [hlen] at hp ⊢
    go_enter Tryz.func35, Tryz.ntmps35
    go_wp2
    go_loopw [8] (fun i wr => ∃ k : Nat, k ≤ ms.length ∧ i = .int .i64 k ∧ Lib.IsBuilder 118 5 w.heap.size w.heap.size (Lib.byteCells (maskText (ms.take k))) wr ∧ Below w.heap.size w wr) (fun i _ => ms.length - (intOf i).toNat)
    case atStart => exact ⟨0, Nat.zero_le _, rfl, unhide hfresh, hb0⟩
    case round =>
      obtain ⟨k, hk, rfl, hbu, hbel⟩ := hrel
      have HB := hide hbu
      clear hbu
      have hml := maskText_len (ms.take k)
      have hml2 : (ms.take k).length ≤ k := List.length_take_le _ _
      by_cases hlt : k < ms.length
      · have hcell : wr.cell? ⟨b, off + k, none⟩ = some (.int .u32 (ms[k] : Int)) := (hbel.cell (p := ⟨b, off + k, none⟩) hb).trans (hc k (.int .u32 (ms[k] : Int)) (by simp [us, hlt]))
        have hmm := hm ms[k] (List.getElem_mem hlt)
        have HS : Hid (ms.take (k + 1) = ms.take k ++ [ms[k]]) := hide (List.take_succ_eq_append_getElem hlt)
        generalize ms[k] = m at hcell HS hmm
        clear hc hm
        have htl := maskTold_len m
        have HL := hide (line_any m wr hmm (he.below hbel))
        have HSN := hide (maskText_snoc (ms.take k) m)
        go_wp2_with fail
        refine (unhide HL).mono ?_
        rintro e w1 ⟨rfl, hb1⟩
        have hsz := hbel.size
        have hsz1 := hb1.size
        have HW := hide (writeString_any w.heap.size w.heap.size (maskText (ms.take k)) (Sp.told (Sp.litsOf m)) w1 (IsBuilder.below (unhide HB) hb1) (by omega) (by omega))
        go_wp2_with fail
        refine (unhide HW).mono ?_
        rintro e w2 ⟨n, rfl, hbu2, hb2⟩
        have HB2 := hide hbu2
        clear hbu2
        go_wp2
        go_roundw
        case rel => exact ⟨k + 1, by omega, by go_num, by rw [unhide HS, unhide HSN]; exact unhide HB2, (hbel.trans (hb1.mono hbel.size)).trans hb2⟩
        case measure => simp [intOf]; omega
      · have HT : Hid (ms.take k = ms) := hide (List.take_of_length_le (by omega))
        have hsz := hbel.size
        have HSt := hide (builderString_any w.heap.size w.heap.size (maskText (ms.take k)) wr (unhide HB) (by omega))
        go_wp2_with fail
        refine (unhide HSt).mono ?_
        rintro e w1 ⟨rfl, hb1⟩
        go_wp2
        go_ret
        exact ⟨by rw [unhide HT]; rfl, hbel.trans hb1⟩

end Go.Proofs.YtekkkoipcghlmabGreatDoor

namespace Go.Proofs.YtekkkoipcghlmabGreatDoor
open Go.RowKit

set_option maxRecDepth 100000 in
theorem clausesX_any (base x : Nat) (kv : Value) (ms : List Nat) (w : World) (pv : Value) (pb : List UInt8) (hX : XAt base w x kv ms pv pb) (hms : ms.length ≤ 10000000) (hsm : ∀ m, m ∈ ms → m < 2 ^ 24) (he : EnvT w) :
    Calls Tryz.prog 18 #[.pointer (some ⟨x, 0, none⟩)] w fun e w' => e = .returned (.string (bs (maskText ms))) ∧ Below w.heap.size w w' := by
  have HP := hide (clausePlain_any kv ms w hms hsm (lies_of_owns hX.row (by simp [us])) he)
  have hc0 : w.cell? ⟨x, 0, none⟩ = some kv := by simp [World.cell?, hX.block]
  obtain ⟨ao, cp, hsh⟩ := owns_shape hX.row
  subst hsh
  clear hX
  go_enter Tryz.func18, Tryz.ntmps18
  go_wp2_with fail
  refine (unhide HP).mono ?_
  rintro e w1 ⟨rfl, hb1⟩
  go_wp2
  go_ret
  exact ⟨rfl, hb1⟩

end Go.Proofs.YtekkkoipcghlmabGreatDoor

namespace Go.Proofs.YtekkkoipcghlmabGreatDoor
open Go.RowKit

theorem SolveRes.wide {base x : Nat} {kv pv vm vc : Value} {ms : List Nat} {pb : List UInt8} {A : List Int} {B kind cf : Int} {w wA wB w' : World} (h : SolveRes base x kv ms pv pb A B wA kind vm vc cf wB) (h1 : Below w.heap.size w wA) (h2 : Below wB.heap.size wB w') : SolveRes base x kv ms pv pb A B w kind vm vc cf w' := by
  obtain ⟨S, D, pv', core, hW, a1, a2, a3, a4, a5, a6⟩ := h
  refine ⟨S, D, pv', core, (hW.from h1).below h2, a1, a2, a3, a4, a5, ?_⟩
  rcases a6 with ⟨b1, b2, b, b3, b4, b5, b6⟩ | ⟨b1, b2, b3, b4, b5⟩ | b
  · exact .inl ⟨b1, b2, b, b3, b4, b5, owns_below (owns_mono b6 h1.size) h2⟩
  · exact .inr (.inl ⟨b1, b2, b3, owns_below (owns_mono b4 h1.size) h2, b5⟩)
  · exact .inr (.inr b)

/-- A question without a budget. -/
theorem askK {base x : Nat} {kv pv av : Value} {ms : List Nat} {pb : List UInt8} {A : List Int} {w : World} (hX : XAt base w x kv ms pv pb) (hms : KeptOK ms) (he : EnvFrom base w) (hA : Lits A) (hAl : A.length ≤ 10000000) (hv : Lies w av (ints A)) (hpb : pb.length ≤ 140000000000000) :
    Calls Tryz.prog 13 #[.pointer (some ⟨x, 0, none⟩), av, .int .i64 0] w fun e w' => ∃ kind ao k c ao2 k2 c2 cf, e = .returned (.tuple #[.agg #[.int .i64 kind, .slice ao k c, .slice ao2 k2 c2, .int .i64 cf], .int .i64 0]) ∧ SolveRes base x kv ms pv pb (once A) 0 w kind (.slice ao k c) (.slice ao2 k2 c2) cf w' := by
  refine (solve_any base x kv pv av _ pb A 0 w hX hms he hv hAl (by omega) (by omega) hpb).mono ?_
  have hall : allInt A = true := by
    rw [allInt, List.all_eq_true]
    exact fun x hx => isLit_iff.2 (hA x hx)
  rintro e w' (⟨h1, -⟩ | ⟨-, h1, -⟩ | ⟨-, -, kind, vm, vc, cf, rfl, hres⟩)
  · rw [hall] at h1; cases h1
  · omega
  · obtain ⟨⟨ao, k, c, rfl⟩, ao2, k2, c2, rfl⟩ := hres.vals
    exact ⟨kind, ao, k, c, ao2, k2, c2, cf, rfl, hres⟩

set_option maxRecDepth 100000 in
/-- verdict. -/
theorem verdictK {base x : Nat} {kv pv av : Value} {ms : List Nat} {pb : List UInt8} {A : List Int} {w : World} (hX : XAt base w x kv ms pv pb) (hms : KeptOK ms) (he : EnvFrom base w) (hA : Lits A) (hAl : A.length ≤ 10000000) (hv : Lies w av (ints A)) (hpb : pb.length ≤ 140000000000000) :
    Calls Tryz.prog 15 #[.pointer (some ⟨x, 0, none⟩), av] w fun e w' => ∃ kind vm vc cf, e = .returned (.int .i64 kind) ∧ SolveRes base x kv ms pv pb (once A) 0 w kind vm vc cf w' := by
  obtain ⟨ao, an, ac, hsh⟩ : ∃ a n c, av = .slice a n c := by
    obtain ⟨a, c, h⟩ := lies_shape hv; exact ⟨a, _, c, h⟩
  have HCO : Hid (Calls Tryz.prog 11 #[av] w fun e w' => ∃ co cn cc, e = .returned (.slice co cn cc) ∧ Hid (Lies w' (.slice co cn cc) (ints A)) ∧ Below w.heap.size w w') := hide ((copiedK_any _ A w hAl hv).mono (fun e w' h => by
    obtain ⟨v', h1, h2, h3⟩ := h
    obtain ⟨co, cc, rfl⟩ := owns_shape h2
    exact ⟨co, _, cc, h1, hide (lies_of_owns h2 (by simp [ints])), h3⟩))
  have HSOL : Hid (∀ wx co cn cc, Below w.heap.size w wx → Lies wx (.slice co cn cc) (ints A) → Calls Tryz.prog 13 #[.pointer (some ⟨x, 0, none⟩), .slice co cn cc, .int .i64 0] wx fun e w' => ∃ kind ao k c ao2 k2 c2 cf, e = .returned (.tuple #[.agg #[.int .i64 kind, .slice ao k c, .slice ao2 k2 c2, .int .i64 cf], .int .i64 0]) ∧ Hid (SolveRes base x kv ms pv pb (once A) 0 wx kind (.slice ao k c) (.slice ao2 k2 c2) cf w')) := hide (fun wx co cn cc hbx hlx =>
    askK (hX.below hbx) hms (he.below (hbx.mono (by have := hX.le; have := lt_of_block hX.block; omega))) hA hAl hlx hpb)
  subst hsh
  clear hX he hv
  go_enter Tryz.func15, Tryz.ntmps15
  go_wp2_with fail
  refine (unhide HCO).mono ?_
  rintro e w5 ⟨co, cn, cc, rfl, HL5, hb5⟩
  have HS5 := hide (unhide HSOL w5 co cn cc hb5 (unhide HL5))
  clear HSOL HCO
  go_wp2_with fail
  refine (unhide HS5).mono ?_
  rintro e w6 ⟨kind, mo, k, c, mo2, k2, c2, cf, rfl, HR⟩
  have hb7 : Below w6.heap.size w6 (w6.alloc (.cells #[.int .i64 kind, .slice mo k c, .slice mo2 k2 c2, .int .i64 cf] 34)) := (Below.refl _ _).alloc (Nat.le_refl _) _
  have HF := hide ((unhide HR).wide hb5 hb7)
  clear HS5 HR
  go_wp2
  go_ret
  exact ⟨kind, _, _, cf, rfl, unhide HF⟩

theorem Tryz.underByte : Tryz.prog.underlying 5 = some (.int .u8) := by kernel_rfl
set_option maxRecDepth 100000 in
theorem proofX_any (base x : Nat) (kv : Value) (ms : List Nat) (w : World) (pv : Value) (pb : List UInt8) (hX : XAt base w x kv ms pv pb) :
    Calls Tryz.prog 16 #[.pointer (some ⟨x, 0, none⟩)] w fun e w' => e = .returned (.string (bs pb)) ∧ w' = w := by
  have hc2 : w.cell? ⟨x, 2, none⟩ = some pv := by simp [World.cell?, hX.block]
  have hcv : (convert 55 9 pv).run Tryz.prog w = .ok (.string (bs pb)) w := by
    rcases hX.prow.2 with ⟨rfl, h0⟩ | ⟨g, cap, cur, rfl, hbg, hg, hle, hcm, hcs, htake⟩
    · have : pb = [] := List.length_eq_zero_iff.1 h0
      subst this
      exact run_convert_bytes_nil (P := Tryz.prog) (w := w) 55 5 Tryz.underlying55 Tryz.underByte 0 0 9 Tryz.underlying9
    · exact run_convert_bytes_back (P := Tryz.prog) w 55 9 5 ⟨g, 0, none⟩ cap pb Tryz.underlying55 Tryz.underByte Tryz.underlying9 (fun j hj => by
        have := hX.prow.cells (g := g) rfl j (.int .u8 (pb[j].toNat : Int)) (by simp [bytesV, hj])
        exact this)
  obtain ⟨po, pc, hsh⟩ := owns_shape hX.prow
  subst hsh
  clear hX
  go_enter Tryz.func16, Tryz.ntmps16
  go_wp2
  go_ret
  exact ⟨rfl, rfl⟩

end Go.Proofs.YtekkkoipcghlmabGreatDoor

namespace Go.Proofs.YtekkkoipcghlmabGreatDoor
open Go.RowKit

theorem lies_new (w : World) (xs : List Int) (h : 0 < xs.length) : Lies (w.alloc (.cells (ints xs).toArray 3)) (.slice (some ⟨w.heap.size, 0, none⟩) xs.length xs.length) (ints xs) := by
  have hl : (ints xs).length = xs.length := by simp [ints]
  refine .inr ⟨w.heap.size, 0, xs.length, by omega, by rw [hl], by simp, fun k x hk => ?_⟩
  rw [World.cell?]
  rw [show (w.alloc (.cells (ints xs).toArray 3)).heap[w.heap.size]? = some (.cells (ints xs).toArray 3) from heap_alloc_new w _]
  simpa using hk
theorem below_new (w : World) (o : Obj) : Below w.heap.size w (w.alloc o) := (Below.refl _ _).alloc (Nat.le_refl _) _

end Go.Proofs.YtekkkoipcghlmabGreatDoor
