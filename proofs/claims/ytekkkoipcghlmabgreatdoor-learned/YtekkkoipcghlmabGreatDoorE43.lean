import Derived.Test.YtekkkoipcghlmabGreatDoorE41
import Derived.Test.YtekkkoipcghlmabGreatDoorE42
set_option linter.all false
namespace Go.Proofs.YtekkkoipcghlmabGreatDoor
open Go.RowKit

/-- A solver beside another one, which has answered a question. -/
theorem XAt.other {b1 b2 x1 x2 : Nat} {kv1 kv2 pv1 pv2 : Value} {ms1 ms2 : List Nat} {pb1 pb2 : List UInt8} {w w' : World} (h1 : XAt b1 w x1 kv1 ms1 pv1 pb1) (h2 : XAt b2 w x2 kv2 ms2 pv2 pb2) (hx : x1 ≠ x2) (hp : ∀ g, pv1.ownBlock = some g → pv2.ownBlock ≠ some g) (ho : Only (XF x2 pv2) w w') : XAt b1 w' x1 kv1 ms1 pv1 pb1 := by
  have hk := KeptT.solver h2 ho
  have hx1 : ¬ XF x2 pv2 x1 := fun hf => by
    rcases hf with e | hf
    · exact hx e
    · exact row_ne h2.prow h1.block (by decide) hf
  refine ⟨(ho.block x1 (lt_of_block h1.block) hx1).trans h1.block, h1.le, owns_kept h1.row hk ⟨by decide, by decide⟩, owns_at h1.prow (fun g hg => ho.block g (h1.prow.lt g hg).2 (fun hf => ?_))⟩
  rcases hf with rfl | hf
  · exact row_ne h1.prow h2.block (by decide) hg
  · exact hp g hg hf

/-- A list that may be written over. -/
def MayW (b : Nat) (w : World) (vo : Option Addr) (n : Nat) : Prop := n ≤ 1000 ∧ (n = 0 ∨ ∃ g cs, vo = some ⟨g, 0, none⟩ ∧ b ≤ g ∧ w.heap[g]? = some (.cells cs 3 (0, 0)) ∧ n ≤ cs.size)
section
variable {b n : Nat} {w w' : World} {vo : Option Addr}
theorem MayW.nil (b : Nat) (w : World) (vo : Option Addr) : MayW b w vo 0 := ⟨by omega, .inl rfl⟩
theorem MayW.of_owns {base c : Nat} {xs : List Value} (h : w.ownsRow base 3 1 (.slice vo n c) n xs) (hb : b ≤ base) (hn : n ≤ 1000) : MayW b w vo n := by
  refine ⟨hn, ?_⟩
  rcases h.2 with ⟨-, h0⟩ | ⟨g, cap, cur, hv, a1, a2, a3, a4, a5, a6⟩
  · exact .inl h0
  · cases hv
    exact .inr ⟨g, cur, rfl, by omega, a2, by omega⟩
theorem MayW.kept {T : TypeId → Prop} (h : MayW b w vo n) (hk : KeptT T w w') (ht : T 3) : MayW b w' vo n := by
  refine ⟨h.1, ?_⟩
  rcases h.2 with h | ⟨g, cs, h1, h2, h3, h4⟩
  · exact .inl h
  · exact .inr ⟨g, cs, h1, h2, (hk g cs _ _ ht h3).trans h3, h4⟩
theorem MayW.set (h : MayW b w vo n) (p : Addr) (u : Value) (hp : p.spot = none) : MayW b (w.setCell p u) vo n := by
  refine ⟨h.1, ?_⟩
  rcases h.2 with h | ⟨g, cs, h1, h2, h3, h4⟩
  · exact .inl h
  · by_cases e : p.block = g
    · obtain ⟨pb, po, ps⟩ := p
      simp only at e hp
      subst e
      subst hp
      exact .inr ⟨pb, _, h1, h2, heap_setCell_same w pb po _ _ u h3, by simpa using h4⟩
    · exact .inr ⟨g, cs, h1, h2, (Below.heap_setCell w p u g (fun e2 => e e2.symm)).trans h3, h4⟩
theorem MayW.cell (h : MayW b w vo n) {k : Nat} (hk : k < n) : ∃ g v, vo = some ⟨g, 0, none⟩ ∧ b ≤ g ∧ g < w.heap.size ∧ w.cell? ⟨g, k, none⟩ = some v ∧ w.frozen? ⟨g, k, none⟩ = false ∧ ∃ cs, w.heap[g]? = some (.cells cs 3 (0, 0)) := by
  rcases h.2 with h | ⟨g, cs, h1, h2, h3, h4⟩
  · omega
  · exact ⟨g, cs[k]'(by omega), h1, h2, lt_of_block h3, by rw [World.cell?, h3]; simp, frozen_of_row w _ _ _ _ h3, cs, h3⟩
end
theorem KeptT.set {w : World} {g k : Nat} {cs : Array Value} {u : Value} (h : w.heap[g]? = some (.cells cs 3 (0, 0))) : KeptT (fun t => t ≠ 3) w (w.setCell ⟨g, k, none⟩ u) := fun j cs2 t fz ht hj => by
  refine Below.heap_setCell w _ u j (fun e => ?_)
  have e : j = g := e
  subst e
  rw [h] at hj
  cases hj
  exact ht rfl

/-- A question of one of them: what comes of it for the others. -/
theorem SolveRes.apart {base x n : Nat} {kv pv vm vc : Value} {ms : List Nat} {pb : List UInt8} {A : List Int} {B kind cf : Int} {w w' : World} (h : SolveRes base x kv ms pv pb A B w kind vm vc cf w') (hX : XAt base w x kv ms pv pb) (hpb : pb.length ≤ 1000000000 * n) : ∃ pv' pb', XAt base w' x kv ms pv' pb' ∧ pb'.length ≤ 1000000000 * (n + 1) ∧ Only (XF x pv) w w' ∧ (∀ g, pv'.ownBlock = some g → pv.ownBlock = some g ∨ w.heap.size ≤ g) ∧ Below base w w' ∧ KeptT NotSolver w w' := by
  have h0 := h
  obtain ⟨S, D, pv', core, hW, -, -, h3, -⟩ := h
  have h1 := stepsText_len S
  have h2 := maskTold_len (oppMask (Sp.maskOf core))
  refine ⟨pv', _, hW.1, ?_, hW.2.1, hW.2.2, Only.solver hX hW.2.1, KeptT.solver hX hW.2.1⟩
  rw [List.length_append, List.length_append]
  split
  · omega
  · simp only [List.length_nil]; omega
/-- Its lists may be written over. -/
theorem SolveRes.may {base x b : Nat} {kv pv : Value} {ms : List Nat} {pb : List UInt8} {A : List Int} {kind cf : Int} {w w' : World} {ao ao2 : Option Addr} {k c k2 c2 : Nat} (h : SolveRes base x kv ms pv pb A 0 w kind (.slice ao k c) (.slice ao2 k2 c2) cf w') (hb : b ≤ w.heap.size) (hAl : A.length ≤ 1000) : MayW b w' ao k ∧ MayW b w' ao2 k2 := by
  obtain ⟨S, D, pv', core, -, -, -, -, -, -, h6⟩ := h
  rcases h6 with ⟨_, h2, b', _, _, _, h3⟩ | ⟨_, h2, ⟨p, hp⟩, h3, _⟩ | ⟨_, _, _, h4, _⟩
  · cases h2
    have e : k = 12 := by
      obtain ⟨a, c', hs⟩ := owns_shape h3
      simp only [Value.slice.injEq] at hs
      exact hs.2.1
    subst e
    exact ⟨MayW.of_owns h3 hb (by omega), MayW.nil _ _ _⟩
  · cases h2
    have e : k2 = core.length := by
      obtain ⟨a, c', hs⟩ := owns_shape h3
      simp only [Value.slice.injEq] at hs
      exact hs.2.1
    subst e
    exact ⟨MayW.nil _ _ _, MayW.of_owns h3 hb (by rw [hp]; exact Nat.le_trans (List.length_filter_le _ _) hAl)⟩
  · omega
end Go.Proofs.YtekkkoipcghlmabGreatDoor

namespace Go.Proofs.YtekkkoipcghlmabGreatDoor
open Go.RowKit

/-- Which verdict clauses have, with literals assumed. -/
def Verd (l : List (List Int)) (A : List Int) (kind : Int) : Prop := (kind = 1 ∧ ∃ b, (∀ y, y ∈ A → tru b y = true) ∧ ∀ c, c ∈ l → holdsOf b c = true) ∨ (kind = 2 ∧ ∀ b, (∀ c, c ∈ l → holdsOf b c = true) → ¬ ∀ y, y ∈ A → tru b y = true)
theorem Verd.same {l : List (List Int)} {A : List Int} {k1 k2 : Int} (h1 : Verd l A k1) (h2 : Verd l A k2) : k1 = k2 := by
  rcases h1 with ⟨rfl, b, a1, a2⟩ | ⟨rfl, a1⟩ <;> rcases h2 with ⟨rfl, b', c1, c2⟩ | ⟨rfl, c1⟩
  · rfl
  · exact absurd a1 (c1 b a2)
  · exact absurd c1 (a1 b' c2)
  · rfl
theorem Verd.two {l : List (List Int)} {A : List Int} {k : Int} (h : Verd l A k) : k = 1 ∨ k = 2 := by
  rcases h with ⟨h, -⟩ | ⟨h, -⟩
  · exact .inl h
  · exact .inr h
theorem SolveRes.verd {base x : Nat} {kv pv vm vc : Value} {L : List (List Int)} {pb : List UInt8} {A : List Int} {kind cf : Int} {w w' : World} (h : SolveRes base x kv (keptTo L L.length) pv pb (once A) 0 w kind vm vc cf w') (hL : ∀ c, c ∈ L → Lits c ∧ c.length ≤ 3) (hl : L.length ≤ 100) (hA : ∀ y, y ∈ A → y ≠ 0) : Verd L A kind := by
  rcases h.verdict hA with ⟨h1, h2, b, h3, h4, h5, h6⟩ | ⟨h1, h2, h3⟩
  · exact .inl ⟨h1, b, h4, (kept_same hL hl b).1 h5⟩
  · exact .inr ⟨h1, fun b hb => h3 b ((kept_same hL hl b).2 hb)⟩

section
variable {B0 xs bt xt bu xu n : Nat} {w4 wr w' : World} {l o : List (List Int)} {A : List Int} {av : Value}
end

end Go.Proofs.YtekkkoipcghlmabGreatDoor

namespace Go.Proofs.YtekkkoipcghlmabGreatDoor
open Go.RowKit

/-- The clauses that are kept say what these clauses say. -/
structure KeepsL (ms : List Nat) (L : List (List Int)) : Prop where
  ok : KeptOK ms
  same : ∀ b, (∀ g, g ∈ ms → holdsB b g) ↔ ∀ c, c ∈ L → holdsOf b c = true
theorem KeepsL.of {L : List (List Int)} (hL : ∀ c, c ∈ L → Lits c ∧ c.length ≤ 3) (hl : L.length ≤ 100) : KeepsL (keptTo L L.length) L := ⟨kept_fine hL hl, kept_same hL hl⟩
theorem KeepsL.add {ms : List Nat} {L : List (List Int)} (h : KeepsL ms L) {c : List Int} (hc : Lits c) (hs : sizes ms + c.length ≤ 400) (hn : ms.length ≤ 2000000) (ha : alwaysMask (Sp.maskOf c) = false) : addTo ms c = (0, ms ++ [Sp.maskOf c]) ∧ KeepsL (ms ++ [Sp.maskOf c]) (L ++ [c]) := by
  have hall : allInt c = true := by
    rw [allInt, List.all_eq_true]
    exact fun x hx => isLit_iff.2 (hc x hx)
  have hl := litsMask_len c
  have hm : Sp.maskOf c < 2 ^ 24 := Sp.maskOf_lt _ (fun y hy => (hc y hy).2)
  refine ⟨?_, ⟨fun m hm' => ?_, by rw [sizes_snoc]; omega, by rw [List.length_append, List.length_singleton]; omega⟩, fun b => ?_⟩
  · unfold addTo
    rw [if_neg (by rw [hall]; simp), if_neg (by rw [ha]; simp), if_neg (by omega)]
  · rcases List.mem_append.1 hm' with h1 | h1
    · exact h.ok.1 m h1
    · rw [List.mem_singleton.1 h1]; exact ⟨hm, ha⟩
  · constructor
    · intro hb c' hc'
      rcases List.mem_append.1 hc' with h1 | h1
      · exact (h.same b).1 (fun g hg => hb g (List.mem_append_left _ hg)) c' h1
      · rw [List.mem_singleton.1 h1]
        exact (holdsB_mask (fun x hx => (hc x hx).1)).1 (hb _ (List.mem_append_right _ (List.mem_singleton.2 rfl)))
    · intro hb g hg
      rcases List.mem_append.1 hg with h1 | h1
      · exact (h.same b).2 (fun c' hc' => hb c' (List.mem_append_left _ hc')) g h1
      · rw [List.mem_singleton.1 h1]
        exact (holdsB_mask (fun x hx => (hc x hx).1)).2 (hb _ (List.mem_append_right _ (List.mem_singleton.2 rfl)))
end Go.Proofs.YtekkkoipcghlmabGreatDoor

namespace Go.Proofs.YtekkkoipcghlmabGreatDoor
open Go.RowKit

theorem owns_takeL {w : World} {base : Nat} {e : TypeId} {ao : Option Addr} {n c k : Nat} {xs : List Value} (h : w.ownsRow base e 1 (.slice ao n c) n xs) (hk : k ≤ n) : w.ownsRow base e 1 (.slice ao k c) k (xs.take k) := by
  have h1 := h.1
  refine ⟨by rw [List.length_take]; omega, ?_⟩
  rcases h.2 with ⟨hv, h0⟩ | ⟨g, cap, cur, hv, a1, a2, a3, a4, a5, a6⟩
  · cases hv
    exact .inl ⟨by rw [show k = 0 from by omega], by omega⟩
  · cases hv
    refine .inr ⟨g, c, cur, rfl, a1, a2, by omega, a4, a5, ?_⟩
    rw [← a6, List.take_take]
    congr 1
    omega
theorem rowsAt_takeL {w : World} {base : Nat} {vs : List Value} {l : List (List Int)} (h : RowsAt w base vs l) (k : Nat) : RowsAt w base (vs.take k) (l.take k) := by
  refine ⟨by rw [List.length_take, List.length_take, h.1], fun i x c hx hc => ?_⟩
  rw [List.getElem?_take] at hx hc
  split at hx
  · rename_i hi
    rw [if_pos hi] at hc
    exact h.2 i x c hx hc
  · cases hx
/-- What pick picks. -/
def pickV (c : Int) (n : Nat) : Nat := ((if c < 0 then -(c + 1) else c) % (n : Int)).toNat
theorem pickV_lt (c : Int) {n : Nat} (hn : 0 < n) : pickV c n < n := by
  unfold pickV
  have h1 := Int.emod_nonneg (if c < 0 then -(c + 1) else c) (by omega : (n : Int) ≠ 0)
  have h2 := Int.emod_lt_of_pos (if c < 0 then -(c + 1) else c) (by omega : (0 : Int) < n)
  omega
theorem pickK_val (c : Int) (n : Nat) (w : World) (h0 : -9223372036854775808 ≤ c) (h1 : c ≤ 9223372036854775807) (hn : 0 < n) (hn4 : n ≤ 1000) :
    Calls Tryz.prog 6 #[.int .i64 c, .int .i64 n] w fun e w' => e = .returned (.int .i64 (pickV c n : Nat)) ∧ w' = w := by
  by_cases hc : c < 0
  · go_enter Tryz.func6, Tryz.ntmps6
    go_wp2
    go_ret
    have e1 : -(c + 1).tmod (n : Int) = (-(c + 1)) % (n : Int) := by rw [← Int.neg_tmod, Int.tmod_eq_emod_of_nonneg (by omega)]
    refine ⟨?_, rfl⟩
    rw [e1]
    unfold pickV
    rw [if_pos hc, Int.toNat_of_nonneg (Int.emod_nonneg _ (by omega))]
    rfl
  · go_enter Tryz.func6, Tryz.ntmps6
    go_wp2
    go_ret
    refine ⟨?_, rfl⟩
    unfold pickV
    rw [if_neg (by omega), Int.toNat_of_nonneg (Int.emod_nonneg _ (by omega))]
    first | rfl | skip

theorem SolveRes.verdB {base x : Nat} {kv pv vm vc : Value} {ms : List Nat} {L : List (List Int)} {pb : List UInt8} {A : List Int} {B kind cf : Int} {w w' : World} (h : SolveRes base x kv ms pv pb (once A) B w kind vm vc cf w') (hk : KeepsL ms L) (hA : ∀ y, y ∈ A → y ≠ 0) : (kind = 3 ∧ cf = B ∧ 0 < B) ∨ Verd L A kind := by
  have h0 := h
  obtain ⟨S, D, pv', core, -, -, -, -, -, -, h6⟩ := h
  rcases h6 with ⟨h1, -, b, -, h4, h5, -⟩ | ⟨h1, -⟩ | ⟨h1, -, -, h2, h3⟩
  · exact .inr (.inl ⟨h1, b, fun y hy => h4 y ((once_mem A y).2 hy), (hk.same b).1 h5⟩)
  · refine .inr (.inr ⟨h1, fun b hb hall => ?_⟩)
    obtain ⟨y, hy, ht⟩ := h0.noModel (fun y hy => hA y ((once_mem A y).1 hy)) h1 b ((hk.same b).2 hb)
    rw [hall y ((once_mem A y).1 hy)] at ht
    cases ht
  · exact .inl ⟨h1, h3, h2⟩
theorem SolveRes.valsB {base x : Nat} {kv pv vm vc : Value} {ms : List Nat} {pb : List UInt8} {A : List Int} {B kind cf : Int} {w w' : World} (h : SolveRes base x kv ms pv pb A B w kind vm vc cf w') : (∃ ao n c, vm = .slice ao n c) ∧ ∃ ao n c, vc = .slice ao n c := by
  obtain ⟨S, D, pv', core, -, -, -, -, -, -, h6⟩ := h
  rcases h6 with ⟨_, h2, b, _, _, _, h3⟩ | ⟨_, h2, _, h3, _⟩ | ⟨_, h2, h3, _, _⟩
  · exact ⟨slice_of h3, by rw [h2]; exact ⟨_, _, _, rfl⟩⟩
  · exact ⟨by rw [h2]; exact ⟨_, _, _, rfl⟩, slice_of h3⟩
  · exact ⟨by rw [h2]; exact ⟨_, _, _, rfl⟩, by rw [h3]; exact ⟨_, _, _, rfl⟩⟩
theorem keeps_take {l : List (List Int)} (hl : ∀ c, c ∈ l → Lits c ∧ c.length ≤ 3) (hll : l.length ≤ 100) {k : Nat} (hk : k ≤ l.length) : KeepsL (keptTo l k) (l.take k) := by
  have h1 := kept_ok (fun c hc => (hl c hc).1) k hk
  have h2 := keptTo_len l k
  exact ⟨⟨h1.1, h1.2, by omega⟩, fun b => kept_all (fun c hc => (hl c hc).1) (kept_adds hl hll) b k hk⟩

/-- The solver that learns, behind k clauses and j questions. -/
structure LV (w3 wr : World) (l : List (List Int)) (k j : Nat) (kv pv : Value) (pb : List UInt8) : Prop where
  below : Below w3.heap.size w3 wr
  solver : XAt w3.heap.size wr w3.heap.size kv (keptTo l k) pv pb
  acc : Accepted (keptTo l k) pb
  small : pb.length ≤ 1000000000 * j

section
variable {w3 wr w' : World} {l : List (List Int)} {k j : Nat} {kv pv av : Value} {pb : List UInt8} {A : List Int}
theorem LV.b0 (h : LV w3 wr l k j kv pv pb) : w3.heap.size < wr.heap.size := lt_of_block h.solver.block
theorem LV.wide (h : LV w3 wr l k j kv pv pb) (hb : Below wr.heap.size wr w') : LV w3 w' l k j kv pv pb :=
  ⟨h.below.trans (hb.mono h.below.size), h.solver.below hb, h.acc, h.small⟩
theorem LV.add (h : LV w3 wr l k j kv pv pb) (hl : ∀ c, c ∈ l → Lits c ∧ c.length ≤ 3) (hll : l.length ≤ 100) (hk : k < l.length) (hv : Lies wr av (ints l[k])) :
    Calls Tryz.prog 10 #[.pointer (some ⟨w3.heap.size, 0, none⟩), av] wr fun e w' => e = .returned (.int .i64 0) ∧ Hid (∃ kv', LV w3 w' l (k + 1) j kv' pv pb) := by
  have h3 := (hl _ (List.getElem_mem hk)).2
  have h2 := keptTo_len l k
  refine (addX_any _ _ kv _ _ l[k] wr pv pb h.solver (by omega) (by omega) hv).mono ?_
  rintro e w' ⟨rfl, kv', a1, a2, -⟩
  have h0 := kept_adds hl hll k hk
  rw [← keptTo_succ l k hk] at a1
  refine ⟨by rw [h0], hide ⟨kv', h.below.trans (Only.added h.solver a2), a1, ?_, h.small⟩⟩
  rw [keptTo_succ l k hk]
  exact h.acc.addTo _
theorem LV.ask (h : LV w3 wr l k j kv pv pb) (hl : ∀ c, c ∈ l → Lits c ∧ c.length ≤ 3) (hll : l.length ≤ 100) (hk : k ≤ l.length) (hj : j ≤ 1000) (hA : Lits A) (hAl : A.length ≤ 100) (he : EnvFrom w3.heap.size wr) (hv : Lies wr av (ints A)) {B : Int} (hB : 0 < B) (hB2 : B ≤ 1000) :
    Calls Tryz.prog 13 #[.pointer (some ⟨w3.heap.size, 0, none⟩), av, .int .i64 B] wr fun e w' => ∃ kind ao kk c ao2 k2 c2 cf, e = .returned (.tuple #[.agg #[.int .i64 kind, .slice ao kk c, .slice ao2 k2 c2, .int .i64 cf], .int .i64 0]) ∧ ((kind = 3 ∧ cf = B) ∨ ((kind = 1 ∨ kind = 2) ∧ Hid (Verd (l.take k) A kind))) ∧ Hid (∃ pv' S, LV w3 w' l k (j + 1) kv pv' (pb ++ S)) ∧ Hid (KeptT NotSolver wr w') := by
  have hsm := h.small
  have hke := keeps_take hl hll hk
  refine (solve_any _ _ kv pv av _ pb A B wr h.solver hke.ok he hv (by omega) (by omega) (by omega) (by omega)).mono ?_
  have hall : allInt A = true := by
    rw [allInt, List.all_eq_true]
    exact fun x hx => isLit_iff.2 (hA x hx)
  rintro e w' (⟨h1, -⟩ | ⟨-, h1, -⟩ | ⟨-, -, kind, vm, vc, cf, rfl, hres⟩)
  · rw [hall] at h1; cases h1
  · omega
  · obtain ⟨⟨ao, kk, c, rfl⟩, ao2, k2, c2, rfl⟩ := hres.valsB
    obtain ⟨b1, b2, -⟩ := hres.out h.solver
    obtain ⟨pv', S, d1, d2, d3, -⟩ := h.acc.solve hres (fun y hy => hA y ((once_mem A y).1 hy))
    refine ⟨kind, ao, kk, c, ao2, k2, c2, cf, rfl, ?_, hide ⟨pv', S, h.below.trans b2, d1, d3, by rw [List.length_append]; omega⟩, hide b1⟩
    rcases hres.verdB hke (fun y hy => (hA y hy).1) with ⟨e1, e2, -⟩ | e1
    · exact .inl ⟨e1, e2⟩
    · exact .inr ⟨e1.two, hide e1⟩
theorem LV.verdictS {bf xf : Nat} {kvf : Value} {msf : List Nat} (h : LV w3 wr l k j kv pv pb) (hl : ∀ c, c ∈ l → Lits c ∧ c.length ≤ 3) (hll : l.length ≤ 100) (hk : k ≤ l.length) (hj : j ≤ 1000) (hA : Lits A) (hAl : A.length ≤ 100) (he : EnvFrom w3.heap.size wr) (hv : Lies wr av (ints A)) (hf : XAt bf wr xf kvf msf (.slice none 0 0) []) (hx : xf ≠ w3.heap.size) :
    Calls Tryz.prog 15 #[.pointer (some ⟨w3.heap.size, 0, none⟩), av] wr fun e w' => ∃ kind, e = .returned (.int .i64 kind) ∧ Hid (Verd (l.take k) A kind) ∧ Hid (∃ pv' S, LV w3 w' l k (j + 1) kv pv' (pb ++ S)) ∧ Hid (XAt bf w' xf kvf msf (.slice none 0 0) []) ∧ Hid (KeptT NotSolver wr w') := by
  have hsm := h.small
  have hke := keeps_take hl hll hk
  refine (verdictK h.solver hke.ok he hA (by omega) hv (by omega)).mono ?_
  rintro e w' ⟨kind, vm, vc, cf, rfl, hres⟩
  obtain ⟨b1, b2, -⟩ := hres.out h.solver
  obtain ⟨-, -, -, -, ho, -⟩ := hres.apart h.solver hsm
  obtain ⟨pv', S, d1, d2, d3, -⟩ := h.acc.solve hres (fun y hy => hA y ((once_mem A y).1 hy))
  refine ⟨kind, rfl, hide ?_, hide ⟨pv', S, h.below.trans b2, d1, d3, by rw [List.length_append]; omega⟩, hide (hf.other h.solver hx (fun g hg => by cases hg) ho), hide b1⟩
  rcases hres.verdB hke (fun y hy => (hA y hy).1) with ⟨-, -, e2⟩ | e1
  · omega
  · exact e1
theorem LV.verdictF {bf xf : Nat} {kvf : Value} {L : List (List Int)} (h : LV w3 wr l k j kv pv pb) (hL : ∀ c, c ∈ L → Lits c ∧ c.length ≤ 3) (hLl : L.length ≤ 100) (hA : Lits A) (hAl : A.length ≤ 100) (he : EnvFrom bf wr) (hv : Lies wr av (ints A)) (hf : XAt bf wr xf kvf (keptTo L L.length) (.slice none 0 0) []) (hx : xf ≠ w3.heap.size) (hle : w3.heap.size ≤ bf) :
    Calls Tryz.prog 15 #[.pointer (some ⟨xf, 0, none⟩), av] wr fun e w' => ∃ kind, e = .returned (.int .i64 kind) ∧ Hid (Verd L A kind) ∧ Hid (LV w3 w' l k j kv pv pb) ∧ Hid (KeptT NotSolver wr w') := by
  refine (verdictK hf (kept_fine hL hLl) he hA (by omega) hv (by simp)).mono ?_
  rintro e w' ⟨kind, vm, vc, cf, rfl, hres⟩
  obtain ⟨-, -, -, -, ho, -, b2, b1⟩ := hres.apart (n := 0) hf (by simp)
  exact ⟨kind, rfl, hide (hres.verd hL hLl (fun y hy => (hA y hy).1)), hide ⟨h.below.trans (b2.mono hle), h.solver.other hf (Ne.symm hx) (fun g hg hg2 => by cases hg2) ho, h.acc, h.small⟩, hide b1⟩
end

end Go.Proofs.YtekkkoipcghlmabGreatDoor
