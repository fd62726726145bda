import Derived.Test.YtekkkoipcghlmabGreatDoorD42
set_option linter.all false
namespace Go.Proofs.YtekkkoipcghlmabGreatDoor
open Go.RowKit

/-- A solver beside another one, which has answered a question. -/
theorem XAt.other {b1 b2 x1 x2 : Nat} {kv1 kv2 pv1 pv2 : Value} {ms1 ms2 : List Nat} {pb1 pb2 : List UInt8} {w w' : World} (h1 : XAt b1 w x1 kv1 ms1 pv1 pb1) (h2 : XAt b2 w x2 kv2 ms2 pv2 pb2) (hx : x1 ≠ x2) (hp : ∀ g, pv1.ownBlock = some g → pv2.ownBlock ≠ some g) (ho : Only (XF x2 pv2) w w') : XAt b1 w' x1 kv1 ms1 pv1 pb1 := by
  have hk := KeptT.solver h2 ho
  have hx1 : ¬ XF x2 pv2 x1 := fun hf => by
    rcases hf with e | hf
    · exact hx e
    · exact row_ne h2.prow h1.block (by decide) hf
  refine ⟨(ho.block x1 (lt_of_block h1.block) hx1).trans h1.block, h1.le, owns_kept h1.row hk ⟨by decide, by decide⟩, owns_at h1.prow (fun g hg => ho.block g (h1.prow.lt g hg).2 (fun hf => ?_))⟩
  rcases hf with rfl | hf
  · exact row_ne h1.prow h2.block (by decide) hg
  · exact hp g hg hf

/-- A list that may be written over. -/
def MayW (b : Nat) (w : World) (vo : Option Addr) (n : Nat) : Prop := n ≤ 1000 ∧ (n = 0 ∨ ∃ g cs, vo = some ⟨g, 0, none⟩ ∧ b ≤ g ∧ w.heap[g]? = some (.cells cs 3 (0, 0)) ∧ n ≤ cs.size)
section
variable {b n : Nat} {w w' : World} {vo : Option Addr}
theorem MayW.nil (b : Nat) (w : World) (vo : Option Addr) : MayW b w vo 0 := ⟨by omega, .inl rfl⟩
theorem MayW.of_owns {base c : Nat} {xs : List Value} (h : w.ownsRow base 3 1 (.slice vo n c) n xs) (hb : b ≤ base) (hn : n ≤ 1000) : MayW b w vo n := by
  refine ⟨hn, ?_⟩
  rcases h.2 with ⟨-, h0⟩ | ⟨g, cap, cur, hv, a1, a2, a3, a4, a5, a6⟩
  · exact .inl h0
  · cases hv
    exact .inr ⟨g, cur, rfl, by omega, a2, by omega⟩
theorem MayW.kept {T : TypeId → Prop} (h : MayW b w vo n) (hk : KeptT T w w') (ht : T 3) : MayW b w' vo n := by
  refine ⟨h.1, ?_⟩
  rcases h.2 with h | ⟨g, cs, h1, h2, h3, h4⟩
  · exact .inl h
  · exact .inr ⟨g, cs, h1, h2, (hk g cs _ _ ht h3).trans h3, h4⟩
theorem MayW.set (h : MayW b w vo n) (p : Addr) (u : Value) (hp : p.spot = none) : MayW b (w.setCell p u) vo n := by
  refine ⟨h.1, ?_⟩
  rcases h.2 with h | ⟨g, cs, h1, h2, h3, h4⟩
  · exact .inl h
  · by_cases e : p.block = g
    · obtain ⟨pb, po, ps⟩ := p
      simp only at e hp
      subst e
      subst hp
      exact .inr ⟨pb, _, h1, h2, heap_setCell_same w pb po _ _ u h3, by simpa using h4⟩
    · exact .inr ⟨g, cs, h1, h2, (Below.heap_setCell w p u g (fun e2 => e e2.symm)).trans h3, h4⟩
theorem MayW.cell (h : MayW b w vo n) {k : Nat} (hk : k < n) : ∃ g v, vo = some ⟨g, 0, none⟩ ∧ b ≤ g ∧ g < w.heap.size ∧ w.cell? ⟨g, k, none⟩ = some v ∧ w.frozen? ⟨g, k, none⟩ = false ∧ ∃ cs, w.heap[g]? = some (.cells cs 3 (0, 0)) := by
  rcases h.2 with h | ⟨g, cs, h1, h2, h3, h4⟩
  · omega
  · exact ⟨g, cs[k]'(by omega), h1, h2, lt_of_block h3, by rw [World.cell?, h3]; simp, frozen_of_row w _ _ _ _ h3, cs, h3⟩
end
theorem KeptT.set {w : World} {g k : Nat} {cs : Array Value} {u : Value} (h : w.heap[g]? = some (.cells cs 3 (0, 0))) : KeptT (fun t => t ≠ 3) w (w.setCell ⟨g, k, none⟩ u) := fun j cs2 t fz ht hj => by
  refine Below.heap_setCell w _ u j (fun e => ?_)
  have e : j = g := e
  subst e
  rw [h] at hj
  cases hj
  exact ht rfl

/-- Three solvers that are apart. -/
structure ThreeAt (B0 : Nat) (w4 wr : World) (l o : List (List Int)) (xs bt xt bu xu : Nat) (n : Nat) (kvs pvs kvt pvt kvu pvu : Value) (pbs pbt pbu : List UInt8) : Prop where
  low : Below B0 w4 wr
  s : XAt B0 wr xs kvs (keptTo l l.length) pvs pbs
  t : XAt bt wr xt kvt (keptTo l l.length) pvt pbt
  u : XAt bu wr xu kvu (keptTo o o.length) pvu pbu
  st : xs ≠ xt
  su : xs ≠ xu
  tu : xt ≠ xu
  bt : B0 ≤ bt
  bu : B0 ≤ bu
  pst : ∀ g, pvs.ownBlock = some g → pvt.ownBlock ≠ some g
  psu : ∀ g, pvs.ownBlock = some g → pvu.ownBlock ≠ some g
  ptu : ∀ g, pvt.ownBlock = some g → pvu.ownBlock ≠ some g
  ls : pbs.length ≤ 1000000000 * n
  lt : pbt.length ≤ 1000000000 * n
  lu : pbu.length ≤ 1000000000 * n
section
variable {B0 xs bt xt bu xu n : Nat} {w4 wr w' : World} {l o : List (List Int)} {kvs pvs kvt pvt kvu pvu : Value} {pbs pbt pbu : List UInt8}
theorem ThreeAt.b0 (h : ThreeAt B0 w4 wr l o xs bt xt bu xu n kvs pvs kvt pvt kvu pvu pbs pbt pbu) : B0 ≤ wr.heap.size := by
  have := h.s.le
  have := lt_of_block h.s.block
  omega
theorem ThreeAt.below (h : ThreeAt B0 w4 wr l o xs bt xt bu xu n kvs pvs kvt pvt kvu pvu pbs pbt pbu) (hb : Below wr.heap.size wr w') : ThreeAt B0 w4 w' l o xs bt xt bu xu n kvs pvs kvt pvt kvu pvu pbs pbt pbu :=
  ⟨h.low.trans (hb.mono h.b0), h.s.below hb, h.t.below hb, h.u.below hb, h.st, h.su, h.tu, h.bt, h.bu, h.pst, h.psu, h.ptu, h.ls, h.lt, h.lu⟩
theorem ThreeAt.int (h : ThreeAt B0 w4 wr l o xs bt xt bu xu n kvs pvs kvt pvt kvu pvu pbs pbt pbu) (hk : KeptT (fun t => t ≠ 3) wr w') (hl : Below B0 w4 w') : ThreeAt B0 w4 w' l o xs bt xt bu xu n kvs pvs kvt pvt kvu pvu pbs pbt pbu :=
  ⟨hl, h.s.kept hk (by decide) (by decide) (by decide), h.t.kept hk (by decide) (by decide) (by decide), h.u.kept hk (by decide) (by decide) (by decide), h.st, h.su, h.tu, h.bt, h.bu, h.pst, h.psu, h.ptu, h.ls, h.lt, h.lu⟩
theorem ThreeAt.more (h : ThreeAt B0 w4 wr l o xs bt xt bu xu n kvs pvs kvt pvt kvu pvu pbs pbt pbu) {m : Nat} (hm : n ≤ m) : ThreeAt B0 w4 wr l o xs bt xt bu xu m kvs pvs kvt pvt kvu pvu pbs pbt pbu := by
  have := h.ls
  have := h.lt
  have := h.lu
  exact ⟨h.low, h.s, h.t, h.u, h.st, h.su, h.tu, h.bt, h.bu, h.pst, h.psu, h.ptu, by omega, by omega, by omega⟩
end

/-- A question of one of them: what comes of it for the others. -/
theorem SolveRes.apart {base x n : Nat} {kv pv vm vc : Value} {ms : List Nat} {pb : List UInt8} {A : List Int} {B kind cf : Int} {w w' : World} (h : SolveRes base x kv ms pv pb A B w kind vm vc cf w') (hX : XAt base w x kv ms pv pb) (hpb : pb.length ≤ 1000000000 * n) : ∃ pv' pb', XAt base w' x kv ms pv' pb' ∧ pb'.length ≤ 1000000000 * (n + 1) ∧ Only (XF x pv) w w' ∧ (∀ g, pv'.ownBlock = some g → pv.ownBlock = some g ∨ w.heap.size ≤ g) ∧ Below base w w' ∧ KeptT NotSolver w w' := by
  have h0 := h
  obtain ⟨S, D, pv', core, hW, -, -, h3, -⟩ := h
  have h1 := stepsText_len S
  have h2 := maskTold_len (oppMask (Sp.maskOf core))
  refine ⟨pv', _, hW.1, ?_, hW.2.1, hW.2.2, Only.solver hX hW.2.1, KeptT.solver hX hW.2.1⟩
  rw [List.length_append, List.length_append]
  split
  · omega
  · simp only [List.length_nil]; omega
/-- Its lists may be written over. -/
theorem SolveRes.may {base x b : Nat} {kv pv : Value} {ms : List Nat} {pb : List UInt8} {A : List Int} {kind cf : Int} {w w' : World} {ao ao2 : Option Addr} {k c k2 c2 : Nat} (h : SolveRes base x kv ms pv pb A 0 w kind (.slice ao k c) (.slice ao2 k2 c2) cf w') (hb : b ≤ w.heap.size) (hAl : A.length ≤ 1000) : MayW b w' ao k ∧ MayW b w' ao2 k2 := by
  obtain ⟨S, D, pv', core, -, -, -, -, -, -, h6⟩ := h
  rcases h6 with ⟨_, h2, b', _, _, _, h3⟩ | ⟨_, h2, ⟨p, hp⟩, h3, _⟩ | ⟨_, _, _, h4, _⟩
  · cases h2
    have e : k = 12 := by
      obtain ⟨a, c', hs⟩ := owns_shape h3
      simp only [Value.slice.injEq] at hs
      exact hs.2.1
    subst e
    exact ⟨MayW.of_owns h3 hb (by omega), MayW.nil _ _ _⟩
  · cases h2
    have e : k2 = core.length := by
      obtain ⟨a, c', hs⟩ := owns_shape h3
      simp only [Value.slice.injEq] at hs
      exact hs.2.1
    subst e
    exact ⟨MayW.nil _ _ _, MayW.of_owns h3 hb (by rw [hp]; exact Nat.le_trans (List.length_filter_le _ _) hAl)⟩
  · omega
end Go.Proofs.YtekkkoipcghlmabGreatDoor

namespace Go.Proofs.YtekkkoipcghlmabGreatDoor
open Go.RowKit

/-- Which verdict clauses have, with literals assumed. -/
def Verd (l : List (List Int)) (A : List Int) (kind : Int) : Prop := (kind = 1 ∧ ∃ b, (∀ y, y ∈ A → tru b y = true) ∧ ∀ c, c ∈ l → holdsOf b c = true) ∨ (kind = 2 ∧ ∀ b, (∀ c, c ∈ l → holdsOf b c = true) → ¬ ∀ y, y ∈ A → tru b y = true)
theorem Verd.same {l : List (List Int)} {A : List Int} {k1 k2 : Int} (h1 : Verd l A k1) (h2 : Verd l A k2) : k1 = k2 := by
  rcases h1 with ⟨rfl, b, a1, a2⟩ | ⟨rfl, a1⟩ <;> rcases h2 with ⟨rfl, b', c1, c2⟩ | ⟨rfl, c1⟩
  · rfl
  · exact absurd a1 (c1 b a2)
  · exact absurd c1 (a1 b' c2)
  · rfl
theorem Verd.two {l : List (List Int)} {A : List Int} {k : Int} (h : Verd l A k) : k = 1 ∨ k = 2 := by
  rcases h with ⟨h, -⟩ | ⟨h, -⟩
  · exact .inl h
  · exact .inr h
theorem SolveRes.verd {base x : Nat} {kv pv vm vc : Value} {L : List (List Int)} {pb : List UInt8} {A : List Int} {kind cf : Int} {w w' : World} (h : SolveRes base x kv (keptTo L L.length) pv pb (once A) 0 w kind vm vc cf w') (hL : ∀ c, c ∈ L → Lits c ∧ c.length ≤ 3) (hl : L.length ≤ 100) (hA : ∀ y, y ∈ A → y ≠ 0) : Verd L A kind := by
  rcases h.verdict hA with ⟨h1, h2, b, h3, h4, h5, h6⟩ | ⟨h1, h2, h3⟩
  · exact .inl ⟨h1, b, h4, (kept_same hL hl b).1 h5⟩
  · exact .inr ⟨h1, fun b hb => h3 b ((kept_same hL hl b).2 hb)⟩

/-- The three, whatever they have written. -/
def Three (B0 : Nat) (w4 wr : World) (l o : List (List Int)) (xs bt xt bu xu : Nat) (n : Nat) : Prop := ∃ kvs pvs kvt pvt kvu pvu pbs pbt pbu, ThreeAt B0 w4 wr l o xs bt xt bu xu n kvs pvs kvt pvt kvu pvu pbs pbt pbu
section
variable {B0 xs bt xt bu xu n : Nat} {w4 wr w' : World} {l o : List (List Int)} {A : List Int} {av : Value}
theorem Three.below (h : Three B0 w4 wr l o xs bt xt bu xu n) (hb : Below wr.heap.size wr w') : Three B0 w4 w' l o xs bt xt bu xu n := by
  obtain ⟨a1, a2, a3, a4, a5, a6, a7, a8, a9, h⟩ := h
  exact ⟨a1, a2, a3, a4, a5, a6, a7, a8, a9, h.below hb⟩
theorem Three.int (h : Three B0 w4 wr l o xs bt xt bu xu n) (hk : KeptT (fun t => t ≠ 3) wr w') (hl : Below B0 w4 w') : Three B0 w4 w' l o xs bt xt bu xu n := by
  obtain ⟨a1, a2, a3, a4, a5, a6, a7, a8, a9, h⟩ := h
  exact ⟨a1, a2, a3, a4, a5, a6, a7, a8, a9, h.int hk hl⟩
theorem Three.low (h : Three B0 w4 wr l o xs bt xt bu xu n) : Below B0 w4 wr := by
  obtain ⟨a1, a2, a3, a4, a5, a6, a7, a8, a9, h⟩ := h
  exact h.low
theorem Three.b0 (h : Three B0 w4 wr l o xs bt xt bu xu n) : B0 ≤ wr.heap.size := by
  obtain ⟨a1, a2, a3, a4, a5, a6, a7, a8, a9, h⟩ := h
  exact h.b0
theorem Three.more (h : Three B0 w4 wr l o xs bt xt bu xu n) {m : Nat} (hm : n ≤ m) : Three B0 w4 wr l o xs bt xt bu xu m := by
  obtain ⟨a1, a2, a3, a4, a5, a6, a7, a8, a9, h⟩ := h
  exact ⟨a1, a2, a3, a4, a5, a6, a7, a8, a9, h.more hm⟩
/-- What is known behind a question of one of the three. -/
def Answer (B0 : Nat) (w4 wx : World) (l o q : List (List Int)) (A : List Int) (xs bt xt bu xu n : Nat) (e : Ending) (w' : World) : Prop :=
  ∃ kind ao k c ao2 k2 c2 cf, e = .returned (.tuple #[.agg #[.int .i64 kind, .slice ao k c, .slice ao2 k2 c2, .int .i64 cf], .int .i64 0]) ∧ Hid (Verd q A kind) ∧ Hid (Three B0 w4 w' l o xs bt xt bu xu n) ∧ Hid (MayW B0 w' ao k ∧ MayW B0 w' ao2 k2) ∧ Hid (KeptT NotSolver wx w')
section
variable (hl : ∀ c, c ∈ l → Lits c ∧ c.length ≤ 3) (hll : l.length ≤ 100) (ho : ∀ c, c ∈ o → Lits c ∧ c.length ≤ 3) (hol : o.length ≤ 100)
theorem Three.askS (h : Three B0 w4 wr l o xs bt xt bu xu n) (hn : n ≤ 100) (hl : ∀ c, c ∈ l → Lits c ∧ c.length ≤ 3) (hll : l.length ≤ 100) (hA : Lits A) (hAl : A.length ≤ 100) (he : EnvFrom B0 wr) (hv : Lies wr av (ints A)) :
    Calls Tryz.prog 13 #[.pointer (some ⟨xs, 0, none⟩), av, .int .i64 0] wr fun e w' => Answer B0 w4 wr l o l A xs bt xt bu xu (n + 1) e w' := by
  obtain ⟨kvs, pvs, kvt, pvt, kvu, pvu, pbs, pbt, pbu, h⟩ := h
  have hls := h.ls
  refine (askK h.s (kept_fine hl hll) he hA (by omega) hv (by omega)).mono ?_
  rintro e w' ⟨kind, ao, k, c, ao2, k2, c2, cf, rfl, hres⟩
  obtain ⟨pv', pb', a1, a2, a3, a4, a5, a6⟩ := hres.apart h.s hls
  have hlt := h.lt
  have hlu := h.lu
  refine ⟨kind, ao, k, c, ao2, k2, c2, cf, rfl, hide (hres.verd hl hll (fun y hy => (hA y hy).1)), hide ⟨kvs, pv', kvt, pvt, kvu, pvu, pb', pbt, pbu, h.low.trans a5, a1, h.t.other h.s (Ne.symm h.st) (fun g hg hg2 => h.pst g hg2 hg) a3, h.u.other h.s (Ne.symm h.su) (fun g hg hg2 => h.psu g hg2 hg) a3, h.st, h.su, h.tu, h.bt, h.bu, fun g hg hg2 => ?_, fun g hg hg2 => ?_, h.ptu, a2, by omega, by omega⟩, hide (hres.may h.b0 (by have := once_len A; omega)), hide a6⟩
  · rcases a4 g hg with h1 | h1
    · exact h.pst g h1 hg2
    · have := (h.t.prow.lt g hg2).2; omega
  · rcases a4 g hg with h1 | h1
    · exact h.psu g h1 hg2
    · have := (h.u.prow.lt g hg2).2; omega
theorem Three.askT (h : Three B0 w4 wr l o xs bt xt bu xu n) (hn : n ≤ 100) (hl : ∀ c, c ∈ l → Lits c ∧ c.length ≤ 3) (hll : l.length ≤ 100) (hA : Lits A) (hAl : A.length ≤ 100) (he : EnvFrom bt wr) (hv : Lies wr av (ints A)) :
    Calls Tryz.prog 13 #[.pointer (some ⟨xt, 0, none⟩), av, .int .i64 0] wr fun e w' => Answer B0 w4 wr l o l A xs bt xt bu xu (n + 1) e w' := by
  obtain ⟨kvs, pvs, kvt, pvt, kvu, pvu, pbs, pbt, pbu, h⟩ := h
  have hlt := h.lt
  refine (askK h.t (kept_fine hl hll) he hA (by omega) hv (by omega)).mono ?_
  rintro e w' ⟨kind, ao, k, c, ao2, k2, c2, cf, rfl, hres⟩
  obtain ⟨pv', pb', a1, a2, a3, a4, a5, a6⟩ := hres.apart h.t hlt
  have hls := h.ls
  have hlu := h.lu
  refine ⟨kind, ao, k, c, ao2, k2, c2, cf, rfl, hide (hres.verd hl hll (fun y hy => (hA y hy).1)), hide ⟨kvs, pvs, kvt, pv', kvu, pvu, pbs, pb', pbu, h.low.trans (a5.mono h.bt), h.s.other h.t h.st (fun g hg hg2 => h.pst g hg hg2) a3, a1, h.u.other h.t (Ne.symm h.tu) (fun g hg hg2 => h.ptu g hg2 hg) a3, h.st, h.su, h.tu, h.bt, h.bu, fun g hg hg2 => ?_, h.psu, fun g hg hg2 => ?_, by omega, a2, by omega⟩, hide (hres.may h.b0 (by have := once_len A; omega)), hide a6⟩
  · rcases a4 g hg2 with h1 | h1
    · exact h.pst g hg h1
    · have := (h.s.prow.lt g hg).2; omega
  · rcases a4 g hg with h1 | h1
    · exact h.ptu g h1 hg2
    · have := (h.u.prow.lt g hg2).2; omega
theorem Three.askU (h : Three B0 w4 wr l o xs bt xt bu xu n) (hn : n ≤ 100) (ho : ∀ c, c ∈ o → Lits c ∧ c.length ≤ 3) (hol : o.length ≤ 100) (hA : Lits A) (hAl : A.length ≤ 100) (he : EnvFrom bu wr) (hv : Lies wr av (ints A)) :
    Calls Tryz.prog 13 #[.pointer (some ⟨xu, 0, none⟩), av, .int .i64 0] wr fun e w' => Answer B0 w4 wr l o o A xs bt xt bu xu (n + 1) e w' := by
  obtain ⟨kvs, pvs, kvt, pvt, kvu, pvu, pbs, pbt, pbu, h⟩ := h
  have hlu := h.lu
  refine (askK h.u (kept_fine ho hol) he hA (by omega) hv (by omega)).mono ?_
  rintro e w' ⟨kind, ao, k, c, ao2, k2, c2, cf, rfl, hres⟩
  obtain ⟨pv', pb', a1, a2, a3, a4, a5, a6⟩ := hres.apart h.u hlu
  have hls := h.ls
  have hlt := h.lt
  refine ⟨kind, ao, k, c, ao2, k2, c2, cf, rfl, hide (hres.verd ho hol (fun y hy => (hA y hy).1)), hide ⟨kvs, pvs, kvt, pvt, kvu, pv', pbs, pbt, pb', h.low.trans (a5.mono h.bu), h.s.other h.u h.su (fun g hg hg2 => h.psu g hg hg2) a3, h.t.other h.u h.tu (fun g hg hg2 => h.ptu g hg hg2) a3, a1, h.st, h.su, h.tu, h.bt, h.bu, h.pst, fun g hg hg2 => ?_, fun g hg hg2 => ?_, by omega, by omega, a2⟩, hide (hres.may h.b0 (by have := once_len A; omega)), hide a6⟩
  · rcases a4 g hg2 with h1 | h1
    · exact h.psu g hg h1
    · have := (h.s.prow.lt g hg).2; omega
  · rcases a4 g hg2 with h1 | h1
    · exact h.ptu g hg h1
    · have := (h.t.prow.lt g hg).2; omega
end
end

end Go.Proofs.YtekkkoipcghlmabGreatDoor
