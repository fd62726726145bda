import Derived.Test.YtekkkoipcghlmaaGreatDoorC20
set_option linter.all false
namespace Go.Proofs.YtekkkoipcghlmaaGreatDoor
open Go.RowKit

theorem mask_same {a b : List Int} (h : ∀ x, x ∈ a ↔ x ∈ b) : Sp.maskOf a = Sp.maskOf b := by
  apply Nat.eq_of_testBit_eq
  intro i
  rw [Sp.maskOf_testBit, Sp.maskOf_testBit, Bool.eq_iff_iff, List.any_eq_true, List.any_eq_true]
  constructor
  · rintro ⟨x, hx, e⟩; exact ⟨x, (h x).1 hx, e⟩
  · rintro ⟨x, hx, e⟩; exact ⟨x, (h x).2 hx, e⟩
theorem mask_pos {l : List Int} (h : wfLits l) (hn : l ≠ []) : Sp.maskOf l ≠ 0 := by
  cases l with
  | nil => exact absurd rfl hn
  | cons x r =>
    intro h0
    have := (mask_mem (fun y hy => (h.2 y hy).1) (h.2 x (by simp)).1).2 (by simp : x ∈ x :: r)
    rw [h0] at this
    simp at this

/-- A proof's steps: which clauses there are behind them, besides G. -/
def Chain (G : List Nat) (s : List (Bool × Nat)) (D : List Nat) : Prop :=
  ∀ P : List (Bool × Nat) → List Nat → Prop, P [] [] → (∀ s D r, P s D → Sp.Fol (G ++ D) r → r ≠ 0 → P (s ++ [(false, r)]) (D ++ [r])) → (∀ s A B r, P s (A ++ r :: B) → P (s ++ [(true, r)]) (A ++ B)) → P s D
theorem Chain.nil {G : List Nat} : Chain G [] [] := fun _ h _ _ => h
theorem Chain.learn {G : List Nat} {s : List (Bool × Nat)} {D : List Nat} {r : Nat} (h : Chain G s D) (hf : Sp.Fol (G ++ D) r) (hr : r ≠ 0) : Chain G (s ++ [(false, r)]) (D ++ [r]) := fun P h1 h2 h3 => h2 _ _ _ (h P h1 h2 h3) hf hr
theorem Chain.go {G : List Nat} {s : List (Bool × Nat)} {A B : List Nat} {r : Nat} (h : Chain G s (A ++ r :: B)) : Chain G (s ++ [(true, r)]) (A ++ B) := fun P h1 h2 h3 => h3 _ _ _ _ (h P h1 h2 h3)

def stepMasks (S : List (Bool × List Int)) : List (Bool × Nat) := S.map (fun x => (x.1, Sp.maskOf x.2))
theorem stepMasks_snoc (S : List (Bool × List Int)) (x : Bool × List Int) : stepMasks (S ++ [x]) = stepMasks S ++ [(x.1, Sp.maskOf x.2)] := by simp [stepMasks]
def masksDB (cls : List Cl) : List Nat := (dbOf cls).map Sp.maskOf

/-- What the search has told of its clauses. -/
structure Told (G : List Nat) (cls : List Cl) (S : List (Bool × List Int)) (D : List Nat) : Prop where
  chain : Chain G (stepMasks S) D
  masks : masksDB cls = G ++ D
  codes : (((dbOf cls).drop G.length).map code).Nodup
  swf : ∀ s, s ∈ S → wfLits s.2
section
variable {G D : List Nat} {cls cls' : List Cl} {S : List (Bool × List Int)}
theorem Told.len (h : Told G cls S D) : cls.length = G.length + D.length := by
  have := congrArg List.length h.masks
  simpa [masksDB, dbOf] using this
theorem Told.learnt (h : Told G cls S D) : D.length ≤ 531441 := by
  have h1 := codes_len h.codes
  have h2 := h.len
  rw [List.length_drop] at h1
  unfold dbOf at h1
  rw [List.length_map] at h1
  omega
theorem Told.small (h : Told G cls S D) (hwf : ∀ (c : Nat) cl, cls[c]? = some cl → wfLits cl.lits) (hG : G.length ≤ 100000) : (flat cls).length ≤ 8900000 := by
  have h1 := flat_small hwf
  have h2 := h.len
  have h3 := h.learnt
  omega
theorem SameCl.map {α : Type} (f : List Int → α) (hf : ∀ a b : List Int, a.Perm b → f a = f b) {a b : List Cl} (h : SameCl a b) : (dbOf a).map f = (dbOf b).map f := by
  apply List.ext_getElem?
  intro i
  unfold dbOf
  rw [List.getElem?_map, List.getElem?_map, List.getElem?_map, List.getElem?_map]
  cases hi : b[i]? with
  | none =>
    have : a[i]? = none := by
      rw [List.getElem?_eq_none_iff] at hi ⊢
      have := h.1; omega
    rw [this]
  | some y =>
    obtain ⟨x, hx, -, hp⟩ := h.get hi
    rw [hx]
    simp [hf _ _ hp]
theorem Told.same (h : Told G cls S D) (hs : SameCl cls cls') : Told G cls' S D := by
  refine ⟨h.chain, ?_, ?_, h.swf⟩
  · unfold masksDB
    rw [← hs.map Sp.maskOf (fun a b hp => mask_same (fun x => hp.mem_iff))]
    exact h.masks
  · rw [List.map_drop, ← hs.map code (fun a b hp => code_same (fun x => hp.mem_iff)), ← List.map_drop]
    exact h.codes
theorem Told.db (h : Told G cls S D) (hs : dbOf cls' = dbOf cls) : Told G cls' S D := ⟨h.chain, by unfold masksDB; rw [hs]; exact h.masks, by rw [hs]; exact h.codes, h.swf⟩
theorem Told.learn (h : Told G cls S D) {lits : List Int} (hdb : dbOf cls' = dbOf cls ++ [lits]) (hwf : ∀ (c : Nat) cl, cls[c]? = some cl → wfLits cl.lits) (hl : wfLits lits) (hn : lits ≠ []) (hf : FolI (dbOf cls) lits) (hnew : ∀ d, d ∈ dbOf cls → ¬ ∀ x, x ∈ d ↔ x ∈ lits) : Told G cls' (S ++ [(false, lits)]) (D ++ [Sp.maskOf lits]) := by
  have wfm : ∀ d, d ∈ dbOf cls → wfLits d := fun d hd => by
    obtain ⟨cl, hcl, rfl⟩ := List.mem_map.1 hd
    obtain ⟨c, hc⟩ := List.getElem?_of_mem hcl
    exact hwf c cl hc
  refine ⟨?_, ?_, ?_, fun s hs => ?_⟩
  rotate_right
  · rcases List.mem_append.1 hs with h' | h'
    · exact h.swf s h'
    · simp at h'; subst h'; exact hl
  · rw [stepMasks_snoc]
    refine Chain.learn h.chain (hf.fol (fun c hc x hx => ((wfm c hc).2 x hx).1) (fun x hx => (hl.2 x hx).1) (fun c hc => ?_)) (mask_pos hl hn)
    rw [← h.masks]
    exact List.mem_map.2 ⟨c, hc, rfl⟩
  · unfold masksDB
    rw [hdb, List.map_append, ← List.append_assoc, ← h.masks]
    rfl
  · have hlen : G.length ≤ (dbOf cls).length := by have := h.len; unfold dbOf; rw [List.length_map]; omega
    rw [hdb, List.drop_append_of_le_length hlen, List.map_append, List.nodup_append]
    refine ⟨h.codes, by simp, ?_⟩
    rintro a ha b hb rfl
    simp at hb
    obtain ⟨d, hd, hda⟩ := List.mem_map.1 ha
    have hd' := List.mem_of_mem_drop hd
    have e : code d = code lits := by rw [hda, hb]
    exact hnew d hd' (fun x => ⟨fun hx => code_mem (wfm d hd') e hx, fun hx => code_mem hl e.symm hx⟩)
end

/-- A step's literals lie there, apart from the search's rows. -/
structure StepAt (base : Nat) (w : World) (m : Mem) (v : Value) (l : List Int) : Prop where
  lies : Lies w v (ints l)
  apart : ∀ k, v.ownBlock = some k → ¬ foot m.rows k ∧ k < w.heap.size
  low : ∀ k, v.ownBlock = some k → base ≤ k
theorem StepAt.keep {base : Nat} {w w' : World} {m m' : Mem} {v : Value} {l : List Int} (h : StepAt base w m v l) (hm : PMut base w m.rows w' m'.rows) : StepAt base w' m' v l := by
  refine ⟨hm.lies h.lies (fun k hk => (h.apart k hk).1), fun k hk => ?_, h.low⟩
  obtain ⟨h1, h2⟩ := h.apart k hk
  refine ⟨fun hf => ?_, Nat.lt_of_lt_of_le h2 hm.only.size⟩
  rcases hm.grows k hf with h3 | h3
  · exact h1 h3
  · omega
/-- The steps that were told. -/
structure StepsAt (base : Nat) (w : World) (m : Mem) (S : List (Bool × List Int)) : Prop where
  n : m.nsteps = S.length
  vs : ∃ vs : List Value, vs.length = S.length ∧ m.steps = (vs.zip S).flatMap (fun x => [x.1, .bool x.2.1]) ∧ ∀ (i : Nat) v s, vs[i]? = some v → S[i]? = some s → StepAt base w m v s.2
theorem StepsAt.keep {base : Nat} {w w' : World} {m m' : Mem} {S : List (Bool × List Int)} (h : StepsAt base w m S) (hm : PMut base w m.rows w' m'.rows) (ht : m'.told = m.told) : StepsAt base w' m' S := by
  obtain ⟨vs, h1, h2, h3⟩ := h.vs
  have e1 : m'.steps = m.steps := congrArg (fun x => x.1) ht
  have e2 : m'.nsteps = m.nsteps := congrArg (fun x => x.2.1) ht
  exact ⟨by rw [e2]; exact h.n, vs, h1, by rw [e1]; exact h2, fun i v s hv hs => (h3 i v s hv hs).keep hm⟩
theorem StepsAt.add {base : Nat} {w w' : World} {m m' : Mem} {S : List (Bool × List Int)} (h : StepsAt base w m S) (hm : PMut base w m.rows w' m'.rows) {v : Value} {b : Bool} {l : List Int} (hn : m'.nsteps = m.nsteps + 1) (hs : m'.steps = m.steps ++ [v, .bool b]) (hv : StepAt base w' m' v l) : StepsAt base w' m' (S ++ [(b, l)]) := by
  obtain ⟨vs, h1, h2, h3⟩ := h.vs
  refine ⟨by rw [hn, h.n]; simp, vs ++ [v], by simp [h1], ?_, fun i u s hu hs' => ?_⟩
  · rw [hs, h2, List.zip_append h1]
    simp
  · by_cases hi : i < vs.length
    · rw [List.getElem?_append_left hi] at hu
      rw [List.getElem?_append_left (by omega)] at hs'
      exact (h3 i u s hu hs').keep hm
    · have hl := (List.getElem?_eq_some_iff.1 hu).1
      simp at hl
      have : i = vs.length := by omega
      subst this
      simp at hu
      rw [h1] at hs'
      simp at hs'
      subst hu
      subst hs'
      exact hv

end Go.Proofs.YtekkkoipcghlmaaGreatDoor

namespace Go.Proofs.YtekkkoipcghlmaaGreatDoor
open Go.RowKit

theorem Tryz.infoStep : (Tryz.prog.info? 131).map (fun i => (i.zero, i.size, i.bytes)) = some (some (.agg #[.slice none 0 0, .bool false]), 2, 32) := by kernel_rfl
theorem info_parts2 {P : Program} {e : TypeId} {z : Value} {k bytes : Nat} (h : (P.info? e).map (fun i => (i.zero, i.size, i.bytes)) = some (some z, k, bytes)) : ∃ i, P.info? e = some i ∧ i.zero = some z ∧ i.size = k ∧ i.bytes = bytes := by
  cases hi : P.info? e with
  | none => rw [hi] at h; cases h
  | some i =>
    rw [hi] at h
    simp at h
    exact ⟨i, rfl, h.1, h.2.1, h.2.2⟩
/-- 'x = append(x, S{a, b})'. -/
theorem append_step {P : Program} {ops : Array Oper} {rest : List Oper} {o : Oper} {a : Act} {Q : Exit → Act → World → Prop} {w1 : World} {base n bytes : Nat} {v val val2 z : Value} {xs : List Value} {tt : TypeId}
    (hgd : o.guard = none) (s x : Operand) (t e : TypeId) (ho : o.op = .call { callee := .builtin .append, args := #[s, x], argTypes := #[t, t] })
    (ht : P.underlying t = some (.slice e)) (hinfo : (P.info? e).map (fun i => (i.zero, i.size, i.bytes)) = some (some z, 2, bytes)) (hzs : z.cells.size = 2) (hby : bytes ≤ 32)
    (hown : w1.ownsRow base e 2 v n xs) (hs : a.eval s = v) (hx : a.eval x = .slice (some ⟨w1.heap.size, 0, none⟩) 1 1) (h1 : val.oneCell' = true) (h2 : val2.oneCell' = true) (hn : n ≤ 20000000) (hbase : base ≤ w1.heap.size)
    (h : ∀ (g cap : Nat) (w' : World), w'.ownsRow base e 2 (.slice (some ⟨g, 0, none⟩) (n + 1) cap) (n + 1) (xs ++ [val, val2]) → (w1.alloc (.cells #[val, val2] tt)).grownBy w' v.ownBlock → (v.ownBlock = some g ∨ g = (w1.alloc (.cells #[val, val2] tt)).heap.size) → wpList P ops Q rest (a.put o.dst (.slice (some ⟨g, 0, none⟩) (n + 1) cap)) w') :
    wpList P ops Q (o :: rest) a (w1.alloc (.cells #[val, val2] tt)) := by
  obtain ⟨i0, hi0, hz0, hz1, hz2⟩ := info_parts2 hinfo
  have hnb : (n + 1) * bytes ≤ 140737488355328 := Nat.le_trans (Nat.mul_le_mul (Nat.add_le_add_right hn 1) hby) (by omega)
  refine wpList_append_lies (P := P) _ hgd s x t ho base e i0 _ 2 bytes ht hi0 hz0 hz1 hz2 hzs (by decide) v n xs hs (hown.alloc _) ⟨w1.heap.size, 0, none⟩ 1 1 [val, val2] hx rfl (World.news_of_block (heap_alloc_new w1 _)) ?_ (by decide) (by unfold maxLen; omega) hnb (by simp; omega) _ rfl ?_
  · intro u hu
    simp at hu
    rcases hu with rfl | rfl
    · exact h1
    · exact h2
  · intro g cap w' h1 h2 h3 _
    exact h g cap w' h1 h2 h3
section
variable {base : Nat} {w w' : World} {m : Mem}
def Mem.stepped (m : Mem) (v : Value) (l : List Value) (n : Nat) : Mem := { m with sp := v, steps := l, nsteps := n }
/-- Behind an append to the steps. -/
theorem Mut.steps (h : SAt base w m) {w4 : World} {g cap n : Nat} {l : List Value} (hown : w4.ownsRow base 131 2 (.slice (some ⟨g, 0, none⟩) n cap) n l) {wz : World} (hz : Below w.heap.size w wz) (hgr : wz.grownBy w4 m.sp.ownBlock) (hloc : m.sp.ownBlock = some g ∨ g = wz.heap.size) :
    Mut base w m (w4.setCell ⟨m.s, 14, none⟩ (.slice (some ⟨g, 0, none⟩) n cap)) (m.stepped (.slice (some ⟨g, 0, none⟩) n cap) l n) ∧ w4.cell? ⟨m.s, 14, none⟩ = some m.sp ∧ w4.frozen? ⟨m.s, 14, none⟩ = false := by
  have h1 := PMut.below h.pack hz
  have hzs := hz.size
  have h2 := PMut.row h1.pack (i := 12) (r' := ⟨131, 2, .slice (some ⟨g, 0, none⟩) n cap, n, l⟩) rfl hown hgr (by
    rcases hloc with h | h
    · exact .inr (.inl h.symm)
    · exact .inr (.inr ⟨g, rfl, by omega⟩))
  have h3 := PMut.store h2.pack (i := 0) rfl rfl 14 (.slice (some ⟨g, 0, none⟩) n cap)
  refine ⟨⟨?_, h.ws, h.ls, h.counts, h.places, rfl, rfl, rfl⟩, ?_, ?_⟩
  · exact h1.trans (h2.trans h3)
  · exact World.ownsRow.cellAt (h2.pack.rows 0 _ rfl) 14 (by simp [structRow, Mem.sCells])
  · exact World.ownsRow.frozenAt (h2.pack.rows 0 _ rfl) 14
/-- The first row of a step. -/
theorem EAt.beside {v : Value} {l : List Int} (h : EAt base w m [intRow v l]) : StepAt base w m v l := by
  have hr := h.row (i := 0) rfl
  unfold Row.ok intRow at hr
  simp only at hr
  refine ⟨?_, fun k hk => ⟨fun hf => h.pack.not_both hf ⟨0, _, rfl, hk⟩, (hr.lt k hk).2⟩, fun k hk => (hr.lt k hk).1⟩
  exact lies_of_owns hr (ints_len _)
end

section
variable {base : Nat} {w w' : World} {L : List Row} {r r' : Row} {i : Nat}
/-- A row is another's, which is new; the old one lies beside. -/
theorem Pack.exchange (h : Pack base w (L ++ [r'])) (hi : L[i]? = some r) : Pack base w (L.set i r' ++ [r]) := by
  have hlt := (List.getElem?_eq_some_iff.1 hi).1
  have ix : ∀ (j : Nat) (q : Row), (L.set i r' ++ [r])[j]? = some q → (L ++ [r'])[if j = i then L.length else if j = L.length then i else j]? = some q := by
    intro j q hj
    by_cases h1 : j < L.length
    · rw [List.getElem?_append_left (by simpa using h1)] at hj
      rcases set_get hj with ⟨rfl, _, rfl⟩ | ⟨hne, hj⟩
      · rw [if_pos rfl]; simp
      · rw [if_neg hne, if_neg (by omega), List.getElem?_append_left h1]; exact hj
    · have hl := (List.getElem?_eq_some_iff.1 hj).1
      simp at hl
      have : j = L.length := by omega
      subst this
      rw [List.getElem?_append_right (by simp)] at hj
      simp at hj
      subst hj
      rw [if_neg (by omega), if_pos rfl, List.getElem?_append_left hlt]
      exact hi
  refine ⟨fun j q hj => h.rows _ q (ix j q hj), fun j k q q' g hj hk hq hq' => ?_⟩
  have := h.apart _ _ q q' g (ix j q hj) (ix k q' hk) hq hq'
  split at this <;> split at this <;> (try split at this) <;> (try split at this) <;> omega
theorem PMut.clone (hp : Pack base w L) (hi : L[i]? = some r) (hr : r'.ok base w') (hb : Below w.heap.size w w') (hn : ∀ g, r'.v.ownBlock = some g → w.heap.size ≤ g) : PMut base w L w' (L.set i r' ++ [r]) := by
  refine ⟨(hp.add hr hb hn).exchange hi, Only.of_below _ hb, fun k hk => ?_⟩
  rcases foot_append.1 hk with ⟨j, q, hj, hq⟩ | ⟨j, q, hj, hq⟩
  · rcases set_get hj with ⟨rfl, _, rfl⟩ | ⟨_, hj⟩
    · exact .inr (hn k hq)
    · exact .inl ⟨j, q, hj, hq⟩
  · have hl := (List.getElem?_eq_some_iff.1 hj).1
    simp at hl
    subst hl
    simp at hj
    subst hj
    exact .inl ⟨i, _, hi, hq⟩
end
/-- The clauses are new ones; the old row lies beside. -/
theorem EMut.clone {base : Nat} {w w1 : World} {m : Mem} (h : SAt base w m) {v : Value} {l : List Int} (hown : w1.ownsRow base 3 1 v l.length (ints l)) (hb : Below w.heap.size w w1) (hn : ∀ g, v.ownBlock = some g → w.heap.size ≤ g) : EMut base w m [] (w1.setCell ⟨m.s, 0, none⟩ v) (m.stored v l) [intRow m.cl m.store] := by
  have h1 := PMut.clone h.pack (i := 3) (r' := intRow v l) rfl hown hb hn
  have h2 := PMut.store h1.pack (i := 0) rfl rfl 0 v
  refine ⟨?_, h.ws, h.ls, h.counts, h.places, rfl, rfl, rfl⟩
  rw [List.append_nil]
  exact h1.trans h2

end Go.Proofs.YtekkkoipcghlmaaGreatDoor

namespace Go.Proofs.YtekkkoipcghlmaaGreatDoor
open Go.RowKit

section
variable {base : Nat} {w wr wr' : World} {m0 m : Mem} {cls0 cls : List Cl} {tr : Tr} {wat : Int → List Int} {n : Nat} {sl : Value} {lits : List Int} {T : List Value × Nat × Value} {x0 : Int} {rest : List Int}
theorem LMem.step (h : LMem base w m0 wr m cls tr wat n sl lits T) {v : Value} {l : List Value} {k : Nat} (hm : Mut base wr m wr' (m.stepped v l k)) : LMem base w m0 wr' (m.stepped v l k) cls tr wat n sl lits (l, k, v) :=
  ⟨h.em.trans (EMut.call h.em.eat hm), ⟨h.rep.store, h.rep.order, h.rep.starts, h.rep.len, h.rep.taken, h.rep.free, h.rep.odr, h.rep.ordr⟩, h.heap, h.free, h.core, rfl, h.watAt, h.passed⟩
theorem LMem.below (h : LMem base w m0 wr m cls tr wat n sl lits T) (hb : Below wr.heap.size wr wr') : LMem base w m0 wr' m cls tr wat n sl lits T :=
  ⟨h.em.trans (EMut.below h.em.eat hb), h.rep, h.heap, h.free, h.core, h.told, h.watAt, h.passed⟩
theorem Watched.fix {m m' : Mem} {l : List Int} {p : Int} (h : Watched m m' l p) : m'.core = m.core ∧ m'.told = m.told ∧ m'.store = m.store ∧ m'.facts = m.facts ∧ m'.order = m.order ∧ m'.starts = m.starts ∧ m'.od = m.od ∧ m'.odr = m.odr ∧ m'.ordr = m.ordr ∧ m'.all = m.all ∧ m'.places = m.places ∧ m'.passed = m.passed := by
  cases l with
  | nil => unfold Watched at h; subst h; exact ⟨rfl, rfl, rfl, rfl, rfl, rfl, rfl, rfl, rfl, rfl, rfl, rfl⟩
  | cons a t =>
    cases t with
    | nil => unfold Watched at h; subst h; exact ⟨rfl, rfl, rfl, rfl, rfl, rfl, rfl, rfl, rfl, rfl, rfl, rfl⟩
    | cons b r => obtain ⟨v1, v2, rfl⟩ := h; exact ⟨rfl, rfl, rfl, rfl, rfl, rfl, rfl, rfl, rfl, rfl, rfl, rfl⟩
theorem lists_short (hl : ∀ l, (wat l).Nodup ∧ ∀ p, p ∈ wat l ↔ Watcher cls l p) (hW : WatAt m wat) (hls : m.lists.length = 25) (hsz : (flat cls).length ≤ 9000000) : ∀ (k : Nat) (l : List Int), m.lists[k]? = some l → l.length ≤ 9000000 := by
  intro k l hk
  have hlt := (List.getElem?_eq_some_iff.1 hk).1
  have h1 := hW ((k : Int) - 12) (by omega) (by omega)
  rw [show ((k : Int) - 12 + 12).toNat = k by omega, hk] at h1
  simp at h1
  subst h1
  have := watcher_bound (hl ((k : Int) - 12)).1 (fun p hp => ((hl ((k : Int) - 12)).2 p).1 hp)
  omega
/-- A clause is laid in. -/
theorem LMem.keep (h : LMem base w m0 wr m cls tr wat n sl lits T) (hwf : wfLits lits) (hls : ∀ l, (wat l).Nodup ∧ ∀ p, p ∈ wat l ↔ Watcher cls l p) (hsz : m.store.length ≤ 9000000) (hbs : base ≤ w.heap.size) :
    Calls Tryz.prog 67 #[.pointer (some ⟨m0.s, 0, none⟩), sl] wr fun e w' => e = .returned (.int .i64 ((flat cls).length : Int)) ∧ ∃ m', LMem base w m0 w' m' (cls ++ [⟨false, lits⟩]) tr (addWat wat lits ((flat cls).length : Int)) n sl lits T ∧ m'.store.length = m.store.length + 2 + lits.length := by
  have hb := h.em.eat.beside
  have hS := h.em.at
  have hst := h.rep.store
  have := keep_any base m cls sl lits wr hS hst (by omega) hwf (Nat.le_trans hbs h.em.pm.only.size) (lists_short hls h.watAt hS.ls (by rw [← hst]; exact hsz)) hb.lies (fun k hk => (hb.apart k hk).1) (by have := wf_len hwf; omega)
  rw [h.em.s] at this
  refine this.mono (fun e w' hh => ?_)
  obtain ⟨h1, c0, m', hm, hw⟩ := hh
  rw [hst] at h1 hw
  refine ⟨h1, m', ⟨h.em.trans (EMut.call h.em.eat hm), ?_, ?_, ?_, ?_, ?_, ?_, ?_⟩, ?_⟩
  all_goals obtain ⟨f1, f2, f3, f4, f5, f6, f7, f8, f9, f10, f11, f12⟩ := hw.fix
  · refine ⟨?_, by rw [f5]; exact h.rep.order, by rw [f6]; exact h.rep.starts, by rw [f4]; exact h.rep.len, fun i e hi => ?_, fun v a b c => ?_, by rw [f8, f7]; exact h.rep.odr, by rw [f9, f5]; exact h.rep.ordr⟩
    · rw [f3, flat_append, flat_cons, flat_nil, List.append_nil]
      show m.store ++ [(lits.length : Int), 0] ++ lits = _
      rw [hst]
      simp [Cl.cells]
    · have := h.rep.taken i e hi
      unfold Mem.truth Mem.level Mem.reason at *
      rw [f4]; exact this
    · have := h.rep.free v a b c
      unfold Mem.truth at *
      rw [f4]; exact this
  · rw [f10, f11]; exact h.heap
  · intro u a b c; rw [f10]; exact h.free u a b c
  · rw [f1]; exact h.core
  · rw [f2]; exact h.told
  · exact addWat_at (m := m.kept c0 lits) (fun l a b => h.watAt l a b) hw hwf hS.ls
  · rw [f12]; exact h.passed
  · rw [f3]
    show (m.store ++ [(lits.length : Int), 0] ++ lits).length = _
    simp; omega
/-- It was of use. -/
theorem LMem.use (h : LMem base w m0 wr m (cls ++ [⟨false, lits⟩]) tr wat n sl lits T) (hsz : m.store.length ≤ 1000000000) :
    Calls Tryz.prog 122 #[m.cl, .int .i64 ((flat cls).length : Int)] wr fun e w' => e = .returned (.tuple #[]) ∧ ∃ m', LMem base w m0 w' m' (cls ++ [⟨true, lits⟩]) tr wat n sl lits T ∧ m'.store.length = m.store.length := by
  have hS := h.em.at
  have hst := h.rep.store
  have hpos : pos (cls ++ [⟨false, lits⟩]) cls.length = (flat cls).length := by rw [pos_append _ _ (Nat.le_refl _), pos_end _ (Nat.le_refl _)]
  have := use_any base m (cls ++ [⟨false, lits⟩]) cls.length ⟨false, lits⟩ wr hS hst (by simp) hsz
  rw [hpos] at this
  refine this.mono (fun e w' hh => ?_)
  obtain ⟨h1, hm⟩ := hh
  refine ⟨h1, _, ⟨h.em.trans (EMut.call h.em.eat hm), ⟨?_, h.rep.order, h.rep.starts, h.rep.len, h.rep.taken, h.rep.free, h.rep.odr, h.rep.ordr⟩, h.heap, h.free, h.core, h.told, h.watAt, h.passed⟩, ?_⟩
  · show m.store.set ((flat cls).length + 1) 1 = _
    rw [hst, ← hpos, flat_set_used _ _ (by simp)]
    congr 1
    simp
  · show (m.store.set _ _).length = _
    rw [List.length_set]
/-- Its first literal is taken. -/
theorem LMem.force (h : LMem base w m0 wr m (cls ++ [⟨true, x0 :: rest⟩]) tr wat n sl lits T) (hT : TrOK cls tr) (hwf : wfLits (x0 :: rest)) (h1 : ¬ Tru tr x0) (h2 : ¬ Tru tr (-x0)) (hsz : m.store.length ≤ 9900000) (hbs : base ≤ w.heap.size) :
    Calls Tryz.prog 69 #[.pointer (some ⟨m0.s, 0, none⟩), .int .i64 ((flat cls).length : Int)] wr fun e w' => e = .returned (.int .i64 (-1)) ∧ ∃ m', LMem base w m0 w' m' (cls ++ [⟨true, x0 :: rest⟩]) (tr ++ [(x0, ((flat cls).length : Int))]) wat n sl lits T ∧ m'.store.length = m.store.length := by
  have hS := h.em.at
  have hst := h.rep.store
  have hpos : pos (cls ++ [⟨true, x0 :: rest⟩]) cls.length = (flat cls).length := by rw [pos_append _ _ (Nat.le_refl _), pos_end _ (Nat.le_refl _)]
  have hx := hwf.2 x0 (by simp)
  have hopen : m.truth x0.natAbs = 0 := (h.rep.is_open (hT.more _) x0 hx.1 hx.2.1 hx.2.2).2 ⟨h1, h2⟩
  have hol : m.order.length ≤ 1000 := by rw [h.rep.order, List.length_map]; have := hT.len; omega
  have := force_any base m (cls ++ [⟨true, x0 :: rest⟩]) cls.length ⟨true, x0 :: rest⟩ wr hS hst (by simp) hsz hwf (Nat.le_trans hbs h.em.pm.only.size) hol h.rep.odr h.rep.ordr
  rw [hpos, h.em.s] at this
  refine this.mono (fun e w' hh => ?_)
  rcases hh with ⟨-, -, hh⟩ | ⟨he, hd, r, hl, hn, hh⟩
  · rcases hh with hh | ⟨hd, r, hl, hh⟩
    · cases hh
    · cases hl; omega
  · cases hl
    rcases hh with ⟨-, od, hm⟩ | ⟨hh, -⟩
    · refine ⟨he, _, ⟨h.em.trans (EMut.call h.em.eat hm), h.rep.take (hT.more _) hx h1 h2 (by omega) od, h.heap, fun u a b c => h.free u a b (fun i e hi => c i e (by rw [List.getElem?_append_left (List.getElem?_eq_some_iff.1 hi).1]; exact hi)), h.core, h.told, h.watAt, h.passed⟩, rfl⟩
    · exact absurd hopen hh
/-- The conflict is counted. -/
theorem LMem.fade (h : LMem base w m0 wr m cls tr wat n sl lits T) :
    Calls Tryz.prog 123 #[.pointer (some ⟨m0.q, 0, none⟩)] wr fun e w' => e = .returned (.tuple #[]) ∧ ∃ m', LMem base w m0 w' m' cls tr wat n sl lits T ∧ m'.store.length = m.store.length := by
  have hS := h.em.at
  have := fade_any base m wr hS h.heap
  rw [h.em.q] at this
  refine this.mono (fun e w' hh => ?_)
  obtain ⟨he, m', hq⟩ := hh
  obtain ⟨c1, c2, c3, c4, c5, c6⟩ := hq.kept.core
  have hk := hq.kept
  unfold KeptC at hk
  have f1 : m'.order = m.order := by rw [hk]
  have f2 : m'.starts = m.starts := by rw [hk]
  have f3 : m'.odr = m.odr := by rw [hk]
  have f4 : m'.od = m.od := by rw [hk]
  have f5 : m'.ordr = m.ordr := by rw [hk]
  refine ⟨he, m', ⟨h.em.trans (EMut.call h.em.eat hq.mu), ⟨by rw [c4]; exact h.rep.store, by rw [f1]; exact h.rep.order, by rw [f2]; exact h.rep.starts, by rw [c6]; exact h.rep.len, fun i e hi => ?_, fun v a b c => ?_, by rw [f3, f4]; exact h.rep.odr, by rw [f5, f1]; exact h.rep.ordr⟩, hq.ok, fun u a b c => (hq.same _).2 (h.free u a b c), c1.trans h.core, c2.trans h.told, fun l a b => by rw [c3]; exact h.watAt l a b, c5.trans h.passed⟩, by rw [c4]⟩
  · have := h.rep.taken i e hi
    unfold Mem.truth Mem.level Mem.reason at *
    rw [c6]; exact this
  · have := h.rep.free v a b c
    unfold Mem.truth at *
    rw [c6]; exact this
end

end Go.Proofs.YtekkkoipcghlmaaGreatDoor
