import Derived.Test.YtgoigckhblffhaaGreatDoorRJ07
import Derived.Test.YtgoigckhblffhaaGreatDoorRJ02
import Derived.Laws.CopyOwn
import Derived.Laws.OwnMore
import Derived.OwnWalk
import Derived.Test.YtgoigckhblffhaaGreatDoorRJ17
import Derived.Test.YtgoigckhblffhaaGreatDoorRJ13
import Derived.Test.YtgoigckhblffhaaGreatDoorRJ12
import Derived.Deep.AppendLies
import Derived.Deep.RegionWith
import Derived.WalkSmall
namespace Go.Proofs.YtgoigckhblffhaaGreatDoorR
open Go.RowKit

theorem belowDrew {B : Nat} {a w : World} (h : Below B a w) (q : Nat) : Below B a (w.drewN q) := h.trans ⟨rfl, rfl, rfl, Nat.le_refl _, fun _ _ => rfl⟩
/-- All blocks but some stay. -/
structure Only (F : Nat → Prop) (w w' : World) : Prop where
  os : w'.os = w.os
  tape : w'.tape = w.tape
  output : w'.output = w.output
  size : w.heap.size ≤ w'.heap.size
  block : ∀ k, k < w.heap.size → ¬ F k → w'.heap[k]? = w.heap[k]?

section
variable {F G : Nat → Prop} {a b c w w' : World}
theorem Only.refl (F : Nat → Prop) (w : World) : Only F w w := ⟨rfl, rfl, rfl, Nat.le_refl _, fun _ _ _ => rfl⟩
theorem Only.trans (h : Only F a b) (h' : Only F b c) : Only F a c :=
  ⟨h'.os.trans h.os, h'.tape.trans h.tape, h'.output.trans h.output, Nat.le_trans h.size h'.size, fun k hk hn => (h'.block k (Nat.lt_of_lt_of_le hk h.size) hn).trans (h.block k hk hn)⟩
theorem Only.weaken (h : Only F a b) (hF : ∀ k, k < a.heap.size → F k → G k) : Only G a b := ⟨h.os, h.tape, h.output, h.size, fun k hk hn => h.block k hk (fun hf => hn (hF k hk hf))⟩
theorem Only.of_below (F : Nat → Prop) (h : Below a.heap.size a b) : Only F a b := ⟨h.os, h.tape, h.output, h.size, fun k hk _ => h.block k hk⟩
theorem Only.alloc (F : Nat → Prop) (w : World) (o : Obj) : Only F w (w.alloc o) := Only.of_below F ((Below.refl _ _).alloc (Nat.le_refl _) o)
theorem Only.setCell {p : Addr} (hp : F p.block) (w : World) (u : Value) : Only F w (w.setCell p u) :=
  ⟨rfl, rfl, rfl, by simp [World.setCell], fun k _ hn => Below.heap_setCell _ _ _ _ (fun e => hn (by rw [e]; exact hp))⟩
theorem Only.grown {row : Option Nat} (hg : w.grownBy w' row) (hr : ∀ k, row = some k → F k) : Only F w w' :=
  ⟨hg.os, hg.tape, hg.output, hg.size, fun k hk hn => hg.block k hk (fun e => hn (hr k e.symm))⟩
theorem Only.below {B : Nat} (h : Only F w w') (hF : ∀ k, F k → B ≤ k) (hB : B ≤ w.heap.size) : Below B w w' :=
  ⟨h.os, h.tape, h.output, h.size, fun k hk => h.block k (by omega) (fun hf => by have := hF k hf; omega)⟩
end

theorem owns_at {w w' : World} {base : Nat} {e : TypeId} {s : Nat} {v : Value} {n : Nat} {xs : List Value} (h : w.ownsRow base e s v n xs) (hb : ∀ g, v.ownBlock = some g → w'.heap[g]? = w.heap[g]?) : w'.ownsRow base e s v n xs := by
  obtain ⟨h1, h2⟩ := h
  refine ⟨h1, ?_⟩
  rcases h2 with h2 | ⟨g, cap, cur, hv, h3, h4, h5⟩
  · exact .inl h2
  · exact .inr ⟨g, cap, cur, hv, h3, (hb g (by rw [hv]; rfl)).trans h4, h5⟩
theorem lt_of_block {w : World} {p : Nat} {o : Obj} (h : w.heap[p]? = some o) : p < w.heap.size := (Array.getElem?_eq_some_iff.1 h).1
/-- A row lies in no block of another make. -/
theorem row_ne {w : World} {base : Nat} {e : TypeId} {s : Nat} {v : Value} {n : Nat} {xs : List Value} (h : w.ownsRow base e s v n xs) {p : Nat} {cs : Array Value} {t : TypeId} {fz : Nat × Nat} (hp : w.heap[p]? = some (.cells cs t fz)) (ht : t ≠ e) : v.ownBlock ≠ some p := by
  intro he
  rcases h.2 with ⟨hv, _⟩ | ⟨g, cap, cur, hv, _, hg, _⟩
  · rw [hv] at he; cases he
  · rw [hv] at he
    simp [Value.ownBlock] at he
    subst he
    rw [hp] at hg
    simp at hg
    exact ht hg.2.1

/-- How many literals clauses have. -/
def sizes (ms : List Nat) : Nat := (ms.map fun m => (Sp.litsOf m).length).sum
theorem sizes_snoc (ms : List Nat) (m : Nat) : sizes (ms ++ [m]) = sizes ms + (Sp.litsOf m).length := by simp [sizes]

/-- The program's solver, at block x. -/
structure XAt (base : Nat) (w : World) (x : Nat) (kv : Value) (ms : List Nat) : Prop where
  block : w.heap[x]? = some (.cells #[kv, .int .i64 (sizes ms : Int)] 66 (0, 0))
  le : base ≤ x
  row : w.ownsRow base 68 1 kv ms.length (us ms)
/-- The document's solver, at block y. -/
structure YAt (base : Nat) (w : World) (y : Nat) (lv : Value) (vs : List Value) (ms : List Nat) : Prop where
  block : w.heap[y]? = some (.cells #[lv] 45 (0, 0))
  le : base ≤ y
  row : w.ownsRow base 33 1 lv ms.length vs
  rows : RowsAt w base vs (ms.map Sp.litsOf)

def XFoot (F : Nat → Prop) (x : Nat) (kv : Value) : Prop := F x ∧ ∀ g, kv.ownBlock = some g → F g
def YFoot (F : Nat → Prop) (y : Nat) (lv : Value) (vs : List Value) : Prop := F y ∧ (∀ g, lv.ownBlock = some g → F g) ∧ ∀ v, v ∈ vs → ∀ g, v.ownBlock = some g → F g

theorem XAt.keep {base : Nat} {w w' : World} {x : Nat} {kv : Value} {ms : List Nat} (h : XAt base w x kv ms) {F : Nat → Prop} (hf : XFoot F x kv) (hk : ∀ k, F k → w'.heap[k]? = w.heap[k]?) : XAt base w' x kv ms :=
  ⟨(hk x hf.1).trans h.block, h.le, owns_at h.row (fun g hg => hk g (hf.2 g hg))⟩
theorem YAt.keep {base : Nat} {w w' : World} {y : Nat} {lv : Value} {vs : List Value} {ms : List Nat} (h : YAt base w y lv vs ms) {F : Nat → Prop} (hf : YFoot F y lv vs) (hk : ∀ k, F k → w'.heap[k]? = w.heap[k]?) : YAt base w' y lv vs ms :=
  ⟨(hk y hf.1).trans h.block, h.le, owns_at h.row (fun g hg => hk g (hf.2.1 g hg)), h.rows.1, fun i x c hx hc => owns_at (h.rows.2 i x c hx hc) (fun g hg => hk g (hf.2.2 x (List.mem_of_getElem? hx) g hg))⟩

/-- A side: the program's solver and the document's, with the same clauses, in the blocks F. -/
structure SideIs (base : Nat) (w : World) (F : Nat → Prop) (p x : Nat) (kv : Value) (y : Nat) (lv : Value) (vs : List Value) (ms : List Nat) : Prop where
  block : ∃ pr gr la en, w.heap[p]? = some (.cells #[.pointer (some ⟨x, 0, none⟩), .pointer (some ⟨y, 0, none⟩), .string pr, .bool gr, .string la, .bool en] 47 (0, 0))
  le : base ≤ p
  prog : XAt base w x kv ms
  doc : YAt base w y lv vs ms
  fp : F p
  fx : XFoot F x kv
  fy : YFoot F y lv vs
  inn : ∀ k, F k → base ≤ k ∧ k < w.heap.size
  small : ∀ m, m ∈ ms → m < 2 ^ 24
def SideAt (base : Nat) (w : World) (F : Nat → Prop) (p : Nat) (ms : List Nat) : Prop := ∃ x kv y lv vs, SideIs base w F p x kv y lv vs ms

theorem SideAt.keep {base : Nat} {w w' : World} {F : Nat → Prop} {p : Nat} {ms : List Nat} (h : SideAt base w F p ms) (hs : w.heap.size ≤ w'.heap.size) (hk : ∀ k, F k → w'.heap[k]? = w.heap[k]?) : SideAt base w' F p ms := by
  obtain ⟨x, kv, y, lv, vs, h⟩ := h
  obtain ⟨pr, gr, la, en, hb⟩ := h.block
  exact ⟨x, kv, y, lv, vs, ⟨⟨pr, gr, la, en, (hk p h.fp).trans hb⟩, h.le, h.prog.keep h.fx hk, h.doc.keep h.fy hk, h.fp, h.fx, h.fy, fun k hf => ⟨(h.inn k hf).1, Nat.lt_of_lt_of_le (h.inn k hf).2 hs⟩, h.small⟩⟩

/-- The world of a play: at most four sides, apart. -/
structure WIs (base : Nat) (w : World) (B n : Nat) (lv : Value) (p : Nat → Nat) (F : Nat → Nat → Prop) (ms : Nat → List Nat) : Prop where
  block : w.heap[B]? = some (.cells #[lv, .slice none 0 0] 31 (0, 0))
  le : base ≤ B
  row : w.ownsRow base 41 1 lv n ((List.range n).map fun i => .pointer (some ⟨p i, 0, none⟩))
  sides : ∀ i, i < n → SideAt base w (F i) (p i) (ms i)
  apart : ∀ i j, i < n → j < n → i ≠ j → ∀ k, F i k → ¬ F j k
  notB : ∀ i, i < n → ¬ F i B
  notRow : ∀ i, i < n → ∀ g, lv.ownBlock = some g → ¬ F i g
  four : n ≤ 4
/-- L: how many clauses may be kept. -/
def WAt (base : Nat) (w : World) (B n L : Nat) : Prop := ∃ lv p F ms, WIs base w B n lv p F ms ∧ ∀ i, i < n → (ms i).length ≤ L

/-- One side has changed. -/
theorem WIs.turn {base : Nat} {w w' : World} {B n : Nat} {lv : Value} {p : Nat → Nat} {F : Nat → Nat → Prop} {ms : Nat → List Nat} (h : WIs base w B n lv p F ms) {d : Nat} (hd : d < n) {F' : Nat → Prop} {ms' : List Nat}
    (ho : Only (F d) w w') (hs : SideAt base w' F' (p d) ms') (hF : ∀ k, F' k → F d k ∨ w.heap.size ≤ k) :
    WIs base w' B n lv p (fun i => if i = d then F' else F i) (fun i => if i = d then ms' else ms i) := by
  have hlt : ∀ i, i < n → ∀ k, F i k → k < w.heap.size := fun i hi k hk => by
    obtain ⟨x, kv, y, lv', vs, hh⟩ := h.sides i hi
    exact (hh.inn k hk).2
  have hBlt := lt_of_block h.block
  have hrow : ∀ g, lv.ownBlock = some g → g < w.heap.size := fun g hg => (h.row.lt g hg).2
  have key : ∀ i, i < n → i ≠ d → ∀ k, F i k → w'.heap[k]? = w.heap[k]? := fun i hi hid k hk => ho.block k (hlt i hi k hk) (h.apart i d hi hd hid k hk)
  have off : ∀ k, k < w.heap.size → ¬ F d k → ¬ F' k := fun k hk hn hf => by
    rcases hF k hf with h1 | h1
    · exact hn h1
    · omega
  refine ⟨(ho.block B hBlt (h.notB d hd)).trans h.block, h.le, owns_at h.row (fun g hg => ho.block g (hrow g hg) (h.notRow d hd g hg)), fun i hi => ?_, fun i j hi hj hij k hk => ?_, fun i hi => ?_, fun i hi g hg => ?_, h.four⟩
  · by_cases e : i = d
    · subst e; simp only [if_true]; exact hs
    · simp only [if_neg e]; exact (h.sides i hi).keep ho.size (key i hi e)
  · by_cases e : i = d
    · subst e
      simp only [if_true, if_neg (Ne.symm hij)] at hk ⊢
      intro hj'
      exact off k (hlt j hj k hj') (fun hf => h.apart i j hi hj hij k hf hj') hk
    · simp only [if_neg e] at hk
      by_cases e2 : j = d
      · subst e2
        simp only [if_true]
        exact off k (hlt i hi k hk) (h.apart i j hi hj hij k hk)
      · simp only [if_neg e2]; exact h.apart i j hi hj hij k hk
  · by_cases e : i = d
    · subst e; simp only [if_true]; exact off B hBlt (h.notB i hi)
    · simp only [if_neg e]; exact h.notB i hi
  · by_cases e : i = d
    · subst e; simp only [if_true]; exact off g (hrow g hg) (h.notRow i hi g hg)
    · simp only [if_neg e]; exact h.notRow i hi g hg

/-- Nothing that was there has changed. -/
theorem WAt.below {base : Nat} {w w' : World} {B n L : Nat} (h : WAt base w B n L) (hb : Below w.heap.size w w') : WAt base w' B n L := by
  obtain ⟨lv, p, F, ms, h, hL⟩ := h
  refine ⟨lv, p, F, ms, ⟨(hb.block B (lt_of_block h.block)).trans h.block, h.le, owns_at h.row (fun g hg => hb.block g (h.row.lt g hg).2), fun i hi => (h.sides i hi).keep hb.size (fun k hk => ?_), h.apart, h.notB, h.notRow, h.four⟩, hL⟩
  obtain ⟨x, kv, y, lv', vs, hh⟩ := h.sides i hi
  exact hb.block k (hh.inn k hk).2
theorem WAt.more {base : Nat} {w : World} {B n L L' : Nat} (h : WAt base w B n L) (hl : L ≤ L') : WAt base w B n L' := by
  obtain ⟨lv, p, F, ms, h, hL⟩ := h
  exact ⟨lv, p, F, ms, h, fun i hi => Nat.le_trans (hL i hi) hl⟩

end Go.Proofs.YtgoigckhblffhaaGreatDoorR

namespace Go.Proofs.YtgoigckhblffhaaGreatDoorR
open Go.RowKit

theorem newX_any (w : World) :
    Calls Tryz.prog 9 #[] w fun e w' => e = .returned (.pointer (some ⟨w.heap.size, 0, none⟩)) ∧ w' = w.alloc (.cells #[.slice none 0 0, .int .i64 0] 66) := by
  go_enter Tryz.func9, Tryz.ntmps9
  go_wp2
  go_ret
  exact ⟨rfl, rfl⟩

/-- Which of n things is meant. -/
def pickOf (c : Int) (n : Nat) : Nat := ((if c < 0 then -(c + 1) else c) % (n : Int)).toNat
theorem pickOf_lt (c : Int) {n : Nat} (hn : 0 < n) : pickOf c n < n := by
  unfold pickOf
  have h1 := Int.emod_nonneg (if c < 0 then -(c + 1) else c) (b := (n : Int)) (by omega)
  have h2 := Int.emod_lt_of_pos (if c < 0 then -(c + 1) else c) (b := (n : Int)) (by omega)
  omega
theorem ret_pick {c a : Int} {n : Nat} (h : (if c < 0 then -(c + 1) else c) % (n : Int) = a) (hn : 0 < n) : Ending.returned (.int .i64 a) = .returned (.int .i64 (pickOf c n : Int)) := by
  unfold pickOf
  rw [Int.toNat_of_nonneg (Int.emod_nonneg _ (by omega)), h]
theorem pick_any (c : Int) (n : Nat) (w : World) (h0 : -9223372036854775808 ≤ c) (h1 : c ≤ 9223372036854775807) (hn : 0 < n) (hn4 : n ≤ 4) :
    Calls Tryz.prog 10 #[.int .i64 c, .int .i64 n] w fun e w' => e = .returned (.int .i64 (pickOf c n)) ∧ w' = w := by
  by_cases hc : c < 0
  · have HC := hide hc
    go_enter Tryz.func10, Tryz.ntmps10
    go_wp2
    go_ret
    have e1 : -(c + 1).tmod (n : Int) = (-(c + 1)) % (n : Int) := by rw [← Int.neg_tmod, Int.tmod_eq_emod_of_nonneg (by omega)]
    exact ⟨ret_pick (a := -(c + 1).tmod (n : Int)) (by rw [e1, if_pos (unhide HC)]) hn, rfl⟩
  · have HC := hide hc
    go_enter Tryz.func10, Tryz.ntmps10
    go_wp2
    go_ret
    exact ⟨ret_pick (a := c % (n : Int)) (by rw [if_neg (by have := unhide HC; omega)]) hn, rfl⟩

theorem row_whole {w : World} {base n : Nat} {e : TypeId} {g : Nat} {xs : List Value} (h : w.ownsRow base e 1 (.slice (some ⟨g, 0, none⟩) n n) n xs) : w.heap[g]? = some (.cells xs.toArray e (0, 0)) := by
  rcases h.2 with ⟨hv, _⟩ | ⟨g', cap, cur, hv, _, hg, _, _, hsz, htk⟩
  · cases hv
  · simp only [Value.slice.injEq, Option.some.injEq, Addr.mk.injEq] at hv
    obtain ⟨⟨rfl, -, -⟩, -, rfl⟩ := hv
    rw [hg]
    have : cur.toList = xs := by rw [← htk, List.take_of_length_le (by simp; omega)]
    rw [← this]

def lentRow (xs : List Int) : List Value := splice (List.replicate (xs.length + 2) (Value.int .i64 0)) 0 (ints xs)
theorem lentRow_eq (xs : List Int) : lentRow xs = ints xs ++ [.int .i64 0, .int .i64 0] := by
  have : (ints xs).length = xs.length := by simp [ints]
  unfold lentRow splice
  simp [this]

theorem copy_lent {ops : Array Oper} {rest : List Oper} {o : Oper} {a : Act} {Q : Exit → Act → World → Prop} {w w1 : World} {xs : List Int} {ao : Option Addr} {cap : Nat}
    (hgd : o.guard = none) (d s : Operand) (ho : o.op = .call { callee := .builtin .copy, args := #[d, s], argTypes := #[33, 33] })
    (hd : a.eval d = .slice (some ⟨w.heap.size, 0, none⟩) (xs.length + 2) (xs.length + 2)) (hs : a.eval s = .slice ao xs.length cap)
    (HR : Hid (w1.heap[w.heap.size]? = some (.cells (List.replicate (xs.length + 2) (Value.int .i64 0)).toArray 3 (0, 0))))
    (HPOS : Hid (∀ w1, Below w.heap.size w w1 → 0 < (ints xs).length → ∃ ad, ao = some ad ∧ ∀ j v, (ints xs)[j]? = some v → w1.cell? (ad.add j) = some v)) (hb : Below w.heap.size w w1)
    (h : ∀ w', Hid (w'.heap[w.heap.size]? = some (.cells (lentRow xs).toArray 3 (0, 0))) → Below w.heap.size w w' → wpList Tryz.prog ops Q rest (a.put o.dst (goInt xs.length)) w') :
    wpList Tryz.prog ops Q (o :: rest) a w1 := by
  obtain ⟨i0, hi0, hz0, hz1, hz2⟩ := info_parts Tryz.infoInt
  have hlen : (ints xs).length = xs.length := by simp [ints]
  refine wpList_copy_splice hgd d s 33 33 ho 3 Tryz.underlying33 (by rw [hi0]; simp [hz1]) _ _ _ _ _ _ hd hs w.heap.size 0 (List.replicate (xs.length + 2) (Value.int .i64 0)) 3 (unhide HR) (ints xs)
    (by rw [hlen]; show _ = min _ _; omega) (fun hp => ⟨rfl, unhide HPOS w1 hb hp⟩) (by rw [hlen]; simp) ?_ w.heap.size w hb (Nat.le_refl _) ?_
  · intro v hv; unfold ints at hv; obtain ⟨x, _, rfl⟩ := List.mem_map.1 hv; rfl
  · intro w' h1 h2
    rw [hlen]
    exact h w' h1 h2

set_option maxRecDepth 100000 in
set_option maxHeartbeats 400000 in
theorem lent_any (v : Value) (xs : List Int) (w : World) (hl : xs.length ≤ 10000000) (hv : Lies w v (ints xs)) :
    Calls Tryz.prog 11 #[v] w fun e w' => e = .returned (.slice (some ⟨w.heap.size, 0, none⟩) (xs.length + 2) (xs.length + 2)) ∧ w'.heap[w.heap.size]? = some (.cells (ints (xs ++ [77, 0])).toArray 3 (0, 0)) ∧ Below w.heap.size w w' := by
  obtain ⟨i0, hi0, hz0, hz1, hz2⟩ := info_parts Tryz.infoInt
  have hlen : (ints xs).length = xs.length := by simp [ints]
  obtain ⟨ao, cap, hsh⟩ : ∃ ao cap, v = .slice ao xs.length cap := by
    rcases hv with ⟨h0, ao, cap, rfl⟩ | ⟨b, off, cap, hp, rfl, hb, hc⟩
    · refine ⟨ao, cap, ?_⟩; rw [h0] at hlen; rw [← hlen]; rfl
    · exact ⟨_, _, by rw [hlen]⟩
  subst hsh
  have HPOS : Hid (∀ w1, Below w.heap.size w w1 → 0 < (ints xs).length → ∃ ad, ao = some ad ∧ ∀ j v, (ints xs)[j]? = some v → w1.cell? (ad.add j) = some v) := hide (fun w1 hb1 hp => by
    rcases hv with ⟨h0, _⟩ | ⟨b, off, cap', _, hv, hb, hc⟩
    · rw [h0] at hp; cases hp
    · simp only [Value.slice.injEq] at hv
      refine ⟨⟨b, off, none⟩, hv.1, fun j x hx => ?_⟩
      rw [show (⟨b, off, none⟩ : Addr).add j = ⟨b, off + j, none⟩ from by simp [Addr.add]]; exact (hb1.cell (p := ⟨b, off + j, none⟩) hb).trans (hc j x hx))
  clear hv
  have HROW : Hid ((lentRow xs).toArray[xs.length]? = some (.int .i64 0)) := hide (by rw [lentRow_eq]; simp [hlen])
  have HSET : Hid ((lentRow xs).toArray.setIfInBounds xs.length (.int .i64 77) = (ints (xs ++ [77, 0])).toArray) := hide (by rw [lentRow_eq]; simp [ints])
  clear hlen
  go_enter Tryz.func11, Tryz.ntmps11
  go_wp2_with (first
    | (at_make; refine wpList_make_full _ rfl _ _ 33 rfl w.heap.size 3 i0 (.int .i64 0) 1 Tryz.underlying33 hi0 hz0 hz1 .i64 .i64 _ _ (xs.length + 2) rfl rfl (by omega) (by omega) (by rw [hz2]; omega) (by unfold maxLen; omega) (Nat.le_refl _) ?_; intro w1 hown1 hg1; have HR1 : Hid (w1.heap[w.heap.size]? = some (.cells (List.replicate (xs.length + 2) (Value.int .i64 0)).toArray 3 (0, 0))) := hide (by have h1 := row_whole hown1; rw [Nat.mul_one] at h1; rw [h1, ← toList_madeCells_one]; rfl); have hb1 : Below w.heap.size w w1 := (Below.refl _ _).grown hg1 (Nat.le_refl _) (fun k hk => (by cases hk)); clear hown1 hg1)
    | (refine copy_lent (w := w) (xs := xs) rfl _ _ rfl rfl rfl HR1 HPOS hb1 ?_; intro w2 HG2 hB2; have hc2 : w2.cell? ⟨w.heap.size, xs.length, none⟩ = some (.int .i64 0) := (cell_of_row w2 _ _ _ _ _ (unhide HG2)).trans (unhide HROW); have hf2 : w2.frozen? ⟨w.heap.size, xs.length, none⟩ = false := frozen_of_row w2 _ _ _ _ (unhide HG2))
    | fail)
  go_ret
  exact ⟨rfl, by rw [heap_setCell_same _ _ _ _ _ _ (unhide HG2), unhide HSET], hB2.setCell (p := ⟨w.heap.size, xs.length, none⟩) (Nat.le_refl _) _⟩

def backRow (xs : List Int) (k : Nat) : List Value := ints (List.replicate k 78 ++ (xs.drop k ++ [77, 0]))
theorem set_mid (l : List Value) (x y : Value) (t : List Value) (k : Nat) (h : l.length = k) : (l ++ x :: t).toArray.setIfInBounds k y = (l ++ y :: t).toArray := by subst h; simp
theorem backRow_at (xs : List Int) (k : Nat) (h : k < xs.length) : backRow xs k = List.replicate k (.int .i64 78) ++ .int .i64 xs[k] :: ints (xs.drop (k + 1) ++ [77, 0]) := by
  unfold backRow
  rw [List.drop_eq_getElem_cons h]
  simp only [ints, List.map_append, List.map_cons, List.map_replicate, List.cons_append]
theorem backRow_get (xs : List Int) (k : Nat) (h : k < xs.length) : (backRow xs k).toArray[k]? = some (.int .i64 xs[k]) := by
  rw [backRow_at xs k h]
  generalize ints (xs.drop (k + 1) ++ [77, 0]) = t
  simp
theorem backRow_set (xs : List Int) (k : Nat) (h : k < xs.length) : (backRow xs k).toArray.setIfInBounds k (.int .i64 78) = (backRow xs (k + 1)).toArray := by
  have e3 : backRow xs (k + 1) = List.replicate k (.int .i64 78) ++ .int .i64 78 :: ints (xs.drop (k + 1) ++ [77, 0]) := by
    unfold backRow
    rw [List.replicate_succ']
    simp only [ints, List.map_append, List.map_cons, List.map_replicate, List.append_assoc, List.cons_append, List.nil_append, List.map_nil]
  rw [backRow_at xs k h, e3]
  exact set_mid _ _ _ _ _ (by simp)

set_option maxRecDepth 100000 in
set_option maxHeartbeats 400000 in
theorem back_any (g : Nat) (v : Value) (xs : List Int) (w1 : World) (hl : xs.length ≤ 10000000) (hv : Lies w1 v (ints xs)) (hne : xs ≠ [] → v.ownBlock ≠ some g) (hrow : w1.heap[g]? = some (.cells (ints (xs ++ [77, 0])).toArray 3 (0, 0))) :
    Calls Tryz.prog 14 #[.slice (some ⟨g, 0, none⟩) (xs.length + 2) (xs.length + 2), v] w1 fun e w' => e = .returned (.bool true) ∧ Only (· = g) w1 w' := by
  have hlen : (ints xs).length = xs.length := by simp [ints]
  have hc1 : w1.cell? ⟨g, xs.length, none⟩ = some (.int .i64 77) := (cell_of_row w1 _ _ _ _ _ hrow).trans (by simp [ints])
  have hc2 : w1.cell? ⟨g, xs.length + 1, none⟩ = some (.int .i64 0) := (cell_of_row w1 _ _ _ _ _ hrow).trans (by simp [ints])
  have HR : Hid (w1.heap[g]? = some (.cells (backRow xs 0).toArray 3 (0, 0))) := hide (by rw [hrow]; simp [backRow])
  clear hrow
  rcases hv with ⟨h0, ao, cap, rfl⟩ | ⟨b, off, cap, hp, rfl, hbb, hc⟩
  · have hx : xs = [] := by simpa [ints] using h0
    subst hx
    have hc1' : w1.cell? ⟨g, 0, none⟩ = some (.int .i64 77) := hc1
    have hc2' : w1.cell? ⟨g, 1, none⟩ = some (.int .i64 0) := hc2
    clear hc1 hc2
    go_enter Tryz.func14, Tryz.ntmps14
    go_wp2
    refine wp_loop_rounds 1 ?_
    rw [rounds_succ]
    go_wp2
    go_ret
    exact ⟨rfl, Only.refl _ _⟩
  · rw [hlen] at hp ⊢
    go_enter Tryz.func14, Tryz.ntmps14
    go_wp2
    go_loopw [6, 7] (fun ok i wr => ∃ k : Nat, k ≤ xs.length ∧ i = .int .i64 k ∧ ok = .bool true ∧ Hid (wr.heap[g]? = some (.cells (backRow xs k).toArray 3 (0, 0))) ∧ Only (· = g) w1 wr) (fun _ i _ => xs.length - (intOf i).toNat)
    case atStart => exact ⟨0, Nat.zero_le _, rfl, rfl, HR, Only.refl _ _⟩
    case round =>
      obtain ⟨k, hk, rfl, rfl, HG, ho⟩ := hrel
      by_cases hlt : k < xs.length
      · have hcw : wr.cell? ⟨b, off + k, none⟩ = some (.int .i64 xs[k]) := by
          have h1 : wr.heap[b]? = w1.heap[b]? := ho.block b hbb (fun e => hne (fun e => by rw [e] at hp; simp at hp) (by rw [← e]; rfl))
          exact (World.cell?_of_block (w := w1) (a := ⟨b, off + k, none⟩) h1).trans (hc k (.int .i64 xs[k]) (by simp [ints, hlt]))
        have hcl : wr.cell? ⟨g, k, none⟩ = some (.int .i64 xs[k]) := (cell_of_row wr _ _ _ _ _ (unhide HG)).trans (backRow_get xs k hlt)
        have hfl : wr.frozen? ⟨g, k, none⟩ = false := frozen_of_row wr _ _ _ _ (unhide HG)
        have HST := hide (backRow_set xs k hlt)
        have HO := hide ho
        generalize xs[k] = x at hcw hcl
        clear hc ho
        go_wp2
        go_quiet (fail)
        go_wp2
        go_roundw
        case rel =>
          exact ⟨k + 1, by omega, by go_num, by simp, hide (by rw [heap_setCell_same (wr.drewN nq) _ _ _ _ _ (show (wr.drewN nq).heap[g]? = _ from unhide HG), unhide HST]), ((unhide HO).trans (Only.of_below _ (belowDrew (Below.refl _ _) nq))).trans (Only.setCell (F := (· = g)) (p := ⟨g, k, none⟩) rfl _ _)⟩
        case measure => simp [intOf]; omega
      · go_wp2
        go_ret
        exact ⟨rfl, ho⟩

end Go.Proofs.YtgoigckhblffhaaGreatDoorR

namespace Go.Proofs.YtgoigckhblffhaaGreatDoorR
open Go.RowKit

theorem byte_ones : ∀ a : Fin 256, Lib.onesCount a.val = ((List.range 8).filter (fun i => a.val.testBit i)).length := by decide +kernel
theorem filter_shift (m s : Nat) : ((List.range 8).map (· + s)).filter (fun i => m.testBit i) = ((List.range 8).filter (fun i => (m / 2 ^ s % 256).testBit i)).map (· + s) := by
  rw [List.filter_map]
  congr 1
  apply List.filter_congr
  intro i hi
  have hi8 : i < 8 := by simpa using hi
  simp only [Function.comp]
  rw [show (256 : Nat) = 2 ^ 8 from rfl, Nat.testBit_mod_two_pow, Nat.testBit_div_two_pow]
  simp [hi8]
theorem ones_lits {m : Nat} : onesOf m = (Sp.litsOf m).length := by
  have e : List.range 24 = (List.range 8).map (· + 0) ++ (List.range 8).map (· + 8) ++ (List.range 8).map (· + 16) := by decide
  have b := fun (x : Nat) (h : x < 256) => byte_ones ⟨x, h⟩
  unfold Sp.litsOf onesOf
  rw [List.length_map, e, List.filter_append, List.filter_append, filter_shift, filter_shift, filter_shift]
  simp only [List.length_append, List.length_map]
  have h1 := b (m / 65536 % 256) (by omega)
  have h2 := b (m / 256 % 256) (by omega)
  have h3 := b (m % 256) (by omega)
  simp only at h1 h2 h3
  rw [h1, h2, h3]
  simp only [Nat.pow_zero, Nat.div_one, show (2 : Nat) ^ 8 = 256 from rfl, show (2 : Nat) ^ 16 = 65536 from rfl]
  omega

theorem sizes_le (ms : List Nat) : sizes ms ≤ 24 * ms.length := by
  induction ms with
  | nil => simp [sizes]
  | cons a r ih =>
    have := litsOf_len24 a
    simp only [sizes, List.map_cons, List.sum_cons, List.length_cons] at ih ⊢
    omega

/-- What Add answers, and what is kept then. -/
def addTo (ms : List Nat) (xs : List Int) : Int × List Nat :=
  if allInt xs = false then (1, ms) else if alwaysMask (Sp.maskOf xs) = true then (0, ms) else if 400 < sizes ms + (Sp.litsOf (Sp.maskOf xs)).length then (2, ms) else (0, ms ++ [Sp.maskOf xs])

theorem Tryz.infoClauseK : (Tryz.prog.info? 68).map (fun i => (i.zero, i.size, i.bytes)) = some (some (.int .u32 0), 1, 4) := by kernel_rfl

theorem append_cell {P : Program} {ops : Array Oper} {rest : List Oper} {o : Oper} {a : Act} {Q : Exit → Act → World → Prop} {w1 : World} {base n bytes : Nat} {v val z : Value} {xs : List Value} {tt : TypeId}
    (hgd : o.guard = none) (s x : Operand) (t e : TypeId) (ho : o.op = .call { callee := .builtin .append, args := #[s, x], argTypes := #[t, t] })
    (ht : P.underlying t = some (.slice e)) (hinfo : (P.info? e).map (fun i => (i.zero, i.size, i.bytes)) = some (some z, 1, bytes)) (hzs : z.cells.size = 1) (hby : bytes ≤ 24)
    (hown : w1.ownsRow base e 1 v n xs) (hs : a.eval s = v) (hx : a.eval x = .slice (some ⟨w1.heap.size, 0, none⟩) 1 1) (h1 : val.oneCell' = true) (hn : n ≤ 20000000) (hbase : base ≤ w1.heap.size)
    (h : ∀ (g cap : Nat) (w' : World), w'.ownsRow base e 1 (.slice (some ⟨g, 0, none⟩) (n + 1) cap) (n + 1) (xs ++ [val]) → (w1.alloc (.cells #[val] tt)).grownBy w' v.ownBlock → (v.ownBlock = some g ∨ g = (w1.alloc (.cells #[val] tt)).heap.size) → wpList P ops Q rest (a.put o.dst (.slice (some ⟨g, 0, none⟩) (n + 1) cap)) w') :
    wpList P ops Q (o :: rest) a (w1.alloc (.cells #[val] tt)) := by
  obtain ⟨i0, hi0, hz0, hz1, hz2⟩ := info_parts hinfo
  have hnb : (n + 1) * bytes ≤ 140737488355328 := Nat.le_trans (Nat.mul_le_mul (Nat.add_le_add_right hn 1) hby) (by omega)
  refine wpList_append_lies (P := P) _ hgd s x t ho base e i0 _ 1 bytes ht hi0 hz0 hz1 hz2 hzs (by decide) v n xs hs (hown.alloc _) ⟨w1.heap.size, 0, none⟩ 1 1 [val] hx rfl (cell_one_new _ _ _) ?_ (by decide) (by unfold maxLen; omega) hnb (by simp; omega) _ rfl ?_
  · intro u hu; simp at hu; subst hu; exact h1
  · intro g cap w' h1 h2 h3 _
    exact h g cap w' h1 h2 h3

def XF (x : Nat) (kv : Value) (k : Nat) : Prop := k = x ∨ kv.ownBlock = some k
/-- What an Add of the program's leaves. -/
def AddX (base x : Nat) (kv : Value) (ms : List Nat) (xs : List Int) (w w' : World) : Prop :=
  ∃ kv', XAt base w' x kv' (addTo ms xs).2 ∧ Only (XF x kv) w w' ∧ ∀ g, kv'.ownBlock = some g → kv.ownBlock = some g ∨ w.heap.size ≤ g

theorem XAt.below {base : Nat} {w w' : World} {x : Nat} {kv : Value} {ms : List Nat} (h : XAt base w x kv ms) (hb : Below w.heap.size w w') : XAt base w' x kv ms :=
  ⟨(hb.block x (lt_of_block h.block)).trans h.block, h.le, owns_at h.row (fun g hg => hb.block g (h.row.lt g hg).2)⟩
theorem AddX.stay {base x : Nat} {kv : Value} {ms : List Nat} {xs : List Int} {w w' : World} (h : XAt base w x kv ms) (hb : Below w.heap.size w w') (ha : (addTo ms xs).2 = ms) : AddX base x kv ms xs w w' :=
  ⟨kv, by rw [ha]; exact h.below hb, Only.of_below _ hb, fun g hg => .inl hg⟩

theorem us_snoc (ms : List Nat) (m : Nat) : us (ms ++ [m]) = us ms ++ [.int .u32 (m : Int)] := by simp [us]
/-- Behind the append, ahead of the stores. -/
structure Mid (base x : Nat) (kv : Value) (ms : List Nat) (m : Nat) (w w4 : World) (g' cap' : Nat) : Prop where
  block : w4.heap[x]? = some (.cells #[kv, .int .i64 (sizes ms : Int)] 66 (0, 0))
  row : w4.ownsRow base 68 1 (.slice (some ⟨g', 0, none⟩) (ms.length + 1) cap') (ms.length + 1) (us ms ++ [.int .u32 (m : Int)])
  only : Only (XF x kv) w w4
  loc : kv.ownBlock = some g' ∨ w.heap.size ≤ g'
  ne : g' ≠ x
theorem mid_of {base x : Nat} {kv : Value} {ms : List Nat} {m : Nat} {w wz w4 : World} {g' cap' : Nat} {o : Obj} (hX : XAt base w x kv ms) (hz : Below w.heap.size w wz)
    (hown : w4.ownsRow base 68 1 (.slice (some ⟨g', 0, none⟩) (ms.length + 1) cap') (ms.length + 1) (us ms ++ [.int .u32 (m : Int)])) (hgr : (wz.alloc o).grownBy w4 kv.ownBlock) (hloc : kv.ownBlock = some g' ∨ g' = (wz.alloc o).heap.size) :
    Mid base x kv ms m w w4 g' cap' := by
  have hlt := lt_of_block hX.block
  have hzs := hz.size
  have hne : kv.ownBlock ≠ some x := row_ne hX.row hX.block (by decide)
  have hb1 : (wz.alloc o).heap[x]? = some (.cells #[kv, .int .i64 (sizes ms : Int)] 66 (0, 0)) := by
    rw [Below.heap_alloc _ _ _ (by omega), hz.block x hlt]; exact hX.block
  refine ⟨by rw [hgr.block x (lt_of_block hb1) (fun e => hne e.symm)]; exact hb1, hown, (Only.of_below _ hz).trans ((Only.alloc _ wz o).trans (Only.grown hgr (fun k hk => .inr hk))), ?_, ?_⟩
  · rcases hloc with h | h
    · exact .inl h
    · exact .inr (by rw [h]; simp; omega)
  · rcases hloc with h | h
    · intro e; subst e; exact hne h
    · rw [h]; simp; omega
theorem Mid.cell0 {base x : Nat} {kv : Value} {ms : List Nat} {m : Nat} {w w4 : World} {g' cap' : Nat} (h : Mid base x kv ms m w w4 g' cap') : w4.cell? ⟨x, 0, none⟩ = some kv := by simp [World.cell?, h.block]
theorem Mid.cell1 {base x : Nat} {kv : Value} {ms : List Nat} {m : Nat} {w w4 : World} {g' cap' : Nat} (h : Mid base x kv ms m w w4 g' cap') : w4.cell? ⟨x, 1, none⟩ = some (.int .i64 (sizes ms : Int)) := by simp [World.cell?, h.block]
theorem Mid.free {base x : Nat} {kv : Value} {ms : List Nat} {m : Nat} {w w4 : World} {g' cap' : Nat} (h : Mid base x kv ms m w w4 g' cap') (j : Nat) : w4.frozen? ⟨x, j, none⟩ = false := frozen_of_row w4 _ _ _ _ h.block
theorem row_drew {w : World} {base : Nat} {e : TypeId} {s : Nat} {v : Value} {n : Nat} {xs : List Value} (h : w.ownsRow base e s v n xs) (q : Nat) : (w.drewN q).ownsRow base e s v n xs := owns_at h (fun _ _ => rfl)
theorem Mid.fin {base x : Nat} {kv : Value} {ms : List Nat} {m : Nat} {w w4 wm : World} {g' cap' : Nat} (h : Mid base x kv ms m w w4 g' cap') (hle : base ≤ x) (hm : Below (w4.setCell ⟨x, 0, none⟩ (.slice (some ⟨g', 0, none⟩) (ms.length + 1) cap')).heap.size (w4.setCell ⟨x, 0, none⟩ (.slice (some ⟨g', 0, none⟩) (ms.length + 1) cap')) wm)
    {n : Int} (hn : n = (sizes (ms ++ [m]) : Nat)) (_hlt : x < w.heap.size) : XAt base (wm.setCell ⟨x, 1, none⟩ (.int .i64 n)) x (.slice (some ⟨g', 0, none⟩) (ms.length + 1) cap') (ms ++ [m]) ∧ Only (XF x kv) w (wm.setCell ⟨x, 1, none⟩ (.int .i64 n)) := by
  subst hn
  have h0 := heap_setCell_same w4 x 0 _ _ (.slice (some ⟨g', 0, none⟩) (ms.length + 1) cap') h.block
  have hlt4 := lt_of_block h0
  have h1 := (hm.block x hlt4).trans h0
  have h2 := heap_setCell_same wm x 1 _ _ (.int .i64 (sizes (ms ++ [m]) : Nat)) h1
  refine ⟨⟨by rw [h2]; rfl, hle, ?_⟩, ?_⟩
  · rw [List.length_append, us_snoc]
    have r1 := ownsRow_setCell_other h.row (a := ⟨x, 0, none⟩) (by simp [Value.ownBlock]; exact h.ne) (.slice (some ⟨g', 0, none⟩) (ms.length + 1) cap')
    have r2 := owns_below r1 hm
    exact ownsRow_setCell_other r2 (a := ⟨x, 1, none⟩) (by simp [Value.ownBlock]; exact h.ne) _
  · exact h.only.trans ((Only.setCell (F := XF x kv) (p := ⟨x, 0, none⟩) (.inl rfl) _ _).trans ((Only.of_below _ hm).trans (Only.setCell (F := XF x kv) (p := ⟨x, 1, none⟩) (.inl rfl) _ _)))
theorem AddX.grow {base x : Nat} {kv : Value} {ms : List Nat} {m : Nat} {xs : List Int} {w w4 w' : World} {g' cap' : Nat} (h : Mid base x kv ms m w w4 g' cap') (hx : XAt base w' x (.slice (some ⟨g', 0, none⟩) (ms.length + 1) cap') (ms ++ [m])) (ho : Only (XF x kv) w w') (ha : (addTo ms xs).2 = ms ++ [m]) : AddX base x kv ms xs w w' :=
  ⟨_, by rw [ha]; exact hx, ho, fun g hg => by simp [Value.ownBlock] at hg; subst hg; exact h.loc⟩

set_option maxRecDepth 100000 in
set_option maxHeartbeats 1600000 in
theorem addX_any (base x : Nat) (kv v : Value) (ms : List Nat) (xs : List Int) (w : World) (hX : XAt base w x kv ms) (hms : ms.length ≤ 10000000) (hl : xs.length ≤ 10000000) (hv : Lies w v (ints xs)) :
    Calls Tryz.prog 12 #[.pointer (some ⟨x, 0, none⟩), v] w fun e w' => e = .returned (.int .i64 (addTo ms xs).1) ∧ AddX base x kv ms xs w w' := by
  have HF := hide (fromNumbers_any v xs w hl hv)
  have hszl := sizes_le ms
  obtain ⟨ao, cp, hsh⟩ := owns_shape hX.row
  subst hsh
  have hc0 : w.cell? ⟨x, 0, none⟩ = some (.slice ao ms.length cp) := by simp [World.cell?, hX.block]
  have hc1 : w.cell? ⟨x, 1, none⟩ = some (.int .i64 (sizes ms : Int)) := by simp [World.cell?, hX.block]
  have HX := hide hX
  clear hX hv
  cases ha : allInt xs
  · have HT : Hid (addTo ms xs = (1, ms)) := hide (by unfold addTo; rw [if_pos ha])
    have HA := hide ha
    clear ha
    go_enter Tryz.func12, Tryz.ntmps12
    go_wp2_with fail
    refine (unhide HF).mono ?_
    rintro e w1 ⟨rfl, ⟨h1, rfl⟩ | ⟨h1, rfl⟩⟩
    · clear h1
      go_wp2
      go_ret
      exact ⟨by rw [unhide HT]; rfl, AddX.stay (unhide HX) (Below.refl _ _) (by rw [unhide HT])⟩
    · rw [unhide HA] at h1; cases h1
  · have hbd : ∀ y, y ∈ xs → y ≠ 0 ∧ -12 ≤ y ∧ y ≤ 12 := fun y hy => isLit_iff.1 (by rw [allInt, List.all_eq_true] at ha; exact ha y hy)
    have hm : Sp.maskOf xs < 2 ^ 24 := Sp.maskOf_lt _ (fun y hy => (hbd y hy).2)
    have HAL := hide (fun wx => alwaysTrue_any (Sp.maskOf xs) wx hm)
    have HSI := hide (fun wx => size_any (Sp.maskOf xs) wx hm)
    rw [ones_lits] at HSI
    have h24 := litsOf_len24 (Sp.maskOf xs)
    have HT0 : Hid (alwaysMask (Sp.maskOf xs) = true → addTo ms xs = (0, ms)) := hide (fun h => by unfold addTo; rw [if_neg (by rw [ha]; decide), if_pos h])
    have HT2 : Hid (alwaysMask (Sp.maskOf xs) = false → 400 < sizes ms + (Sp.litsOf (Sp.maskOf xs)).length → addTo ms xs = (2, ms)) := hide (fun h h2 => by unfold addTo; rw [if_neg (by rw [ha]; decide), if_neg (by rw [h]; decide), if_pos h2])
    have HT3 : Hid (alwaysMask (Sp.maskOf xs) = false → ¬ 400 < sizes ms + (Sp.litsOf (Sp.maskOf xs)).length → addTo ms xs = (0, ms ++ [Sp.maskOf xs])) := hide (fun h h2 => by unfold addTo; rw [if_neg (by rw [ha]; decide), if_neg (by rw [h]; decide), if_neg h2])
    have HSN := hide (sizes_snoc ms (Sp.maskOf xs))
    have HA := hide ha
    clear ha hbd
    generalize hsz : (Sp.litsOf (Sp.maskOf xs)).length = sz at *
    clear hsz
    generalize hmm : Sp.maskOf xs = m at *
    have HMM := hide hmm
    clear hmm
    generalize hal : alwaysMask m = al at *
    clear hal
    generalize hai : allInt xs = ai at *
    clear hai
    have hwr : IntKind.i64.wrap ((sizes ms : Int) + (sz : Int)) = (sizes ms : Int) + (sz : Int) := by rw [IntKind.wrap_i64]; omega
    cases al
    · by_cases h4 : 400 < sizes ms + sz
      · have HT := hide (unhide HT2 rfl h4)
        clear HT0 HT2 HT3
        go_enter Tryz.func12, Tryz.ntmps12
        go_wp2_with fail
        refine (unhide HF).mono ?_
        rintro e w1 ⟨rfl, ⟨h1, rfl⟩ | ⟨h1, rfl⟩⟩
        · rw [unhide HA] at h1; cases h1
        · clear h1
          go_wp2_with fail
          refine (unhide HAL _).mono ?_
          rintro e w2 ⟨rfl, q, rfl⟩
          go_wp2
          go_region_with (go_at_call 27; refine (unhide HSI _).mono ?_; rintro e w3 ⟨rfl, q2, rfl⟩)
          all_goals go_wp2
          all_goals go_ret
          all_goals exact ⟨by rw [unhide HT]; rfl, AddX.stay (unhide HX) (belowDrew (Below.refl _ _) _) (by rw [unhide HT])⟩
      · have HT := hide (unhide HT3 rfl h4)
        clear HT0 HT2 HT3
        go_enter Tryz.func12, Tryz.ntmps12
        go_wp2_with fail
        refine (unhide HF).mono ?_
        rintro e w1 ⟨rfl, ⟨h1, rfl⟩ | ⟨h1, rfl⟩⟩
        · rw [unhide HA] at h1; cases h1
        · clear h1
          have hbase : base ≤ w1.heap.size := Nat.le_trans (unhide HX).le (Nat.le_of_lt (lt_of_block (unhide HX).block))
          go_wp2_with fail
          refine (unhide HAL _).mono ?_
          rintro e w2 ⟨rfl, q, rfl⟩
          go_wp2
          go_region_with (go_at_call 27; refine (unhide HSI _).mono ?_; rintro e w3 ⟨rfl, q2, rfl⟩)
          all_goals go_wp2_with (at_builtin; refine append_cell (base := base) rfl _ _ 64 68 rfl Tryz.underlying64 Tryz.infoClauseK rfl (by decide) (row_drew (unhide HX).row _) rfl rfl rfl (by omega) hbase ?_; intro g' cap' w4 hown4 hgr4 hloc; have HMID := hide (mid_of (unhide HX) (belowDrew (Below.refl _ _) _) hown4 hgr4 hloc); clear hown4 hgr4 hloc; have hc04 := (unhide HMID).cell0; have hc14 := (unhide HMID).cell1; have hf04 := (unhide HMID).free 0; have hf14 := (unhide HMID).free 1)
          all_goals go_region_with (go_at_call 27; refine (unhide HSI _).mono ?_; rintro e w5 ⟨rfl, q3, rfl⟩)
          all_goals go_wp2
          all_goals go_ret
          all_goals exact ⟨by rw [unhide HT]; rfl, AddX.grow (unhide HMID) (Mid.fin (unhide HMID) (unhide HX).le (belowDrew (Below.refl _ _) _) (by rw [unhide HSN]; omega) (lt_of_block (unhide HX).block)).1 (Mid.fin (unhide HMID) (unhide HX).le (belowDrew (Below.refl _ _) _) (by rw [unhide HSN]; omega) (lt_of_block (unhide HX).block)).2 (by rw [unhide HT])⟩
    · have HT := hide (unhide HT0 rfl)
      clear HT0 HT2 HT3
      go_enter Tryz.func12, Tryz.ntmps12
      go_wp2_with fail
      refine (unhide HF).mono ?_
      rintro e w1 ⟨rfl, ⟨h1, rfl⟩ | ⟨h1, rfl⟩⟩
      · rw [unhide HA] at h1; cases h1
      · clear h1
        go_wp2_with fail
        refine (unhide HAL _).mono ?_
        rintro e w2 ⟨rfl, q, rfl⟩
        go_wp2
        go_ret
        exact ⟨by rw [unhide HT]; rfl, AddX.stay (unhide HX) (belowDrew (Below.refl _ _) q) (by rw [unhide HT])⟩

end Go.Proofs.YtgoigckhblffhaaGreatDoorR
