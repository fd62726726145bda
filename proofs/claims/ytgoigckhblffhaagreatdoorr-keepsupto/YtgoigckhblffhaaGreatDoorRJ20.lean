import Derived.Test.YtgoigckhblffhaaGreatDoorRJ19
import Derived.Test.YtgoigckhblffhaaGreatDoorRJ09
import Derived.Test.YtgoigckhblffhaaGreatDoorRJ17
import Derived.Deep.QuietTactic
import Derived.Deep.DeepCutAuto
import Derived.BigQuiet
namespace Go.Proofs.YtgoigckhblffhaaGreatDoorR
open Go.RowKit

theorem rows_differ {w : World} {b1 b2 n m s1 s2 : Nat} {e1 e2 : TypeId} {x y : Value} {xs ys : List Value} (he : e1 ≠ e2) (hx : w.ownsRow b1 e1 s1 x n xs) (hy : w.ownsRow b2 e2 s2 y m ys) {g : Nat} (h1 : x.ownBlock = some g) (h2 : y.ownBlock = some g) : False := by
  rcases hy.2 with ⟨hv, _⟩ | ⟨g', cap, cur, hv, _, hg, _⟩
  · rw [hv] at h2; cases h2
  · rw [hv] at h2
    simp [Value.ownBlock] at h2
    subst h2
    exact row_ne hx hg (Ne.symm he) h1

theorem YAt.overX {base : Nat} {w w' : World} {x y : Nat} {kv lv : Value} {vs : List Value} {ms ms' : List Nat} (hY : YAt base w y lv vs ms') (hX : XAt base w x kv ms) (ho : Only (XF x kv) w w') : YAt base w' y lv vs ms' := by
  have hyx : y ≠ x := by intro e; subst e; have := hX.block.symm.trans hY.block; simp at this
  refine ⟨(ho.block y (lt_of_block hY.block) (fun h => h.elim hyx (row_ne hX.row hY.block (by decide)))).trans hY.block, hY.le, owns_at hY.row (fun g hg => ho.block g (hY.row.lt g hg).2 (fun h => h.elim (fun e => row_ne hY.row hX.block (by decide) (by rw [← e]; exact hg)) (fun e => rows_differ (by decide) hX.row hY.row e hg))), hY.rows.1, fun i r c hr hc => ?_⟩
  have hrow := hY.rows.2 i r c hr hc
  exact owns_at hrow (fun g hg => ho.block g (hrow.lt g hg).2 (fun h => h.elim (fun e => row_ne hrow hX.block (by decide) (by rw [← e]; exact hg)) (fun e => rows_differ (by decide) hX.row hrow e hg)))
theorem XAt.overY {base : Nat} {w w' : World} {x y : Nat} {kv lv : Value} {vs : List Value} {ms ms' : List Nat} (hX : XAt base w x kv ms) (hY : YAt base w y lv vs ms') (ho : Only (YF y lv) w w') : XAt base w' x kv ms := by
  have hyx : x ≠ y := by intro e; subst e; have := hX.block.symm.trans hY.block; simp at this
  exact ⟨(ho.block x (lt_of_block hX.block) (fun h => h.elim hyx (row_ne hY.row hX.block (by decide)))).trans hX.block, hX.le, owns_at hX.row (fun g hg => ho.block g (hX.row.lt g hg).2 (fun h => h.elim (fun e => row_ne hX.row hY.block (by decide) (by rw [← e]; exact hg)) (fun e => rows_differ (by decide) hX.row hY.row hg e)))⟩
theorem XAt.overG {base : Nat} {w w' : World} {x g : Nat} {kv : Value} {ms : List Nat} (hX : XAt base w x kv ms) (ho : Only (· = g) w w') (h1 : x ≠ g) (h2 : kv.ownBlock ≠ some g) : XAt base w' x kv ms :=
  ⟨(ho.block x (lt_of_block hX.block) h1).trans hX.block, hX.le, owns_at hX.row (fun k hk => ho.block k (hX.row.lt k hk).2 (fun e => h2 (by rw [← e]; exact hk)))⟩
theorem YAt.overG {base : Nat} {w w' : World} {y g : Nat} {lv : Value} {vs : List Value} {ms : List Nat} (hY : YAt base w y lv vs ms) (ho : Only (· = g) w w') (h1 : y ≠ g) (h2 : lv.ownBlock ≠ some g) (h3 : ∀ v, v ∈ vs → v.ownBlock ≠ some g) : YAt base w' y lv vs ms :=
  ⟨(ho.block y (lt_of_block hY.block) h1).trans hY.block, hY.le, owns_at hY.row (fun k hk => ho.block k (hY.row.lt k hk).2 (fun e => h2 (by rw [← e]; exact hk))), hY.rows.1, fun i r c hr hc =>
    owns_at (hY.rows.2 i r c hr hc) (fun k hk => ho.block k ((hY.rows.2 i r c hr hc).lt k hk).2 (fun e => h3 r (List.mem_of_getElem? hr) (by rw [← e]; exact hk)))⟩
theorem lies_only {F : Nat → Prop} {w w' : World} {v : Value} {vs : List Value} (h : Lies w v vs) (ho : Only F w w') (hn : vs ≠ [] → ∀ g, v.ownBlock = some g → g < w.heap.size → ¬ F g) : Lies w' v vs := by
  rcases h with h | ⟨b, off, cap, hp, rfl, hb, hc⟩
  · exact .inl h
  · exact .inr ⟨b, off, cap, hp, rfl, Nat.lt_of_lt_of_le hb ho.size, fun k x hx => (World.cell?_of_block (w := w) (a := ⟨b, off + k, none⟩) (ho.block b hb (hn (List.length_pos_iff.1 hp) b rfl hb))).trans (hc k x hx)⟩

/-- A step's value. -/
def opVal (kind a b : Int) (s t : List UInt8) (v : Value) : Value := .agg #[.int .i64 kind, .int .i64 a, .int .i64 b, .string (bs s), .string (bs t), v]

/-- What a step on a side comes to. -/
def StepOk (base B n L : Nat) (w w' : World) : Prop := WAt base w' B n L ∧ Below base w w'

end Go.Proofs.YtgoigckhblffhaaGreatDoorR

namespace Go.Proofs.YtgoigckhblffhaaGreatDoorR
open Go.RowKit

theorem below_alloc (w : World) (o : Obj) : Below w.heap.size w (w.alloc o) := (Below.refl _ _).alloc (Nat.le_refl _) o

def opObj (kind a b : Int) (s t : List UInt8) (v : Value) : Obj := .cells #[.int .i64 kind, .int .i64 a, .int .i64 b, .string (bs s), .string (bs t), v] 35
/-- The step's own copy of what came in. -/
structure OpIn (w w1 : World) (kind a b : Int) (s t : List UInt8) (v : Value) : Prop where
  below : Below w.heap.size w w1
  size : w1.heap.size = w.heap.size + 1
  c0 : w1.cell? ⟨w.heap.size, 0, none⟩ = some (.int .i64 kind)
  c1 : w1.cell? ⟨w.heap.size, 1, none⟩ = some (.int .i64 a)
  c2 : w1.cell? ⟨w.heap.size, 2, none⟩ = some (.int .i64 b)
  c3 : w1.cell? ⟨w.heap.size, 3, none⟩ = some (.string (bs s))
  c4 : w1.cell? ⟨w.heap.size, 4, none⟩ = some (.string (bs t))
  c5 : w1.cell? ⟨w.heap.size, 5, none⟩ = some v
theorem op_in (w : World) (kind a b : Int) (s t : List UInt8) (v : Value) : ∃ w1, w.alloc (.cells #[.int .i64 kind, .int .i64 a, .int .i64 b, .string (bs s), .string (bs t), v] 35) = w1 ∧ OpIn w w1 kind a b s t v := by
  have hh : ∀ o : Obj, (w.alloc o).heap[w.heap.size]? = some o := fun o => by show (w.heap.push o)[w.heap.size]? = _; simp
  have h := hh (.cells #[.int .i64 kind, .int .i64 a, .int .i64 b, .string (bs s), .string (bs t), v] 35)
  exact ⟨_, rfl, below_alloc _ _, by simp, cell_of_row _ _ 0 _ _ _ h, cell_of_row _ _ 1 _ _ _ h, cell_of_row _ _ 2 _ _ _ h, cell_of_row _ _ 3 _ _ _ h, cell_of_row _ _ 4 _ _ _ h, cell_of_row _ _ 5 _ _ _ h⟩

set_option maxRecDepth 100000 in
theorem step_plain (B : Nat) (a b : Int) (s t : List UInt8) (v : Value) (w : World) (hs : s.length ≤ 9223372036854775807) (he : Env w) :
    Calls Tryz.prog 5 #[.pointer (some ⟨B, 0, none⟩), opVal 1 a b s t v] w fun e w' => e = .returned (.bool true) ∧ Below w.heap.size w w' := by
  have HP := hide (fun wx (hb : Below w.heap.size w wx) => lawPlain_any s wx hs (he.below hb))
  unfold opVal
  go_enter Tryz.func5, Tryz.ntmps5
  go_wp2_with fail
  have hb0 := below_alloc w (.cells #[.int .i64 1, .int .i64 a, .int .i64 b, .string (bs s), .string (bs t), v] 35)
  refine (unhide HP _ hb0).mono ?_
  rintro e w1 ⟨rfl, hb1⟩
  go_wp2
  go_ret
  exact ⟨rfl, hb0.trans (hb1.mono hb0.size)⟩

set_option maxRecDepth 100000 in
theorem step_check (B : Nat) (a b : Int) (s t : List UInt8) (v : Value) (w : World) (hs : s.length ≤ 9223372036854775807) (ht : t.length ≤ 9223372036854775807) (he : Env w) :
    Calls Tryz.prog 5 #[.pointer (some ⟨B, 0, none⟩), opVal 2 a b s t v] w fun e w' => e = .returned (.bool true) ∧ Below w.heap.size w w' := by
  have HP := hide (fun wx (hb : Below w.heap.size w wx) => lawChecked_any s t wx hs ht (he.below hb))
  unfold opVal
  go_enter Tryz.func5, Tryz.ntmps5
  go_wp2_with fail
  have hb0 := below_alloc w (.cells #[.int .i64 2, .int .i64 a, .int .i64 b, .string (bs s), .string (bs t), v] 35)
  refine (unhide HP _ hb0).mono ?_
  rintro e w1 ⟨rfl, hb1⟩
  go_wp2
  go_ret
  exact ⟨rfl, hb0.trans (hb1.mono hb0.size)⟩

theorem WIs.cells {base : Nat} {w : World} {B n : Nat} {lv : Value} {p : Nat → Nat} {F : Nat → Nat → Prop} {ms : Nat → List Nat} (h : WIs base w B n lv p F ms) (hn : 0 < n) :
    ∃ g cp, lv = .slice (some ⟨g, 0, none⟩) n cp ∧ w.cell? ⟨B, 0, none⟩ = some lv ∧ ∀ d, d < n → w.cell? ⟨g, d, none⟩ = some (.pointer (some ⟨p d, 0, none⟩)) := by
  have hc : w.cell? ⟨B, 0, none⟩ = some lv := by simp [World.cell?, h.block]
  have hrow := h.row
  rcases hrow.2 with ⟨_, h0⟩ | ⟨g, cp, cur, rfl, _⟩
  · omega
  · refine ⟨g, cp, rfl, hc, fun d hd => ?_⟩
    rw [hrow.cellAt d (by omega)]
    simp [hd]

set_option maxRecDepth 100000 in
set_option maxHeartbeats 800000 in
theorem step_idle (base B n : Nat) (kind a b : Int) (s t : List UInt8) (v lv : Value) (p : Nat → Nat) (F : Nat → Nat → Prop) (ms : Nat → List Nat) (w : World) (hk : kind < 1) (h0 : -9223372036854775808 ≤ a) (h1 : a ≤ 9223372036854775807) (hn : 0 < n) (hW : WIs base w B n lv p F ms) :
    Calls Tryz.prog 5 #[.pointer (some ⟨B, 0, none⟩), opVal kind a b s t v] w fun e w' => e = .returned (.bool true) ∧ Below w.heap.size w w' := by
  obtain ⟨g, cp, rfl, hc0, hcd⟩ := hW.cells hn
  have h4 := hW.four
  have hBl := lt_of_block hW.block
  have hgl := (hW.row.lt g rfl).2
  have HP := hide (fun wx => pick_any a n wx h0 h1 hn h4)
  have HCD := hide hcd
  clear hcd hW
  have q0 : ¬ kind = 1 := by omega
  have q1 : (kind == 1) = false := by rw [beq_eq_false_iff_ne]; omega
  have q2 : (kind == 2) = false := by rw [beq_eq_false_iff_ne]; omega
  have q3 : (kind == 3) = false := by rw [beq_eq_false_iff_ne]; omega
  have q4 : (kind == 4) = false := by rw [beq_eq_false_iff_ne]; omega
  have q5 : (kind == 5) = false := by rw [beq_eq_false_iff_ne]; omega
  have q6 : (kind == 6) = false := by rw [beq_eq_false_iff_ne]; omega
  have q7 : (kind == 7) = false := by rw [beq_eq_false_iff_ne]; omega
  have q8 : (kind == 8) = false := by rw [beq_eq_false_iff_ne]; omega
  clear hk
  unfold opVal
  obtain ⟨w1, hw1, hop⟩ := op_in w kind a b s t v
  have c0 := hop.c0
  have c1 := hop.c1
  have hcB : w1.cell? ⟨B, 0, none⟩ = some (.slice (some ⟨g, 0, none⟩) n cp) := (hop.below.cell (p := ⟨B, 0, none⟩) hBl).trans hc0
  have HB1 := hide hop.below
  have HCD1 : Hid (∀ d, d < n → w1.cell? ⟨g, d, none⟩ = some (.pointer (some ⟨p d, 0, none⟩))) := hide (fun d hd => (hop.below.cell (p := ⟨g, d, none⟩) hgl).trans (unhide HCD d hd))
  have hd := pickOf_lt a hn
  have hcd := unhide HCD1 (pickOf a n) hd
  generalize pickOf a n = d at *
  clear hop HCD hc0
  go_enter Tryz.func5, Tryz.ntmps5
  go_wp2
  go_quiet ((go_at_call 10; refine Calls.quiet_of_same (unhide HP _)))
  go_wp2
  go_ret
  exact ⟨rfl, belowDrew (unhide HB1) _⟩

end Go.Proofs.YtgoigckhblffhaaGreatDoorR

namespace Go.Proofs.YtgoigckhblffhaaGreatDoorR
open Go.RowKit

theorem SideIs.cellX {base : Nat} {w : World} {F : Nat → Prop} {p x : Nat} {kv : Value} {y : Nat} {lv : Value} {vs : List Value} {ms : List Nat} (h : SideIs base w F p x kv y lv vs ms) : w.cell? ⟨p, 0, none⟩ = some (.pointer (some ⟨x, 0, none⟩)) := by
  obtain ⟨pr, gr, la, en, hb⟩ := h.block
  exact cell_of_row _ _ 0 _ _ _ hb
theorem SideIs.cellY {base : Nat} {w : World} {F : Nat → Prop} {p x : Nat} {kv : Value} {y : Nat} {lv : Value} {vs : List Value} {ms : List Nat} (h : SideIs base w F p x kv y lv vs ms) : w.cell? ⟨p, 1, none⟩ = some (.pointer (some ⟨y, 0, none⟩)) := by
  obtain ⟨pr, gr, la, en, hb⟩ := h.block
  exact cell_of_row _ _ 1 _ _ _ hb
theorem SideIs.ltp {base : Nat} {w : World} {F : Nat → Prop} {p x : Nat} {kv : Value} {y : Nat} {lv : Value} {vs : List Value} {ms : List Nat} (h : SideIs base w F p x kv y lv vs ms) : p < w.heap.size := by
  obtain ⟨pr, gr, la, en, hb⟩ := h.block
  exact lt_of_block hb

/-- One side has changed. -/
def Turned (base : Nat) (w w' : World) (Fd : Nat → Prop) (pd : Nat) (md : List Nat) : Prop := ∃ F' ms', Only Fd w w' ∧ SideAt base w' F' pd ms' ∧ (∀ k, F' k → Fd k ∨ w.heap.size ≤ k) ∧ ms'.length ≤ md.length + 1

theorem SideIs.block2 {base : Nat} {w wq w2 : World} {F : Nat → Prop} {p x : Nat} {kv : Value} {y : Nat} {lv : Value} {vs : List Value} {ms : List Nat} (h : SideIs base w F p x kv y lv vs ms) (hb : Below w.heap.size w wq) (ho : Only (· = x) wq w2) :
    ∃ pr gr la en, w2.heap[p]? = some (.cells #[.pointer (some ⟨x, 0, none⟩), .pointer (some ⟨y, 0, none⟩), .string pr, .bool gr, .string la, .bool en] 47 (0, 0)) := by
  obtain ⟨pr, gr, la, en, hblk⟩ := h.block
  have hne : p ≠ x := by intro e; subst e; have := hblk.symm.trans h.prog.block; simp at this
  have hq := (hb.block p (lt_of_block hblk)).trans hblk
  exact ⟨pr, gr, la, en, (ho.block p (lt_of_block hq) hne).trans hq⟩
def resetWorld (w2 : World) (p : Nat) : World := ((((w2.setCell ⟨p, 1, none⟩ (.pointer (some ⟨w2.heap.size, 0, none⟩))).setCell ⟨p, 2, none⟩ (.string ⟨#[]⟩)).setCell ⟨p, 3, none⟩ (.bool false)).setCell ⟨p, 5, none⟩ (.bool false)).alloc (.cells #[.slice none 0 0] 45)
theorem reset_fin {base : Nat} {w wq w2 : World} {F : Nat → Prop} {p x : Nat} {kv : Value} {y : Nat} {lv : Value} {vs : List Value} {ms : List Nat} {pr la : ByteArray} {gr en : Bool} (h : SideIs base w F p x kv y lv vs ms) (hb : Below w.heap.size w wq) (hx : XAt base w2 x (.slice none 0 0) []) (ho : Only (· = x) wq w2)
    (hblk : w2.heap[p]? = some (.cells #[.pointer (some ⟨x, 0, none⟩), .pointer (some ⟨y, 0, none⟩), .string pr, .bool gr, .string la, .bool en] 47 (0, 0))) : Turned base w (resetWorld w2 p) F p ms := by
  have hpl := lt_of_block hblk
  have hxl := lt_of_block hx.block
  have hxp : x ≠ p := by intro e; subst e; have := hblk.symm.trans hx.block; simp at this
  have hsz : w.heap.size ≤ w2.heap.size := Nat.le_trans hb.size ho.size
  have b1 := heap_setCell_same w2 p 1 _ _ (.pointer (some ⟨w2.heap.size, 0, none⟩)) hblk
  have b2 := heap_setCell_same _ p 2 _ _ (.string ⟨#[]⟩) b1
  have b3 := heap_setCell_same _ p 3 _ _ (.bool false) b2
  have b4 := heap_setCell_same _ p 5 _ _ (.bool false) b3
  have hcs : ((((w2.setCell ⟨p, 1, none⟩ (.pointer (some ⟨w2.heap.size, 0, none⟩))).setCell ⟨p, 2, none⟩ (.string ⟨#[]⟩)).setCell ⟨p, 3, none⟩ (.bool false)).setCell ⟨p, 5, none⟩ (.bool false)).heap.size = w2.heap.size := by simp
  have ow : Only (· = p) w2 (resetWorld w2 p) := ((Only.setCell (F := (· = p)) (p := ⟨p, 1, none⟩) rfl _ _).trans ((Only.setCell (F := (· = p)) (p := ⟨p, 2, none⟩) rfl _ _).trans ((Only.setCell (F := (· = p)) (p := ⟨p, 3, none⟩) rfl _ _).trans ((Only.setCell (F := (· = p)) (p := ⟨p, 5, none⟩) rfl _ _).trans (Only.alloc _ _ _)))))
  have hws : (resetWorld w2 p).heap.size = w2.heap.size + 1 := by unfold resetWorld; simp
  have bp : (resetWorld w2 p).heap[p]? = some (.cells #[.pointer (some ⟨x, 0, none⟩), .pointer (some ⟨w2.heap.size, 0, none⟩), .string ⟨#[]⟩, .bool false, .string la, .bool false] 47 (0, 0)) := by
    unfold resetWorld
    rw [Below.heap_alloc _ _ _ (by rw [hcs]; exact hpl), b4]; rfl
  have by' : (resetWorld w2 p).heap[w2.heap.size]? = some (.cells #[.slice none 0 0] 45 (0, 0)) := by
    have hh : ∀ (w0 : World) (o : Obj), (w0.alloc o).heap[w0.heap.size]? = some o := fun w0 o => by show (w0.heap.push o)[w0.heap.size]? = _; simp
    have := hh ((((w2.setCell ⟨p, 1, none⟩ (.pointer (some ⟨w2.heap.size, 0, none⟩))).setCell ⟨p, 2, none⟩ (.string ⟨#[]⟩)).setCell ⟨p, 3, none⟩ (.bool false)).setCell ⟨p, 5, none⟩ (.bool false)) (.cells #[.slice none 0 0] 45)
    rw [hcs] at this
    exact this
  have hbase : base ≤ w.heap.size := Nat.le_trans h.le (Nat.le_of_lt h.ltp)
  have hFp := h.fp
  have hFx := h.fx.1
  refine ⟨fun k => (F k ∨ w.heap.size ≤ k) ∧ k < (resetWorld w2 p).heap.size, [], (Only.of_below _ hb).trans ((ho.weaken (fun k _ e => by rw [e]; exact hFx)).trans (ow.weaken (fun k _ e => by rw [e]; exact hFp))), ⟨x, .slice none 0 0, w2.heap.size, .slice none 0 0, [], ?_⟩, fun k hk => hk.1, by simp⟩
  refine ⟨⟨_, _, _, _, bp⟩, h.le, ?_, ?_, ⟨.inl hFp, by omega⟩, ⟨⟨.inl hFx, by omega⟩, fun g hg => (by cases hg)⟩, ⟨⟨.inr hsz, by omega⟩, fun g hg => (by cases hg), fun v hv => (by cases hv)⟩, fun k hk => ⟨?_, hk.2⟩, fun m hm => (by cases hm)⟩
  · exact ⟨(ow.block x hxl hxp).trans hx.block, hx.le, World.ownsRow_nil _ _ _ _⟩
  · exact ⟨by', Nat.le_trans hbase hsz, World.ownsRow_nil _ _ _ _, rfl, fun i a c ha hc => by simp at ha⟩
  · rcases hk.1 with hf | hf
    · exact (h.inn k hf).1
    · omega

set_option maxRecDepth 100000 in
set_option maxHeartbeats 1600000 in
theorem step_clauses (base B n : Nat) (a b : Int) (s t : List UInt8) (v lv : Value) (p : Nat → Nat) (F : Nat → Nat → Prop) (ms : Nat → List Nat) (w : World) (h0 : -9223372036854775808 ≤ a) (h1 : a ≤ 9223372036854775807) (hn : 0 < n) (hW : WIs base w B n lv p F ms)
    (hL : ∀ i, i < n → (ms i).length ≤ 10000000) (he : Env w) :
    Calls Tryz.prog 5 #[.pointer (some ⟨B, 0, none⟩), opVal 5 a b s t v] w fun e w' => e = .returned (.bool true) ∧ Below w.heap.size w w' := by
  obtain ⟨g, cp, rfl, hc0, hcd⟩ := hW.cells hn
  have h4 := hW.four
  have hBl := lt_of_block hW.block
  have hgl := (hW.row.lt g rfl).2
  have HP := hide (fun wx => pick_any a n wx h0 h1 hn h4)
  have hd := pickOf_lt a hn
  obtain ⟨x, kv, y, yv, vs, hs⟩ := hW.sides _ hd
  have HX := hide (fun wx (hb : Below w.heap.size w wx) => clausesX_any base x kv (ms (pickOf a n)) wx (hs.prog.below hb) (hL _ hd) hs.small (he.below hb))
  have HY := hide (fun wx (hb : Below w.heap.size w wx) => clausesY_any base y yv vs (ms (pickOf a n)) wx (hs.doc.below hb) (hL _ hd))
  have hpx := hs.cellX
  have hpy := hs.cellY
  have hpl := hs.ltp
  unfold opVal
  obtain ⟨w1, hw1, hop⟩ := op_in w 5 a b s t v
  have c0 := hop.c0
  have c1 := hop.c1
  have hcB : w1.cell? ⟨B, 0, none⟩ = some (.slice (some ⟨g, 0, none⟩) n cp) := (hop.below.cell (p := ⟨B, 0, none⟩) hBl).trans hc0
  have HB1 := hide hop.below
  have hcd1 : w1.cell? ⟨g, pickOf a n, none⟩ = some (.pointer (some ⟨p (pickOf a n), 0, none⟩)) := (hop.below.cell (p := ⟨g, pickOf a n, none⟩) hgl).trans (hcd _ hd)
  have hpx1 : w1.cell? ⟨p (pickOf a n), 0, none⟩ = some (.pointer (some ⟨x, 0, none⟩)) := (hop.below.cell (p := ⟨p (pickOf a n), 0, none⟩) hpl).trans hpx
  generalize maskText (ms (pickOf a n)) = tx at *
  generalize p (pickOf a n) = pd at *
  generalize pickOf a n = d at *
  clear hop hc0 hcd hW hs hpx hL
  go_enter Tryz.func5, Tryz.ntmps5
  go_wp2
  go_quiet ((go_at_call 10; refine Calls.quiet_of_same (unhide HP _)))
  go_wp2_with fail
  have hb2 := belowDrew (unhide HB1) nq
  refine (unhide HX _ hb2).mono ?_
  rintro e w2 ⟨rfl, hb3⟩
  have hb4 := hb2.trans (hb3.mono hb2.size)
  have hpy2 : w2.cell? ⟨pd, 1, none⟩ = some (.pointer (some ⟨y, 0, none⟩)) := (hb4.cell (p := ⟨pd, 1, none⟩) hpl).trans hpy
  go_wp2_with fail
  refine (unhide HY _ hb4).mono ?_
  rintro e w3 ⟨rfl, hb5⟩
  go_wp2
  go_ret
  exact ⟨by simp, hb4.trans (hb5.mono hb4.size)⟩

set_option maxRecDepth 100000 in
set_option maxHeartbeats 1600000 in
theorem step_reset (base B n : Nat) (a b : Int) (s t : List UInt8) (v lv : Value) (p : Nat → Nat) (F : Nat → Nat → Prop) (ms : Nat → List Nat) (w : World) (h0 : -9223372036854775808 ≤ a) (h1 : a ≤ 9223372036854775807) (hn : 0 < n) (hW : WIs base w B n lv p F ms) :
    Calls Tryz.prog 5 #[.pointer (some ⟨B, 0, none⟩), opVal 6 a b s t v] w fun e w' => e = .returned (.bool true) ∧ Turned base w w' (F (pickOf a n)) (p (pickOf a n)) (ms (pickOf a n)) := by
  obtain ⟨g, cp, rfl, hc0, hcd⟩ := hW.cells hn
  have h4 := hW.four
  have hBl := lt_of_block hW.block
  have hgl := (hW.row.lt g rfl).2
  have HP := hide (fun wx => pick_any a n wx h0 h1 hn h4)
  have hd := pickOf_lt a hn
  obtain ⟨x, kv, y, yv, vs, hs⟩ := hW.sides _ hd
  have HX := hide (fun wx (hb : Below w.heap.size w wx) => resetX_any base x kv (ms (pickOf a n)) wx (hs.prog.below hb))
  have HS := hide hs
  have hpx := hs.cellX
  have hpy := hs.cellY
  have hpl := hs.ltp
  unfold opVal
  obtain ⟨w1, hw1, hop⟩ := op_in w 6 a b s t v
  have c0 := hop.c0
  have c1 := hop.c1
  have hcB : w1.cell? ⟨B, 0, none⟩ = some (.slice (some ⟨g, 0, none⟩) n cp) := (hop.below.cell (p := ⟨B, 0, none⟩) hBl).trans hc0
  have HB1 := hide hop.below
  have hcd1 : w1.cell? ⟨g, pickOf a n, none⟩ = some (.pointer (some ⟨p (pickOf a n), 0, none⟩)) := (hop.below.cell (p := ⟨g, pickOf a n, none⟩) hgl).trans (hcd _ hd)
  have hpx1 : w1.cell? ⟨p (pickOf a n), 0, none⟩ = some (.pointer (some ⟨x, 0, none⟩)) := (hop.below.cell (p := ⟨p (pickOf a n), 0, none⟩) hpl).trans hpx
  generalize ms (pickOf a n) = md at *
  generalize F (pickOf a n) = Fd at *
  generalize p (pickOf a n) = pd at *
  generalize pickOf a n = d at *
  clear hop hc0 hcd hW hs hpx hpy
  go_enter Tryz.func5, Tryz.ntmps5
  go_wp2
  go_quiet ((go_at_call 10; refine Calls.quiet_of_same (unhide HP _)))
  go_wp2_with fail
  have hb2 := belowDrew (unhide HB1) nq
  refine (unhide HX _ hb2).mono ?_
  rintro e w2 ⟨rfl, hx2, ho2⟩
  obtain ⟨pr, gr, la, en, hblk⟩ := (unhide HS).block2 hb2 ho2
  have HF := hide (reset_fin (unhide HS) hb2 hx2 ho2 hblk)
  have k1 := cell_of_row _ _ 1 _ _ _ hblk
  have k2 := cell_of_row _ _ 2 _ _ _ hblk
  have k3 := cell_of_row _ _ 3 _ _ _ hblk
  have k5 := cell_of_row _ _ 5 _ _ _ hblk
  have f1 := fun j => frozen_of_row _ _ j _ _ hblk
  have hpl2 := lt_of_block hblk
  clear hx2 ho2 hblk
  go_wp2
  go_ret
  exact ⟨rfl, unhide HF⟩

end Go.Proofs.YtgoigckhblffhaaGreatDoorR
