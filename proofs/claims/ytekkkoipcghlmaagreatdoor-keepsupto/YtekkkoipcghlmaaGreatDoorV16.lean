import Derived.Test.YtekkkoipcghlmaaGreatDoorV15
import Derived.Test.YtekkkoipcghlmaaGreatDoorV10
import Derived.Test.YtekkkoipcghlmaaGreatDoorV14
set_option linter.all false
namespace Go.Proofs.YtekkkoipcghlmaaGreatDoor
open Go.RowKit

theorem Tryz.infoSideP : (Tryz.prog.info? 90).map (fun i => (i.zero, i.size, i.bytes)) = some (some (.pointer none), 1, 8) := by kernel_rfl

set_option maxRecDepth 100000 in
set_option maxHeartbeats 1600000 in
theorem step_new_full (base B : Nat) (a b : Int) (s t : List UInt8) (v lv : Value) (p : Nat → Nat) (F : Nat → Nat → Prop) (ms : Nat → List Nat) (w : World) (hW : WIs base w B 4 lv p F ms) :
    Calls Tryz.prog 35 #[.pointer (some ⟨B, 0, none⟩), opVal 3 a b s t v] w fun e w' => e = .returned (.bool true) ∧ Below w.heap.size w w' := by
  obtain ⟨g, cp, rfl, hc0, hcd⟩ := hW.cells (by decide)
  have hBl := lt_of_block hW.block
  unfold opVal
  obtain ⟨w1, hw1, hop⟩ := op_in w 3 a b s t v
  have c0 := hop.c0
  have hcB : (w1.alloc (.cells #[.slice none 0 0, .int .i64 0, .slice none 0 0] 77)).cell? ⟨B, 0, none⟩ = some (.slice (some ⟨g, 0, none⟩) 4 cp) := ((below_alloc w1 _).cell (p := ⟨B, 0, none⟩) (Nat.lt_of_lt_of_le hBl hop.below.size)).trans ((hop.below.cell (p := ⟨B, 0, none⟩) hBl).trans hc0)
  have HB1 := hide hop.below
  have HN := hide (newX_any w1)
  obtain ⟨w2, hw2⟩ : ∃ w2, w2 = w1.alloc (.cells #[.slice none 0 0, .int .i64 0, .slice none 0 0] 77) := ⟨_, rfl⟩
  rw [← hw2] at hcB HN
  have HB2 : Hid (Below w.heap.size w w2) := hide (by rw [hw2]; exact hop.below.trans ((below_alloc w1 _).mono hop.below.size))
  clear hop hc0 hcd hW hw2
  go_enter Tryz.func35, Tryz.ntmps35
  go_wp2_with fail
  refine (unhide HN).mono ?_
  rintro e w3 ⟨rfl, rfl⟩
  go_wp2
  go_ret
  exact ⟨rfl, unhide HB2⟩

def xObj : Obj := .cells #[.slice none 0 0, .int .i64 0, .slice none 0 0] 77
def yObj : Obj := .cells #[.slice none 0 0] 93
def sObj (x y : Nat) : Obj := .cells #[.pointer (some ⟨x, 0, none⟩), .pointer (some ⟨y, 0, none⟩), .string ⟨#[]⟩, .bool false, .string ⟨#[]⟩, .bool false] 95
theorem alloc_last (w0 : World) (o : Obj) : (w0.alloc o).heap[w0.heap.size]? = some o := by show (w0.heap.push o)[w0.heap.size]? = _; simp
theorem alloc_old {w0 : World} (o : Obj) {k : Nat} (h : k < w0.heap.size) : (w0.alloc o).heap[k]? = w0.heap[k]? := Below.heap_alloc _ _ _ h

theorem new_fin {base : Nat} {w w1 w2 wz w5 : World} {B n : Nat} {lv : Value} {p : Nat → Nat} {F : Nat → Nat → Prop} {ms : Nat → List Nat} {g' cap' : Nat} {o : Obj} (hW : WIs base w B n lv p F ms) (hb1 : Below w.heap.size w w1) (hw2 : w2 = w1.alloc xObj) (hwz : wz = (w2.alloc yObj).alloc (sObj w1.heap.size w2.heap.size)) (hn : n < 4)
    (hown : w5.ownsRow base 90 1 (.slice (some ⟨g', 0, none⟩) (n + 1) cap') (n + 1) (((List.range n).map fun i => .pointer (some ⟨p i, 0, none⟩)) ++ [.pointer (some ⟨w2.heap.size + 1, 0, none⟩)])) (hgr : (wz.alloc o).grownBy w5 lv.ownBlock) (hloc : lv.ownBlock = some g' ∨ g' = (wz.alloc o).heap.size) :
    w5.heap[B]? = some (.cells #[lv, .slice none 0 0] 64 (0, 0)) ∧
    WIs base (w5.setCell ⟨B, 0, none⟩ (.slice (some ⟨g', 0, none⟩) (n + 1) cap')) B (n + 1) (.slice (some ⟨g', 0, none⟩) (n + 1) cap') (fun i => if i = n then w2.heap.size + 1 else p i) (fun i => if i = n then (fun k => k = w1.heap.size ∨ k = w2.heap.size ∨ k = w2.heap.size + 1) else F i) (fun i => if i = n then [] else ms i) ∧
    Below base w (w5.setCell ⟨B, 0, none⟩ (.slice (some ⟨g', 0, none⟩) (n + 1) cap')) := by
  have hs1 := hb1.size
  have hs2 : w2.heap.size = w1.heap.size + 1 := by rw [hw2]; simp
  have hsz : wz.heap.size = w2.heap.size + 2 := by rw [hwz]; simp
  have hsa : (wz.alloc o).heap.size = w2.heap.size + 3 := by simp [hsz]
  have hs5 := hgr.size
  have hBl := lt_of_block hW.block
  have hbase : base ≤ w.heap.size := Nat.le_trans hW.le (Nat.le_of_lt hBl)
  have hold : ∀ k, k < w.heap.size → (wz.alloc o).heap[k]? = w.heap[k]? := fun k hk => by
    rw [alloc_old o (by omega), hwz, alloc_old _ (by simp; omega), alloc_old _ (by omega), hw2, alloc_old _ (by omega)]
    exact hb1.block k hk
  have hx : (wz.alloc o).heap[w1.heap.size]? = some xObj := by
    rw [alloc_old o (by omega), hwz, alloc_old _ (by simp; omega), alloc_old _ (by omega), hw2]; exact alloc_last _ _
  have hy : (wz.alloc o).heap[w2.heap.size]? = some yObj := by
    rw [alloc_old o (by omega), hwz, alloc_old _ (by simp)]; exact alloc_last _ _
  have hsd : (wz.alloc o).heap[w2.heap.size + 1]? = some (sObj w1.heap.size w2.heap.size) := by
    rw [alloc_old o (by omega), hwz]
    have := alloc_last (w2.alloc yObj) (sObj w1.heap.size w2.heap.size)
    simpa using this
  have hlvl : ∀ k, lv.ownBlock = some k → k < w.heap.size := fun k hk => (hW.row.lt k hk).2
  have hne : lv.ownBlock ≠ some B := row_ne hW.row hW.block (by decide)
  have h5 : ∀ k, k < (wz.alloc o).heap.size → lv.ownBlock ≠ some k → w5.heap[k]? = (wz.alloc o).heap[k]? := fun k hk hn => hgr.block k hk (fun e => hn e.symm)
  have h5B : w5.heap[B]? = some (.cells #[lv, .slice none 0 0] 64 (0, 0)) := by rw [h5 B (by omega) hne, hold B hBl]; exact hW.block
  have hfar : ∀ k, w.heap.size ≤ k → lv.ownBlock ≠ some k := fun k hk e => by have := hlvl k e; omega
  have hg'B : g' ≠ B := by
    rcases hloc with h | h
    · intro e; subst e; exact hne h
    · omega
  have hset : ∀ k, k ≠ B → (w5.setCell ⟨B, 0, none⟩ (.slice (some ⟨g', 0, none⟩) (n + 1) cap')).heap[k]? = w5.heap[k]? := fun k hk => Below.heap_setCell _ _ _ _ hk
  have fx : (w5.setCell ⟨B, 0, none⟩ (.slice (some ⟨g', 0, none⟩) (n + 1) cap')).heap[w1.heap.size]? = some xObj := by rw [hset _ (by omega), h5 _ (by omega) (hfar _ (by omega))]; exact hx
  have fy : (w5.setCell ⟨B, 0, none⟩ (.slice (some ⟨g', 0, none⟩) (n + 1) cap')).heap[w2.heap.size]? = some yObj := by rw [hset _ (by omega), h5 _ (by omega) (hfar _ (by omega))]; exact hy
  have fs : (w5.setCell ⟨B, 0, none⟩ (.slice (some ⟨g', 0, none⟩) (n + 1) cap')).heap[w2.heap.size + 1]? = some (sObj w1.heap.size w2.heap.size) := by rw [hset _ (by omega), h5 _ (by omega) (hfar _ (by omega))]; exact hsd
  have hfs : (w5.setCell ⟨B, 0, none⟩ (.slice (some ⟨g', 0, none⟩) (n + 1) cap')).heap.size = w5.heap.size := by simp
  have fold : ∀ k, k < w.heap.size → k ≠ B → lv.ownBlock ≠ some k → (w5.setCell ⟨B, 0, none⟩ (.slice (some ⟨g', 0, none⟩) (n + 1) cap')).heap[k]? = w.heap[k]? := fun k hk hkB hkl => by
    rw [hset k hkB, h5 k (by omega) hkl, hold k hk]
  have hFlt : ∀ i, i < n → ∀ k, F i k → base ≤ k ∧ k < w.heap.size := fun i hi k hk => by
    obtain ⟨x, kv, y, lv', vs, pv, pb, hh⟩ := hW.sides i hi
    exact hh.inn k hk
  have fF : ∀ i, i < n → ∀ k, F i k → (w5.setCell ⟨B, 0, none⟩ (.slice (some ⟨g', 0, none⟩) (n + 1) cap')).heap[k]? = w.heap[k]? := fun i hi k hk =>
    fold k (hFlt i hi k hk).2 (fun e => hW.notB i hi (by rw [← e]; exact hk)) (fun e => hW.notRow i hi k e hk)
  refine ⟨h5B, ⟨by rw [heap_setCell_same w5 B 0 _ _ _ h5B]; rfl, hW.le, ?_, fun i hi => ?_, fun i j hi hj hij k hk => ?_, fun i hi => ?_, fun i hi k hk => ?_, by omega⟩, ?_⟩
  · have e1 : ((List.range (n + 1)).map fun i => Value.pointer (some ⟨if i = n then w2.heap.size + 1 else p i, 0, none⟩)) = ((List.range n).map fun i => .pointer (some ⟨p i, 0, none⟩)) ++ [.pointer (some ⟨w2.heap.size + 1, 0, none⟩)] := by
      rw [List.range_succ, List.map_append]
      congr 1
      · apply List.map_congr_left
        intro i hi
        have : i < n := by simpa using hi
        rw [if_neg (by omega)]
      · simp
    rw [e1]
    exact ownsRow_setCell_other hown (a := ⟨B, 0, none⟩) (by simp [Value.ownBlock]; exact hg'B) _
  · by_cases e : i = n
    · subst e
      simp only [if_true]
      refine ⟨w1.heap.size, .slice none 0 0, w2.heap.size, .slice none 0 0, [], .slice none 0 0, [], ⟨⟨_, _, _, _, fs⟩, by omega, ⟨fx, by omega, World.ownsRow_nil _ _ _ _, World.ownsRow_nil _ _ _ _⟩, ⟨fy, by omega, World.ownsRow_nil _ _ _ _, rfl, fun i a c ha hc => by simp at ha⟩, .inr (.inr rfl), ⟨.inl rfl, fun g hg => (by cases hg), fun g hg => (by cases hg)⟩, ⟨.inr (.inl rfl), fun g hg => (by cases hg), fun v hv => (by cases hv)⟩, fun k hk => ⟨by omega, by omega⟩, fun m hm => (by cases hm)⟩⟩
    · simp only [if_neg e]
      have hi' : i < n := by omega
      exact (hW.sides i hi').keep (by omega) (fF i hi')
  · by_cases e : i = n
    · subst e
      simp only [if_true] at hk
      simp only [if_neg (Ne.symm hij)]
      intro hf
      have := (hFlt j (by omega) k hf).2
      omega
    · simp only [if_neg e] at hk
      have hkl := (hFlt i (by omega) k hk).2
      by_cases e2 : j = n
      · subst e2; simp only [if_true]; omega
      · simp only [if_neg e2]; exact hW.apart i j (by omega) (by omega) hij k hk
  · by_cases e : i = n
    · subst e; simp only [if_true]; omega
    · simp only [if_neg e]; exact hW.notB i (by omega)
  · simp [Value.ownBlock] at hk
    subst hk
    by_cases e : i = n
    · subst e
      simp only [if_true]
      rcases hloc with h | h
      · have := hlvl _ h; omega
      · omega
    · simp only [if_neg e]
      rcases hloc with h | h
      · exact hW.notRow i (by omega) _ h
      · intro hf; have := (hFlt i (by omega) _ hf).2; omega
  · refine ⟨hgr.os.trans ?_, hgr.tape.trans ?_, hgr.output.trans ?_, by omega, fun k hk => fold k (by omega) (by have := hW.le; omega) (fun e => by have := (hW.row.lt k e).1; omega)⟩
    · rw [hwz, hw2]; exact hb1.os
    · rw [hwz, hw2]; exact hb1.tape
    · rw [hwz, hw2]; exact hb1.output

set_option maxRecDepth 100000 in
set_option maxHeartbeats 1600000 in
theorem step_new (base B n : Nat) (a b : Int) (s t : List UInt8) (v lv : Value) (p : Nat → Nat) (F : Nat → Nat → Prop) (ms : Nat → List Nat) (w : World) (hn : n < 4) (hW : WIs base w B n lv p F ms) (L : Nat) (hL : ∀ i, i < n → (ms i).length ≤ L) :
    Calls Tryz.prog 35 #[.pointer (some ⟨B, 0, none⟩), opVal 3 a b s t v] w fun e w' => e = .returned (.bool true) ∧ KWAt base w' B (n + 1) L ∧ Below base w w' := by
  have hc0 : w.cell? ⟨B, 0, none⟩ = some lv := by simp [World.cell?, hW.block]
  obtain ⟨ao, cp, hsh⟩ := owns_shape hW.row
  subst hsh
  have hBl := lt_of_block hW.block
  unfold opVal
  obtain ⟨w1, hw1, hop⟩ := op_in w 3 a b s t v
  have c0 := hop.c0
  have HB1 := hide hop.below
  have HN := hide (newX_any w1)
  obtain ⟨w2, hw2⟩ : ∃ w2, w2 = w1.alloc (.cells #[.slice none 0 0, .int .i64 0, .slice none 0 0] 77) := ⟨_, rfl⟩
  rw [← hw2] at HN
  have hb2 : Below w.heap.size w w2 := by rw [hw2]; exact hop.below.trans ((below_alloc w1 _).mono hop.below.size)
  have hcB : w2.cell? ⟨B, 0, none⟩ = some (.slice ao n cp) := (hb2.cell (p := ⟨B, 0, none⟩) hBl).trans hc0
  have HW := hide hW
  have HB2 := hide hb2
  have HW2 := hide hw2
  clear hop hc0 hW hw2 hb2
  go_enter Tryz.func35, Tryz.ntmps35
  go_wp2_with fail
  refine (unhide HN).mono ?_
  rintro e w3 ⟨rfl, rfl⟩
  obtain ⟨wz, hwz⟩ : ∃ wz, wz = (w3.alloc yObj).alloc (sObj w1.heap.size w3.heap.size) := ⟨_, rfl⟩
  have hwz' : ((w3.alloc (.cells #[.slice none 0 0] 93)).alloc (.cells #[.pointer (some ⟨w1.heap.size, 0, none⟩), .pointer (some ⟨w3.heap.size, 0, none⟩), .string ⟨#[]⟩, .bool false, .string ⟨#[]⟩, .bool false] 95)) = wz := hwz.symm
  have HWZ := hide hwz
  have hn' : (n : Int) < 4 := by omega
  have HROWZ : Hid (wz.ownsRow base 90 1 (.slice ao n cp) n ((List.range n).map fun i => .pointer (some ⟨p i, 0, none⟩))) := hide (by
    refine owns_at (unhide HW).row (fun g hg => ?_)
    have h1 := ((unhide HW).row.lt g hg).2
    have h2 := (unhide HB2).size
    rw [hwz, alloc_old _ (by simp; omega), alloc_old _ (by omega)]
    exact (unhide HB2).block g h1)
  have hszz : base ≤ wz.heap.size := by
    have h1 := (unhide HW).le
    have h2 := (unhide HB2).size
    rw [hwz]; simp; omega
  clear hwz
  go_wp2_with (at_builtin; refine append_cell (base := base) rfl _ _ 59 90 rfl Tryz.underlying59 Tryz.infoSideP rfl (by decide) (unhide HROWZ) rfl rfl rfl (by omega) hszz ?_; intro g' cap' w5 hown5 hgr5 hloc; have HFIN := hide (new_fin (unhide HW) (unhide HB1) (unhide HW2) (unhide HWZ) hn hown5 hgr5 hloc); clear hown5 hgr5 hloc; have hcB5 : w5.cell? ⟨B, 0, none⟩ = some (.slice ao n cp) := (cell_of_row _ _ 0 _ _ _ (unhide HFIN).1); have hfB5 : w5.frozen? ⟨B, 0, none⟩ = false := frozen_of_row _ _ _ _ _ (unhide HFIN).1)
  go_ret
  exact ⟨rfl, ⟨_, _, _, _, (unhide HFIN).2.1, fun i hi => by
    by_cases e : i = n
    · simp only [if_pos e]; simp
    · simp only [if_neg e]; exact hL i (by omega)⟩, (unhide HFIN).2.2⟩

end Go.Proofs.YtekkkoipcghlmaaGreatDoor

namespace Go.Proofs.YtekkkoipcghlmaaGreatDoor
open Go.RowKit

theorem WIs.keepAll {base : Nat} {w w' : World} {B n : Nat} {lv : Value} {p : Nat → Nat} {F : Nat → Nat → Prop} {ms : Nat → List Nat} (h : WIs base w B n lv p F ms) (hb : Below w.heap.size w w') : WIs base w' B n lv p F ms := by
  refine ⟨(hb.block B (lt_of_block h.block)).trans h.block, h.le, owns_at h.row (fun g hg => hb.block g (h.row.lt g hg).2), fun i hi => (h.sides i hi).keep hb.size (fun k hk => ?_), h.apart, h.notB, h.notRow, h.four⟩
  obtain ⟨x, kv, y, lv', vs, pv, pb, hh⟩ := h.sides i hi
  exact hb.block k (hh.inn k hk).2
theorem WIs.inn {base : Nat} {w : World} {B n : Nat} {lv : Value} {p : Nat → Nat} {F : Nat → Nat → Prop} {ms : Nat → List Nat} (h : WIs base w B n lv p F ms) {i : Nat} (hi : i < n) {k : Nat} (hk : F i k) : base ≤ k ∧ k < w.heap.size := by
  obtain ⟨x, kv, y, lv', vs, pv, pb, hh⟩ := h.sides i hi
  exact hh.inn k hk
theorem WIs.base_le {base : Nat} {w : World} {B n : Nat} {lv : Value} {p : Nat → Nat} {F : Nat → Nat → Prop} {ms : Nat → List Nat} (h : WIs base w B n lv p F ms) : base ≤ w.heap.size := Nat.le_trans h.le (Nat.le_of_lt (lt_of_block h.block))

/-- A side has changed: the world of the play goes on. -/
theorem WIs.turned {base : Nat} {w w' : World} {B n L : Nat} {lv : Value} {p : Nat → Nat} {F : Nat → Nat → Prop} {ms : Nat → List Nat} (h : WIs base w B n lv p F ms) (hL : ∀ i, i < n → (ms i).length ≤ L) {d : Nat} (hd : d < n) (ht : Turned base w w' (F d) (p d) (ms d)) : KWAt base w' B n (L + 1) ∧ Below base w w' := by
  obtain ⟨F', ms', ho, hs, hF, hl⟩ := ht
  refine ⟨⟨lv, p, _, _, h.turn hd ho hs hF, fun i hi => ?_⟩, ho.below (fun k hk => (h.inn hd hk).1) h.base_le⟩
  by_cases e : i = d
  · subst e; simp only [if_true]; have := hL i hi; omega
  · simp only [if_neg e]; have := hL i hi; omega

def PlayRes (base B L : Nat) (w : World) (e : Ending) (w' : World) : Prop := e = .returned (.bool true) ∧ ∃ n', 0 < n' ∧ KWAt base w' B n' L ∧ Below base w w'

/-- The block of a step's list is none of the play's own. -/
theorem step_all (base B n L : Nat) (kind a b : Int) (s t : List UInt8) (v : Value) (xs : List Int) (w w0 : World) (hk : kind ≤ 6) (h0 : -9223372036854775808 ≤ a) (h1 : a ≤ 9223372036854775807) (hn : 0 < n) (hs : s.length ≤ 9223372036854775807) (ht : t.length ≤ 9223372036854775807) (hl : xs.length ≤ 10000000) (hLm : L ≤ 10000000)
    (hW : KWAt base w0 B n L) (hb : Below w0.heap.size w0 w) (he : Env w) (hv : Lies w v (ints xs)) (hvb : xs ≠ [] → ∀ g, v.ownBlock = some g → g < base ∨ w0.heap.size ≤ g) :
    Calls Tryz.prog 35 #[.pointer (some ⟨B, 0, none⟩), opVal kind a b s t v] w fun e w' => PlayRes base B (L + 1) w e w' := by
  obtain ⟨lv, p, F, ms, hI0, hL⟩ := hW
  have hI := hI0.keepAll hb
  have hWw : KWAt base w B n L := ⟨lv, p, F, ms, hI, hL⟩
  have hbase := hI.base_le
  have stay : ∀ e w', (e = .returned (.bool true) ∧ Below w.heap.size w w') → PlayRes base B (L + 1) w e w' := fun e w' h => ⟨h.1, n, hn, (hWw.below h.2).more (by omega), h.2.mono hbase⟩
  have turn : ∀ e w', (e = .returned (.bool true) ∧ Turned base w w' (F (pickOf a n)) (p (pickOf a n)) (ms (pickOf a n))) → PlayRes base B (L + 1) w e w' := fun e w' h => by
    obtain ⟨h2, h3⟩ := hI.turned hL (pickOf_lt a hn) h.2
    exact ⟨h.1, n, hn, h2, h3⟩
  have hL7 : ∀ i, i < n → (ms i).length ≤ 10000000 := fun i hi => Nat.le_trans (hL i hi) hLm
  by_cases k0 : kind < 1
  · exact (step_idle base B n kind a b s t v lv p F ms w k0 h0 h1 hn hI).mono stay
  · have : kind = 1 ∨ kind = 2 ∨ kind = 3 ∨ kind = 4 ∨ kind = 5 ∨ kind = 6 := by omega
    rcases this with rfl | rfl | rfl | rfl | rfl | rfl
    · exact (step_plain B a b s t v w hs he).mono stay
    · exact (step_check B a b s t v w hs ht he).mono stay
    · by_cases h4 : n < 4
      · refine (step_new base B n a b s t v lv p F ms w h4 hI L hL).mono fun e w' h => ?_
        exact ⟨h.1, n + 1, by omega, h.2.1.more (by omega), h.2.2⟩
      · have : n = 4 := by have := hI.four; omega
        subst this
        exact (step_new_full base B a b s t v lv p F ms w hI).mono stay
    · refine (step_add base B n a b s t v lv xs p F ms w h0 h1 hn hI hL7 hl hv (fun hx i hi g hg _ hf => ?_)).mono turn
      have h5 := hI0.inn hi hf
      rcases hvb hx g hg with h6 | h6 <;> omega
    · exact (step_clauses base B n a b s t v lv p F ms w h0 h1 hn hI hL7 he).mono stay
    · exact (step_reset base B n a b s t v lv p F ms w h0 h1 hn hI).mono turn

end Go.Proofs.YtekkkoipcghlmaaGreatDoor

namespace Go.Proofs.YtekkkoipcghlmaaGreatDoor
open Go.RowKit

/-- A script's steps. -/
def OpsFull (w : World) (b off len : Nat) : Prop :=
  ∀ k, k < len → ∃ (kind a bb : Int) (s t : List UInt8) (v : Value) (xs : List Int), w.cell? ⟨b, off + k * 6, none⟩ = some (.int .i64 kind) ∧ w.cell? ⟨b, off + k * 6 + 1, none⟩ = some (.int .i64 a) ∧ w.cell? ⟨b, off + k * 6 + 2, none⟩ = some (.int .i64 bb) ∧
    w.cell? ⟨b, off + k * 6 + 3, none⟩ = some (.string (bs s)) ∧ w.cell? ⟨b, off + k * 6 + 4, none⟩ = some (.string (bs t)) ∧ w.cell? ⟨b, off + k * 6 + 5, none⟩ = some v ∧ -9223372036854775808 ≤ a ∧ a ≤ 9223372036854775807 ∧ s.length ≤ 9223372036854775807 ∧ t.length ≤ 9223372036854775807 ∧ xs.length ≤ 2000000 ∧ Lies w v (ints xs)

theorem lies_block {w : World} {v : Value} {xs : List Int} (h : Lies w v (ints xs)) (hx : xs ≠ []) {g : Nat} (hg : v.ownBlock = some g) : g < w.heap.size := by
  rcases h with ⟨h0, _⟩ | ⟨b, off, cap, _, rfl, hb, _⟩
  · exact absurd (by simpa [ints] using h0) hx
  · simp [Value.ownBlock] at hg; subst hg; exact hb

/-- The play's first world: no sides. -/
theorem start_is (w : World) : WIs w.heap.size (w.alloc (.cells #[.slice none 0 0, .slice none 0 0] 64)) w.heap.size 0 (.slice none 0 0) (fun _ => 0) (fun _ _ => False) (fun _ => []) :=
  ⟨alloc_last _ _, Nat.le_refl _, World.ownsRow_nil _ _ _ _, fun i hi => by omega, fun i j hi => by omega, fun i hi => by omega, fun i hi => by omega, by omega⟩

theorem KWAt.book {base : Nat} {w : World} {B n L : Nat} (h : KWAt base w B n L) : w.cell? ⟨B, 1, none⟩ = some (.slice none 0 0) ∧ ∃ ao cp, w.cell? ⟨B, 0, none⟩ = some (.slice ao n cp) := by
  obtain ⟨lv, p, F, ms, hI, _⟩ := h
  obtain ⟨ao, cp, rfl⟩ := owns_shape hI.row
  exact ⟨cell_of_row _ _ 1 _ _ _ hI.block, ao, cp, cell_of_row _ _ 0 _ _ _ hI.block⟩

theorem new_lies (w1 : World) (a b : Int) : Lies (w1.alloc (.cells #[.int .i64 a, .int .i64 b] 3)) (.slice (some ⟨w1.heap.size, 0, none⟩) 2 2) (ints [a, b]) := by
  have h := alloc_last w1 (.cells #[.int .i64 a, .int .i64 b] 3)
  refine .inr ⟨w1.heap.size, 0, 2, by simp [ints], rfl, lt_of_block h, fun k x hx => ?_⟩
  rw [Nat.zero_add, cell_of_row _ _ _ _ _ _ h]
  simpa [ints] using hx

set_option maxRecDepth 100000 in
set_option maxHeartbeats 3200000 in
theorem plays_walk (a0 : Option Addr) (b off len cap : Nat) (w : World) (hlen : len ≤ 2000000) (hpos : 0 < len → a0 = some ⟨b, off, none⟩ ∧ b < w.heap.size) (hops : OpsFull w b off len) (he : Env w) :
    Calls Tryz.prog 13 #[.slice a0 len cap, .int .i64 6] w fun e w' => e = .returned (.bool true) ∧ Below w.heap.size w w' := by
  obtain ⟨wa, hwa⟩ : ∃ wa, w.alloc (.cells #[.slice none 0 0, .slice none 0 0] 64) = wa := ⟨_, rfl⟩
  have hba : Below w.heap.size w wa := by rw [← hwa]; exact below_alloc _ _
  have HNEW : Hid (Calls Tryz.prog 35 #[.pointer (some ⟨w.heap.size, 0, none⟩), .agg #[.int .i64 3, .int .i64 0, .int .i64 0, .string ⟨#[]⟩, .string ⟨#[]⟩, .slice none 0 0]] wa fun e w' => e = .returned (.bool true) ∧ KWAt w.heap.size w' w.heap.size 1 0 ∧ Below w.heap.size wa w') :=
    hide (by have := step_new w.heap.size w.heap.size 0 0 0 [] [] (.slice none 0 0) (.slice none 0 0) (fun _ => 0) (fun _ _ => False) (fun _ => []) wa (by decide) (by rw [← hwa]; exact start_is w) 0 (fun i hi => by omega); exact this)
  have HSTEP : Hid (∀ (n L : Nat) (kind a bb : Int) (s t : List UInt8) (v : Value) (xs : List Int) (wx w0 : World), kind ≤ 6 → -9223372036854775808 ≤ a → a ≤ 9223372036854775807 → 0 < n → s.length ≤ 9223372036854775807 → t.length ≤ 9223372036854775807 → xs.length ≤ 10000000 → L ≤ 10000000 → KWAt w.heap.size w0 w.heap.size n L → Below w0.heap.size w0 wx → Below w.heap.size w w0 → Lies wx v (ints xs) → (xs ≠ [] → ∀ g, v.ownBlock = some g → g < w.heap.size ∨ w0.heap.size ≤ g) →
      Calls Tryz.prog 35 #[.pointer (some ⟨w.heap.size, 0, none⟩), .agg #[.int .i64 kind, .int .i64 a, .int .i64 bb, .string (bs s), .string (bs t), v]] wx fun e w' => PlayRes w.heap.size w.heap.size (L + 1) wx e w') :=
    hide (fun n L kind a bb s t v xs wx w0 h1 h2 h3 h4 h5 h6 h7 h8 h9 h10 h11 h12 h13 => step_all w.heap.size w.heap.size n L kind a bb s t v xs wx w0 h1 h2 h3 h4 h5 h6 h7 h8 h9 h10 (he.below (h11.trans (h10.mono h11.size))) h12 h13)
  go_enter Tryz.func13, Tryz.ntmps13
  go_wp2_with fail
  refine (unhide HNEW).mono ?_
  rintro e w1 ⟨rfl, hW1, hb1⟩
  have hbw1 := hba.trans hb1
  obtain ⟨wl, hwl⟩ : ∃ wl, w1.alloc (.cells #[.int .i64 1, .int .i64 2] 3) = wl := ⟨_, rfl⟩
  have HL1 : Hid (Lies wl (.slice (some ⟨w1.heap.size, 0, none⟩) 2 2) (ints [1, 2]) ∧ Below w1.heap.size w1 wl) := hide (by rw [← hwl]; exact ⟨new_lies w1 1 2, below_alloc _ _⟩)
  go_wp2_with fail
  refine (unhide HSTEP 1 0 4 0 0 [] [] _ [1, 2] wl w1 (by decide) (by decide) (by decide) (by decide) (by decide) (by decide) (by decide) (by decide) hW1 (unhide HL1).2 hbw1 (unhide HL1).1 (fun _ g hg => .inr (by simp [Value.ownBlock] at hg; omega))).mono ?_
  rintro e w2 ⟨rfl, n2, hn2, hW2, hbx2⟩
  have hbw2 := (hbw1.trans ((unhide HL1).2.mono hbw1.size)).trans hbx2
  clear hwl
  obtain ⟨wm, hwm⟩ : ∃ wm, w2.alloc (.cells #[.int .i64 (-1), .int .i64 2] 3) = wm := ⟨_, rfl⟩
  have HL2 : Hid (Lies wm (.slice (some ⟨w2.heap.size, 0, none⟩) 2 2) (ints [-1, 2]) ∧ Below w2.heap.size w2 wm) := hide (by rw [← hwm]; exact ⟨new_lies w2 (-1) 2, below_alloc _ _⟩)
  go_wp2_with fail
  refine (unhide HSTEP n2 1 4 0 0 [] [] _ [-1, 2] wm w2 (by decide) (by decide) (by decide) hn2 (by decide) (by decide) (by decide) (by decide) hW2 (unhide HL2).2 hbw2 (unhide HL2).1 (fun _ g hg => .inr (by simp [Value.ownBlock] at hg; omega))).mono ?_
  rintro e w3 ⟨rfl, n3, hn3, hW3, hbx3⟩
  have hbw3 := (hbw2.trans ((unhide HL2).2.mono hbw2.size)).trans hbx3
  clear hwm hbx2 hbx3 hb1 hba hbw1 hbw2 hwa
  have HW3 := hide hW3
  have HBW3 := hide hbw3
  have HOPS := hide hops
  have HPOS := hide hpos
  clear hW1 hW2 hW3 hbw3 hops hpos
  go_wp2
  go_loopw [8, 9] (fun ok i wr => ∃ k n : Nat, k ≤ len ∧ i = .int .i64 k ∧ ok = .bool true ∧ 0 < n ∧ Hid (KWAt w.heap.size wr w.heap.size n (2 + k)) ∧ Hid (Below w.heap.size w wr)) (fun _ i _ => len - (intOf i).toNat)
  case atStart => exact ⟨0, n3, Nat.zero_le _, rfl, rfl, hn3, HW3, HBW3⟩
  case round =>
    obtain ⟨k, n, hk, rfl, rfl, hn, HWk, HBk⟩ := hrel
    by_cases hlt : k < len
    · obtain ⟨e0, hb⟩ := unhide HPOS (by omega)
      subst e0
      obtain ⟨kind, a, bb, s, t, v, xs, c0, c1, c2, c3, c4, c5, ha0, ha1, hsl, htl, hxl, hlv⟩ := unhide HOPS k hlt
      have hbel := unhide HBk
      have d0 : wr.cell? ⟨b, off + k * 6, none⟩ = some (.int .i64 kind) := (hbel.cell (p := ⟨b, off + k * 6, none⟩) hb).trans c0
      by_cases h6 : 6 < kind
      · clear c0 c1 c2 c3 c4 c5 hbel
        go_wp2
        go_roundw
        case rel => exact ⟨k + 1, n, by omega, by go_num, rfl, hn, hide ((unhide HWk).more (by omega)), HBk⟩
        case measure => simp [intOf]; omega
      · have d1 : wr.cell? ⟨b, off + k * 6 + 1, none⟩ = some (.int .i64 a) := (hbel.cell (p := ⟨b, off + k * 6 + 1, none⟩) hb).trans c1
        have d2 : wr.cell? ⟨b, off + k * 6 + 2, none⟩ = some (.int .i64 bb) := (hbel.cell (p := ⟨b, off + k * 6 + 2, none⟩) hb).trans c2
        have d3 : wr.cell? ⟨b, off + k * 6 + 3, none⟩ = some (.string (bs s)) := (hbel.cell (p := ⟨b, off + k * 6 + 3, none⟩) hb).trans c3
        have d4 : wr.cell? ⟨b, off + k * 6 + 4, none⟩ = some (.string (bs t)) := (hbel.cell (p := ⟨b, off + k * 6 + 4, none⟩) hb).trans c4
        have d5 : wr.cell? ⟨b, off + k * 6 + 5, none⟩ = some v := (hbel.cell (p := ⟨b, off + k * 6 + 5, none⟩) hb).trans c5
        have HST := hide (fun wx (hx : Below wr.heap.size wr wx) => unhide HSTEP n (2 + k) kind a bb s t v xs wx wr (by omega) ha0 ha1 hn hsl htl (by omega) (by omega) (unhide HWk) hx hbel ((hlv.below hbel).below hx) (fun hx g hg => .inl (lies_block hlv hx hg)))
        have HBEL := hide hbel
        clear c0 c1 c2 c3 c4 c5 hbel hlv
        go_wp2_with fail
        refine (unhide HST _ (Below.refl _ _)).mono ?_
        rintro e w4 ⟨rfl, n4, hn4, hW4, hb4⟩
        have HW4 := hide hW4
        have hlk := hW4.book.1
        have HLK := hide (looks_any w.heap.size w4 hlk)
        have HB4 : Hid (Below w.heap.size w w4) := hide ((unhide HBEL).trans hb4)
        clear hW4 hb4
        go_wp2_with fail
        refine (unhide HLK).mono ?_
        rintro e w5 ⟨rfl, rfl⟩
        go_wp2
        go_roundw
        case rel => exact ⟨k + 1, n4, by omega, by go_num, by simp, hn4, HW4, HB4⟩
        case measure => simp [intOf]; omega
    · obtain ⟨wo, rfl⟩ : ∃ wo, wo = wr := ⟨wr, rfl⟩
      obtain ⟨hlk, ao, cp, hcB⟩ := (unhide HWk).book
      have hbel := unhide HBk
      have hBl : w.heap.size < wo.heap.size := by
        obtain ⟨lv, p, F, ms, hI, _⟩ := unhide HWk
        exact lt_of_block hI.block
      have hn4 : n ≤ 4 := by
        obtain ⟨lv, p, F, ms, hI, _⟩ := unhide HWk
        exact hI.four
      have HCL : Hid (∀ (wx : World) (j : Nat), Below wo.heap.size wo wx → j ≤ 4 → Calls Tryz.prog 35 #[.pointer (some ⟨w.heap.size, 0, none⟩), .agg #[.int .i64 5, .int .i64 j, .int .i64 0, .string ⟨#[]⟩, .string ⟨#[]⟩, .slice none 0 0]] wx fun e w' => e = .returned (.bool true) ∧ Below wo.heap.size wo w') := hide (by
        intro wx j hx hj
        obtain ⟨lv, p, F, ms, hI, hL⟩ := unhide HWk
        have := step_clauses w.heap.size w.heap.size n j 0 [] [] (.slice none 0 0) lv p F ms wx (by omega) (by omega) hn (hI.keepAll hx) (fun i hi => Nat.le_trans (hL i hi) (by omega)) (he.below (hbel.trans (hx.mono hbel.size)))
        exact this.mono (fun e w' h => ⟨h.1, hx.trans (h.2.mono hx.size)⟩))
      go_wp2
      go_loopw [8, 11] (fun ok i wx => ∃ j : Nat, j ≤ n ∧ i = .int .i64 j ∧ ok = .bool true ∧ Hid (Below wo.heap.size wo wx)) (fun _ i _ => n - (intOf i).toNat)
      case atStart => exact ⟨0, Nat.zero_le _, rfl, rfl, hide (Below.refl _ _)⟩
      case round =>
        obtain ⟨j, hj, rfl, rfl, HBx⟩ := hrel
        have hbx := unhide HBx
        have hcBx : wr.cell? ⟨w.heap.size, 0, none⟩ = some (.slice ao n cp) := (hbx.cell (p := ⟨w.heap.size, 0, none⟩) hBl).trans hcB
        by_cases hjn : j < n
        · have HC := hide (unhide HCL wr j hbx (by omega))
          go_wp2_with fail
          refine (unhide HC).mono ?_
          rintro e w6 ⟨rfl, hb6⟩
          go_wp2
          go_roundw
          case rel => exact ⟨j + 1, by omega, by go_num, rfl, hide hb6⟩
          case measure => simp [intOf]; omega
        · go_wp2
          go_ret
          exact ⟨rfl, hbel.trans (hbx.mono hbel.size)⟩

set_option maxRecDepth 100000 in
theorem keeps_walk (a0 : Option Addr) (b off len cap : Nat) (w : World) (hlen : len ≤ 2000000) (hpos : 0 < len → a0 = some ⟨b, off, none⟩ ∧ b < w.heap.size) (hops : OpsFull w b off len) (he : Env w) :
    Calls Tryz.prog 3 #[.slice a0 len cap] w fun e w' => e = .returned (.bool true) ∧ Below w.heap.size w w' := by
  have HP := hide (plays_walk a0 b off len cap w hlen hpos hops he)
  clear hpos hops
  go_enter Tryz.func3, Tryz.ntmps3
  go_wp2_with fail
  refine (unhide HP).mono ?_
  rintro e w1 ⟨rfl, hb1⟩
  go_wp2
  go_ret
  exact ⟨rfl, hb1⟩

end Go.Proofs.YtekkkoipcghlmaaGreatDoor

namespace Go.Proofs.YtekkkoipcghlmaaGreatDoor
open Go.ChangeShapes Go.WideShapes Go.ChangeAt Go.RowKit Go.Deep

theorem Tryz.laidOut : laidOutB Tryz.prog = true := by kernel_rfl

theorem ptake_one {cs : List Value} {o : Nat} {v : Value} (h : (cs.drop o).take 1 = [v]) : cs[o]? = some v := by
  have := congrArg (·[0]?) h
  simpa [List.getElem?_take, List.getElem?_drop] using this

theorem bs_of (s : ByteArray) : s = bs s.data.toList := by unfold bs; cases s; simp

end Go.Proofs.YtekkkoipcghlmaaGreatDoor
