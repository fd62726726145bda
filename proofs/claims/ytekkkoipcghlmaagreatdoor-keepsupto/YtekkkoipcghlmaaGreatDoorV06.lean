import Derived.Test.YtekkkoipcghlmaaGreatDoorV05
import Derived.Laws.CopyOwn
import Derived.Laws.OwnMore
import Derived.OwnWalk
import Derived.Test.YtekkkoipcghlmaaGreatDoorV02
set_option linter.all false
namespace Go.Proofs.YtekkkoipcghlmaaGreatDoor
open Go.RowKit

/-- Which of n things is meant. -/
def pickOf (c : Int) (n : Nat) : Nat := ((if c < 0 then -(c + 1) else c) % (n : Int)).toNat
theorem pickOf_lt (c : Int) {n : Nat} (hn : 0 < n) : pickOf c n < n := by
  unfold pickOf
  have h1 := Int.emod_nonneg (if c < 0 then -(c + 1) else c) (b := (n : Int)) (by omega)
  have h2 := Int.emod_lt_of_pos (if c < 0 then -(c + 1) else c) (b := (n : Int)) (by omega)
  omega
theorem ret_pick {c a : Int} {n : Nat} (h : (if c < 0 then -(c + 1) else c) % (n : Int) = a) (hn : 0 < n) : Ending.returned (.int .i64 a) = .returned (.int .i64 (pickOf c n : Int)) := by
  unfold pickOf
  rw [Int.toNat_of_nonneg (Int.emod_nonneg _ (by omega)), h]
theorem pick_any (c : Int) (n : Nat) (w : World) (h0 : -9223372036854775808 ≤ c) (h1 : c ≤ 9223372036854775807) (hn : 0 < n) (hn4 : n ≤ 4) :
    Calls Tryz.prog 53 #[.int .i64 c, .int .i64 n] w fun e w' => e = .returned (.int .i64 (pickOf c n)) ∧ w' = w := by
  by_cases hc : c < 0
  · have HC := hide hc
    go_enter Tryz.func53, Tryz.ntmps53
    go_wp2
    go_ret
    have e1 : -(c + 1).tmod (n : Int) = (-(c + 1)) % (n : Int) := by rw [← Int.neg_tmod, Int.tmod_eq_emod_of_nonneg (by omega)]
    exact ⟨ret_pick (a := -(c + 1).tmod (n : Int)) (by rw [e1, if_pos (unhide HC)]) hn, rfl⟩
  · have HC := hide hc
    go_enter Tryz.func53, Tryz.ntmps53
    go_wp2
    go_ret
    exact ⟨ret_pick (a := c % (n : Int)) (by rw [if_neg (by have := unhide HC; omega)]) hn, rfl⟩

theorem row_whole {w : World} {base n : Nat} {e : TypeId} {g : Nat} {xs : List Value} (h : w.ownsRow base e 1 (.slice (some ⟨g, 0, none⟩) n n) n xs) : w.heap[g]? = some (.cells xs.toArray e (0, 0)) := by
  rcases h.2 with ⟨hv, _⟩ | ⟨g', cap, cur, hv, _, hg, _, _, hsz, htk⟩
  · cases hv
  · simp only [Value.slice.injEq, Option.some.injEq, Addr.mk.injEq] at hv
    obtain ⟨⟨rfl, -, -⟩, -, rfl⟩ := hv
    rw [hg]
    have : cur.toList = xs := by rw [← htk, List.take_of_length_le (by simp; omega)]
    rw [← this]

def lentRow (xs : List Int) : List Value := splice (List.replicate (xs.length + 2) (Value.int .i64 0)) 0 (ints xs)
theorem lentRow_eq (xs : List Int) : lentRow xs = ints xs ++ [.int .i64 0, .int .i64 0] := by
  have : (ints xs).length = xs.length := by simp [ints]
  unfold lentRow splice
  simp [this]

theorem copy_lent {ops : Array Oper} {rest : List Oper} {o : Oper} {a : Act} {Q : Exit → Act → World → Prop} {w w1 : World} {xs : List Int} {ao : Option Addr} {cap : Nat}
    (hgd : o.guard = none) (d s : Operand) (ho : o.op = .call { callee := .builtin .copy, args := #[d, s], argTypes := #[25, 25] })
    (hd : a.eval d = .slice (some ⟨w.heap.size, 0, none⟩) (xs.length + 2) (xs.length + 2)) (hs : a.eval s = .slice ao xs.length cap)
    (HR : Hid (w1.heap[w.heap.size]? = some (.cells (List.replicate (xs.length + 2) (Value.int .i64 0)).toArray 3 (0, 0))))
    (HPOS : Hid (∀ w1, Below w.heap.size w w1 → 0 < (ints xs).length → ∃ ad, ao = some ad ∧ ∀ j v, (ints xs)[j]? = some v → w1.cell? (ad.add j) = some v)) (hb : Below w.heap.size w w1)
    (h : ∀ w', Hid (w'.heap[w.heap.size]? = some (.cells (lentRow xs).toArray 3 (0, 0))) → Below w.heap.size w w' → wpList Tryz.prog ops Q rest (a.put o.dst (goInt xs.length)) w') :
    wpList Tryz.prog ops Q (o :: rest) a w1 := by
  obtain ⟨i0, hi0, hz0, hz1, hz2⟩ := info_parts Tryz.infoIntW
  have hlen : (ints xs).length = xs.length := by simp [ints]
  refine wpList_copy_splice hgd d s 25 25 ho 3 Tryz.underlying25 (by rw [hi0]; simp [hz1]) _ _ _ _ _ _ hd hs w.heap.size 0 (List.replicate (xs.length + 2) (Value.int .i64 0)) 3 (unhide HR) (ints xs)
    (by rw [hlen]; show _ = min _ _; omega) (fun hp => ⟨rfl, unhide HPOS w1 hb hp⟩) (by rw [hlen]; simp) ?_ w.heap.size w hb (Nat.le_refl _) ?_
  · intro v hv; unfold ints at hv; obtain ⟨x, _, rfl⟩ := List.mem_map.1 hv; rfl
  · intro w' h1 h2
    rw [hlen]
    exact h w' h1 h2

set_option maxRecDepth 100000 in
set_option maxHeartbeats 400000 in
theorem lent_any (v : Value) (xs : List Int) (w : World) (hl : xs.length ≤ 10000000) (hv : Lies w v (ints xs)) :
    Calls Tryz.prog 54 #[v] w fun e w' => e = .returned (.slice (some ⟨w.heap.size, 0, none⟩) (xs.length + 2) (xs.length + 2)) ∧ w'.heap[w.heap.size]? = some (.cells (ints (xs ++ [77, 0])).toArray 3 (0, 0)) ∧ Below w.heap.size w w' := by
  obtain ⟨i0, hi0, hz0, hz1, hz2⟩ := info_parts Tryz.infoIntW
  have hlen : (ints xs).length = xs.length := by simp [ints]
  obtain ⟨ao, cap, hsh⟩ : ∃ ao cap, v = .slice ao xs.length cap := by
    rcases hv with ⟨h0, ao, cap, rfl⟩ | ⟨b, off, cap, hp, rfl, hb, hc⟩
    · refine ⟨ao, cap, ?_⟩; rw [h0] at hlen; rw [← hlen]; rfl
    · exact ⟨_, _, by rw [hlen]⟩
  subst hsh
  have HPOS : Hid (∀ w1, Below w.heap.size w w1 → 0 < (ints xs).length → ∃ ad, ao = some ad ∧ ∀ j v, (ints xs)[j]? = some v → w1.cell? (ad.add j) = some v) := hide (fun w1 hb1 hp => by
    rcases hv with ⟨h0, _⟩ | ⟨b, off, cap', _, hv, hb, hc⟩
    · rw [h0] at hp; cases hp
    · simp only [Value.slice.injEq] at hv
      refine ⟨⟨b, off, none⟩, hv.1, fun j x hx => ?_⟩
      rw [show (⟨b, off, none⟩ : Addr).add j = ⟨b, off + j, none⟩ from by simp [Addr.add]]; exact (hb1.cell (p := ⟨b, off + j, none⟩) hb).trans (hc j x hx))
  clear hv
  have HROW : Hid ((lentRow xs).toArray[xs.length]? = some (.int .i64 0)) := hide (by rw [lentRow_eq]; simp [hlen])
  have HSET : Hid ((lentRow xs).toArray.setIfInBounds xs.length (.int .i64 77) = (ints (xs ++ [77, 0])).toArray) := hide (by rw [lentRow_eq]; simp [ints])
  clear hlen
  go_enter Tryz.func54, Tryz.ntmps54
  go_wp2_with (first
    | (at_make; refine wpList_make_full _ rfl _ _ 25 rfl w.heap.size 3 i0 (.int .i64 0) 1 Tryz.underlying25 hi0 hz0 hz1 .i64 .i64 _ _ (xs.length + 2) rfl rfl (by omega) (by omega) (by rw [hz2]; omega) (by unfold maxLen; omega) (Nat.le_refl _) ?_; intro w1 hown1 hg1; have HR1 : Hid (w1.heap[w.heap.size]? = some (.cells (List.replicate (xs.length + 2) (Value.int .i64 0)).toArray 3 (0, 0))) := hide (by have h1 := row_whole hown1; rw [Nat.mul_one] at h1; rw [h1, ← toList_madeCells_one]; rfl); have hb1 : Below w.heap.size w w1 := (Below.refl _ _).grown hg1 (Nat.le_refl _) (fun k hk => (by cases hk)); clear hown1 hg1)
    | (refine copy_lent (w := w) (xs := xs) rfl _ _ rfl rfl rfl HR1 HPOS hb1 ?_; intro w2 HG2 hB2; have hc2 : w2.cell? ⟨w.heap.size, xs.length, none⟩ = some (.int .i64 0) := (cell_of_row w2 _ _ _ _ _ (unhide HG2)).trans (unhide HROW); have hf2 : w2.frozen? ⟨w.heap.size, xs.length, none⟩ = false := frozen_of_row w2 _ _ _ _ (unhide HG2))
    | fail)
  go_ret
  exact ⟨rfl, by rw [heap_setCell_same _ _ _ _ _ _ (unhide HG2), unhide HSET], hB2.setCell (p := ⟨w.heap.size, xs.length, none⟩) (Nat.le_refl _) _⟩

def backRow (xs : List Int) (k : Nat) : List Value := ints (List.replicate k 78 ++ (xs.drop k ++ [77, 0]))
theorem set_mid (l : List Value) (x y : Value) (t : List Value) (k : Nat) (h : l.length = k) : (l ++ x :: t).toArray.setIfInBounds k y = (l ++ y :: t).toArray := by subst h; simp
theorem backRow_at (xs : List Int) (k : Nat) (h : k < xs.length) : backRow xs k = List.replicate k (.int .i64 78) ++ .int .i64 xs[k] :: ints (xs.drop (k + 1) ++ [77, 0]) := by
  unfold backRow
  rw [List.drop_eq_getElem_cons h]
  simp only [ints, List.map_append, List.map_cons, List.map_replicate, List.cons_append]
theorem backRow_get (xs : List Int) (k : Nat) (h : k < xs.length) : (backRow xs k).toArray[k]? = some (.int .i64 xs[k]) := by
  rw [backRow_at xs k h]
  generalize ints (xs.drop (k + 1) ++ [77, 0]) = t
  simp
theorem backRow_set (xs : List Int) (k : Nat) (h : k < xs.length) : (backRow xs k).toArray.setIfInBounds k (.int .i64 78) = (backRow xs (k + 1)).toArray := by
  have e3 : backRow xs (k + 1) = List.replicate k (.int .i64 78) ++ .int .i64 78 :: ints (xs.drop (k + 1) ++ [77, 0]) := by
    unfold backRow
    rw [List.replicate_succ']
    simp only [ints, List.map_append, List.map_cons, List.map_replicate, List.append_assoc, List.cons_append, List.nil_append, List.map_nil]
  rw [backRow_at xs k h, e3]
  exact set_mid _ _ _ _ _ (by simp)

set_option maxRecDepth 100000 in
set_option maxHeartbeats 400000 in
theorem back_any (g : Nat) (v : Value) (xs : List Int) (w1 : World) (hl : xs.length ≤ 10000000) (hv : Lies w1 v (ints xs)) (hne : xs ≠ [] → v.ownBlock ≠ some g) (hrow : w1.heap[g]? = some (.cells (ints (xs ++ [77, 0])).toArray 3 (0, 0))) :
    Calls Tryz.prog 56 #[.slice (some ⟨g, 0, none⟩) (xs.length + 2) (xs.length + 2), v] w1 fun e w' => e = .returned (.bool true) ∧ Only (· = g) w1 w' := by
  have hlen : (ints xs).length = xs.length := by simp [ints]
  have hc1 : w1.cell? ⟨g, xs.length, none⟩ = some (.int .i64 77) := (cell_of_row w1 _ _ _ _ _ hrow).trans (by simp [ints])
  have hc2 : w1.cell? ⟨g, xs.length + 1, none⟩ = some (.int .i64 0) := (cell_of_row w1 _ _ _ _ _ hrow).trans (by simp [ints])
  have HR : Hid (w1.heap[g]? = some (.cells (backRow xs 0).toArray 3 (0, 0))) := hide (by rw [hrow]; simp [backRow])
  clear hrow
  rcases hv with ⟨h0, ao, cap, rfl⟩ | ⟨b, off, cap, hp, rfl, hbb, hc⟩
  · have hx : xs = [] := by simpa [ints] using h0
    subst hx
    have hc1' : w1.cell? ⟨g, 0, none⟩ = some (.int .i64 77) := hc1
    have hc2' : w1.cell? ⟨g, 1, none⟩ = some (.int .i64 0) := hc2
    clear hc1 hc2
    go_enter Tryz.func56, Tryz.ntmps56
    go_wp2
    refine wp_loop_rounds 1 ?_
    rw [rounds_succ]
    go_wp2
    go_ret
    exact ⟨rfl, Only.refl _ _⟩
  · rw [hlen] at hp ⊢
    go_enter Tryz.func56, Tryz.ntmps56
    go_wp2
    go_loopw [6, 7] (fun ok i wr => ∃ k : Nat, k ≤ xs.length ∧ i = .int .i64 k ∧ ok = .bool true ∧ Hid (wr.heap[g]? = some (.cells (backRow xs k).toArray 3 (0, 0))) ∧ Only (· = g) w1 wr) (fun _ i _ => xs.length - (intOf i).toNat)
    case atStart => exact ⟨0, Nat.zero_le _, rfl, rfl, HR, Only.refl _ _⟩
    case round =>
      obtain ⟨k, hk, rfl, rfl, HG, ho⟩ := hrel
      by_cases hlt : k < xs.length
      · have hcw : wr.cell? ⟨b, off + k, none⟩ = some (.int .i64 xs[k]) := by
          have h1 : wr.heap[b]? = w1.heap[b]? := ho.block b hbb (fun e => hne (fun e => by rw [e] at hp; simp at hp) (by rw [← e]; rfl))
          exact (World.cell?_of_block (w := w1) (a := ⟨b, off + k, none⟩) h1).trans (hc k (.int .i64 xs[k]) (by simp [ints, hlt]))
        have hcl : wr.cell? ⟨g, k, none⟩ = some (.int .i64 xs[k]) := (cell_of_row wr _ _ _ _ _ (unhide HG)).trans (backRow_get xs k hlt)
        have hfl : wr.frozen? ⟨g, k, none⟩ = false := frozen_of_row wr _ _ _ _ (unhide HG)
        have HST := hide (backRow_set xs k hlt)
        have HO := hide ho
        generalize xs[k] = x at hcw hcl
        clear hc ho
        go_wp2
        go_quiet (fail)
        go_wp2
        go_roundw
        case rel =>
          exact ⟨k + 1, by omega, by go_num, by simp, hide (by rw [heap_setCell_same (wr.drewN nq) _ _ _ _ _ (show (wr.drewN nq).heap[g]? = _ from unhide HG), unhide HST]), ((unhide HO).trans (Only.of_below _ (belowDrew (Below.refl _ _) nq))).trans (Only.setCell (F := (· = g)) (p := ⟨g, k, none⟩) rfl _ _)⟩
        case measure => simp [intOf]; omega
      · go_wp2
        go_ret
        exact ⟨rfl, ho⟩

end Go.Proofs.YtekkkoipcghlmaaGreatDoor

namespace Go.Proofs.YtekkkoipcghlmaaGreatDoor
open Go.RowKit

theorem lit_any (n : Int) (w : World) :
    Calls Tryz.prog 143 #[.int .i64 n] w fun e w' => e = .returned (.bool (isLit n)) ∧ w' = w := by
  cases hl : isLit n
  · have hno : n = 0 ∨ n < -12 ∨ 12 < n := by
      have : ¬ (n ≠ 0 ∧ -12 ≤ n ∧ n ≤ 12) := fun h => by rw [isLit_iff.2 h] at hl; cases hl
      omega
    clear hl
    rcases hno with rfl | h | h
    · go_enter Tryz.func143, Tryz.ntmps143
      go_wp2
      go_ret
      exact ⟨rfl, rfl⟩
    · have h0 : ¬ n = 0 := by omega
      go_enter Tryz.func143, Tryz.ntmps143
      go_wp2
      go_ret
      exact ⟨rfl, rfl⟩
    · have h0 : ¬ n = 0 := by omega
      go_enter Tryz.func143, Tryz.ntmps143
      go_wp2
      go_ret
      exact ⟨ret_bool (by simp; omega), rfl⟩
  · obtain ⟨h0, h1, h2⟩ := isLit_iff.1 hl
    clear hl
    go_enter Tryz.func143, Tryz.ntmps143
    go_wp2
    go_ret
    exact ⟨ret_bool (by simp; omega), rfl⟩

set_option maxRecDepth 100000 in
set_option maxHeartbeats 400000 in
theorem right_any (v : Value) (xs : List Int) (w : World) (hl : xs.length ≤ 10000000) (hv : Lies w v (ints xs)) :
    Calls Tryz.prog 98 #[v] w fun e w' => e = .returned (.bool (allInt xs)) ∧ w' = w := by
  rcases hv with ⟨h0, ao, cap, rfl⟩ | ⟨b, off, cap, hp, rfl, hb, hc⟩
  · have hx : xs = [] := by simpa [ints] using h0
    subst hx
    go_enter Tryz.func98, Tryz.ntmps98
    go_wp2
    refine wp_loop_rounds 1 ?_
    rw [rounds_succ]
    go_wp2
    go_ret
    exact ⟨rfl, rfl⟩
  · have hlen : (ints xs).length = xs.length := by simp [ints]
    rw [hlen] at hp ⊢
    go_enter Tryz.func98, Tryz.ntmps98
    go_wp2
    go_loop [3] (fun i => ∃ k : Nat, k ≤ xs.length ∧ i = .int .i64 k ∧ Hid (allInt (xs.take k) = true)) (fun i => xs.length - (intOf i).toNat)
    case atStart => exact ⟨0, Nat.zero_le _, rfl, rfl⟩
    case round =>
      obtain ⟨k, hk, rfl, HA⟩ := hrel
      by_cases hlt : k < xs.length
      · have hcell := hc k (.int .i64 xs[k]) (by simp [ints, hlt])
        have HM : Hid (xs[k] ∈ xs) := hide (List.getElem_mem hlt)
        have HS : Hid (xs.take (k + 1) = xs.take k ++ [xs[k]]) := hide (List.take_succ_eq_append_getElem hlt)
        generalize xs[k] = x at hcell HM HS
        clear hc
        have HL := hide (lit_any x w)
        cases hx : isLit x
        · rw [hx] at HL
          have HX := hide hx
          clear hx
          go_wp2_with fail
          refine (unhide HL).mono ?_
          rintro e w1 ⟨rfl, rfl⟩
          go_wp2
          go_ret
          have : allInt xs = false := by
            rw [allInt, List.all_eq_false]
            exact ⟨x, unhide HM, by rw [unhide HX]; decide⟩
          exact ⟨by rw [this]; rfl, rfl⟩
        · rw [hx] at HL
          have HX := hide hx
          clear hx
          go_wp2_with fail
          refine (unhide HL).mono ?_
          rintro e w1 ⟨rfl, rfl⟩
          go_wp2
          go_round
          case rel => exact ⟨k + 1, by omega, by go_num, hide (by rw [unhide HS]; have := unhide HA; simp [allInt] at this ⊢; exact ⟨this, unhide HX⟩)⟩
          case measure => simp [intOf]; omega
      · have HT : Hid (xs.take k = xs) := hide (List.take_of_length_le (by omega))
        go_wp2
        go_ret
        exact ⟨by rw [← unhide HT, unhide HA]; rfl, rfl⟩

theorem bitIx_opp {x y : Int} (hx : x ≠ 0 ∧ -12 ≤ x ∧ x ≤ 12) (hy : y ≠ 0 ∧ -12 ≤ y ∧ y ≤ 12) : Sp.bitIx y = Sp.opp (Sp.bitIx x) ↔ y = -x := by
  unfold Sp.bitIx Sp.opp
  split <;> split <;> split <;> omega
theorem always_mask {xs : List Int} (h : allInt xs = true) : alwaysOf xs = alwaysMask (Sp.maskOf xs) := by
  have hbd : ∀ y, y ∈ xs → y ≠ 0 ∧ -12 ≤ y ∧ y ≤ 12 := fun y hy => isLit_iff.1 (by rw [allInt, List.all_eq_true] at h; exact h y hy)
  have hm : Sp.maskOf xs < 2 ^ 24 := Sp.maskOf_lt _ (fun y hy => (hbd y hy).2)
  rw [Bool.eq_iff_iff, alwaysMask_iff hm]
  unfold alwaysOf
  rw [List.any_eq_true]
  constructor
  · rintro ⟨x, hx, hc⟩
    have hn : -x ∈ xs := by simpa using hc
    refine ⟨Sp.bitIx x, ?_, ?_⟩
    · rw [Sp.maskOf_testBit, List.any_eq_true]; exact ⟨x, hx, by simp⟩
    · rw [Sp.maskOf_testBit, List.any_eq_true]; exact ⟨-x, hn, by rw [beq_iff_eq]; exact (bitIx_opp (hbd x hx) (hbd _ hn)).2 rfl⟩
  · rintro ⟨i, h1, h2⟩
    rw [Sp.maskOf_testBit, List.any_eq_true] at h1 h2
    obtain ⟨x, hx, ex⟩ := h1
    obtain ⟨y, hy, ey⟩ := h2
    rw [beq_iff_eq] at ex ey
    subst ex
    have := (bitIx_opp (hbd x hx) (hbd y hy)).1 ey
    subst this
    exact ⟨x, hx, by simpa using hy⟩

end Go.Proofs.YtekkkoipcghlmaaGreatDoor

namespace Go.Proofs.YtekkkoipcghlmaaGreatDoor
open Go.RowKit

def YF (y : Nat) (lv : Value) (k : Nat) : Prop := k = y ∨ lv.ownBlock = some k
def AddY (base y : Nat) (lv : Value) (vs : List Value) (ms : List Nat) (xs : List Int) (w w' : World) : Prop :=
  ∃ lv' vs', YAt base w' y lv' vs' (addTo ms xs).2 ∧ Only (YF y lv) w w' ∧ (∀ g, lv'.ownBlock = some g → lv.ownBlock = some g ∨ w.heap.size ≤ g) ∧ ∀ v, v ∈ vs' → v ∈ vs ∨ ∀ g, v.ownBlock = some g → w.heap.size ≤ g

theorem YAt.below {base : Nat} {w w' : World} {y : Nat} {lv : Value} {vs : List Value} {ms : List Nat} (h : YAt base w y lv vs ms) (hb : Below w.heap.size w w') : YAt base w' y lv vs ms :=
  ⟨(hb.block y (lt_of_block h.block)).trans h.block, h.le, owns_at h.row (fun g hg => hb.block g (h.row.lt g hg).2), h.rows.below hb⟩
theorem AddY.stay {base y : Nat} {lv : Value} {vs : List Value} {ms : List Nat} {xs : List Int} {w w' : World} (h : YAt base w y lv vs ms) (hb : Below w.heap.size w w') (ha : (addTo ms xs).2 = ms) : AddY base y lv vs ms xs w w' :=
  ⟨lv, vs, by rw [ha]; exact h.below hb, Only.of_below _ hb, fun g hg => .inl hg, fun v hv => .inl hv⟩

/-- Behind the append of the document's Add. -/
theorem midY {base y : Nat} {lv cv : Value} {vs : List Value} {ms : List Nat} {m : Nat} {w w1 w4 : World} {g' cap' : Nat} {o : Obj} (hY : YAt base w y lv vs ms) (hb1 : Below w.heap.size w w1)
    (hc : w1.ownsRow w.heap.size 3 1 cv (Sp.litsOf m).length (ints (Sp.litsOf m)))
    (hown : w4.ownsRow base 25 1 (.slice (some ⟨g', 0, none⟩) (ms.length + 1) cap') (ms.length + 1) (vs ++ [cv])) (hgr : (w1.alloc o).grownBy w4 lv.ownBlock) (hloc : lv.ownBlock = some g' ∨ g' = (w1.alloc o).heap.size) :
    w4.heap[y]? = some (.cells #[lv] 93 (0, 0)) ∧
    YAt base (w4.setCell ⟨y, 0, none⟩ (.slice (some ⟨g', 0, none⟩) (ms.length + 1) cap')) y (.slice (some ⟨g', 0, none⟩) (ms.length + 1) cap') (vs ++ [cv]) (ms ++ [m]) ∧
    Only (YF y lv) w (w4.setCell ⟨y, 0, none⟩ (.slice (some ⟨g', 0, none⟩) (ms.length + 1) cap')) ∧ (lv.ownBlock = some g' ∨ w.heap.size ≤ g') := by
  have hlt := lt_of_block hY.block
  have hzs := hb1.size
  have hbase : base ≤ w.heap.size := Nat.le_trans hY.le (Nat.le_of_lt hlt)
  have hne : lv.ownBlock ≠ some y := row_ne hY.row hY.block (by decide)
  have hy1 : (w1.alloc o).heap[y]? = some (.cells #[lv] 93 (0, 0)) := by
    rw [Below.heap_alloc _ _ _ (by omega), hb1.block y hlt]; exact hY.block
  have hy4 : w4.heap[y]? = some (.cells #[lv] 93 (0, 0)) := by rw [hgr.block y (lt_of_block hy1) (fun e => hne e.symm)]; exact hy1
  have hg'y : g' ≠ y := by
    rcases hloc with h | h
    · intro e; subst e; exact hne h
    · rw [h]; simp; omega
  have hlvrow : (w1.alloc o).ownsRow base 25 1 lv ms.length vs := (owns_at hY.row (fun g hg => hb1.block g (hY.row.lt g hg).2)).alloc o
  have hrows1 : RowsAt (w1.alloc o) base vs (ms.map Sp.litsOf) := by
    have h1 := hY.rows.below hb1
    exact ⟨h1.1, fun i x c hx hc => (h1.2 i x c hx hc).alloc o⟩
  have hrows4 : RowsAt w4 base vs (ms.map Sp.litsOf) := hrows1.grown hlvrow hgr
  have hc4 : w4.ownsRow base 3 1 cv (Sp.litsOf m).length (ints (Sp.litsOf m)) := ((owns_mono hc hbase).alloc o).kept hgr (rows_apart (by decide) ((owns_mono hc hbase).alloc o) hlvrow)
  have hrows5 := hrows4.snoc hc4
  refine ⟨hy4, ⟨by rw [heap_setCell_same w4 y 0 _ _ _ hy4]; rfl, hY.le, ?_, ?_⟩, (Only.of_below _ hb1).trans ((Only.alloc _ w1 o).trans ((Only.grown hgr (fun k hk => .inr hk)).trans (Only.setCell (F := YF y lv) (p := ⟨y, 0, none⟩) (.inl rfl) _ _))), ?_⟩
  · rw [List.length_append]
    exact ownsRow_setCell_other hown (a := ⟨y, 0, none⟩) (by simp [Value.ownBlock]; exact hg'y) _
  · rw [List.map_append]
    refine ⟨hrows5.1, fun i x c hx hc => ?_⟩
    have hr := hrows5.2 i x c hx hc
    exact ownsRow_setCell_other hr (a := ⟨y, 0, none⟩) (row_ne hr hy4 (by decide)) _
  · rcases hloc with h | h
    · exact .inl h
    · exact .inr (by rw [h]; simp; omega)

theorem AddY.grow {base y : Nat} {lv cv lv' : Value} {vs : List Value} {ms : List Nat} {m : Nat} {xs : List Int} {w w1 w' : World} {g' n cap' : Nat} (hc : w1.ownsRow w.heap.size 3 1 cv (Sp.litsOf m).length (ints (Sp.litsOf m))) (e : lv' = .slice (some ⟨g', 0, none⟩) n cap')
    (h1 : YAt base w' y lv' (vs ++ [cv]) (ms ++ [m])) (h2 : Only (YF y lv) w w') (h3 : lv.ownBlock = some g' ∨ w.heap.size ≤ g') (ha : (addTo ms xs).2 = ms ++ [m]) : AddY base y lv vs ms xs w w' := by
  subst e
  refine ⟨_, _, by rw [ha]; exact h1, h2, fun g hg => (by simp [Value.ownBlock] at hg; subst hg; exact h3), fun v hv => ?_⟩
  rcases List.mem_append.1 hv with hv | hv
  · exact .inl hv
  · simp at hv; subst hv
    exact .inr (fun g hg => (hc.lt g hg).1)

theorem YAt.pick {base : Nat} {w : World} {y : Nat} {lv : Value} {vs : List Value} {ms : List Nat} (h : YAt base w y lv vs ms) {k : Nat} (hk : k < ms.length) :
    ∃ g cp x ao cp', lv = .slice (some ⟨g, 0, none⟩) ms.length cp ∧ w.cell? ⟨g, k, none⟩ = some x ∧ x = .slice ao (Sp.litsOf ms[k]).length cp' ∧ Lies w x (ints (Sp.litsOf ms[k])) := by
  have hvl : vs.length = ms.length := by have := h.rows.1; simpa using this
  have hr := h.rows.2 k vs[k] (Sp.litsOf ms[k]) (by simp [hvl, hk]) (by simp [hk])
  obtain ⟨ao, cp', hx⟩ := owns_shape hr
  have hrow := h.row
  rcases hrow.2 with ⟨_, h0⟩ | ⟨g, cp, cur, rfl, _⟩
  · omega
  · refine ⟨g, cp, vs[k], ao, cp', rfl, ?_, hx, lies_of_owns hr (by simp [ints])⟩
    rw [hrow.cellAt k (by omega)]
    simp [hvl, hk]
theorem sizes_take (ms : List Nat) (k : Nat) (h : k < ms.length) : sizes (ms.take (k + 1)) = sizes (ms.take k) + (Sp.litsOf ms[k]).length := by
  rw [List.take_succ_eq_append_getElem h, sizes_snoc]
theorem sizes_part (ms : List Nat) (k : Nat) : sizes (ms.take k) ≤ sizes ms := by
  have : sizes ms = sizes (ms.take k) + sizes (ms.drop k) := by
    unfold sizes
    rw [← List.sum_append, ← List.map_append, List.take_append_drop]
  omega
theorem Tryz.infoLists : (Tryz.prog.info? 25).map (fun i => (i.zero, i.size, i.bytes)) = some (some (.slice none 0 0), 1, 24) := by kernel_rfl

set_option maxRecDepth 100000 in
set_option maxHeartbeats 1600000 in
theorem addY_any (base y : Nat) (lv v : Value) (vs : List Value) (ms : List Nat) (xs : List Int) (w : World) (hY : YAt base w y lv vs ms) (hms : ms.length ≤ 10000000) (hl : xs.length ≤ 10000000) (hv : Lies w v (ints xs)) :
    Calls Tryz.prog 55 #[.pointer (some ⟨y, 0, none⟩), v] w fun e w' => e = .returned (.int .i64 (addTo ms xs).1) ∧ AddY base y lv vs ms xs w w' := by
  have HR := hide (right_any v xs w hl hv)
  have HSO := hide (sorted_any v xs w hl hv)
  have HLV := hide hv
  have hszl := sizes_le ms
  obtain ⟨ao, cp, hsh⟩ := owns_shape hY.row
  subst hsh
  have hc0 : w.cell? ⟨y, 0, none⟩ = some (.slice ao ms.length cp) := by simp [World.cell?, hY.block]
  have HY := hide hY
  clear hY hv
  cases ha : allInt xs
  · have HT : Hid (addTo ms xs = (1, ms)) := hide (by unfold addTo; rw [if_pos ha])
    rw [ha] at HR
    clear ha
    go_enter Tryz.func55, Tryz.ntmps55
    go_wp2_with fail
    refine (unhide HR).mono ?_
    rintro e w1 ⟨rfl, rfl⟩
    go_wp2
    go_ret
    exact ⟨by rw [unhide HT]; rfl, AddY.stay (unhide HY) (Below.refl _ _) (by rw [unhide HT])⟩
  · have hbd : ∀ z, z ∈ xs → z ≠ 0 ∧ -12 ≤ z ∧ z ≤ 12 := fun z hz => isLit_iff.1 (by rw [allInt, List.all_eq_true] at ha; exact ha z hz)
    have hm : Sp.maskOf xs < 2 ^ 24 := Sp.maskOf_lt _ (fun z hz => (hbd z hz).2)
    have HAL := hide (always_any v xs w hl (fun z hz => (hbd z hz).2) (unhide HLV))
    rw [always_mask ha] at HAL
    rw [← Sp.litsOf_maskOf xs (fun z hz => (hbd z hz).1)] at HSO
    rw [ha] at HR
    have h24 := litsOf_len24 (Sp.maskOf xs)
    have HT0 : Hid (alwaysMask (Sp.maskOf xs) = true → addTo ms xs = (0, ms)) := hide (fun h => by unfold addTo; rw [if_neg (by rw [ha]; decide), if_pos h])
    have HT2 : Hid (alwaysMask (Sp.maskOf xs) = false → 400 < sizes ms + (Sp.litsOf (Sp.maskOf xs)).length → addTo ms xs = (2, ms)) := hide (fun h h2 => by unfold addTo; rw [if_neg (by rw [ha]; decide), if_neg (by rw [h]; decide), if_pos h2])
    have HT3 : Hid (alwaysMask (Sp.maskOf xs) = false → ¬ 400 < sizes ms + (Sp.litsOf (Sp.maskOf xs)).length → addTo ms xs = (0, ms ++ [Sp.maskOf xs])) := hide (fun h h2 => by unfold addTo; rw [if_neg (by rw [ha]; decide), if_neg (by rw [h]; decide), if_neg h2])
    clear ha hbd
    generalize hmm : Sp.maskOf xs = m at *
    clear hmm
    generalize hal : alwaysMask m = al at *
    clear hal
    cases al
    · clear HT0
      have HSP := hide (sizes_part ms)
      go_enter Tryz.func55, Tryz.ntmps55
      go_wp2_with fail
      refine (unhide HR).mono ?_
      rintro e w1 ⟨rfl, rfl⟩
      go_wp2_with fail
      refine (unhide HAL).mono ?_
      rintro e w2 ⟨rfl, rfl⟩
      go_wp2_with fail
      refine (unhide HSO).mono ?_
      rintro e w3 ⟨cv, rfl, hcrow, hb3⟩
      obtain ⟨co, cc, hcs⟩ := owns_shape hcrow
      subst hcs
      have HC := hide hcrow
      have HY3 := hide ((unhide HY).below hb3)
      have hc03 : w3.cell? ⟨y, 0, none⟩ = some (.slice ao ms.length cp) := by simp [World.cell?, (unhide HY3).block]
      clear hcrow hc0
      generalize hsz : (Sp.litsOf m).length = sz at *
      have HSZ := hide hsz
      clear hsz
      go_wp2
      go_loopw [8, 9] (fun n i wr => ∃ k q : Nat, k ≤ ms.length ∧ i = .int .i64 k ∧ n = .int .i64 ((sz + sizes (ms.take k) : Nat) : Int) ∧ wr = w3.drewN q) (fun _ i _ => ms.length - (intOf i).toNat)
      case atStart => exact ⟨0, 0, Nat.zero_le _, rfl, by simp [sizes], rfl⟩
      case round =>
        obtain ⟨k, q, hk, rfl, rfl, rfl⟩ := hrel
        have hsp := unhide HSP k
        by_cases hlt : k < ms.length
        · obtain ⟨g, cp0, x, ao', cp', e1, hcx, e2, -⟩ := (unhide HY3).pick hlt
          simp only [Value.slice.injEq] at e1
          obtain ⟨rfl, -, rfl⟩ := e1
          subst e2
          have HST := hide (sizes_take ms k hlt)
          have hl24 := litsOf_len24 ms[k]
          generalize (Sp.litsOf ms[k]).length = lk at *
          generalize sizes (ms.take k) = sk at *
          go_wp2
          go_roundw
          case rel => exact ⟨k + 1, _, by omega, by go_num, by rw [unhide HST]; go_num, rfl⟩
          case measure => simp [intOf]; omega
        · have hk2 : k = ms.length := by omega
          subst hk2
          have HTK : Hid (sizes (ms.take ms.length) = sizes ms) := hide (by rw [List.take_length])
          rw [unhide HTK]
          by_cases h4 : 400 < sizes ms + sz
          · have HT := hide (unhide HT2 trivial h4)
            have h4' : (400 : Int) < ((sz + sizes ms : Nat) : Int) := by omega
            go_wp2
            go_ret
            exact ⟨by rw [unhide HT]; rfl, AddY.stay (unhide HY) (belowDrew hb3 _) (by rw [unhide HT])⟩
          · have HT := hide (unhide HT3 trivial h4)
            have h4' : ¬ (400 : Int) < ((sz + sizes ms : Nat) : Int) := by omega
            have hbase : base ≤ w3.heap.size := Nat.le_trans (unhide HY3).le (Nat.le_of_lt (lt_of_block (unhide HY3).block))
            have HC : Hid (w3.ownsRow w2.heap.size 3 1 (.slice co sz cc) (Sp.litsOf m).length (ints (Sp.litsOf m))) := hide (by rw [unhide HSZ]; exact unhide HC)
            go_wp2_with (at_builtin; refine append_cell (base := base) rfl _ _ 27 25 rfl Tryz.underlying27 Tryz.infoLists rfl (by decide) (row_drew (unhide HY3).row _) rfl rfl rfl (by omega) hbase ?_; intro g' cap' w4 hown4 hgr4 hloc; have HMID := hide (midY (unhide HY) (belowDrew hb3 _) (row_drew (unhide HC) _) hown4 hgr4 hloc); clear hown4 hgr4 hloc; have hc04 : w4.cell? ⟨y, 0, none⟩ = some (.slice ao ms.length cp) := (by simp [World.cell?, (unhide HMID).1]); have hf04 : w4.frozen? ⟨y, 0, none⟩ = false := frozen_of_row w4 _ _ _ _ (unhide HMID).1)
            go_ret
            exact ⟨by rw [unhide HT]; rfl, AddY.grow (unhide HC) rfl (unhide HMID).2.1 (unhide HMID).2.2.1 (unhide HMID).2.2.2 (by rw [unhide HT])⟩
    · have HT := hide (unhide HT0 rfl)
      clear HT0 HT2 HT3
      go_enter Tryz.func55, Tryz.ntmps55
      go_wp2_with fail
      refine (unhide HR).mono ?_
      rintro e w1 ⟨rfl, rfl⟩
      go_wp2_with fail
      refine (unhide HAL).mono ?_
      rintro e w2 ⟨rfl, rfl⟩
      go_wp2
      go_ret
      exact ⟨by rw [unhide HT]; rfl, AddY.stay (unhide HY) (Below.refl _ _) (by rw [unhide HT])⟩

end Go.Proofs.YtekkkoipcghlmaaGreatDoor

namespace Go.Proofs.YtekkkoipcghlmaaGreatDoor
open Go.RowKit

theorem litAt_div (k : Nat) : Sp.litAt k = if k % 2 = 1 then -((k : Int) / 2 + 1) else (k : Int) / 2 + 1 := by
  unfold Sp.litAt
  by_cases h : k % 2 = 0
  · rw [if_pos h, if_neg (by omega)]; omega
  · rw [if_neg h, if_pos (by omega)]; omega

theorem ret_int64 {a b : Int} (h : a = b) : Ending.returned (.int .i64 a) = .returned (.int .i64 b) := by rw [h]

set_option maxRecDepth 100000 in
set_option maxHeartbeats 400000 in
theorem pfirst_any (m : Nat) (w : World) (hm : m < 2 ^ 24) (he : EnvT w) :
    Calls Tryz.prog 70 #[.int .u32 m] w fun e w' => e = .returned (.int .i64 (Sp.litAt (Lib.ctz 32 m))) ∧ w' = w := by
  have HT := hide (Any7.bits_TrailingZeros32 Tryz.lays7n28 m (Nat.lt_trans hm (by decide)) w (fun _ => he.brj.2))
  have HT : Hid (Calls Tryz.prog 115 #[.int .u32 m] w fun e w' => e = .returned (.int .i64 (Lib.ctz 32 m)) ∧ w' = w) := HT
  have HL := hide (litAt_div (Lib.ctz 32 m))
  have hc : Lib.ctz 32 m ≤ 32 := by
    by_cases h0 : m = 0
    · subst h0; decide
    · exact Nat.le_of_lt (Lib.lowest_bit 32 m h0 (Nat.lt_trans hm (by decide))).2
  generalize Lib.ctz 32 m = k at *
  by_cases h1 : k % 2 = 1
  · have hq : ((k : Int) % 2 == 1) = true := by rw [beq_iff_eq]; omega
    have H1 := hide h1
    clear h1
    go_enter Tryz.func70, Tryz.ntmps70
    go_wp2_with fail
    refine (unhide HT).mono ?_
    rintro e w1 ⟨rfl, rfl⟩
    go_wp2
    go_ret
    exact ⟨ret_int64 (by rw [unhide HL, if_pos (unhide H1)]), rfl⟩
  · have hq : ((k : Int) % 2 == 1) = false := by rw [beq_eq_false_iff_ne]; omega
    have H1 := hide h1
    clear h1
    go_enter Tryz.func70, Tryz.ntmps70
    go_wp2_with fail
    refine (unhide HT).mono ?_
    rintro e w1 ⟨rfl, rfl⟩
    go_wp2
    go_ret
    exact ⟨ret_int64 (by rw [unhide HL, if_neg (unhide H1)]), rfl⟩

end Go.Proofs.YtekkkoipcghlmaaGreatDoor
