import Derived.Test.YtgoigckhblffhaaGreatDoorRJ18
import Derived.Test.YtgoigckhblffhaaGreatDoorRJ08
namespace Go.Proofs.YtgoigckhblffhaaGreatDoorR
open Go.RowKit

theorem lit_any (n : Int) (w : World) :
    Calls Tryz.prog 47 #[.int .i64 n] w fun e w' => e = .returned (.bool (isLit n)) ∧ w' = w := by
  cases hl : isLit n
  · have hno : n = 0 ∨ n < -12 ∨ 12 < n := by
      have : ¬ (n ≠ 0 ∧ -12 ≤ n ∧ n ≤ 12) := fun h => by rw [isLit_iff.2 h] at hl; cases hl
      omega
    clear hl
    rcases hno with rfl | h | h
    · go_enter Tryz.func47, Tryz.ntmps47
      go_wp2
      go_ret
      exact ⟨rfl, rfl⟩
    · have h0 : ¬ n = 0 := by omega
      go_enter Tryz.func47, Tryz.ntmps47
      go_wp2
      go_ret
      exact ⟨rfl, rfl⟩
    · have h0 : ¬ n = 0 := by omega
      go_enter Tryz.func47, Tryz.ntmps47
      go_wp2
      go_ret
      exact ⟨ret_bool (by simp; omega), rfl⟩
  · obtain ⟨h0, h1, h2⟩ := isLit_iff.1 hl
    clear hl
    go_enter Tryz.func47, Tryz.ntmps47
    go_wp2
    go_ret
    exact ⟨ret_bool (by simp; omega), rfl⟩

set_option maxRecDepth 100000 in
set_option maxHeartbeats 400000 in
theorem right_any (v : Value) (xs : List Int) (w : World) (hl : xs.length ≤ 10000000) (hv : Lies w v (ints xs)) :
    Calls Tryz.prog 28 #[v] w fun e w' => e = .returned (.bool (allInt xs)) ∧ w' = w := by
  rcases hv with ⟨h0, ao, cap, rfl⟩ | ⟨b, off, cap, hp, rfl, hb, hc⟩
  · have hx : xs = [] := by simpa [ints] using h0
    subst hx
    go_enter Tryz.func28, Tryz.ntmps28
    go_wp2
    refine wp_loop_rounds 1 ?_
    rw [rounds_succ]
    go_wp2
    go_ret
    exact ⟨rfl, rfl⟩
  · have hlen : (ints xs).length = xs.length := by simp [ints]
    rw [hlen] at hp ⊢
    go_enter Tryz.func28, Tryz.ntmps28
    go_wp2
    go_loop [3] (fun i => ∃ k : Nat, k ≤ xs.length ∧ i = .int .i64 k ∧ Hid (allInt (xs.take k) = true)) (fun i => xs.length - (intOf i).toNat)
    case atStart => exact ⟨0, Nat.zero_le _, rfl, rfl⟩
    case round =>
      obtain ⟨k, hk, rfl, HA⟩ := hrel
      by_cases hlt : k < xs.length
      · have hcell := hc k (.int .i64 xs[k]) (by simp [ints, hlt])
        have HM : Hid (xs[k] ∈ xs) := hide (List.getElem_mem hlt)
        have HS : Hid (xs.take (k + 1) = xs.take k ++ [xs[k]]) := hide (List.take_succ_eq_append_getElem hlt)
        generalize xs[k] = x at hcell HM HS
        clear hc
        have HL := hide (lit_any x w)
        cases hx : isLit x
        · rw [hx] at HL
          have HX := hide hx
          clear hx
          go_wp2_with fail
          refine (unhide HL).mono ?_
          rintro e w1 ⟨rfl, rfl⟩
          go_wp2
          go_ret
          have : allInt xs = false := by
            rw [allInt, List.all_eq_false]
            exact ⟨x, unhide HM, by rw [unhide HX]; decide⟩
          exact ⟨by rw [this]; rfl, rfl⟩
        · rw [hx] at HL
          have HX := hide hx
          clear hx
          go_wp2_with fail
          refine (unhide HL).mono ?_
          rintro e w1 ⟨rfl, rfl⟩
          go_wp2
          go_round
          case rel => exact ⟨k + 1, by omega, by go_num, hide (by rw [unhide HS]; have := unhide HA; simp [allInt] at this ⊢; exact ⟨this, unhide HX⟩)⟩
          case measure => simp [intOf]; omega
      · have HT : Hid (xs.take k = xs) := hide (List.take_of_length_le (by omega))
        go_wp2
        go_ret
        exact ⟨by rw [← unhide HT, unhide HA]; rfl, rfl⟩

theorem bitIx_opp {x y : Int} (hx : x ≠ 0 ∧ -12 ≤ x ∧ x ≤ 12) (hy : y ≠ 0 ∧ -12 ≤ y ∧ y ≤ 12) : Sp.bitIx y = Sp.opp (Sp.bitIx x) ↔ y = -x := by
  unfold Sp.bitIx Sp.opp
  split <;> split <;> split <;> omega
theorem always_mask {xs : List Int} (h : allInt xs = true) : alwaysOf xs = alwaysMask (Sp.maskOf xs) := by
  have hbd : ∀ y, y ∈ xs → y ≠ 0 ∧ -12 ≤ y ∧ y ≤ 12 := fun y hy => isLit_iff.1 (by rw [allInt, List.all_eq_true] at h; exact h y hy)
  have hm : Sp.maskOf xs < 2 ^ 24 := Sp.maskOf_lt _ (fun y hy => (hbd y hy).2)
  rw [Bool.eq_iff_iff, alwaysMask_iff hm]
  unfold alwaysOf
  rw [List.any_eq_true]
  constructor
  · rintro ⟨x, hx, hc⟩
    have hn : -x ∈ xs := by simpa using hc
    refine ⟨Sp.bitIx x, ?_, ?_⟩
    · rw [Sp.maskOf_testBit, List.any_eq_true]; exact ⟨x, hx, by simp⟩
    · rw [Sp.maskOf_testBit, List.any_eq_true]; exact ⟨-x, hn, by rw [beq_iff_eq]; exact (bitIx_opp (hbd x hx) (hbd _ hn)).2 rfl⟩
  · rintro ⟨i, h1, h2⟩
    rw [Sp.maskOf_testBit, List.any_eq_true] at h1 h2
    obtain ⟨x, hx, ex⟩ := h1
    obtain ⟨y, hy, ey⟩ := h2
    rw [beq_iff_eq] at ex ey
    subst ex
    have := (bitIx_opp (hbd x hx) (hbd y hy)).1 ey
    subst this
    exact ⟨x, hx, by simpa using hy⟩

end Go.Proofs.YtgoigckhblffhaaGreatDoorR

namespace Go.Proofs.YtgoigckhblffhaaGreatDoorR
open Go.RowKit

def YF (y : Nat) (lv : Value) (k : Nat) : Prop := k = y ∨ lv.ownBlock = some k
def AddY (base y : Nat) (lv : Value) (vs : List Value) (ms : List Nat) (xs : List Int) (w w' : World) : Prop :=
  ∃ lv' vs', YAt base w' y lv' vs' (addTo ms xs).2 ∧ Only (YF y lv) w w' ∧ (∀ g, lv'.ownBlock = some g → lv.ownBlock = some g ∨ w.heap.size ≤ g) ∧ ∀ v, v ∈ vs' → v ∈ vs ∨ ∀ g, v.ownBlock = some g → w.heap.size ≤ g

theorem YAt.below {base : Nat} {w w' : World} {y : Nat} {lv : Value} {vs : List Value} {ms : List Nat} (h : YAt base w y lv vs ms) (hb : Below w.heap.size w w') : YAt base w' y lv vs ms :=
  ⟨(hb.block y (lt_of_block h.block)).trans h.block, h.le, owns_at h.row (fun g hg => hb.block g (h.row.lt g hg).2), h.rows.below hb⟩
theorem AddY.stay {base y : Nat} {lv : Value} {vs : List Value} {ms : List Nat} {xs : List Int} {w w' : World} (h : YAt base w y lv vs ms) (hb : Below w.heap.size w w') (ha : (addTo ms xs).2 = ms) : AddY base y lv vs ms xs w w' :=
  ⟨lv, vs, by rw [ha]; exact h.below hb, Only.of_below _ hb, fun g hg => .inl hg, fun v hv => .inl hv⟩

/-- Behind the append of the document's Add. -/
theorem midY {base y : Nat} {lv cv : Value} {vs : List Value} {ms : List Nat} {m : Nat} {w w1 w4 : World} {g' cap' : Nat} {o : Obj} (hY : YAt base w y lv vs ms) (hb1 : Below w.heap.size w w1)
    (hc : w1.ownsRow w.heap.size 3 1 cv (Sp.litsOf m).length (ints (Sp.litsOf m)))
    (hown : w4.ownsRow base 33 1 (.slice (some ⟨g', 0, none⟩) (ms.length + 1) cap') (ms.length + 1) (vs ++ [cv])) (hgr : (w1.alloc o).grownBy w4 lv.ownBlock) (hloc : lv.ownBlock = some g' ∨ g' = (w1.alloc o).heap.size) :
    w4.heap[y]? = some (.cells #[lv] 45 (0, 0)) ∧
    YAt base (w4.setCell ⟨y, 0, none⟩ (.slice (some ⟨g', 0, none⟩) (ms.length + 1) cap')) y (.slice (some ⟨g', 0, none⟩) (ms.length + 1) cap') (vs ++ [cv]) (ms ++ [m]) ∧
    Only (YF y lv) w (w4.setCell ⟨y, 0, none⟩ (.slice (some ⟨g', 0, none⟩) (ms.length + 1) cap')) ∧ (lv.ownBlock = some g' ∨ w.heap.size ≤ g') := by
  have hlt := lt_of_block hY.block
  have hzs := hb1.size
  have hbase : base ≤ w.heap.size := Nat.le_trans hY.le (Nat.le_of_lt hlt)
  have hne : lv.ownBlock ≠ some y := row_ne hY.row hY.block (by decide)
  have hy1 : (w1.alloc o).heap[y]? = some (.cells #[lv] 45 (0, 0)) := by
    rw [Below.heap_alloc _ _ _ (by omega), hb1.block y hlt]; exact hY.block
  have hy4 : w4.heap[y]? = some (.cells #[lv] 45 (0, 0)) := by rw [hgr.block y (lt_of_block hy1) (fun e => hne e.symm)]; exact hy1
  have hg'y : g' ≠ y := by
    rcases hloc with h | h
    · intro e; subst e; exact hne h
    · rw [h]; simp; omega
  have hlvrow : (w1.alloc o).ownsRow base 33 1 lv ms.length vs := (owns_at hY.row (fun g hg => hb1.block g (hY.row.lt g hg).2)).alloc o
  have hrows1 : RowsAt (w1.alloc o) base vs (ms.map Sp.litsOf) := by
    have h1 := hY.rows.below hb1
    exact ⟨h1.1, fun i x c hx hc => (h1.2 i x c hx hc).alloc o⟩
  have hrows4 : RowsAt w4 base vs (ms.map Sp.litsOf) := hrows1.grown hlvrow hgr
  have hc4 : w4.ownsRow base 3 1 cv (Sp.litsOf m).length (ints (Sp.litsOf m)) := ((owns_mono hc hbase).alloc o).kept hgr (rows_apart (by decide) ((owns_mono hc hbase).alloc o) hlvrow)
  have hrows5 := hrows4.snoc hc4
  refine ⟨hy4, ⟨by rw [heap_setCell_same w4 y 0 _ _ _ hy4]; rfl, hY.le, ?_, ?_⟩, (Only.of_below _ hb1).trans ((Only.alloc _ w1 o).trans ((Only.grown hgr (fun k hk => .inr hk)).trans (Only.setCell (F := YF y lv) (p := ⟨y, 0, none⟩) (.inl rfl) _ _))), ?_⟩
  · rw [List.length_append]
    exact ownsRow_setCell_other hown (a := ⟨y, 0, none⟩) (by simp [Value.ownBlock]; exact hg'y) _
  · rw [List.map_append]
    refine ⟨hrows5.1, fun i x c hx hc => ?_⟩
    have hr := hrows5.2 i x c hx hc
    exact ownsRow_setCell_other hr (a := ⟨y, 0, none⟩) (row_ne hr hy4 (by decide)) _
  · rcases hloc with h | h
    · exact .inl h
    · exact .inr (by rw [h]; simp; omega)

theorem AddY.grow {base y : Nat} {lv cv lv' : Value} {vs : List Value} {ms : List Nat} {m : Nat} {xs : List Int} {w w1 w' : World} {g' n cap' : Nat} (hc : w1.ownsRow w.heap.size 3 1 cv (Sp.litsOf m).length (ints (Sp.litsOf m))) (e : lv' = .slice (some ⟨g', 0, none⟩) n cap')
    (h1 : YAt base w' y lv' (vs ++ [cv]) (ms ++ [m])) (h2 : Only (YF y lv) w w') (h3 : lv.ownBlock = some g' ∨ w.heap.size ≤ g') (ha : (addTo ms xs).2 = ms ++ [m]) : AddY base y lv vs ms xs w w' := by
  subst e
  refine ⟨_, _, by rw [ha]; exact h1, h2, fun g hg => (by simp [Value.ownBlock] at hg; subst hg; exact h3), fun v hv => ?_⟩
  rcases List.mem_append.1 hv with hv | hv
  · exact .inl hv
  · simp at hv; subst hv
    exact .inr (fun g hg => (hc.lt g hg).1)

theorem YAt.pick {base : Nat} {w : World} {y : Nat} {lv : Value} {vs : List Value} {ms : List Nat} (h : YAt base w y lv vs ms) {k : Nat} (hk : k < ms.length) :
    ∃ g cp x ao cp', lv = .slice (some ⟨g, 0, none⟩) ms.length cp ∧ w.cell? ⟨g, k, none⟩ = some x ∧ x = .slice ao (Sp.litsOf ms[k]).length cp' ∧ Lies w x (ints (Sp.litsOf ms[k])) := by
  have hvl : vs.length = ms.length := by have := h.rows.1; simpa using this
  have hr := h.rows.2 k vs[k] (Sp.litsOf ms[k]) (by simp [hvl, hk]) (by simp [hk])
  obtain ⟨ao, cp', hx⟩ := owns_shape hr
  have hrow := h.row
  rcases hrow.2 with ⟨_, h0⟩ | ⟨g, cp, cur, rfl, _⟩
  · omega
  · refine ⟨g, cp, vs[k], ao, cp', rfl, ?_, hx, lies_of_owns hr (by simp [ints])⟩
    rw [hrow.cellAt k (by omega)]
    simp [hvl, hk]
theorem sizes_take (ms : List Nat) (k : Nat) (h : k < ms.length) : sizes (ms.take (k + 1)) = sizes (ms.take k) + (Sp.litsOf ms[k]).length := by
  rw [List.take_succ_eq_append_getElem h, sizes_snoc]
theorem sizes_part (ms : List Nat) (k : Nat) : sizes (ms.take k) ≤ sizes ms := by
  have : sizes ms = sizes (ms.take k) + sizes (ms.drop k) := by
    unfold sizes
    rw [← List.sum_append, ← List.map_append, List.take_append_drop]
  omega
theorem Tryz.infoLists : (Tryz.prog.info? 33).map (fun i => (i.zero, i.size, i.bytes)) = some (some (.slice none 0 0), 1, 24) := by kernel_rfl

set_option maxRecDepth 100000 in
set_option maxHeartbeats 1600000 in
theorem addY_any (base y : Nat) (lv v : Value) (vs : List Value) (ms : List Nat) (xs : List Int) (w : World) (hY : YAt base w y lv vs ms) (hms : ms.length ≤ 10000000) (hl : xs.length ≤ 10000000) (hv : Lies w v (ints xs)) :
    Calls Tryz.prog 13 #[.pointer (some ⟨y, 0, none⟩), v] w fun e w' => e = .returned (.int .i64 (addTo ms xs).1) ∧ AddY base y lv vs ms xs w w' := by
  have HR := hide (right_any v xs w hl hv)
  have HSO := hide (sorted_any v xs w hl hv)
  have HLV := hide hv
  have hszl := sizes_le ms
  obtain ⟨ao, cp, hsh⟩ := owns_shape hY.row
  subst hsh
  have hc0 : w.cell? ⟨y, 0, none⟩ = some (.slice ao ms.length cp) := by simp [World.cell?, hY.block]
  have HY := hide hY
  clear hY hv
  cases ha : allInt xs
  · have HT : Hid (addTo ms xs = (1, ms)) := hide (by unfold addTo; rw [if_pos ha])
    rw [ha] at HR
    clear ha
    go_enter Tryz.func13, Tryz.ntmps13
    go_wp2_with fail
    refine (unhide HR).mono ?_
    rintro e w1 ⟨rfl, rfl⟩
    go_wp2
    go_ret
    exact ⟨by rw [unhide HT]; rfl, AddY.stay (unhide HY) (Below.refl _ _) (by rw [unhide HT])⟩
  · have hbd : ∀ z, z ∈ xs → z ≠ 0 ∧ -12 ≤ z ∧ z ≤ 12 := fun z hz => isLit_iff.1 (by rw [allInt, List.all_eq_true] at ha; exact ha z hz)
    have hm : Sp.maskOf xs < 2 ^ 24 := Sp.maskOf_lt _ (fun z hz => (hbd z hz).2)
    have HAL := hide (always_any v xs w hl (fun z hz => (hbd z hz).2) (unhide HLV))
    rw [always_mask ha] at HAL
    rw [← Sp.litsOf_maskOf xs (fun z hz => (hbd z hz).1)] at HSO
    rw [ha] at HR
    have h24 := litsOf_len24 (Sp.maskOf xs)
    have HT0 : Hid (alwaysMask (Sp.maskOf xs) = true → addTo ms xs = (0, ms)) := hide (fun h => by unfold addTo; rw [if_neg (by rw [ha]; decide), if_pos h])
    have HT2 : Hid (alwaysMask (Sp.maskOf xs) = false → 400 < sizes ms + (Sp.litsOf (Sp.maskOf xs)).length → addTo ms xs = (2, ms)) := hide (fun h h2 => by unfold addTo; rw [if_neg (by rw [ha]; decide), if_neg (by rw [h]; decide), if_pos h2])
    have HT3 : Hid (alwaysMask (Sp.maskOf xs) = false → ¬ 400 < sizes ms + (Sp.litsOf (Sp.maskOf xs)).length → addTo ms xs = (0, ms ++ [Sp.maskOf xs])) := hide (fun h h2 => by unfold addTo; rw [if_neg (by rw [ha]; decide), if_neg (by rw [h]; decide), if_neg h2])
    clear ha hbd
    generalize hmm : Sp.maskOf xs = m at *
    clear hmm
    generalize hal : alwaysMask m = al at *
    clear hal
    cases al
    · clear HT0
      have HSP := hide (sizes_part ms)
      go_enter Tryz.func13, Tryz.ntmps13
      go_wp2_with fail
      refine (unhide HR).mono ?_
      rintro e w1 ⟨rfl, rfl⟩
      go_wp2_with fail
      refine (unhide HAL).mono ?_
      rintro e w2 ⟨rfl, rfl⟩
      go_wp2_with fail
      refine (unhide HSO).mono ?_
      rintro e w3 ⟨cv, rfl, hcrow, hb3⟩
      obtain ⟨co, cc, hcs⟩ := owns_shape hcrow
      subst hcs
      have HC := hide hcrow
      have HY3 := hide ((unhide HY).below hb3)
      have hc03 : w3.cell? ⟨y, 0, none⟩ = some (.slice ao ms.length cp) := by simp [World.cell?, (unhide HY3).block]
      clear hcrow hc0
      generalize hsz : (Sp.litsOf m).length = sz at *
      have HSZ := hide hsz
      clear hsz
      go_wp2
      go_loopw [8, 9] (fun n i wr => ∃ k q : Nat, k ≤ ms.length ∧ i = .int .i64 k ∧ n = .int .i64 ((sz + sizes (ms.take k) : Nat) : Int) ∧ wr = w3.drewN q) (fun _ i _ => ms.length - (intOf i).toNat)
      case atStart => exact ⟨0, 0, Nat.zero_le _, rfl, by simp [sizes], rfl⟩
      case round =>
        obtain ⟨k, q, hk, rfl, rfl, rfl⟩ := hrel
        have hsp := unhide HSP k
        by_cases hlt : k < ms.length
        · obtain ⟨g, cp0, x, ao', cp', e1, hcx, e2, -⟩ := (unhide HY3).pick hlt
          simp only [Value.slice.injEq] at e1
          obtain ⟨rfl, -, rfl⟩ := e1
          subst e2
          have HST := hide (sizes_take ms k hlt)
          have hl24 := litsOf_len24 ms[k]
          generalize (Sp.litsOf ms[k]).length = lk at *
          generalize sizes (ms.take k) = sk at *
          go_wp2
          go_roundw
          case rel => exact ⟨k + 1, _, by omega, by go_num, by rw [unhide HST]; go_num, rfl⟩
          case measure => simp [intOf]; omega
        · have hk2 : k = ms.length := by omega
          subst hk2
          have HTK : Hid (sizes (ms.take ms.length) = sizes ms) := hide (by rw [List.take_length])
          rw [unhide HTK]
          by_cases h4 : 400 < sizes ms + sz
          · have HT := hide (unhide HT2 trivial h4)
            have h4' : (400 : Int) < ((sz + sizes ms : Nat) : Int) := by omega
            go_wp2
            go_ret
            exact ⟨by rw [unhide HT]; rfl, AddY.stay (unhide HY) (belowDrew hb3 _) (by rw [unhide HT])⟩
          · have HT := hide (unhide HT3 trivial h4)
            have h4' : ¬ (400 : Int) < ((sz + sizes ms : Nat) : Int) := by omega
            have hbase : base ≤ w3.heap.size := Nat.le_trans (unhide HY3).le (Nat.le_of_lt (lt_of_block (unhide HY3).block))
            have HC : Hid (w3.ownsRow w2.heap.size 3 1 (.slice co sz cc) (Sp.litsOf m).length (ints (Sp.litsOf m))) := hide (by rw [unhide HSZ]; exact unhide HC)
            go_wp2_with (at_builtin; refine append_cell (base := base) rfl _ _ 43 33 rfl Tryz.underlying43 Tryz.infoLists rfl (by decide) (row_drew (unhide HY3).row _) rfl rfl rfl (by omega) hbase ?_; intro g' cap' w4 hown4 hgr4 hloc; have HMID := hide (midY (unhide HY) (belowDrew hb3 _) (row_drew (unhide HC) _) hown4 hgr4 hloc); clear hown4 hgr4 hloc; have hc04 : w4.cell? ⟨y, 0, none⟩ = some (.slice ao ms.length cp) := (by simp [World.cell?, (unhide HMID).1]); have hf04 : w4.frozen? ⟨y, 0, none⟩ = false := frozen_of_row w4 _ _ _ _ (unhide HMID).1)
            go_ret
            exact ⟨by rw [unhide HT]; rfl, AddY.grow (unhide HC) rfl (unhide HMID).2.1 (unhide HMID).2.2.1 (unhide HMID).2.2.2 (by rw [unhide HT])⟩
    · have HT := hide (unhide HT0 rfl)
      clear HT0 HT2 HT3
      go_enter Tryz.func13, Tryz.ntmps13
      go_wp2_with fail
      refine (unhide HR).mono ?_
      rintro e w1 ⟨rfl, rfl⟩
      go_wp2_with fail
      refine (unhide HAL).mono ?_
      rintro e w2 ⟨rfl, rfl⟩
      go_wp2
      go_ret
      exact ⟨by rw [unhide HT]; rfl, AddY.stay (unhide HY) (Below.refl _ _) (by rw [unhide HT])⟩

end Go.Proofs.YtgoigckhblffhaaGreatDoorR

namespace Go.Proofs.YtgoigckhblffhaaGreatDoorR
open Go.RowKit

set_option maxRecDepth 100000 in
theorem clausesX_any (base x : Nat) (kv : Value) (ms : List Nat) (w : World) (hX : XAt base w x kv ms) (hms : ms.length ≤ 10000000) (hsm : ∀ m, m ∈ ms → m < 2 ^ 24) (he : Env w) :
    Calls Tryz.prog 15 #[.pointer (some ⟨x, 0, none⟩)] w fun e w' => e = .returned (.string (bs (maskText ms))) ∧ Below w.heap.size w w' := by
  have HP := hide (clausePlain_any kv ms w hms hsm (lies_of_owns hX.row (by simp [us])) he)
  have hc0 : w.cell? ⟨x, 0, none⟩ = some kv := by simp [World.cell?, hX.block]
  obtain ⟨ao, cp, hsh⟩ := owns_shape hX.row
  subst hsh
  clear hX
  go_enter Tryz.func15, Tryz.ntmps15
  go_wp2_with fail
  refine (unhide HP).mono ?_
  rintro e w1 ⟨rfl, hb1⟩
  go_wp2
  go_ret
  exact ⟨rfl, hb1⟩

theorem maskText_take (ms : List Nat) (k : Nat) (h : k < ms.length) : maskText (ms.take (k + 1)) = maskText (ms.take k) ++ Sp.told (Sp.litsOf ms[k]) := by
  rw [List.take_succ_eq_append_getElem h, maskText_snoc]

set_option maxRecDepth 100000 in
set_option maxHeartbeats 800000 in
theorem clausesY_any (base y : Nat) (lv : Value) (vs : List Value) (ms : List Nat) (w : World) (hY : YAt base w y lv vs ms) (hms : ms.length ≤ 10000000) :
    Calls Tryz.prog 16 #[.pointer (some ⟨y, 0, none⟩)] w fun e w' => e = .returned (.string (bs (maskText ms))) ∧ Below w.heap.size w w' := by
  have hc0 : w.cell? ⟨y, 0, none⟩ = some lv := by simp [World.cell?, hY.block]
  have hylt := lt_of_block hY.block
  obtain ⟨ao, cp, hsh⟩ := owns_shape hY.row
  subst hsh
  have HY := hide hY
  clear hY
  go_enter Tryz.func16, Tryz.ntmps16
  go_wp2
  go_loopw [3, 4] (fun o i wr => ∃ k : Nat, k ≤ ms.length ∧ i = .int .i64 k ∧ o = .string (bs (maskText (ms.take k))) ∧ Below w.heap.size w wr) (fun _ i _ => ms.length - (intOf i).toNat)
  case atStart => exact ⟨0, Nat.zero_le _, rfl, rfl, Below.refl _ _⟩
  case round =>
    obtain ⟨k, hk, rfl, rfl, hbel⟩ := hrel
    have hcw : wr.cell? ⟨y, 0, none⟩ = some (.slice ao ms.length cp) := (hbel.cell (p := ⟨y, 0, none⟩) hylt).trans hc0
    by_cases hlt : k < ms.length
    · obtain ⟨g, cp0, x, ao', cp', e1, hcx, e2, hlx⟩ := ((unhide HY).below hbel).pick hlt
      simp only [Value.slice.injEq] at e1
      obtain ⟨rfl, -, rfl⟩ := e1
      have hml := maskText_len (ms.take k)
      have hml2 : (ms.take k).length ≤ k := List.length_take_le _ _
      have HS := hide (maskText_take ms k hlt)
      have htl := maskTold_len ms[k]
      have HTO := hide (told_any x (Sp.litsOf ms[k]) wr (Nat.le_trans (litsOf_len24 _) (by decide)) (litsOf_bd ms[k]) hlx)
      have hadd : ∀ wx, (Op.stringOp .add (bs (maskText (ms.take k))) (bs (Sp.told (Sp.litsOf ms[k])))).run Tryz.prog wx = .ok (.string (bs (maskText (ms.take k) ++ Sp.told (Sp.litsOf ms[k])))) wx := fun wx => add_bs _ _ (by omega) wx
      subst e2
      clear hlx
      generalize Sp.told (Sp.litsOf ms[k]) = tl at *
      generalize (Sp.litsOf ms[k]).length = lk at *
      generalize maskText (ms.take k) = mt at *
      go_wp2_with fail
      refine (unhide HTO).mono ?_
      rintro e w1 ⟨rfl, hb1⟩
      go_wp2
      go_roundw
      case rel => exact ⟨k + 1, by omega, by go_num, by rw [unhide HS], hbel.trans (hb1.mono hbel.size)⟩
      case measure => simp [intOf]; omega
    · have HT : Hid (ms.take k = ms) := hide (List.take_of_length_le (by omega))
      go_wp2
      go_ret
      exact ⟨by rw [unhide HT]; rfl, hbel⟩

set_option maxRecDepth 100000 in
theorem looks_any (B : Nat) (w : World) (hc : w.cell? ⟨B, 1, none⟩ = some (.slice none 0 0)) :
    Calls Tryz.prog 6 #[.pointer (some ⟨B, 1, none⟩)] w fun e w' => e = .returned (.bool true) ∧ w' = w := by
  go_enter Tryz.func6, Tryz.ntmps6
  go_wp2
  refine wp_loop_rounds 1 ?_
  rw [rounds_succ]
  go_wp2
  go_ret
  exact ⟨rfl, rfl⟩

set_option maxRecDepth 100000 in
theorem resetX_any (base x : Nat) (kv : Value) (ms : List Nat) (w : World) (hX : XAt base w x kv ms) :
    Calls Tryz.prog 17 #[.pointer (some ⟨x, 0, none⟩)] w fun e w' => e = .returned (.tuple #[]) ∧ XAt base w' x (.slice none 0 0) [] ∧ Only (· = x) w w' := by
  have hc0 : w.cell? ⟨x, 0, none⟩ = some kv := by simp [World.cell?, hX.block]
  have hc1 : w.cell? ⟨x, 1, none⟩ = some (.int .i64 (sizes ms : Int)) := by simp [World.cell?, hX.block]
  have hf0 : w.frozen? ⟨x, 0, none⟩ = false := frozen_of_row w _ _ _ _ hX.block
  have hf1 : w.frozen? ⟨x, 1, none⟩ = false := frozen_of_row w _ _ _ _ hX.block
  have HX := hide hX
  clear hX
  go_enter Tryz.func17, Tryz.ntmps17
  go_wp2
  go_end0
  have h0 := heap_setCell_same w x 0 _ _ (.slice none 0 0) (unhide HX).block
  have h1 := heap_setCell_same _ x 1 _ _ (.int .i64 0) h0
  exact ⟨rfl, ⟨by rw [h1]; rfl, (unhide HX).le, World.ownsRow_nil _ _ _ _⟩, (Only.setCell (F := (· = x)) (p := ⟨x, 0, none⟩) rfl _ _).trans (Only.setCell (F := (· = x)) (p := ⟨x, 1, none⟩) rfl _ _)⟩

end Go.Proofs.YtgoigckhblffhaaGreatDoorR
