import Derived.Test.YtekkkoipcghlmaaGreatDoorJ22
import Derived.Test.YtekkkoipcghlmaaGreatDoorJ20
namespace Go.Proofs.YtekkkoipcghlmaaGreatDoor
open Go.RowKit

/-- A script's steps. -/
def OpsFull (w : World) (b off len : Nat) : Prop :=
  ∀ k, k < len → ∃ (kind a bb : Int) (s t : List UInt8) (v : Value) (xs : List Int), w.cell? ⟨b, off + k * 6, none⟩ = some (.int .i64 kind) ∧ w.cell? ⟨b, off + k * 6 + 1, none⟩ = some (.int .i64 a) ∧ w.cell? ⟨b, off + k * 6 + 2, none⟩ = some (.int .i64 bb) ∧
    w.cell? ⟨b, off + k * 6 + 3, none⟩ = some (.string (bs s)) ∧ w.cell? ⟨b, off + k * 6 + 4, none⟩ = some (.string (bs t)) ∧ w.cell? ⟨b, off + k * 6 + 5, none⟩ = some v ∧ -9223372036854775808 ≤ a ∧ a ≤ 9223372036854775807 ∧ s.length ≤ 9223372036854775807 ∧ t.length ≤ 9223372036854775807 ∧ xs.length ≤ 2000000 ∧ Lies w v (ints xs)

theorem lies_block {w : World} {v : Value} {xs : List Int} (h : Lies w v (ints xs)) (hx : xs ≠ []) {g : Nat} (hg : v.ownBlock = some g) : g < w.heap.size := by
  rcases h with ⟨h0, _⟩ | ⟨b, off, cap, _, rfl, hb, _⟩
  · exact absurd (by simpa [ints] using h0) hx
  · simp [Value.ownBlock] at hg; subst hg; exact hb

/-- The play's first world: no sides. -/
theorem start_is (w : World) : WIs w.heap.size (w.alloc (.cells #[.slice none 0 0, .slice none 0 0] 64)) w.heap.size 0 (.slice none 0 0) (fun _ => 0) (fun _ _ => False) (fun _ => []) :=
  ⟨alloc_last _ _, Nat.le_refl _, World.ownsRow_nil _ _ _ _, fun i hi => by omega, fun i j hi => by omega, fun i hi => by omega, fun i hi => by omega, by omega⟩

theorem WAt.book {base : Nat} {w : World} {B n L : Nat} (h : WAt base w B n L) : w.cell? ⟨B, 1, none⟩ = some (.slice none 0 0) ∧ ∃ ao cp, w.cell? ⟨B, 0, none⟩ = some (.slice ao n cp) := by
  obtain ⟨lv, p, F, ms, hI, _⟩ := h
  obtain ⟨ao, cp, rfl⟩ := owns_shape hI.row
  exact ⟨cell_of_row _ _ 1 _ _ _ hI.block, ao, cp, cell_of_row _ _ 0 _ _ _ hI.block⟩

theorem new_lies (w1 : World) (a b : Int) : Lies (w1.alloc (.cells #[.int .i64 a, .int .i64 b] 3)) (.slice (some ⟨w1.heap.size, 0, none⟩) 2 2) (ints [a, b]) := by
  have h := alloc_last w1 (.cells #[.int .i64 a, .int .i64 b] 3)
  refine .inr ⟨w1.heap.size, 0, 2, by simp [ints], rfl, lt_of_block h, fun k x hx => ?_⟩
  rw [Nat.zero_add, cell_of_row _ _ _ _ _ _ h]
  simpa [ints] using hx

set_option maxRecDepth 100000 in
set_option maxHeartbeats 3200000 in
theorem plays_walk (a0 : Option Addr) (b off len cap : Nat) (w : World) (hlen : len ≤ 2000000) (hpos : 0 < len → a0 = some ⟨b, off, none⟩ ∧ b < w.heap.size) (hops : OpsFull w b off len) (he : Env w) :
    Calls Tryz.prog 13 #[.slice a0 len cap, .int .i64 6] w fun e w' => e = .returned (.bool true) ∧ Below w.heap.size w w' := by
  obtain ⟨wa, hwa⟩ : ∃ wa, w.alloc (.cells #[.slice none 0 0, .slice none 0 0] 64) = wa := ⟨_, rfl⟩
  have hba : Below w.heap.size w wa := by rw [← hwa]; exact below_alloc _ _
  have HNEW : Hid (Calls Tryz.prog 35 #[.pointer (some ⟨w.heap.size, 0, none⟩), .agg #[.int .i64 3, .int .i64 0, .int .i64 0, .string ⟨#[]⟩, .string ⟨#[]⟩, .slice none 0 0]] wa fun e w' => e = .returned (.bool true) ∧ WAt w.heap.size w' w.heap.size 1 0 ∧ Below w.heap.size wa w') :=
    hide (by have := step_new w.heap.size w.heap.size 0 0 0 [] [] (.slice none 0 0) (.slice none 0 0) (fun _ => 0) (fun _ _ => False) (fun _ => []) wa (by decide) (by rw [← hwa]; exact start_is w) 0 (fun i hi => by omega); exact this)
  have HSTEP : Hid (∀ (n L : Nat) (kind a bb : Int) (s t : List UInt8) (v : Value) (xs : List Int) (wx w0 : World), kind ≤ 6 → -9223372036854775808 ≤ a → a ≤ 9223372036854775807 → 0 < n → s.length ≤ 9223372036854775807 → t.length ≤ 9223372036854775807 → xs.length ≤ 10000000 → L ≤ 10000000 → WAt w.heap.size w0 w.heap.size n L → Below w0.heap.size w0 wx → Below w.heap.size w w0 → Lies wx v (ints xs) → (xs ≠ [] → ∀ g, v.ownBlock = some g → g < w.heap.size ∨ w0.heap.size ≤ g) →
      Calls Tryz.prog 35 #[.pointer (some ⟨w.heap.size, 0, none⟩), .agg #[.int .i64 kind, .int .i64 a, .int .i64 bb, .string (bs s), .string (bs t), v]] wx fun e w' => PlayRes w.heap.size w.heap.size (L + 1) wx e w') :=
    hide (fun n L kind a bb s t v xs wx w0 h1 h2 h3 h4 h5 h6 h7 h8 h9 h10 h11 h12 h13 => step_all w.heap.size w.heap.size n L kind a bb s t v xs wx w0 h1 h2 h3 h4 h5 h6 h7 h8 h9 h10 (he.below (h11.trans (h10.mono h11.size))) h12 h13)
  go_enter Tryz.func13, Tryz.ntmps13
  go_wp2_with fail
  refine (unhide HNEW).mono ?_
  rintro e w1 ⟨rfl, hW1, hb1⟩
  have hbw1 := hba.trans hb1
  obtain ⟨wl, hwl⟩ : ∃ wl, w1.alloc (.cells #[.int .i64 1, .int .i64 2] 3) = wl := ⟨_, rfl⟩
  have HL1 : Hid (Lies wl (.slice (some ⟨w1.heap.size, 0, none⟩) 2 2) (ints [1, 2]) ∧ Below w1.heap.size w1 wl) := hide (by rw [← hwl]; exact ⟨new_lies w1 1 2, below_alloc _ _⟩)
  go_wp2_with fail
  refine (unhide HSTEP 1 0 4 0 0 [] [] _ [1, 2] wl w1 (by decide) (by decide) (by decide) (by decide) (by decide) (by decide) (by decide) (by decide) hW1 (unhide HL1).2 hbw1 (unhide HL1).1 (fun _ g hg => .inr (by simp [Value.ownBlock] at hg; omega))).mono ?_
  rintro e w2 ⟨rfl, n2, hn2, hW2, hbx2⟩
  have hbw2 := (hbw1.trans ((unhide HL1).2.mono hbw1.size)).trans hbx2
  clear hwl
  obtain ⟨wm, hwm⟩ : ∃ wm, w2.alloc (.cells #[.int .i64 (-1), .int .i64 2] 3) = wm := ⟨_, rfl⟩
  have HL2 : Hid (Lies wm (.slice (some ⟨w2.heap.size, 0, none⟩) 2 2) (ints [-1, 2]) ∧ Below w2.heap.size w2 wm) := hide (by rw [← hwm]; exact ⟨new_lies w2 (-1) 2, below_alloc _ _⟩)
  go_wp2_with fail
  refine (unhide HSTEP n2 1 4 0 0 [] [] _ [-1, 2] wm w2 (by decide) (by decide) (by decide) hn2 (by decide) (by decide) (by decide) (by decide) hW2 (unhide HL2).2 hbw2 (unhide HL2).1 (fun _ g hg => .inr (by simp [Value.ownBlock] at hg; omega))).mono ?_
  rintro e w3 ⟨rfl, n3, hn3, hW3, hbx3⟩
  have hbw3 := (hbw2.trans ((unhide HL2).2.mono hbw2.size)).trans hbx3
  clear hwm hbx2 hbx3 hb1 hba hbw1 hbw2 hwa
  have HW3 := hide hW3
  have HBW3 := hide hbw3
  have HOPS := hide hops
  have HPOS := hide hpos
  clear hW1 hW2 hW3 hbw3 hops hpos
  go_wp2
  go_loopw [8, 9] (fun ok i wr => ∃ k n : Nat, k ≤ len ∧ i = .int .i64 k ∧ ok = .bool true ∧ 0 < n ∧ Hid (WAt w.heap.size wr w.heap.size n (2 + k)) ∧ Hid (Below w.heap.size w wr)) (fun _ i _ => len - (intOf i).toNat)
  case atStart => exact ⟨0, n3, Nat.zero_le _, rfl, rfl, hn3, HW3, HBW3⟩
  case round =>
    obtain ⟨k, n, hk, rfl, rfl, hn, HWk, HBk⟩ := hrel
    by_cases hlt : k < len
    · obtain ⟨e0, hb⟩ := unhide HPOS (by omega)
      subst e0
      obtain ⟨kind, a, bb, s, t, v, xs, c0, c1, c2, c3, c4, c5, ha0, ha1, hsl, htl, hxl, hlv⟩ := unhide HOPS k hlt
      have hbel := unhide HBk
      have d0 : wr.cell? ⟨b, off + k * 6, none⟩ = some (.int .i64 kind) := (hbel.cell (p := ⟨b, off + k * 6, none⟩) hb).trans c0
      by_cases h6 : 6 < kind
      · clear c0 c1 c2 c3 c4 c5 hbel
        go_wp2
        go_roundw
        case rel => exact ⟨k + 1, n, by omega, by go_num, rfl, hn, hide ((unhide HWk).more (by omega)), HBk⟩
        case measure => simp [intOf]; omega
      · have d1 : wr.cell? ⟨b, off + k * 6 + 1, none⟩ = some (.int .i64 a) := (hbel.cell (p := ⟨b, off + k * 6 + 1, none⟩) hb).trans c1
        have d2 : wr.cell? ⟨b, off + k * 6 + 2, none⟩ = some (.int .i64 bb) := (hbel.cell (p := ⟨b, off + k * 6 + 2, none⟩) hb).trans c2
        have d3 : wr.cell? ⟨b, off + k * 6 + 3, none⟩ = some (.string (bs s)) := (hbel.cell (p := ⟨b, off + k * 6 + 3, none⟩) hb).trans c3
        have d4 : wr.cell? ⟨b, off + k * 6 + 4, none⟩ = some (.string (bs t)) := (hbel.cell (p := ⟨b, off + k * 6 + 4, none⟩) hb).trans c4
        have d5 : wr.cell? ⟨b, off + k * 6 + 5, none⟩ = some v := (hbel.cell (p := ⟨b, off + k * 6 + 5, none⟩) hb).trans c5
        have HST := hide (fun wx (hx : Below wr.heap.size wr wx) => unhide HSTEP n (2 + k) kind a bb s t v xs wx wr (by omega) ha0 ha1 hn hsl htl (by omega) (by omega) (unhide HWk) hx hbel ((hlv.below hbel).below hx) (fun hx g hg => .inl (lies_block hlv hx hg)))
        have HBEL := hide hbel
        clear c0 c1 c2 c3 c4 c5 hbel hlv
        go_wp2_with fail
        refine (unhide HST _ (Below.refl _ _)).mono ?_
        rintro e w4 ⟨rfl, n4, hn4, hW4, hb4⟩
        have HW4 := hide hW4
        have hlk := hW4.book.1
        have HLK := hide (looks_any w.heap.size w4 hlk)
        have HB4 : Hid (Below w.heap.size w w4) := hide ((unhide HBEL).trans hb4)
        clear hW4 hb4
        go_wp2_with fail
        refine (unhide HLK).mono ?_
        rintro e w5 ⟨rfl, rfl⟩
        go_wp2
        go_roundw
        case rel => exact ⟨k + 1, n4, by omega, by go_num, by simp, hn4, HW4, HB4⟩
        case measure => simp [intOf]; omega
    · obtain ⟨wo, rfl⟩ : ∃ wo, wo = wr := ⟨wr, rfl⟩
      obtain ⟨hlk, ao, cp, hcB⟩ := (unhide HWk).book
      have hbel := unhide HBk
      have hBl : w.heap.size < wo.heap.size := by
        obtain ⟨lv, p, F, ms, hI, _⟩ := unhide HWk
        exact lt_of_block hI.block
      have hn4 : n ≤ 4 := by
        obtain ⟨lv, p, F, ms, hI, _⟩ := unhide HWk
        exact hI.four
      have HCL : Hid (∀ (wx : World) (j : Nat), Below wo.heap.size wo wx → j ≤ 4 → Calls Tryz.prog 35 #[.pointer (some ⟨w.heap.size, 0, none⟩), .agg #[.int .i64 5, .int .i64 j, .int .i64 0, .string ⟨#[]⟩, .string ⟨#[]⟩, .slice none 0 0]] wx fun e w' => e = .returned (.bool true) ∧ Below wo.heap.size wo w') := hide (by
        intro wx j hx hj
        obtain ⟨lv, p, F, ms, hI, hL⟩ := unhide HWk
        have := step_clauses w.heap.size w.heap.size n j 0 [] [] (.slice none 0 0) lv p F ms wx (by omega) (by omega) hn (hI.keepAll hx) (fun i hi => Nat.le_trans (hL i hi) (by omega)) (he.below (hbel.trans (hx.mono hbel.size)))
        exact this.mono (fun e w' h => ⟨h.1, hx.trans (h.2.mono hx.size)⟩))
      go_wp2
      go_loopw [8, 11] (fun ok i wx => ∃ j : Nat, j ≤ n ∧ i = .int .i64 j ∧ ok = .bool true ∧ Hid (Below wo.heap.size wo wx)) (fun _ i _ => n - (intOf i).toNat)
      case atStart => exact ⟨0, Nat.zero_le _, rfl, rfl, hide (Below.refl _ _)⟩
      case round =>
        obtain ⟨j, hj, rfl, rfl, HBx⟩ := hrel
        have hbx := unhide HBx
        have hcBx : wr.cell? ⟨w.heap.size, 0, none⟩ = some (.slice ao n cp) := (hbx.cell (p := ⟨w.heap.size, 0, none⟩) hBl).trans hcB
        by_cases hjn : j < n
        · have HC := hide (unhide HCL wr j hbx (by omega))
          go_wp2_with fail
          refine (unhide HC).mono ?_
          rintro e w6 ⟨rfl, hb6⟩
          go_wp2
          go_roundw
          case rel => exact ⟨j + 1, by omega, by go_num, rfl, hide hb6⟩
          case measure => simp [intOf]; omega
        · go_wp2
          go_ret
          exact ⟨rfl, hbel.trans (hbx.mono hbel.size)⟩

set_option maxRecDepth 100000 in
theorem keeps_walk (a0 : Option Addr) (b off len cap : Nat) (w : World) (hlen : len ≤ 2000000) (hpos : 0 < len → a0 = some ⟨b, off, none⟩ ∧ b < w.heap.size) (hops : OpsFull w b off len) (he : Env w) :
    Calls Tryz.prog 3 #[.slice a0 len cap] w fun e w' => e = .returned (.bool true) ∧ Below w.heap.size w w' := by
  have HP := hide (plays_walk a0 b off len cap w hlen hpos hops he)
  clear hpos hops
  go_enter Tryz.func3, Tryz.ntmps3
  go_wp2_with fail
  refine (unhide HP).mono ?_
  rintro e w1 ⟨rfl, hb1⟩
  go_wp2
  go_ret
  exact ⟨rfl, hb1⟩

end Go.Proofs.YtekkkoipcghlmaaGreatDoor

namespace Go.Proofs.YtekkkoipcghlmaaGreatDoor
open Go.ChangeShapes Go.WideShapes Go.ChangeAt Go.RowKit Go.Deep

theorem Tryz.laidOut : laidOutB Tryz.prog = true := by kernel_rfl

theorem take_one {cs : List Value} {o : Nat} {v : Value} (h : (cs.drop o).take 1 = [v]) : cs[o]? = some v := by
  have := congrArg (·[0]?) h
  simpa [List.getElem?_take, List.getElem?_drop] using this

/-- A step of a script, opened. -/
theorem op_open {H : Type} {enc : TypeId × Value → H} {W : World} {base n : Nat} {spare : Nat → Bool} {held : Bool} {cs : List Value} {x : DataW H × List MemPlace}
    (h : DataW.trod enc Tryz.prog W base spare held n 67 cs = some x) :
    ∃ (kind : Int) (s t : ByteArray), cs[0]? = some (.int .i64 kind) ∧ cs[3]? = some (.string s) ∧ cs[4]? = some (.string t) ∧ s.size ≤ maxLen ∧ t.size ≤ maxLen := by
  obtain ⟨xs, n', _, _, _, hxl, hf⟩ := DataW.trod_struct Tryz.underlying67 h
  have hx : ∀ i, i < 6 → ∃ y, xs[i]? = some y := fun i hi => ⟨xs[i]'(by rw [hxl]; exact hi), List.getElem?_eq_getElem _⟩
  have f0 : DataW.trod enc Tryz.prog W base spare held n' 3 ((cs.drop 0).take (Tryz.prog.cellsOf 3)) = xs[0]? := hf 0 _ rfl
  have f3 : DataW.trod enc Tryz.prog W base spare held n' 9 ((cs.drop 3).take (Tryz.prog.cellsOf 9)) = xs[3]? := hf 3 _ rfl
  have f4 : DataW.trod enc Tryz.prog W base spare held n' 9 ((cs.drop 4).take (Tryz.prog.cellsOf 9)) = xs[4]? := hf 4 _ rfl
  obtain ⟨y0, h0⟩ := hx 0 (by omega)
  obtain ⟨y3, h3⟩ := hx 3 (by omega)
  obtain ⟨y4, h4⟩ := hx 4 (by omega)
  rw [h0] at f0
  rw [h3] at f3
  rw [h4] at f4
  obtain ⟨kind, e0, _, _⟩ := DataW.trod_int Tryz.underlying3 f0
  obtain ⟨s, e3, _, hs⟩ := DataW.trod_string Tryz.underlying9 f3
  obtain ⟨t, e4, _, ht⟩ := DataW.trod_string Tryz.underlying9 f4
  rw [Tryz.cellsInt] at e0
  rw [Tryz.cellsStr] at e3 e4
  exact ⟨kind, s, t, take_one e0, take_one e3, take_one e4, hs, ht⟩

theorem bs_of (s : ByteArray) : s = bs s.data.toList := by unfold bs; cases s; simp

/-- A script's steps, out of its reading. -/
theorem ops_open {H : Type} {enc : TypeId × Value → H} {W : World} {base n m len : Nat} {spare : Nat → Bool} {held : Bool} {a : Addr} {D : Nat → DataW H} {Pl : Nat → List MemPlace} (hlen : 0 < len) (hm : len ≤ m)
    (hel : ∀ i, i < m → ∃ cs', W.cells? base (a.add (i * Tryz.prog.cellsOf 67)) (Tryz.prog.cellsOf 67) = some cs' ∧ DataW.trod enc Tryz.prog W base spare held n 67 cs' = some (D i, Pl i)) :
    ∃ b off, a = ⟨b, off, none⟩ ∧ b < W.heap.size ∧ OpsAt W b off len := by
  obtain ⟨b, off, spot⟩ := a
  have key : ∀ i, i < len → ∃ (kind : Int) (s t : ByteArray), W.cell? ((⟨b, off, spot⟩ : Addr).add (i * 6)) = some (.int .i64 kind) ∧ W.cell? (((⟨b, off, spot⟩ : Addr).add (i * 6)).add 3) = some (.string s) ∧ W.cell? (((⟨b, off, spot⟩ : Addr).add (i * 6)).add 4) = some (.string t) ∧ s.size ≤ maxLen ∧ t.size ≤ maxLen := by
    intro i hi
    obtain ⟨cs', hc, ht⟩ := hel i (by omega)
    rw [Tryz.cellsOp] at hc
    obtain ⟨_, _, hcell⟩ := World.cells?_some hc
    obtain ⟨kind, s, t, e0, e3, e4, hs, ht'⟩ := op_open ht
    refine ⟨kind, s, t, ?_, (hcell 3 (by omega)).trans e3, (hcell 4 (by omega)).trans e4, hs, ht'⟩
    have := (hcell 0 (by omega)).trans e0
    simpa [Addr.add] using this
  obtain ⟨k0, s0, t0, h0, _⟩ := key 0 hlen
  have hspot : spot = none := by simpa [Addr.add] using World.cell?_spot h0
  subst hspot
  have hb : b < W.heap.size := by simpa [Addr.add] using World.block_lt_of_cell? W _ h0
  refine ⟨b, off, rfl, hb, fun k hk => ?_⟩
  obtain ⟨kind, s, t, e0, e3, e4, hs, ht⟩ := key k hk
  have add_none : ∀ o j : Nat, (⟨b, o, none⟩ : Addr).add j = ⟨b, o + j, none⟩ := fun o j => by simp [Addr.add]
  rw [add_none] at e0 e3 e4
  rw [add_none] at e3 e4
  refine ⟨kind, s.data.toList, t.data.toList, e0, by rw [← bs_of]; exact e3, by rw [← bs_of]; exact e4, ?_, ?_⟩
  · have := Lib.size_eq s
    unfold maxLen at hs; omega
  · have := Lib.size_eq t
    unfold maxLen at ht; omega

end Go.Proofs.YtekkkoipcghlmaaGreatDoor

namespace Go.Proofs.YtekkkoipcghlmaaGreatDoor
open Go.ChangeShapes Go.WideShapes Go.ChangeAt Go.RowKit Go.Deep

theorem bulk_pos {H : Type} (d : DataW H) : 1 ≤ Rows.uptoBulk d := by
  cases d with
  | lit l => cases l <;> simp [Rows.uptoBulk]
  | _ => simp [Rows.uptoBulk]
theorem bulk_part {H : Type} {d : DataW H} : ∀ {l : List (DataW H)}, d ∈ l → Rows.uptoBulk d ≤ Rows.uptoBulkAll l
  | [], h => by cases h
  | x :: r, h => by
    simp only [Rows.uptoBulkAll]
    rcases List.mem_cons.1 h with rfl | h
    · omega
    · have := bulk_part h; omega
theorem bulk_many {H : Type} : ∀ (l : List (DataW H)), l.length ≤ Rows.uptoBulkAll l
  | [] => by simp [Rows.uptoBulkAll]
  | x :: r => by
    have := bulk_many r
    have := bulk_pos x
    simp only [Rows.uptoBulkAll, List.length_cons]; omega

theorem Tryz.cellsInts : Tryz.prog.cellsOf 25 = 1 := by kernel_rfl
theorem wf_bd {n : Int} (h : (Lit.int .i64 n).wf = true) : -9223372036854775808 ≤ n ∧ n ≤ 9223372036854775807 := by
  have h1 : IntKind.i64.min = -9223372036854775808 := by decide
  have h2 : IntKind.i64.max = 9223372036854775807 := by decide
  simp only [Lit.wf, Bool.and_eq_true, decide_eq_true_eq] at h
  rw [h1, h2] at h
  exact h

/-- A list of numbers, out of its reading. -/
theorem ints_open {H : Type} {enc : TypeId × Value → H} {W : World} {base n : Nat} {spare : Nat → Bool} {held : Bool} {v : Value} {y : DataW H × List MemPlace}
    (h : DataW.trod enc Tryz.prog W base spare held n 25 [v] = some y) : ∃ xs : List Int, Lies W v (ints xs) ∧ xs.length ≤ Rows.uptoBulk y.1 := by
  rcases open_slice1 Tryz.underlying25 Tryz.cellsInt h with ⟨hcs, hx⟩ | ⟨a, len, cap, m, n', V, D, Pl, hcs, hab, hl, hm, hmm, hx, hel⟩
  · simp at hcs; subst hcs
    exact ⟨[], Lies.nil _, by simp⟩
  · simp at hcs; subst hcs
    have hlm : len ≤ m := by rw [hmm]; split <;> omega
    have hV : ∀ i, i < len → V i = .int .i64 (intOf (V i)) := fun i hi => by
      obtain ⟨_, ht⟩ := hel i (by omega)
      obtain ⟨q, e0, _, _⟩ := DataW.trod_int Tryz.underlying3 ht
      simp at e0; rw [e0]; rfl
    have hbulk : len ≤ Rows.uptoBulk y.1 := by
      rw [hx]
      have := bulk_many ((List.range len).map D)
      simp only [Rows.uptoBulk, List.length_map, List.length_range] at this ⊢
      omega
    refine ⟨(List.range len).map (fun i => intOf (V i)), ?_, by simpa using hbulk⟩
    by_cases h0 : len = 0
    · subst h0; exact .inl ⟨rfl, _, _, rfl⟩
    · obtain ⟨b, off, spot⟩ := a
      have c0 := (hel 0 (by omega)).1
      have hspot : spot = none := by simpa [Addr.add] using World.cell?_spot c0
      subst hspot
      have hb : b < W.heap.size := by simpa [Addr.add] using World.block_lt_of_cell? W _ c0
      refine .inr ⟨b, off, cap, by simp [ints]; omega, by simp [ints], hb, fun k x hk => ?_⟩
      have hkl : k < len := by
        have := (List.getElem?_eq_some_iff.1 hk).1
        simpa [ints] using this
      have hxk : x = .int .i64 (intOf (V k)) := by
        simp [ints, hkl] at hk; exact hk.symm
      have hc := (hel k (by omega)).1
      rw [show (⟨b, off, none⟩ : Addr).add k = ⟨b, off + k, none⟩ from by simp [Addr.add]] at hc
      rw [hc, hxk, ← hV k hkl]

/-- A step of a script, opened whole. -/
theorem op_full {H : Type} {enc : TypeId × Value → H} {W : World} {base n : Nat} {spare : Nat → Bool} {held : Bool} {cs : List Value} {x : DataW H × List MemPlace}
    (h : DataW.trod enc Tryz.prog W base spare held n 67 cs = some x) :
    ∃ (kind a b : Int) (s t : ByteArray) (v : Value) (xs : List Int), cs[0]? = some (.int .i64 kind) ∧ cs[1]? = some (.int .i64 a) ∧ cs[2]? = some (.int .i64 b) ∧ cs[3]? = some (.string s) ∧ cs[4]? = some (.string t) ∧ cs[5]? = some v ∧
      (-9223372036854775808 ≤ a ∧ a ≤ 9223372036854775807) ∧ s.size ≤ maxLen ∧ t.size ≤ maxLen ∧ Lies W v (ints xs) ∧ xs.length ≤ Rows.uptoBulk x.1 := by
  obtain ⟨xs, n', _, hx0, _, hxl, hf⟩ := DataW.trod_struct Tryz.underlying67 h
  have hx : ∀ i, i < 6 → ∃ y, xs[i]? = some y := fun i hi => ⟨xs[i]'(by rw [hxl]; exact hi), List.getElem?_eq_getElem _⟩
  have f0 : DataW.trod enc Tryz.prog W base spare held n' 3 ((cs.drop 0).take (Tryz.prog.cellsOf 3)) = xs[0]? := hf 0 _ rfl
  have f1 : DataW.trod enc Tryz.prog W base spare held n' 3 ((cs.drop 1).take (Tryz.prog.cellsOf 3)) = xs[1]? := hf 1 _ rfl
  have f2 : DataW.trod enc Tryz.prog W base spare held n' 3 ((cs.drop 2).take (Tryz.prog.cellsOf 3)) = xs[2]? := hf 2 _ rfl
  have f3 : DataW.trod enc Tryz.prog W base spare held n' 9 ((cs.drop 3).take (Tryz.prog.cellsOf 9)) = xs[3]? := hf 3 _ rfl
  have f4 : DataW.trod enc Tryz.prog W base spare held n' 9 ((cs.drop 4).take (Tryz.prog.cellsOf 9)) = xs[4]? := hf 4 _ rfl
  have f5 : DataW.trod enc Tryz.prog W base spare held n' 25 ((cs.drop 5).take (Tryz.prog.cellsOf 25)) = xs[5]? := hf 5 _ rfl
  obtain ⟨y0, h0⟩ := hx 0 (by omega)
  obtain ⟨y1, h1⟩ := hx 1 (by omega)
  obtain ⟨y2, h2⟩ := hx 2 (by omega)
  obtain ⟨y3, h3⟩ := hx 3 (by omega)
  obtain ⟨y4, h4⟩ := hx 4 (by omega)
  obtain ⟨y5, h5⟩ := hx 5 (by omega)
  rw [h0] at f0
  rw [h1] at f1
  rw [h2] at f2
  rw [h3] at f3
  rw [h4] at f4
  rw [h5] at f5
  obtain ⟨kind, e0, _, _⟩ := DataW.trod_int Tryz.underlying3 f0
  obtain ⟨a, e1, _, hwa⟩ := DataW.trod_int Tryz.underlying3 f1
  obtain ⟨b, e2, _, _⟩ := DataW.trod_int Tryz.underlying3 f2
  obtain ⟨s, e3, _, hs⟩ := DataW.trod_string Tryz.underlying9 f3
  obtain ⟨t, e4, _, ht⟩ := DataW.trod_string Tryz.underlying9 f4
  rw [Tryz.cellsInt] at e0 e1 e2
  rw [Tryz.cellsStr] at e3 e4
  rw [Tryz.cellsInts] at f5
  have e5 : ∃ v, (cs.drop 5).take 1 = [v] := by
    rcases open_slice Tryz.underlying25 f5 with ⟨hcs, _⟩ | ⟨a, len, cap, m, n, D, Pl, hcs, _⟩
    · exact ⟨_, hcs⟩
    · exact ⟨_, hcs⟩
  obtain ⟨v, e5⟩ := e5
  rw [e5] at f5
  obtain ⟨zs, hz, hzl⟩ := ints_open f5
  refine ⟨kind, a, b, s, t, v, zs, take_one e0, take_one e1, take_one e2, take_one e3, take_one e4, take_one e5, wf_bd hwa, hs, ht, hz, Nat.le_trans hzl ?_⟩
  rw [hx0]
  simp only [Rows.uptoBulk]
  have : y5.1 ∈ xs.map (fun y => y.1) := List.mem_map.2 ⟨y5, List.mem_of_getElem? h5, rfl⟩
  have := bulk_part this
  omega

/-- A script's steps, out of its reading. -/
theorem ops_full {H : Type} {enc : TypeId × Value → H} {W : World} {base n m len : Nat} {spare : Nat → Bool} {held : Bool} {a : Addr} {D : Nat → DataW H} {Pl : Nat → List MemPlace} (hlen : 0 < len) (hm : len ≤ m) (hsmall : ∀ i, i < len → Rows.uptoBulk (D i) ≤ 2000000)
    (hel : ∀ i, i < m → ∃ cs', W.cells? base (a.add (i * Tryz.prog.cellsOf 67)) (Tryz.prog.cellsOf 67) = some cs' ∧ DataW.trod enc Tryz.prog W base spare held n 67 cs' = some (D i, Pl i)) :
    ∃ b off, a = ⟨b, off, none⟩ ∧ b < W.heap.size ∧ OpsFull W b off len := by
  obtain ⟨b, off, spot⟩ := a
  have key : ∀ i, i < len → ∃ (kind a bb : Int) (s t : ByteArray) (v : Value) (xs : List Int), W.cell? ((⟨b, off, spot⟩ : Addr).add (i * 6)) = some (.int .i64 kind) ∧ W.cell? (((⟨b, off, spot⟩ : Addr).add (i * 6)).add 1) = some (.int .i64 a) ∧ W.cell? (((⟨b, off, spot⟩ : Addr).add (i * 6)).add 2) = some (.int .i64 bb) ∧ W.cell? (((⟨b, off, spot⟩ : Addr).add (i * 6)).add 3) = some (.string s) ∧ W.cell? (((⟨b, off, spot⟩ : Addr).add (i * 6)).add 4) = some (.string t) ∧ W.cell? (((⟨b, off, spot⟩ : Addr).add (i * 6)).add 5) = some v ∧
      (-9223372036854775808 ≤ a ∧ a ≤ 9223372036854775807) ∧ s.size ≤ maxLen ∧ t.size ≤ maxLen ∧ Lies W v (ints xs) ∧ xs.length ≤ 2000000 := by
    intro i hi
    obtain ⟨cs', hc, ht⟩ := hel i (by omega)
    rw [Tryz.cellsOp] at hc
    obtain ⟨_, _, hcell⟩ := World.cells?_some hc
    obtain ⟨kind, a, bb, s, t, v, xs, e0, e1, e2, e3, e4, e5, ha, hs, ht', hz, hzl⟩ := op_full ht
    refine ⟨kind, a, bb, s, t, v, xs, ?_, (hcell 1 (by omega)).trans e1, (hcell 2 (by omega)).trans e2, (hcell 3 (by omega)).trans e3, (hcell 4 (by omega)).trans e4, (hcell 5 (by omega)).trans e5, ha, hs, ht', hz, Nat.le_trans hzl (hsmall i hi)⟩
    have := (hcell 0 (by omega)).trans e0
    simpa [Addr.add] using this
  obtain ⟨k0, _, _, _, _, _, _, h0, _⟩ := key 0 hlen
  have hspot : spot = none := by simpa [Addr.add] using World.cell?_spot h0
  subst hspot
  have hb : b < W.heap.size := by simpa [Addr.add] using World.block_lt_of_cell? W _ h0
  refine ⟨b, off, rfl, hb, fun k hk => ?_⟩
  obtain ⟨kind, a, bb, s, t, v, xs, e0, e1, e2, e3, e4, e5, ha, hs, ht, hz, hzl⟩ := key k hk
  have add_none : ∀ o j : Nat, (⟨b, o, none⟩ : Addr).add j = ⟨b, o + j, none⟩ := fun o j => by simp [Addr.add]
  rw [add_none] at e0 e1 e2 e3 e4 e5
  rw [add_none] at e1 e2 e3 e4 e5
  refine ⟨kind, a, bb, s.data.toList, t.data.toList, v, xs, e0, e1, e2, by rw [← bs_of]; exact e3, by rw [← bs_of]; exact e4, e5, ha.1, ha.2, ?_, ?_, hzl, hz⟩
  · have := Lib.size_eq s
    unfold maxLen at hs; omega
  · have := Lib.size_eq t
    unfold maxLen at ht; omega

end Go.Proofs.YtekkkoipcghlmaaGreatDoor
