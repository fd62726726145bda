import Derived.Test.YtekkkoipcghlmaaGreatDoorJ21
namespace Go.Proofs.YtekkkoipcghlmaaGreatDoor
open Go.RowKit

/-- The same memory, draws aside. -/
structure Alike (w w' : World) : Prop where
  below : Below w.heap.size w w'
  size : w'.heap.size = w.heap.size
theorem Alike.refl (w : World) : Alike w w := ⟨Below.refl _ _, rfl⟩
theorem Alike.drew {w w' : World} (h : Alike w w') : Alike w w'.drew := ⟨h.below.drew, h.size⟩
theorem Alike.drewN {w w' : World} (h : Alike w w') (q : Nat) : Alike w (w'.drewN q) := ⟨belowDrew h.below q, h.size⟩
theorem AddX.from {pv : Value} {pb : List UInt8} {base x : Nat} {kv : Value} {ms : List Nat} {xs : List Int} {w w1 w' : World} (ha : Alike w w1) (h : AddX base x kv ms xs pv pb w1 w') : AddX base x kv ms xs pv pb w w' := by
  obtain ⟨kv', h1, h2, h3⟩ := h
  exact ⟨kv', h1, (Only.of_below _ ha.below).trans h2, fun g hg => by have := h3 g hg; rw [ha.size] at this; exact this⟩
theorem AddY.from {base y : Nat} {lv : Value} {vs : List Value} {ms : List Nat} {xs : List Int} {w w1 w' : World} (ha : Alike w w1) (h : AddY base y lv vs ms xs w1 w') : AddY base y lv vs ms xs w w' := by
  obtain ⟨lv', vs', h1, h2, h3, h4⟩ := h
  exact ⟨lv', vs', h1, (Only.of_below _ ha.below).trans h2, fun g hg => (by have := h3 g hg; rw [ha.size] at this; exact this), fun v hv => (by have := h4 v hv; rw [ha.size] at this; exact this)⟩
theorem AddX.to {pv : Value} {pb : List UInt8} {base x : Nat} {kv : Value} {ms : List Nat} {xs : List Int} {w w1 w' : World} (h : AddX base x kv ms xs pv pb w w1) (ha : Alike w1 w') : AddX base x kv ms xs pv pb w w' := by
  obtain ⟨kv', h1, h2, h3⟩ := h
  exact ⟨kv', h1.below ha.below, h2.trans (Only.of_below _ ha.below), h3⟩
theorem AddY.to {base y : Nat} {lv : Value} {vs : List Value} {ms : List Nat} {xs : List Int} {w w1 w' : World} (h : AddY base y lv vs ms xs w w1) (ha : Alike w1 w') : AddY base y lv vs ms xs w w' := by
  obtain ⟨lv', vs', h1, h2, h3, h4⟩ := h
  exact ⟨lv', vs', h1.below ha.below, h2.trans (Only.of_below _ ha.below), h3, h4⟩

theorem SideIs.over {pv : Value} {pb : List UInt8} {base : Nat} {w wL w2 : World} {F : Nat → Prop} {p x : Nat} {kv : Value} {y : Nat} {lv : Value} {vs : List Value} {ms : List Nat} {xs : List Int} (hs : SideIs base w F p x kv y lv vs ms pv pb) (hA : Below w.heap.size w wL) (hX : AddX base x kv ms xs pv pb wL w2) :
    YAt base w2 y lv vs ms ∧ Only F wL w2 ∧ w2.cell? ⟨p, 1, none⟩ = some (.pointer (some ⟨y, 0, none⟩)) := by
  obtain ⟨kv', hx2, ox, lx⟩ := hX
  obtain ⟨pr, gr, la, en, hblk⟩ := hs.block
  have hpl := lt_of_block hblk
  have hXL := hs.prog.below hA
  have hYL := hs.doc.below hA
  have hpx : p ≠ x := by intro e; subst e; have := hblk.symm.trans hs.prog.block; simp at this
  have pL := (hA.block p hpl).trans hblk
  have p2 := (ox.block p (lt_of_block pL) (fun h => h.elim hpx (row_ne hXL.row pL (by decide)))).trans pL
  exact ⟨hYL.overX hXL ox, ox.weaken (fun k _ h => h.elim (fun e => by rw [e]; exact hs.fx.1) (fun e => hs.fx.2.1 k e)), cell_of_row _ _ 1 _ _ _ p2⟩
theorem SideIs.over2 {pv : Value} {pb : List UInt8} {base : Nat} {w w2 w3 : World} {F : Nat → Prop} {p x : Nat} {kv : Value} {y : Nat} {lv : Value} {vs : List Value} {ms : List Nat} {xs : List Int} (hs : SideIs base w F p x kv y lv vs ms pv pb) (hY : AddY base y lv vs ms xs w2 w3) : Only F w2 w3 := by
  obtain ⟨lv', vs', h1, oy, h3, h4⟩ := hY
  exact oy.weaken (fun k _ h => h.elim (fun e => by rw [e]; exact hs.fy.1) (fun e => hs.fy.2.1 k e))

theorem cut_lies {w : World} {g : Nat} {xs ys : List Int} {cap : Nat} (h : w.heap[g]? = some (.cells (ints (xs ++ ys)).toArray 3 (0, 0))) : Lies w (.slice (some ⟨g, 0, none⟩) xs.length cap) (ints xs) := by
  by_cases h0 : xs = []
  · subst h0; exact .inl ⟨rfl, _, _, rfl⟩
  · refine .inr ⟨g, 0, cap, ?_, by simp [ints], lt_of_block h, fun k x hx => ?_⟩
    · simp [ints]; exact List.length_pos_iff.2 h0
    · rw [Nat.zero_add, cell_of_row _ _ _ _ _ _ h]
      have hk : k < (ints xs).length := (List.getElem?_eq_some_iff.1 hx).1
      have : (ints (xs ++ ys))[k]? = some x := by
        unfold ints at hx hk ⊢
        rw [List.map_append, List.getElem?_append_left hk]; exact hx
      simpa using this

set_option maxRecDepth 100000 in
set_option maxHeartbeats 3200000 in
theorem step_add (base B n : Nat) (a b : Int) (s t : List UInt8) (v lv : Value) (xs : List Int) (p : Nat → Nat) (F : Nat → Nat → Prop) (ms : Nat → List Nat) (w : World) (h0 : -9223372036854775808 ≤ a) (h1 : a ≤ 9223372036854775807) (hn : 0 < n) (hW : WIs base w B n lv p F ms)
    (hL : ∀ i, i < n → (ms i).length ≤ 10000000) (hl : xs.length ≤ 10000000) (hv : Lies w v (ints xs)) (hvF : xs ≠ [] → ∀ i, i < n → ∀ g, v.ownBlock = some g → g < w.heap.size → ¬ F i g) :
    Calls Tryz.prog 35 #[.pointer (some ⟨B, 0, none⟩), opVal 4 a b s t v] w fun e w' => e = .returned (.bool true) ∧ Turned base w w' (F (pickOf a n)) (p (pickOf a n)) (ms (pickOf a n)) := by
  obtain ⟨g, cp, rfl, hc0, hcd⟩ := hW.cells hn
  have h4 := hW.four
  have hBl := lt_of_block hW.block
  have hgl := (hW.row.lt g rfl).2
  have HP := hide (fun wx => pick_any a n wx h0 h1 hn h4)
  have hd := pickOf_lt a hn
  obtain ⟨x, kv, y, yv, vs, pv, pb, hs⟩ := hW.sides _ hd
  have HLd := hide (hL _ hd)
  have HVF := hide (fun hx => hvF hx _ hd)
  have HS := hide hs
  have HV := hide hv
  obtain ⟨vo, vc, hvs⟩ : ∃ vo vc, v = .slice vo xs.length vc := by
    have := lies_shape hv
    simpa [ints] using this
  have hpx := hs.cellX
  have hpl := hs.ltp
  unfold opVal
  obtain ⟨w1, hw1, hop⟩ := op_in w 4 a b s t v
  have c0 := hop.c0
  have c1 := hop.c1
  have c5 := hop.c5
  have hcB : w1.cell? ⟨B, 0, none⟩ = some (.slice (some ⟨g, 0, none⟩) n cp) := (hop.below.cell (p := ⟨B, 0, none⟩) hBl).trans hc0
  have HB1 := hide hop.below
  have HZ1 := hide hop.size
  have hcd1 : w1.cell? ⟨g, pickOf a n, none⟩ = some (.pointer (some ⟨p (pickOf a n), 0, none⟩)) := (hop.below.cell (p := ⟨g, pickOf a n, none⟩) hgl).trans (hcd _ hd)
  generalize ms (pickOf a n) = md at *
  generalize F (pickOf a n) = Fd at *
  generalize p (pickOf a n) = pd at *
  generalize pickOf a n = d at *
  subst hvs
  clear hop hc0 hcd hW hs hL hvF hv
  go_enter Tryz.func35, Tryz.ntmps35
  go_wp2
  go_quiet ((go_at_call 53; refine Calls.quiet_of_same (unhide HP _)))
  go_wp2_with fail
  have hb2 := belowDrew (unhide HB1) nq
  refine (lent_any _ xs _ hl ((unhide HV).below hb2)).mono ?_
  rintro e wL ⟨rfl, hrow, hbL⟩
  have hA : Below w.heap.size w wL := hb2.trans (hbL.mono hb2.size)
  have hz1 : w1.heap.size = w.heap.size + 1 := unhide HZ1
  have hgL : w1.heap.size < wL.heap.size := lt_of_block hrow
  have c5L : wL.cell? ⟨w.heap.size, 5, none⟩ = some (.slice vo xs.length vc) := (hbL.cell (p := ⟨w.heap.size, 5, none⟩) (show w.heap.size < w1.heap.size by omega)).trans c5
  have hpxL : wL.cell? ⟨pd, 0, none⟩ = some (.pointer (some ⟨x, 0, none⟩)) := (hA.cell (p := ⟨pd, 0, none⟩) hpl).trans hpx
  have HROW : Hid (wL.heap[w1.heap.size]? = some (.cells (ints (xs ++ [77, 0])).toArray 3 (0, 0))) := hide hrow
  have HAX : Hid (∀ wx, Alike wL wx → Calls Tryz.prog 24 #[.pointer (some ⟨x, 0, none⟩), .slice (some ⟨w1.heap.size, 0, none⟩) xs.length (xs.length + 2)] wx fun e w' => e = .returned (.int .i64 (addTo md xs).1) ∧ AddX base x kv md xs pv pb wL w') :=
    hide (fun wx ha => (addX_any base x kv _ md xs wx pv pb (((unhide HS).prog.below hA).below ha.below) (unhide HLd) hl ((cut_lies hrow).below ha.below)).mono (fun e w' h => ⟨h.1, h.2.from ha⟩))
  have HA := hide hA
  have HBL := hide hbL
  have HZ := hide hz1
  have HGL := hide hgL
  clear hrow hbL hA hz1 hgL
  go_upto_region 17 with fail
  go_cut [8] (fun s8 wx => s8 = .int .i64 (addTo md xs).1 ∧ Hid (AddX base x kv md xs pv pb wL wx))
  case first =>
    go_region_with (go_at_call 24; refine (unhide HAX _ (by first | exact Alike.refl _ | exact (Alike.refl _).drew | exact (Alike.refl _).drew.drew | exact (Alike.refl _).drew.drew.drew | exact (Alike.refl _).drew.drew.drew.drew)).mono ?_; rintro e w2 ⟨rfl, hax⟩)
    all_goals (go_wp2_with fail; go_meet; exact ⟨rfl, by first | exact hide hax | exact hide (hax.to (Alike.refl _).drew)⟩)
  case rest =>
  obtain ⟨rfl, HAXR⟩ := hcut
  obtain ⟨w2, rfl⟩ : ∃ w2, w2 = wc := ⟨wc, rfl⟩
  have HNF : Hid (∀ k, w.heap.size ≤ k → ¬ Fd k) := hide (fun k hk hf => by have := ((unhide HS).inn k hf).2; omega)
  have HVN : Hid (ints xs ≠ [] → ∀ k, (Value.slice vo xs.length vc).ownBlock = some k → ¬ Fd k) := hide (fun hx k hk hf => unhide HVF (fun e => hx (by rw [e]; rfl)) k hk ((unhide HS).inn k hf).2 hf)
  obtain ⟨hy2, of2, hpy2⟩ := (unhide HS).over (unhide HA) (unhide HAXR)
  have HO2 := hide of2
  have hwL : w.heap.size < wL.heap.size := by have := unhide HZ; have := unhide HGL; omega
  have c5M : w2.cell? ⟨w.heap.size, 5, none⟩ = some (.slice vo xs.length vc) := (World.cell?_of_block (w := wL) (a := ⟨w.heap.size, 5, none⟩) (of2.block w.heap.size hwL (unhide HNF _ (Nat.le_refl _)))).trans c5L
  have HV2 : Hid (Lies w2 (.slice vo xs.length vc) (ints xs)) := hide (lies_only ((unhide HV).below (unhide HA)) of2 (fun hx k hk _ => unhide HVN hx k hk))
  have HAY : Hid (∀ wx, Alike w2 wx → Calls Tryz.prog 55 #[.pointer (some ⟨y, 0, none⟩), .slice vo xs.length vc] wx fun e w' => e = .returned (.int .i64 (addTo md xs).1) ∧ AddY base y yv vs md xs w2 w') :=
    hide (fun wx ha => (addY_any base y yv _ vs md xs wx (hy2.below ha.below) (unhide HLd) hl ((unhide HV2).below ha.below)).mono (fun e w' h => ⟨h.1, h.2.from ha⟩))
  clear hy2 of2 HAX
  go_upto_region 18 with fail
  go_cut [9] (fun s9 wx => s9 = .int .i64 (addTo md xs).1 ∧ Hid (AddY base y yv vs md xs w2 wx))
  case first =>
    go_region_with (go_at_call 55; refine (unhide HAY _ (by first | exact Alike.refl _ | exact (Alike.refl _).drew | exact (Alike.refl _).drew.drew | exact (Alike.refl _).drew.drew.drew | exact (Alike.refl _).drew.drew.drew.drew)).mono ?_; rintro e w3 ⟨rfl, hay⟩)
    all_goals (go_wp2_with fail; go_meet; exact ⟨rfl, by first | exact hide hay | exact hide (hay.to (Alike.refl _).drew)⟩)
  case rest =>
  obtain ⟨rfl, HAYR⟩ := hcut
  obtain ⟨w3, rfl⟩ : ∃ w3, w3 = wc := ⟨wc, rfl⟩
  have of3 := (unhide HS).over2 (unhide HAYR)
  have sz2 := (unhide HO2).size
  have hgL := unhide HGL
  have c5N : w3.cell? ⟨w.heap.size, 5, none⟩ = some (.slice vo xs.length vc) := (World.cell?_of_block (w := w2) (a := ⟨w.heap.size, 5, none⟩) (of3.block w.heap.size (by omega) (unhide HNF _ (Nat.le_refl _)))).trans c5M
  have HV3 : Hid (Lies w3 (.slice vo xs.length vc) (ints xs)) := hide (lies_only (unhide HV2) of3 (fun hx k hk _ => unhide HVN hx k hk))
  have hzz : w.heap.size ≤ w1.heap.size := by have := unhide HZ; omega
  have HROW3 : Hid (w3.heap[w1.heap.size]? = some (.cells (ints (xs ++ [77, 0])).toArray 3 (0, 0))) := hide ((of3.block w1.heap.size (by omega) (unhide HNF _ hzz)).trans (((unhide HO2).block w1.heap.size hgL (unhide HNF _ hzz)).trans (unhide HROW)))
  have HBK := hide (back_any w1.heap.size _ xs w3 hl (unhide HV3) (fun hne hk => by
    rcases unhide HV with ⟨h0, _⟩ | ⟨bb, off, cap, _, e, hbb, _⟩
    · exact hne (by simpa [ints] using h0)
    · rw [e] at hk
      simp [Value.ownBlock] at hk
      omega) (unhide HROW3))
  clear of3 sz2 hgL hzz
  go_wp2_with fail
  refine (unhide HBK).mono ?_
  rintro e w4 ⟨rfl, hob⟩
  go_wp2
  go_ret
  exact ⟨by simp, add_fin (unhide HS) hb2 (unhide HBL) (unhide HGL) (unhide HAXR) (unhide HAYR) hob⟩

end Go.Proofs.YtekkkoipcghlmaaGreatDoor

namespace Go.Proofs.YtekkkoipcghlmaaGreatDoor
open Go.RowKit

theorem Tryz.infoSideP : (Tryz.prog.info? 90).map (fun i => (i.zero, i.size, i.bytes)) = some (some (.pointer none), 1, 8) := by kernel_rfl

set_option maxRecDepth 100000 in
set_option maxHeartbeats 1600000 in
theorem step_new_full (base B : Nat) (a b : Int) (s t : List UInt8) (v lv : Value) (p : Nat → Nat) (F : Nat → Nat → Prop) (ms : Nat → List Nat) (w : World) (hW : WIs base w B 4 lv p F ms) :
    Calls Tryz.prog 35 #[.pointer (some ⟨B, 0, none⟩), opVal 3 a b s t v] w fun e w' => e = .returned (.bool true) ∧ Below w.heap.size w w' := by
  obtain ⟨g, cp, rfl, hc0, hcd⟩ := hW.cells (by decide)
  have hBl := lt_of_block hW.block
  unfold opVal
  obtain ⟨w1, hw1, hop⟩ := op_in w 3 a b s t v
  have c0 := hop.c0
  have hcB : (w1.alloc (.cells #[.slice none 0 0, .int .i64 0, .slice none 0 0] 77)).cell? ⟨B, 0, none⟩ = some (.slice (some ⟨g, 0, none⟩) 4 cp) := ((below_alloc w1 _).cell (p := ⟨B, 0, none⟩) (Nat.lt_of_lt_of_le hBl hop.below.size)).trans ((hop.below.cell (p := ⟨B, 0, none⟩) hBl).trans hc0)
  have HB1 := hide hop.below
  have HN := hide (newX_any w1)
  obtain ⟨w2, hw2⟩ : ∃ w2, w2 = w1.alloc (.cells #[.slice none 0 0, .int .i64 0, .slice none 0 0] 77) := ⟨_, rfl⟩
  rw [← hw2] at hcB HN
  have HB2 : Hid (Below w.heap.size w w2) := hide (by rw [hw2]; exact hop.below.trans ((below_alloc w1 _).mono hop.below.size))
  clear hop hc0 hcd hW hw2
  go_enter Tryz.func35, Tryz.ntmps35
  go_wp2_with fail
  refine (unhide HN).mono ?_
  rintro e w3 ⟨rfl, rfl⟩
  go_wp2
  go_ret
  exact ⟨rfl, unhide HB2⟩

def xObj : Obj := .cells #[.slice none 0 0, .int .i64 0, .slice none 0 0] 77
def yObj : Obj := .cells #[.slice none 0 0] 93
def sObj (x y : Nat) : Obj := .cells #[.pointer (some ⟨x, 0, none⟩), .pointer (some ⟨y, 0, none⟩), .string ⟨#[]⟩, .bool false, .string ⟨#[]⟩, .bool false] 95
theorem alloc_last (w0 : World) (o : Obj) : (w0.alloc o).heap[w0.heap.size]? = some o := by show (w0.heap.push o)[w0.heap.size]? = _; simp
theorem alloc_old {w0 : World} (o : Obj) {k : Nat} (h : k < w0.heap.size) : (w0.alloc o).heap[k]? = w0.heap[k]? := Below.heap_alloc _ _ _ h

theorem new_fin {base : Nat} {w w1 w2 wz w5 : World} {B n : Nat} {lv : Value} {p : Nat → Nat} {F : Nat → Nat → Prop} {ms : Nat → List Nat} {g' cap' : Nat} {o : Obj} (hW : WIs base w B n lv p F ms) (hb1 : Below w.heap.size w w1) (hw2 : w2 = w1.alloc xObj) (hwz : wz = (w2.alloc yObj).alloc (sObj w1.heap.size w2.heap.size)) (hn : n < 4)
    (hown : w5.ownsRow base 90 1 (.slice (some ⟨g', 0, none⟩) (n + 1) cap') (n + 1) (((List.range n).map fun i => .pointer (some ⟨p i, 0, none⟩)) ++ [.pointer (some ⟨w2.heap.size + 1, 0, none⟩)])) (hgr : (wz.alloc o).grownBy w5 lv.ownBlock) (hloc : lv.ownBlock = some g' ∨ g' = (wz.alloc o).heap.size) :
    w5.heap[B]? = some (.cells #[lv, .slice none 0 0] 64 (0, 0)) ∧
    WIs base (w5.setCell ⟨B, 0, none⟩ (.slice (some ⟨g', 0, none⟩) (n + 1) cap')) B (n + 1) (.slice (some ⟨g', 0, none⟩) (n + 1) cap') (fun i => if i = n then w2.heap.size + 1 else p i) (fun i => if i = n then (fun k => k = w1.heap.size ∨ k = w2.heap.size ∨ k = w2.heap.size + 1) else F i) (fun i => if i = n then [] else ms i) ∧
    Below base w (w5.setCell ⟨B, 0, none⟩ (.slice (some ⟨g', 0, none⟩) (n + 1) cap')) := by
  have hs1 := hb1.size
  have hs2 : w2.heap.size = w1.heap.size + 1 := by rw [hw2]; simp
  have hsz : wz.heap.size = w2.heap.size + 2 := by rw [hwz]; simp
  have hsa : (wz.alloc o).heap.size = w2.heap.size + 3 := by simp [hsz]
  have hs5 := hgr.size
  have hBl := lt_of_block hW.block
  have hbase : base ≤ w.heap.size := Nat.le_trans hW.le (Nat.le_of_lt hBl)
  have hold : ∀ k, k < w.heap.size → (wz.alloc o).heap[k]? = w.heap[k]? := fun k hk => by
    rw [alloc_old o (by omega), hwz, alloc_old _ (by simp; omega), alloc_old _ (by omega), hw2, alloc_old _ (by omega)]
    exact hb1.block k hk
  have hx : (wz.alloc o).heap[w1.heap.size]? = some xObj := by
    rw [alloc_old o (by omega), hwz, alloc_old _ (by simp; omega), alloc_old _ (by omega), hw2]; exact alloc_last _ _
  have hy : (wz.alloc o).heap[w2.heap.size]? = some yObj := by
    rw [alloc_old o (by omega), hwz, alloc_old _ (by simp)]; exact alloc_last _ _
  have hsd : (wz.alloc o).heap[w2.heap.size + 1]? = some (sObj w1.heap.size w2.heap.size) := by
    rw [alloc_old o (by omega), hwz]
    have := alloc_last (w2.alloc yObj) (sObj w1.heap.size w2.heap.size)
    simpa using this
  have hlvl : ∀ k, lv.ownBlock = some k → k < w.heap.size := fun k hk => (hW.row.lt k hk).2
  have hne : lv.ownBlock ≠ some B := row_ne hW.row hW.block (by decide)
  have h5 : ∀ k, k < (wz.alloc o).heap.size → lv.ownBlock ≠ some k → w5.heap[k]? = (wz.alloc o).heap[k]? := fun k hk hn => hgr.block k hk (fun e => hn e.symm)
  have h5B : w5.heap[B]? = some (.cells #[lv, .slice none 0 0] 64 (0, 0)) := by rw [h5 B (by omega) hne, hold B hBl]; exact hW.block
  have hfar : ∀ k, w.heap.size ≤ k → lv.ownBlock ≠ some k := fun k hk e => by have := hlvl k e; omega
  have hg'B : g' ≠ B := by
    rcases hloc with h | h
    · intro e; subst e; exact hne h
    · omega
  have hset : ∀ k, k ≠ B → (w5.setCell ⟨B, 0, none⟩ (.slice (some ⟨g', 0, none⟩) (n + 1) cap')).heap[k]? = w5.heap[k]? := fun k hk => Below.heap_setCell _ _ _ _ hk
  have fx : (w5.setCell ⟨B, 0, none⟩ (.slice (some ⟨g', 0, none⟩) (n + 1) cap')).heap[w1.heap.size]? = some xObj := by rw [hset _ (by omega), h5 _ (by omega) (hfar _ (by omega))]; exact hx
  have fy : (w5.setCell ⟨B, 0, none⟩ (.slice (some ⟨g', 0, none⟩) (n + 1) cap')).heap[w2.heap.size]? = some yObj := by rw [hset _ (by omega), h5 _ (by omega) (hfar _ (by omega))]; exact hy
  have fs : (w5.setCell ⟨B, 0, none⟩ (.slice (some ⟨g', 0, none⟩) (n + 1) cap')).heap[w2.heap.size + 1]? = some (sObj w1.heap.size w2.heap.size) := by rw [hset _ (by omega), h5 _ (by omega) (hfar _ (by omega))]; exact hsd
  have hfs : (w5.setCell ⟨B, 0, none⟩ (.slice (some ⟨g', 0, none⟩) (n + 1) cap')).heap.size = w5.heap.size := by simp
  have fold : ∀ k, k < w.heap.size → k ≠ B → lv.ownBlock ≠ some k → (w5.setCell ⟨B, 0, none⟩ (.slice (some ⟨g', 0, none⟩) (n + 1) cap')).heap[k]? = w.heap[k]? := fun k hk hkB hkl => by
    rw [hset k hkB, h5 k (by omega) hkl, hold k hk]
  have hFlt : ∀ i, i < n → ∀ k, F i k → base ≤ k ∧ k < w.heap.size := fun i hi k hk => by
    obtain ⟨x, kv, y, lv', vs, pv, pb, hh⟩ := hW.sides i hi
    exact hh.inn k hk
  have fF : ∀ i, i < n → ∀ k, F i k → (w5.setCell ⟨B, 0, none⟩ (.slice (some ⟨g', 0, none⟩) (n + 1) cap')).heap[k]? = w.heap[k]? := fun i hi k hk =>
    fold k (hFlt i hi k hk).2 (fun e => hW.notB i hi (by rw [← e]; exact hk)) (fun e => hW.notRow i hi k e hk)
  refine ⟨h5B, ⟨by rw [heap_setCell_same w5 B 0 _ _ _ h5B]; rfl, hW.le, ?_, fun i hi => ?_, fun i j hi hj hij k hk => ?_, fun i hi => ?_, fun i hi k hk => ?_, by omega⟩, ?_⟩
  · have e1 : ((List.range (n + 1)).map fun i => Value.pointer (some ⟨if i = n then w2.heap.size + 1 else p i, 0, none⟩)) = ((List.range n).map fun i => .pointer (some ⟨p i, 0, none⟩)) ++ [.pointer (some ⟨w2.heap.size + 1, 0, none⟩)] := by
      rw [List.range_succ, List.map_append]
      congr 1
      · apply List.map_congr_left
        intro i hi
        have : i < n := by simpa using hi
        rw [if_neg (by omega)]
      · simp
    rw [e1]
    exact ownsRow_setCell_other hown (a := ⟨B, 0, none⟩) (by simp [Value.ownBlock]; exact hg'B) _
  · by_cases e : i = n
    · subst e
      simp only [if_true]
      refine ⟨w1.heap.size, .slice none 0 0, w2.heap.size, .slice none 0 0, [], .slice none 0 0, [], ⟨⟨_, _, _, _, fs⟩, by omega, ⟨fx, by omega, World.ownsRow_nil _ _ _ _, World.ownsRow_nil _ _ _ _⟩, ⟨fy, by omega, World.ownsRow_nil _ _ _ _, rfl, fun i a c ha hc => by simp at ha⟩, .inr (.inr rfl), ⟨.inl rfl, fun g hg => (by cases hg), fun g hg => (by cases hg)⟩, ⟨.inr (.inl rfl), fun g hg => (by cases hg), fun v hv => (by cases hv)⟩, fun k hk => ⟨by omega, by omega⟩, fun m hm => (by cases hm)⟩⟩
    · simp only [if_neg e]
      have hi' : i < n := by omega
      exact (hW.sides i hi').keep (by omega) (fF i hi')
  · by_cases e : i = n
    · subst e
      simp only [if_true] at hk
      simp only [if_neg (Ne.symm hij)]
      intro hf
      have := (hFlt j (by omega) k hf).2
      omega
    · simp only [if_neg e] at hk
      have hkl := (hFlt i (by omega) k hk).2
      by_cases e2 : j = n
      · subst e2; simp only [if_true]; omega
      · simp only [if_neg e2]; exact hW.apart i j (by omega) (by omega) hij k hk
  · by_cases e : i = n
    · subst e; simp only [if_true]; omega
    · simp only [if_neg e]; exact hW.notB i (by omega)
  · simp [Value.ownBlock] at hk
    subst hk
    by_cases e : i = n
    · subst e
      simp only [if_true]
      rcases hloc with h | h
      · have := hlvl _ h; omega
      · omega
    · simp only [if_neg e]
      rcases hloc with h | h
      · exact hW.notRow i (by omega) _ h
      · intro hf; have := (hFlt i (by omega) _ hf).2; omega
  · refine ⟨hgr.os.trans ?_, hgr.tape.trans ?_, hgr.output.trans ?_, by omega, fun k hk => fold k (by omega) (by have := hW.le; omega) (fun e => by have := (hW.row.lt k e).1; omega)⟩
    · rw [hwz, hw2]; exact hb1.os
    · rw [hwz, hw2]; exact hb1.tape
    · rw [hwz, hw2]; exact hb1.output

set_option maxRecDepth 100000 in
set_option maxHeartbeats 1600000 in
theorem step_new (base B n : Nat) (a b : Int) (s t : List UInt8) (v lv : Value) (p : Nat → Nat) (F : Nat → Nat → Prop) (ms : Nat → List Nat) (w : World) (hn : n < 4) (hW : WIs base w B n lv p F ms) (L : Nat) (hL : ∀ i, i < n → (ms i).length ≤ L) :
    Calls Tryz.prog 35 #[.pointer (some ⟨B, 0, none⟩), opVal 3 a b s t v] w fun e w' => e = .returned (.bool true) ∧ WAt base w' B (n + 1) L ∧ Below base w w' := by
  have hc0 : w.cell? ⟨B, 0, none⟩ = some lv := by simp [World.cell?, hW.block]
  obtain ⟨ao, cp, hsh⟩ := owns_shape hW.row
  subst hsh
  have hBl := lt_of_block hW.block
  unfold opVal
  obtain ⟨w1, hw1, hop⟩ := op_in w 3 a b s t v
  have c0 := hop.c0
  have HB1 := hide hop.below
  have HN := hide (newX_any w1)
  obtain ⟨w2, hw2⟩ : ∃ w2, w2 = w1.alloc (.cells #[.slice none 0 0, .int .i64 0, .slice none 0 0] 77) := ⟨_, rfl⟩
  rw [← hw2] at HN
  have hb2 : Below w.heap.size w w2 := by rw [hw2]; exact hop.below.trans ((below_alloc w1 _).mono hop.below.size)
  have hcB : w2.cell? ⟨B, 0, none⟩ = some (.slice ao n cp) := (hb2.cell (p := ⟨B, 0, none⟩) hBl).trans hc0
  have HW := hide hW
  have HB2 := hide hb2
  have HW2 := hide hw2
  clear hop hc0 hW hw2 hb2
  go_enter Tryz.func35, Tryz.ntmps35
  go_wp2_with fail
  refine (unhide HN).mono ?_
  rintro e w3 ⟨rfl, rfl⟩
  obtain ⟨wz, hwz⟩ : ∃ wz, wz = (w3.alloc yObj).alloc (sObj w1.heap.size w3.heap.size) := ⟨_, rfl⟩
  have hwz' : ((w3.alloc (.cells #[.slice none 0 0] 93)).alloc (.cells #[.pointer (some ⟨w1.heap.size, 0, none⟩), .pointer (some ⟨w3.heap.size, 0, none⟩), .string ⟨#[]⟩, .bool false, .string ⟨#[]⟩, .bool false] 95)) = wz := hwz.symm
  have HWZ := hide hwz
  have hn' : (n : Int) < 4 := by omega
  have HROWZ : Hid (wz.ownsRow base 90 1 (.slice ao n cp) n ((List.range n).map fun i => .pointer (some ⟨p i, 0, none⟩))) := hide (by
    refine owns_at (unhide HW).row (fun g hg => ?_)
    have h1 := ((unhide HW).row.lt g hg).2
    have h2 := (unhide HB2).size
    rw [hwz, alloc_old _ (by simp; omega), alloc_old _ (by omega)]
    exact (unhide HB2).block g h1)
  have hszz : base ≤ wz.heap.size := by
    have h1 := (unhide HW).le
    have h2 := (unhide HB2).size
    rw [hwz]; simp; omega
  clear hwz
  go_wp2_with (at_builtin; refine append_cell (base := base) rfl _ _ 59 90 rfl Tryz.underlying59 Tryz.infoSideP rfl (by decide) (unhide HROWZ) rfl rfl rfl (by omega) hszz ?_; intro g' cap' w5 hown5 hgr5 hloc; have HFIN := hide (new_fin (unhide HW) (unhide HB1) (unhide HW2) (unhide HWZ) hn hown5 hgr5 hloc); clear hown5 hgr5 hloc; have hcB5 : w5.cell? ⟨B, 0, none⟩ = some (.slice ao n cp) := (cell_of_row _ _ 0 _ _ _ (unhide HFIN).1); have hfB5 : w5.frozen? ⟨B, 0, none⟩ = false := frozen_of_row _ _ _ _ _ (unhide HFIN).1)
  go_ret
  exact ⟨rfl, ⟨_, _, _, _, (unhide HFIN).2.1, fun i hi => by
    by_cases e : i = n
    · simp only [if_pos e]; simp
    · simp only [if_neg e]; exact hL i (by omega)⟩, (unhide HFIN).2.2⟩

end Go.Proofs.YtekkkoipcghlmaaGreatDoor

namespace Go.Proofs.YtekkkoipcghlmaaGreatDoor
open Go.RowKit

theorem WIs.keepAll {base : Nat} {w w' : World} {B n : Nat} {lv : Value} {p : Nat → Nat} {F : Nat → Nat → Prop} {ms : Nat → List Nat} (h : WIs base w B n lv p F ms) (hb : Below w.heap.size w w') : WIs base w' B n lv p F ms := by
  refine ⟨(hb.block B (lt_of_block h.block)).trans h.block, h.le, owns_at h.row (fun g hg => hb.block g (h.row.lt g hg).2), fun i hi => (h.sides i hi).keep hb.size (fun k hk => ?_), h.apart, h.notB, h.notRow, h.four⟩
  obtain ⟨x, kv, y, lv', vs, pv, pb, hh⟩ := h.sides i hi
  exact hb.block k (hh.inn k hk).2
theorem WIs.inn {base : Nat} {w : World} {B n : Nat} {lv : Value} {p : Nat → Nat} {F : Nat → Nat → Prop} {ms : Nat → List Nat} (h : WIs base w B n lv p F ms) {i : Nat} (hi : i < n) {k : Nat} (hk : F i k) : base ≤ k ∧ k < w.heap.size := by
  obtain ⟨x, kv, y, lv', vs, pv, pb, hh⟩ := h.sides i hi
  exact hh.inn k hk
theorem WIs.base_le {base : Nat} {w : World} {B n : Nat} {lv : Value} {p : Nat → Nat} {F : Nat → Nat → Prop} {ms : Nat → List Nat} (h : WIs base w B n lv p F ms) : base ≤ w.heap.size := Nat.le_trans h.le (Nat.le_of_lt (lt_of_block h.block))

/-- A side has changed: the world of the play goes on. -/
theorem WIs.turned {base : Nat} {w w' : World} {B n L : Nat} {lv : Value} {p : Nat → Nat} {F : Nat → Nat → Prop} {ms : Nat → List Nat} (h : WIs base w B n lv p F ms) (hL : ∀ i, i < n → (ms i).length ≤ L) {d : Nat} (hd : d < n) (ht : Turned base w w' (F d) (p d) (ms d)) : WAt base w' B n (L + 1) ∧ Below base w w' := by
  obtain ⟨F', ms', ho, hs, hF, hl⟩ := ht
  refine ⟨⟨lv, p, _, _, h.turn hd ho hs hF, fun i hi => ?_⟩, ho.below (fun k hk => (h.inn hd hk).1) h.base_le⟩
  by_cases e : i = d
  · subst e; simp only [if_true]; have := hL i hi; omega
  · simp only [if_neg e]; have := hL i hi; omega

def PlayRes (base B L : Nat) (w : World) (e : Ending) (w' : World) : Prop := e = .returned (.bool true) ∧ ∃ n', 0 < n' ∧ WAt base w' B n' L ∧ Below base w w'

/-- The block of a step's list is none of the play's own. -/
theorem step_all (base B n L : Nat) (kind a b : Int) (s t : List UInt8) (v : Value) (xs : List Int) (w w0 : World) (hk : kind ≤ 6) (h0 : -9223372036854775808 ≤ a) (h1 : a ≤ 9223372036854775807) (hn : 0 < n) (hs : s.length ≤ 9223372036854775807) (ht : t.length ≤ 9223372036854775807) (hl : xs.length ≤ 10000000) (hLm : L ≤ 10000000)
    (hW : WAt base w0 B n L) (hb : Below w0.heap.size w0 w) (he : Env w) (hv : Lies w v (ints xs)) (hvb : xs ≠ [] → ∀ g, v.ownBlock = some g → g < base ∨ w0.heap.size ≤ g) :
    Calls Tryz.prog 35 #[.pointer (some ⟨B, 0, none⟩), opVal kind a b s t v] w fun e w' => PlayRes base B (L + 1) w e w' := by
  obtain ⟨lv, p, F, ms, hI0, hL⟩ := hW
  have hI := hI0.keepAll hb
  have hWw : WAt base w B n L := ⟨lv, p, F, ms, hI, hL⟩
  have hbase := hI.base_le
  have stay : ∀ e w', (e = .returned (.bool true) ∧ Below w.heap.size w w') → PlayRes base B (L + 1) w e w' := fun e w' h => ⟨h.1, n, hn, (hWw.below h.2).more (by omega), h.2.mono hbase⟩
  have turn : ∀ e w', (e = .returned (.bool true) ∧ Turned base w w' (F (pickOf a n)) (p (pickOf a n)) (ms (pickOf a n))) → PlayRes base B (L + 1) w e w' := fun e w' h => by
    obtain ⟨h2, h3⟩ := hI.turned hL (pickOf_lt a hn) h.2
    exact ⟨h.1, n, hn, h2, h3⟩
  have hL7 : ∀ i, i < n → (ms i).length ≤ 10000000 := fun i hi => Nat.le_trans (hL i hi) hLm
  by_cases k0 : kind < 1
  · exact (step_idle base B n kind a b s t v lv p F ms w k0 h0 h1 hn hI).mono stay
  · have : kind = 1 ∨ kind = 2 ∨ kind = 3 ∨ kind = 4 ∨ kind = 5 ∨ kind = 6 := by omega
    rcases this with rfl | rfl | rfl | rfl | rfl | rfl
    · exact (step_plain B a b s t v w hs he).mono stay
    · exact (step_check B a b s t v w hs ht he).mono stay
    · by_cases h4 : n < 4
      · refine (step_new base B n a b s t v lv p F ms w h4 hI L hL).mono fun e w' h => ?_
        exact ⟨h.1, n + 1, by omega, h.2.1.more (by omega), h.2.2⟩
      · have : n = 4 := by have := hI.four; omega
        subst this
        exact (step_new_full base B a b s t v lv p F ms w hI).mono stay
    · refine (step_add base B n a b s t v lv xs p F ms w h0 h1 hn hI hL7 hl hv (fun hx i hi g hg _ hf => ?_)).mono turn
      have h5 := hI0.inn hi hf
      rcases hvb hx g hg with h6 | h6 <;> omega
    · exact (step_clauses base B n a b s t v lv p F ms w h0 h1 hn hI hL7 he).mono stay
    · exact (step_reset base B n a b s t v lv p F ms w h0 h1 hn hI).mono turn

end Go.Proofs.YtekkkoipcghlmaaGreatDoor
