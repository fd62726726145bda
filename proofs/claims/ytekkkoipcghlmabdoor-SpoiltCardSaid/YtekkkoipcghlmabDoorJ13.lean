import Derived.Test.YtekkkoipcghlmabDoorJ12
import Derived.Test.YtekkkoipcghlmabDoorJ05
import Derived.Test.YtekkkoipcghlmabDoorJ03
import Derived.Test.YtekkkoipcghlmabDoorJ04
import Derived.Test.YtekkkoipcghlmabDoorJ08
import Derived.Lib.BitFns
namespace Go.Proofs.YtekkkoipcghlmabDoor
open Go.RowKit

def In (n : Nat) (xs : List Int) : Prop := ∀ x, x ∈ xs → x ≠ 0 ∧ -(n : Int) ≤ x ∧ x ≤ n
theorem In.snoc {n : Nat} {xs : List Int} {x : Int} (h : In n xs) (hx : x ≠ 0 ∧ -(n : Int) ≤ x ∧ x ≤ n) : In n (xs ++ [x]) := fun y hy => by
  rcases List.mem_append.1 hy with hy | hy
  · exact h y hy
  · simp at hy; subst hy; exact hx
def Fits (zs : List Int) : Prop := ∀ z, z ∈ zs → -9223372036854775808 ≤ z ∧ z ≤ 9223372036854775807

set_option maxRecDepth 100000 in
set_option maxHeartbeats 800000 in
theorem someK_any (v : Value) (zs : List Int) (n most : Nat) (w : World) (hl : zs.length ≤ 9223372036854775807) (hf : Fits zs) (hn : 0 < n) (hn12 : n ≤ 12) (hm : most ≤ 12) (hv : Lies w v (ints zs)) :
    Calls Tryd.prog 8 #[v, .int .i64 n, .int .i64 most] w fun e w' => ∃ v' xs, e = .returned v' ∧ w'.ownsRow w.heap.size 3 1 v' xs.length (ints xs) ∧ xs.length ≤ most ∧ In n xs ∧ Below w.heap.size w w' := by
  obtain ⟨ao, cap, hsh⟩ : ∃ ao cap, v = .slice ao zs.length cap := by
    have := lies_shape hv
    simpa [ints] using this
  subst hsh
  have HV := hide hv
  clear hv
  go_enter Tryd.func8, Tryd.ntmps8
  go_wp2
  go_loopw [7, 8] (fun o i wr => ∃ (k : Nat) (xs : List Int), k ≤ most ∧ k ≤ zs.length ∧ i = .int .i64 k ∧ wr.ownsRow w.heap.size 3 1 o xs.length (ints xs) ∧ xs.length = k ∧ Hid (In n xs) ∧ Below w.heap.size w wr) (fun _ i _ => most - (intOf i).toNat)
  case atStart => exact ⟨0, [], Nat.zero_le _, Nat.zero_le _, rfl, World.ownsRow_nil _ _ _ _, rfl, hide (fun x hx => by cases hx), Below.refl _ _⟩
  case round =>
    obtain ⟨k, xs, hkm, hkz, rfl, hown, hxk, HI, hbel⟩ := hrel
    by_cases hlt : k < zs.length ∧ k < most
    · obtain ⟨h1, h2⟩ := hlt
      have hlw := (unhide HV).below hbel
      rcases hlw with ⟨h0, _⟩ | ⟨b, off, cap', hp, hvv, hbb, hc⟩
      · exfalso; have := congrArg List.length h0; simp [ints] at this; rw [this] at h1; simp at h1
      · simp only [Value.slice.injEq] at hvv
        obtain ⟨rfl, -, rfl⟩ := hvv
        have hcell := hc k (.int .i64 zs[k]) (by simp [ints, h1])
        have hfz := hf zs[k] (List.getElem_mem h1)
        generalize zs[k] = z at hcell hfz
        have HLI := hide (literalK_any z n wr hfz.1 hfz.2 hn hn12)
        clear hc
        go_wp2_with fail
        refine (unhide HLI).mono ?_
        rintro e w1 ⟨⟨x, hx, rfl⟩, rfl⟩
        have HX := hide hx
        clear hx
        go_wp2_with (at_builtin; refine append_one rfl _ _ 22 3 rfl Tryd.underlying22 Tryd.infoInt rfl (by decide) hown rfl rfl rfl (by omega) (Nat.le_refl _) hbel ?_; intro v' w3 hown' hbel' _)
        go_roundw
        case rel => exact ⟨k + 1, xs ++ [x], by omega, by omega, by go_num, by simpa [ints] using hown', by simp [hxk], hide ((unhide HI).snoc (unhide HX)), hbel'⟩
        case measure => simp [intOf]; omega
    · by_cases h1 : k < zs.length
      · have h2 : ¬ k < most := fun h => hlt ⟨h1, h⟩
        go_wp2
        go_ret
        exact ⟨_, xs, rfl, hown, by omega, unhide HI, hbel⟩
      · go_wp2
        go_ret
        exact ⟨_, xs, rfl, hown, by omega, unhide HI, hbel⟩

set_option maxRecDepth 100000 in
set_option maxHeartbeats 800000 in
theorem lineK_any (v : Value) (xs : List Int) (w : World) (hl : xs.length ≤ 100) (hx : ∀ x, x ∈ xs → x ≠ 0 ∧ -12 ≤ x ∧ x ≤ 12) (hv : Lies w v (ints xs)) (he : Env w) :
    Calls Tryd.prog 7 #[v] w fun e w' => e = .returned (.string (bs (Sp.told xs))) ∧ Below w.heap.size w w' := by
  rcases hv with ⟨h0, ao, cap, rfl⟩ | ⟨b, off, cap, hp, rfl, hb, hc⟩
  · have hx0 : xs = [] := by simpa [ints] using h0
    subst hx0
    have hadd := fun wx => add_bs (P := Tryd.prog) [] [10] (by simp) wx
    go_enter Tryd.func7, Tryd.ntmps7
    go_wp2
    refine wp_loop_rounds 1 ?_
    rw [rounds_succ]
    go_wp2
    go_ret
    exact ⟨rfl, Below.refl _ _⟩
  · have hlen : (ints xs).length = xs.length := by simp [ints]
    rw [hlen] at hp ⊢
    go_enter Tryd.func7, Tryd.ntmps7
    go_wp2
    go_loopw [3, 4] (fun s i wr => ∃ k : Nat, k ≤ xs.length ∧ i = .int .i64 k ∧ s = .string (bs (Sp.toldBody (xs.take k))) ∧ Below w.heap.size w wr) (fun _ i _ => xs.length - (intOf i).toNat)
    case atStart => exact ⟨0, Nat.zero_le _, rfl, rfl, Below.refl _ _⟩
    case round =>
      obtain ⟨k, hk, rfl, rfl, hbel⟩ := hrel
      have hbl := toldBody_len (xs.take k)
      have hbl2 : (xs.take k).length ≤ k := List.length_take_le _ _
      by_cases hlt : k < xs.length
      · have hcell : wr.cell? ⟨b, off + k, none⟩ = some (.int .i64 xs[k]) := (hbel.cell (p := ⟨b, off + k, none⟩) hb).trans (hc k (.int .i64 xs[k]) (by simp [ints, hlt]))
        have hxx := hx xs[k] (List.getElem_mem hlt)
        have HS : Hid (xs.take (k + 1) = xs.take k ++ [xs[k]]) := hide (List.take_succ_eq_append_getElem hlt)
        have HS2 := hide (toldBody_snoc (xs.take k) xs[k])
        have HE : Hid (xs.take k = [] ↔ k = 0) := hide (take_nil_iff hlt)
        generalize xs[k] = x at hcell HS HS2 hxx
        have hlwl : (Sp.lw x).length ≤ 3 := by
          unfold Sp.lw
          have := digs_len x.natAbs
          split
          · simp; omega
          · omega
        have HIT := hide (fun wx (hx : Below w.heap.size w wx) => itoa_any x (by omega) (by omega) wx (he.below hx))
        rw [Sp.itoa_lw _ hxx.1 hxx.2.1 hxx.2.2] at HIT
        generalize htb : Sp.toldBody (xs.take k) = tb at HS2 hbl ⊢
        have HB := hide htb.symm
        clear htb
        clear hc hx
        generalize Sp.lw x = lx at *
        by_cases hk0 : 0 < k
        · have ha0 : ∀ wx, (Op.stringOp .add (bs tb) ⟨#[32]⟩).run Tryd.prog wx = .ok (.string (bs (tb ++ [32]))) wx := fun wx => add_bs tb [32] (by simp; omega) wx
          have ha2 := fun wx => add_bs (P := Tryd.prog) (tb ++ [32]) lx (by simp; omega) wx
          go_wp2_with fail
          refine (unhide HIT _ hbel).mono ?_
          rintro e w1 ⟨rfl, hb1⟩
          go_wp2
          go_roundw
          case rel => exact ⟨k + 1, by omega, by go_num, by rw [unhide HS, unhide HS2, if_neg (fun h => absurd ((unhide HE).1 h) (by omega))], hbel.trans (hb1.mono hbel.size)⟩
          case measure => simp [intOf]; omega
        · have HZ : Hid (tb = []) := hide (by
            have := (unhide HE).2 (by omega)
            rw [unhide HB, this]; rfl)
          have ha2 := fun wx => add_bs (P := Tryd.prog) tb lx (by omega) wx
          have hkz : ¬ (0 : Int) < (k : Int) := by omega
          go_wp2_with fail
          refine (unhide HIT _ hbel).mono ?_
          rintro e w1 ⟨rfl, hb1⟩
          go_wp2
          go_roundw
          case rel => exact ⟨k + 1, by omega, by go_num, by rw [unhide HS, unhide HS2, if_pos ((unhide HE).2 (by omega)), unhide HZ]; rfl, hbel.trans (hb1.mono hbel.size)⟩
          case measure => simp [intOf]; omega
      · have HT : Hid (xs.take k = xs) := hide (List.take_of_length_le (by omega))
        have ha : ∀ wx, (Op.stringOp .add (bs (Sp.toldBody (xs.take k))) ⟨#[10]⟩).run Tryd.prog wx = .ok (.string (bs (Sp.toldBody (xs.take k) ++ [10]))) wx := fun wx => add_bs (P := Tryd.prog) (Sp.toldBody (xs.take k)) [10] (by simp; omega) wx
        generalize htb : Sp.toldBody (xs.take k) = tb at ha ⊢
        have HB := hide htb.symm
        clear htb
        go_wp2
        go_ret
        exact ⟨by rw [unhide HB, unhide HT]; rfl, hbel⟩

end Go.Proofs.YtekkkoipcghlmabDoor

namespace Go.Proofs.YtekkkoipcghlmabDoor
open Go.RowKit

theorem append_cellS {P : Program} {ops : Array Oper} {rest : List Oper} {o : Oper} {a : Act} {Q : Exit → Act → World → Prop} {w1 : World} {base n bytes : Nat} {v val z : Value} {xs : List Value} {tt : TypeId}
    (hgd : o.guard = none) (s x : Operand) (t e : TypeId) (ho : o.op = .call { callee := .builtin .append, args := #[s, x], argTypes := #[t, t] })
    (ht : P.underlying t = some (.slice e)) (hinfo : (P.info? e).map (fun i => (i.zero, i.size, i.bytes)) = some (some z, 1, bytes)) (hzs : z.cells.size = 1) (hby : bytes ≤ 24)
    (hown : w1.ownsRow base e 1 v n xs) (hs : a.eval s = v) (hx : a.eval x = .slice (some ⟨w1.heap.size, 0, none⟩) 1 1) (h1 : val.oneCell' = true) (hn : n ≤ 20000000) (hbase : base ≤ w1.heap.size)
    (h : ∀ (g cap : Nat) (w' : World), w'.ownsRow base e 1 (.slice (some ⟨g, 0, none⟩) (n + 1) cap) (n + 1) (xs ++ [val]) → (w1.alloc (.cells #[val] tt)).grownBy w' v.ownBlock → (v.ownBlock = some g ∨ g = (w1.alloc (.cells #[val] tt)).heap.size) → wpList P ops Q rest (a.put o.dst (.slice (some ⟨g, 0, none⟩) (n + 1) cap)) w') :
    wpList P ops Q (o :: rest) a (w1.alloc (.cells #[val] tt)) := by
  obtain ⟨i0, hi0, hz0, hz1, hz2⟩ := info_parts hinfo
  have hnb : (n + 1) * bytes ≤ 140737488355328 := Nat.le_trans (Nat.mul_le_mul (Nat.add_le_add_right hn 1) hby) (by omega)
  refine wpList_append_lies (P := P) _ hgd s x t ho base e i0 _ 1 bytes ht hi0 hz0 hz1 hz2 hzs (by decide) v n xs hs (hown.alloc _) ⟨w1.heap.size, 0, none⟩ 1 1 [val] hx rfl (cell_one_new _ _ _) ?_ (by decide) (by unfold maxLen; omega) hnb (by simp; omega) _ rfl ?_
  · intro u hu; simp at hu; subst hu; exact h1
  · intro g cap w' h1 h2 h3 _
    exact h g cap w' h1 h2 h3

theorem ownsAt {w w' : World} {base : Nat} {e : TypeId} {s : Nat} {v : Value} {n : Nat} {xs : List Value} (h : w.ownsRow base e s v n xs) (hb : ∀ g, v.ownBlock = some g → w'.heap[g]? = w.heap[g]?) : w'.ownsRow base e s v n xs := by
  obtain ⟨h1, h2⟩ := h
  refine ⟨h1, ?_⟩
  rcases h2 with h2 | ⟨g, cap, cur, hv, h3, h4, h5⟩
  · exact .inl h2
  · exact .inr ⟨g, cap, cur, hv, h3, (hb g (by rw [hv]; rfl)).trans h4, h5⟩

/-- Rows, none of which lies in block-value c. -/
def Off (vs : List Value) (c : Value) : Prop := ∀ v, v ∈ vs → ∀ g, v.ownBlock = some g → c.ownBlock ≠ some g

theorem RowsAt.lt {w : World} {base : Nat} {vs : List Value} {cs : List (List Int)} (h : RowsAt w base vs cs) {v : Value} (hv : v ∈ vs) {g : Nat} (hg : v.ownBlock = some g) : g < w.heap.size := by
  obtain ⟨i, hi⟩ := List.getElem?_of_mem hv
  have hil : i < vs.length := (List.getElem?_eq_some_iff.1 hi).1
  have hc : i < cs.length := by rw [← h.1]; exact hil
  exact ((h.2 i v _ hi (List.getElem?_eq_getElem hc)).lt g hg).2

/-- One number more in the clause that grows. -/
theorem grow_c {base n : Nat} {w1 w' : World} {o : Obj} {ov c : Value} {vs : List Value} {l : List (List Int)} {g' cap' m : Nat} (hrow : w1.ownsRow base 22 1 ov n vs) (hrows : RowsAt w1 base vs l) (hoff : Off vs c) {xs : List Int} (hcr : w1.ownsRow base 3 1 c m (ints xs))
    (hgr : (w1.alloc o).grownBy w' c.ownBlock) (hloc : c.ownBlock = some g' ∨ g' = (w1.alloc o).heap.size) : w'.ownsRow base 22 1 ov n vs ∧ RowsAt w' base vs l ∧ Off vs (.slice (some ⟨g', 0, none⟩) (m + 1) cap') := by
  have blk : ∀ k, k < w1.heap.size → c.ownBlock ≠ some k → w'.heap[k]? = w1.heap[k]? := fun k hk hn => by
    rw [hgr.block k (by simp; omega) (fun e => hn e.symm), Below.heap_alloc _ _ _ hk]
  refine ⟨ownsAt hrow (fun g hg => blk g (hrow.lt g hg).2 (fun e => ?_)), ⟨hrows.1, fun i x d hx hd => ownsAt (hrows.2 i x d hx hd) (fun g hg => blk g ((hrows.2 i x d hx hd).lt g hg).2 (hoff x (List.mem_of_getElem? hx) g hg))⟩, fun v hv g hg => ?_⟩
  · rcases rows_apart (by decide) hcr hrow with h | h
    · rw [h] at e; cases e
    · exact h (by rw [e, hg])
  · simp [Value.ownBlock]
    rcases hloc with h | h
    · intro e; subst e; exact hoff v hv g' hg h
    · have := hrows.lt hv hg
      simp at h; omega

/-- The clauses of raw numbers, so far: those that are whole, and the one that grows. -/
structure Raw (base : Nat) (w wr : World) (n most : Nat) (ov c : Value) (vs : List Value) (l : List (List Int)) (cc : List Int) : Prop where
  row : wr.ownsRow base 22 1 ov l.length vs
  rows : RowsAt wr base vs l
  off : Off vs c
  crow : wr.ownsRow base 3 1 c cc.length (ints cc)
  short : cc.length ≤ 2
  most : l.length ≤ most
  lits : In n cc
  all : ∀ d, d ∈ l → In n d ∧ d.length ≤ 3
  below : Below base w wr

theorem push_c {base n : Nat} {w1 w' : World} {o : Obj} {ov c : Value} {vs : List Value} {l : List (List Int)} {cc : List Int} (hrow : w1.ownsRow base 22 1 ov n vs) (hrows : RowsAt w1 base vs l) (hc : w1.ownsRow base 3 1 c cc.length (ints cc))
    (hgr : (w1.alloc o).grownBy w' ov.ownBlock) : RowsAt w' base (vs ++ [c]) (l ++ [cc]) := by
  have h1 : RowsAt (w1.alloc o) base (vs ++ [c]) (l ++ [cc]) := by
    have := hrows.snoc hc
    exact ⟨this.1, fun i x d hx hd => (this.2 i x d hx hd).alloc o⟩
  exact h1.grown (hrow.alloc o) hgr

theorem push_x {base n : Nat} {w1 w' : World} {o : Obj} {ov c : Value} {vs : List Value} {l : List (List Int)} {cc : List Int} {x : Int} (hrow : w1.ownsRow base 22 1 ov n vs) (hrows : RowsAt w1 base vs l) (hc : w1.ownsRow base 3 1 c (cc.length + 1) (ints cc ++ [.int .i64 x]))
    (hgr : (w1.alloc o).grownBy w' ov.ownBlock) : RowsAt w' base (vs ++ [c]) (l ++ [cc ++ [x]]) := by
  refine push_c hrow hrows ?_ hgr
  have e : ints (cc ++ [x]) = ints cc ++ [.int .i64 x] := by simp [ints]
  rw [e, List.length_append]
  exact hc

set_option maxRecDepth 100000 in
set_option maxHeartbeats 1600000 in
theorem clausesK_any (v : Value) (zs : List Int) (n most : Nat) (w : World) (hl : zs.length ≤ 9223372036854775807) (hf : Fits zs) (hn : 0 < n) (hn12 : n ≤ 12) (hm : most ≤ 100) (hv : Lies w v (ints zs)) :
    Calls Tryd.prog 4 #[v, .int .i64 n, .int .i64 most] w fun e w' => ∃ ov vs l, e = .returned ov ∧ w'.ownsRow w.heap.size 22 1 ov l.length vs ∧ RowsAt w' w.heap.size vs l ∧ l.length ≤ most ∧ (∀ d, d ∈ l → In n d ∧ d.length ≤ 3) ∧ Below w.heap.size w w' := by
  obtain ⟨ao, cap, hsh⟩ : ∃ ao cap, v = .slice ao zs.length cap := by
    have := lies_shape hv
    simpa [ints] using this
  subst hsh
  have HV := hide hv
  clear hv
  go_enter Tryd.func4, Tryd.ntmps4
  go_wp2
  go_loopw [7, 8, 9] (fun o c i wr => ∃ (k : Nat) (vs : List Value) (l : List (List Int)) (cc : List Int) (oo co : Option Addr) (oc cn : Nat), k ≤ zs.length ∧ i = .int .i64 k ∧ o = .slice oo l.length oc ∧ c = .slice co cc.length cn ∧ Hid (Raw w.heap.size w wr n most o c vs l cc)) (fun _ _ i _ => zs.length - (intOf i).toNat)
  case atStart => exact ⟨0, [], [], [], none, none, 0, 0, Nat.zero_le _, rfl, rfl, rfl, hide ⟨World.ownsRow_nil _ _ _ _, ⟨rfl, fun i x d hx => by simp at hx⟩, fun v hv => (by cases hv), World.ownsRow_nil _ _ _ _, by simp, by simp, fun x hx => (by cases hx), fun d hd => (by cases hd), Below.refl _ _⟩⟩
  case round =>
    obtain ⟨k, vs, l, cc, oo, co, oc, cn, hkz, rfl, rfl, rfl, HR⟩ := hrel
    have hshort := (unhide HR).short
    have hmost := (unhide HR).most
    have hbase := (unhide HR).below.size
    by_cases hlt : k < zs.length ∧ l.length < most
    · obtain ⟨h1, h2⟩ := hlt
      rcases unhide HV with ⟨h0, _⟩ | ⟨b, off, cap', hp, hvv, hbb, hc⟩
      · exfalso; have := congrArg List.length h0; simp [ints] at this; rw [this] at h1; simp at h1
      · simp only [Value.slice.injEq] at hvv
        obtain ⟨rfl, -, rfl⟩ := hvv
        have HCZ : Hid (∀ wx, Below w.heap.size w wx → wx.cell? ⟨b, off + k, none⟩ = some (.int .i64 zs[k])) := hide (fun wx hx => (hx.cell (p := ⟨b, off + k, none⟩) hbb).trans (hc k (.int .i64 zs[k]) (by simp [ints, h1])))
        have hfz := hf zs[k] (List.getElem_mem h1)
        generalize zs[k] = z at HCZ hfz
        have hcell := unhide HCZ wr (unhide HR).below
        have HLI := hide (literalK_any z n wr hfz.1 hfz.2 hn hn12)
        clear hc
        have HBE := hide (unhide HR).below
        by_cases h3 : cc.length = 2
        · have hq : ((cc.length : Int) + 1 == 3) = true := by rw [beq_iff_eq]; omega
          have H3 := hide h3
          clear h3
          go_wp2_with fail
          refine (unhide HLI).mono ?_
          rintro e w1 ⟨⟨x, hx, rfl⟩, rfl⟩
          have HX := hide hx
          clear hx
          go_wp2_with (first
            | (at_builtin; refine append_cellS (base := w.heap.size) rfl _ _ 22 3 rfl Tryd.underlying22 Tryd.infoInt rfl (by decide) (unhide HR).crow rfl rfl rfl (by omega) hbase ?_; intro g' cap1 w3 hown3 hgr3 hloc3; have HG := hide (grow_c (unhide HR).row (unhide HR).rows (unhide HR).off (cap' := cap1) (unhide HR).crow hgr3 hloc3); have HO3 := hide hown3; have hb3 : Below w.heap.size w w3 := ((unhide HBE).alloc hbase _).grown hgr3 (by simp; omega) (fun j hj => ((unhide HR).crow.lt j hj).1); have hcell3 := unhide HCZ w3 hb3; have hsz3 := hb3.size; clear hown3 hgr3 hloc3)
            | (at_builtin; refine append_cellS (base := w.heap.size) rfl _ _ 23 22 rfl Tryd.underlying23 Tryd.infoInts rfl (by decide) (unhide HG).1 rfl rfl rfl (by omega) hsz3 ?_; intro g2 cap2 w5 hown5 hgr5 hloc5; have HP := hide (push_x (unhide HG).1 (unhide HG).2.1 (unhide HO3) hgr5); have HO5 := hide hown5; have hb5 : Below w.heap.size w w5 := (hb3.alloc hsz3 _).grown hgr5 (by simp; omega) (fun j hj => ((unhide HG).1.lt j hj).1); clear hown5 hgr5 hloc5))
          go_roundw
          case rel => exact ⟨k + 1, vs ++ [.slice (some ⟨g', 0, none⟩) (cc.length + 1) cap1], l ++ [cc ++ [x]], [], some ⟨g2, 0, none⟩, none, cap2, 0, by omega, by go_num, by simp, rfl, hide ⟨by simpa using unhide HO5, unhide HP, fun v hv g hg => (by simp [Value.ownBlock]), World.ownsRow_nil _ _ _ _, by simp, by simp; omega, fun x hx => (by cases hx), fun d hd => (by
            rcases List.mem_append.1 hd with hd | hd
            · exact (unhide HR).all d hd
            · simp at hd; subst hd; exact ⟨(unhide HR).lits.snoc (unhide HX), by simp; omega⟩), hb5⟩⟩
          case measure => simp [intOf]; omega
        · have hq : ((cc.length : Int) + 1 == 3) = false := by rw [beq_eq_false_iff_ne]; omega
          have hlt2 : cc.length < 2 := by omega
          clear h3
          cases hz7 : (z.tmod 7 == 0)
          · skip
            go_wp2_with fail
            refine (unhide HLI).mono ?_
            rintro e w1 ⟨⟨x, hx, rfl⟩, rfl⟩
            have HX := hide hx
            clear hx
            go_wp2_with (first
              | (at_builtin; refine append_cellS (base := w.heap.size) rfl _ _ 22 3 rfl Tryd.underlying22 Tryd.infoInt rfl (by decide) (unhide HR).crow rfl rfl rfl (by omega) hbase ?_; intro g' cap1 w3 hown3 hgr3 hloc3; have HG := hide (grow_c (unhide HR).row (unhide HR).rows (unhide HR).off (cap' := cap1) (unhide HR).crow hgr3 hloc3); have HO3 := hide hown3; have hb3 : Below w.heap.size w w3 := ((unhide HBE).alloc hbase _).grown hgr3 (by simp; omega) (fun j hj => ((unhide HR).crow.lt j hj).1); have hcell3 := unhide HCZ w3 hb3; have hsz3 := hb3.size; clear hown3 hgr3 hloc3)
              | (at_builtin; refine append_cellS (base := w.heap.size) rfl _ _ 23 22 rfl Tryd.underlying23 Tryd.infoInts rfl (by decide) (unhide HG).1 rfl rfl rfl (by omega) hsz3 ?_; intro g2 cap2 w5 hown5 hgr5 hloc5; have HP := hide (push_x (unhide HG).1 (unhide HG).2.1 (unhide HO3) hgr5); have HO5 := hide hown5; have hb5 : Below w.heap.size w w5 := (hb3.alloc hsz3 _).grown hgr5 (by simp; omega) (fun j hj => ((unhide HG).1.lt j hj).1); clear hown5 hgr5 hloc5))
            go_roundw
            case rel => exact ⟨k + 1, vs, l, cc ++ [x], oo, some ⟨g', 0, none⟩, oc, cap1, by omega, by go_num, rfl, by simp, hide ⟨(unhide HG).1, (unhide HG).2.1, by simpa using (unhide HG).2.2, by simpa [ints] using unhide HO3, by simp; omega, by omega, (unhide HR).lits.snoc (unhide HX), (unhide HR).all, hb3⟩⟩
            case measure => simp [intOf]; omega
          · skip
            go_wp2_with fail
            refine (unhide HLI).mono ?_
            rintro e w1 ⟨⟨x, hx, rfl⟩, rfl⟩
            have HX := hide hx
            clear hx
            go_wp2_with (first
              | (at_builtin; refine append_cellS (base := w.heap.size) rfl _ _ 22 3 rfl Tryd.underlying22 Tryd.infoInt rfl (by decide) (unhide HR).crow rfl rfl rfl (by omega) hbase ?_; intro g' cap1 w3 hown3 hgr3 hloc3; have HG := hide (grow_c (unhide HR).row (unhide HR).rows (unhide HR).off (cap' := cap1) (unhide HR).crow hgr3 hloc3); have HO3 := hide hown3; have hb3 : Below w.heap.size w w3 := ((unhide HBE).alloc hbase _).grown hgr3 (by simp; omega) (fun j hj => ((unhide HR).crow.lt j hj).1); have hcell3 := unhide HCZ w3 hb3; have hsz3 := hb3.size; clear hown3 hgr3 hloc3)
              | (at_builtin; refine append_cellS (base := w.heap.size) rfl _ _ 23 22 rfl Tryd.underlying23 Tryd.infoInts rfl (by decide) (unhide HG).1 rfl rfl rfl (by omega) hsz3 ?_; intro g2 cap2 w5 hown5 hgr5 hloc5; have HP := hide (push_x (unhide HG).1 (unhide HG).2.1 (unhide HO3) hgr5); have HO5 := hide hown5; have hb5 : Below w.heap.size w w5 := (hb3.alloc hsz3 _).grown hgr5 (by simp; omega) (fun j hj => ((unhide HG).1.lt j hj).1); clear hown5 hgr5 hloc5))
            go_roundw
            case rel => exact ⟨k + 1, vs ++ [.slice (some ⟨g', 0, none⟩) (cc.length + 1) cap1], l ++ [cc ++ [x]], [], some ⟨g2, 0, none⟩, none, cap2, 0, by omega, by go_num, by simp, rfl, hide ⟨by simpa using unhide HO5, unhide HP, fun v hv g hg => (by simp [Value.ownBlock]), World.ownsRow_nil _ _ _ _, by simp, by simp; omega, fun x hx => (by cases hx), fun d hd => (by
              rcases List.mem_append.1 hd with hd | hd
              · exact (unhide HR).all d hd
              · simp at hd; subst hd; exact ⟨(unhide HR).lits.snoc (unhide HX), by simp; omega⟩), hb5⟩⟩
            case measure => simp [intOf]; omega
    · by_cases h1 : k < zs.length
      · have h2 : ¬ l.length < most := fun h => hlt ⟨h1, h⟩
        go_wp2
        go_ret
        exact ⟨_, vs, l, rfl, (unhide HR).row, (unhide HR).rows, by omega, (unhide HR).all, (unhide HR).below⟩
      · go_wp2
        go_ret
        exact ⟨_, vs, l, rfl, (unhide HR).row, (unhide HR).rows, by omega, (unhide HR).all, (unhide HR).below⟩

set_option maxRecDepth 100000 in
set_option maxHeartbeats 800000 in
theorem textK_any (ov : Value) (vs : List Value) (l : List (List Int)) (base : Nat) (w : World) (hrow : w.ownsRow base 22 1 ov l.length vs) (hrows : RowsAt w base vs l) (hl : l.length ≤ 1000) (hall : ∀ d, d ∈ l → (∀ x, x ∈ d → x ≠ 0 ∧ -12 ≤ x ∧ x ≤ 12) ∧ d.length ≤ 100) (hlen : (Sp.textOf l).length ≤ 1000000) (he : Env w) :
    Calls Tryd.prog 5 #[ov] w fun e w' => e = .returned (.string (bs (Sp.textOf l))) ∧ Below w.heap.size w w' := by
  obtain ⟨oo, oc, hsh⟩ := owns_shape hrow
  subst hsh
  have HR := hide hrow
  have HS := hide hrows
  clear hrow hrows
  go_enter Tryd.func5, Tryd.ntmps5
  go_wp2
  go_loopw [3, 4] (fun s i wr => ∃ k : Nat, k ≤ l.length ∧ i = .int .i64 k ∧ s = .string (bs (Sp.textOf (l.take k))) ∧ Below w.heap.size w wr) (fun _ i _ => l.length - (intOf i).toNat)
  case atStart => exact ⟨0, Nat.zero_le _, rfl, rfl, Below.refl _ _⟩
  case round =>
    obtain ⟨k, hk, rfl, rfl, hbel⟩ := hrel
    have hpart : (Sp.textOf (l.take k)).length ≤ (Sp.textOf l).length := by
      have : Sp.textOf l = Sp.textOf (l.take k) ++ Sp.textOf (l.drop k) := by unfold Sp.textOf; rw [← List.flatMap_append, List.take_append_drop]
      rw [this]; simp
    by_cases hlt : k < l.length
    · have hvl : vs.length = l.length := (unhide HS).1
      have hr := (unhide HS).2 k vs[k] l[k] (by simp [hvl, hlt]) (by simp [hlt])
      obtain ⟨ao, cp', hxs⟩ := owns_shape hr
      have hlies := lies_of_owns hr (by simp [ints])
      have hrow := unhide HR
      rcases hrow.2 with ⟨_, h0⟩ | ⟨g, cp, cur, e1, _⟩
      · omega
      · simp only [Value.slice.injEq] at e1
        obtain ⟨rfl, -, rfl⟩ := e1
        have hglt := (hrow.lt g rfl).2
        have hcell : wr.cell? ⟨g, k, none⟩ = some vs[k] := (hbel.cell (p := ⟨g, k, none⟩) hglt).trans (by rw [hrow.cellAt k (by omega)]; simp [hvl, hlt])
        obtain ⟨ha1, ha2⟩ := hall l[k] (List.getElem_mem hlt)
        have HLN := hide (lineK_any vs[k] l[k] wr ha2 ha1 (hlies.below hbel) (he.below hbel))
        have HT : Hid (Sp.textOf (l.take (k + 1)) = Sp.textOf (l.take k) ++ Sp.told l[k]) := hide (by rw [List.take_succ_eq_append_getElem hlt]; unfold Sp.textOf; rw [List.flatMap_append]; simp)
        have htl : (Sp.told l[k]).length ≤ 401 := by
          have := toldBody_len l[k]
          simp [Sp.told]; omega
        have hadd : ∀ wx, (Op.stringOp .add (bs (Sp.textOf (l.take k))) (bs (Sp.told l[k]))).run Tryd.prog wx = .ok (.string (bs (Sp.textOf (l.take k) ++ Sp.told l[k]))) wx := fun wx => add_bs _ _ (by omega) wx
        rw [hxs] at hcell HLN
        clear hr hlies hrow hxs hall
        generalize Sp.told l[k] = tl at *
        generalize Sp.textOf (l.take k) = tx at *
        generalize l[k].length = lk at *
        go_wp2_with fail
        refine (unhide HLN).mono ?_
        rintro e w1 ⟨rfl, hb1⟩
        go_wp2
        go_roundw
        case rel => exact ⟨k + 1, by omega, by go_num, by rw [unhide HT], hbel.trans (hb1.mono hbel.size)⟩
        case measure => simp [intOf]; omega
    · have HT : Hid (l.take k = l) := hide (List.take_of_length_le (by omega))
      go_wp2
      go_ret
      exact ⟨by rw [unhide HT]; rfl, hbel⟩

end Go.Proofs.YtekkkoipcghlmabDoor

namespace Go.Proofs.YtekkkoipcghlmabDoor
open Go.RowKit

/-- How many bits, by the three bytes. -/
def onesOf (m : Nat) : Nat := Lib.onesCount (m / 65536 % 256) + Lib.onesCount (m / 256 % 256) + Lib.onesCount (m % 256)

theorem and_byte (x : Nat) (h : x < 4294967296) : bits .and .u32 (x : Int) 255 = ((x % 256 : Nat) : Int) := by
  have := bits_and_u32_nat x 255 h (by decide)
  rw [show ((255 : Nat) : Int) = 255 from rfl] at this
  rw [this, show (255 : Nat) = 2 ^ 8 - 1 from rfl, Nat.and_two_pow_sub_one_eq_mod]

theorem pop_byte (a : Nat) (h : a < 256) : ∃ p : Nat, Lib.pop8 (a : Int) = (p : Int) ∧ p ≤ 8 ∧ p = Lib.onesCount a :=
  ⟨Lib.onesCount a, Lib.pop8_eq ⟨a, h⟩, Lib.onesCount_le8 ⟨a, h⟩, rfl⟩

theorem ret_i64 {a b : Int} (h : a = b) : Ending.returned (.int .i64 a) = .returned (.int .i64 b) := by rw [h]

set_option maxRecDepth 100000 in
theorem ones_any (m : Nat) (w : World) (hm : m < 2 ^ 24) :
    Calls Tryd.prog 68 #[.int .u32 m] w fun e w' => e = .returned (.int .i64 (onesOf m : Nat)) ∧ ∃ q, w' = w.drewN q := by
  have h24 : (m : Int) / 16777216 = 0 := by omega
  have e16 : bits .and .u32 ((m : Int) / 65536) 255 = ((m / 65536 % 256 : Nat) : Int) := by
    have := and_byte (m / 65536) (by omega)
    rwa [Int.natCast_ediv] at this
  have e8 : bits .and .u32 ((m : Int) / 256) 255 = ((m / 256 % 256 : Nat) : Int) := by
    have := and_byte (m / 256) (by omega)
    rwa [Int.natCast_ediv] at this
  have e0 : bits .and .u32 (m : Int) 255 = ((m % 256 : Nat) : Int) := and_byte m (by omega)
  have HO : Hid (onesOf m = Lib.onesCount (m / 65536 % 256) + Lib.onesCount (m / 256 % 256) + Lib.onesCount (m % 256)) := rfl
  have l16 : m / 65536 % 256 < 256 := by omega
  have l8 : m / 256 % 256 < 256 := by omega
  have l0 : m % 256 < 256 := by omega
  generalize m / 65536 % 256 = a at *
  generalize m / 256 % 256 = b at *
  generalize m % 256 = c at *
  have p00 : Lib.pop8 0 = 0 := by decide
  obtain ⟨pa, ha, ha8, hae⟩ := pop_byte a l16
  obtain ⟨pb, hb, hb8, hbe⟩ := pop_byte b l8
  obtain ⟨pc, hc, hc8, hce⟩ := pop_byte c l0
  rw [← hae, ← hbe, ← hce] at HO
  have ia : (a : Int) ≤ 255 := by omega
  have ib : (b : Int) ≤ 255 := by omega
  have ic : (c : Int) ≤ 255 := by omega
  clear hae hbe hce
  go_enter Tryd.func68, Tryd.ntmps68
  go_wp2
  go_quiet (fail)
  go_wp2
  go_ret
  refine ⟨ret_i64 ?_, _, rfl⟩
  rw [unhide HO]
  omega

/-- The opposites. -/
def oppMask (m : Nat) : Nat := (m &&& 5592405) * 2 ||| (m / 2 &&& 5592405)
theorem third_bit (i : Nat) (h : i < 24) : (5592405 : Nat).testBit i = (i % 2 == 0) := by
  have : ∀ k : Fin 24, (5592405 : Nat).testBit k.val = (k.val % 2 == 0) := by decide
  exact this ⟨i, h⟩
theorem oppMask_lt {m : Nat} (_hm : m < 2 ^ 24) : oppMask m < 2 ^ 24 := by
  have h1 : m &&& 5592405 ≤ 5592405 := Nat.and_le_right
  have h2 : m / 2 &&& 5592405 ≤ 5592405 := Nat.and_le_right
  exact Nat.or_lt_two_pow (by omega) (by omega)
theorem oppMask_bit {m : Nat} (_hm : m < 2 ^ 24) (i : Nat) (hi : i < 24) : (oppMask m).testBit i = m.testBit (Sp.opp i) := by
  unfold oppMask
  have e1 : (m &&& 5592405) * 2 = (m &&& 5592405) <<< 1 := by rw [Nat.shiftLeft_eq]
  have e2 : m / 2 = m >>> 1 := by rw [Nat.shiftRight_eq_div_pow]
  rw [e1, e2, Nat.testBit_or, Nat.testBit_shiftLeft, Nat.testBit_and, Nat.testBit_and, Nat.testBit_shiftRight]
  unfold Sp.opp
  by_cases he : i % 2 = 0
  · rw [if_pos he, third_bit i hi]
    have : (decide (i ≥ 1) && (m.testBit (i - 1) && (5592405 : Nat).testBit (i - 1))) = false := by
      by_cases h0 : i = 0
      · subst h0; simp
      · rw [third_bit (i - 1) (by omega)]
        have : ((i - 1) % 2 == 0) = false := by rw [beq_eq_false_iff_ne]; omega
        rw [this]; simp
    rw [this]
    have he' : (i % 2 == 0) = true := by simpa using he
    rw [he', Nat.add_comm 1 i]; simp
  · rw [if_neg he, third_bit i hi, third_bit (i - 1) (by omega)]
    have h1 : (i % 2 == 0) = false := by simpa using he
    have h2 : ((i - 1) % 2 == 0) = true := by rw [beq_iff_eq]; omega
    rw [h1, h2]
    have h3 : decide (i ≥ 1) = true := decide_eq_true (by omega)
    rw [h3]; simp
theorem opp_single {i : Nat} (hi : i < 24) : oppMask (2 ^ i) = 2 ^ (Sp.opp i) := by
  have : ∀ k : Fin 24, oppMask (2 ^ k.val) = 2 ^ (Sp.opp k.val) := by decide
  exact this ⟨i, hi⟩

set_option maxRecDepth 100000 in
theorem opposites_any (m : Nat) (w : World) (hm : m < 2 ^ 24) :
    Calls Tryd.prog 43 #[.int .u32 m] w fun e w' => e = .returned (.int .u32 (oppMask m : Nat)) ∧ w' = w := by
  have h1 : m &&& 5592405 ≤ 5592405 := Nat.and_le_right
  have h2 : m / 2 &&& 5592405 ≤ 5592405 := Nat.and_le_right
  have e1 : bits .and .u32 (m : Int) 5592405 = ((m &&& 5592405 : Nat) : Int) := bits_and_u32_nat m 5592405 (by omega) (by decide)
  have e2 : bits .and .u32 ((m : Int) / 2) 5592405 = ((m / 2 &&& 5592405 : Nat) : Int) := by
    have := bits_and_u32_nat (m / 2) 5592405 (by omega) (by decide)
    rwa [Int.natCast_ediv] at this
  have e3 : ((m &&& 5592405 : Nat) : Int) * 2 % 4294967296 = (((m &&& 5592405) * 2 : Nat) : Int) := by omega
  have e4 : bits .or .u32 (((m &&& 5592405) * 2 : Nat) : Int) ((m / 2 &&& 5592405 : Nat) : Int) = (oppMask m : Nat) := bits_or_u32 _ _ (by omega) (by omega)
  go_enter Tryd.func43, Tryd.ntmps43
  go_wp2_with fail
  go_ret
  refine ⟨?_, rfl⟩
  show Ending.returned (.int .u32 _) = _
  rw [← e4, show (((m &&& 5592405) * 2 : Nat) : Int) = ((m &&& 5592405 : Nat) : Int) * 2 from by omega]

end Go.Proofs.YtekkkoipcghlmabDoor
