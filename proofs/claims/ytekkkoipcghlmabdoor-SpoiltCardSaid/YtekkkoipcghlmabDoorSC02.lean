import Derived.Test.YtekkkoipcghlmabDoorSC01
import Derived.Lib.Bytealg
import Derived.Lib.SplitLaws
set_option linter.all false
namespace Go.Proofs.YtekkkoipcghlmabDoor
open Go.RowKit

def In (n : Nat) (xs : List Int) : Prop := ∀ x, x ∈ xs → x ≠ 0 ∧ -(n : Int) ≤ x ∧ x ≤ n
theorem In.snoc {n : Nat} {xs : List Int} {x : Int} (h : In n xs) (hx : x ≠ 0 ∧ -(n : Int) ≤ x ∧ x ≤ n) : In n (xs ++ [x]) := fun y hy => by
  rcases List.mem_append.1 hy with hy | hy
  · exact h y hy
  · simp at hy; subst hy; exact hx
def Fits (zs : List Int) : Prop := ∀ z, z ∈ zs → -9223372036854775808 ≤ z ∧ z ≤ 9223372036854775807

set_option maxRecDepth 100000 in
set_option maxHeartbeats 800000 in
theorem someK_any (v : Value) (zs : List Int) (n most : Nat) (w : World) (hl : zs.length ≤ 9223372036854775807) (hf : Fits zs) (hn : 0 < n) (hn12 : n ≤ 12) (hm : most ≤ 12) (hv : Lies w v (ints zs)) :
    Calls Tryd.prog 8 #[v, .int .i64 n, .int .i64 most] w fun e w' => ∃ v' xs, e = .returned v' ∧ w'.ownsRow w.heap.size 3 1 v' xs.length (ints xs) ∧ xs.length ≤ most ∧ In n xs ∧ Below w.heap.size w w' := by
  obtain ⟨ao, cap, hsh⟩ : ∃ ao cap, v = .slice ao zs.length cap := by
    have := lies_shape hv
    simpa [ints] using this
  subst hsh
  have HV := hide hv
  clear hv
  go_enter Tryd.func8, Tryd.ntmps8
  go_wp2
  go_loopw [7, 8] (fun o i wr => ∃ (k : Nat) (xs : List Int), k ≤ most ∧ k ≤ zs.length ∧ i = .int .i64 k ∧ wr.ownsRow w.heap.size 3 1 o xs.length (ints xs) ∧ xs.length = k ∧ Hid (In n xs) ∧ Below w.heap.size w wr) (fun _ i _ => most - (intOf i).toNat)
  case atStart => exact ⟨0, [], Nat.zero_le _, Nat.zero_le _, rfl, World.ownsRow_nil _ _ _ _, rfl, hide (fun x hx => by cases hx), Below.refl _ _⟩
  case round =>
    obtain ⟨k, xs, hkm, hkz, rfl, hown, hxk, HI, hbel⟩ := hrel
    by_cases hlt : k < zs.length ∧ k < most
    · obtain ⟨h1, h2⟩ := hlt
      have hlw := (unhide HV).below hbel
      rcases hlw with ⟨h0, _⟩ | ⟨b, off, cap', hp, hvv, hbb, hc⟩
      · exfalso; have := congrArg List.length h0; simp [ints] at this; rw [this] at h1; simp at h1
      · simp only [Value.slice.injEq] at hvv
        obtain ⟨rfl, -, rfl⟩ := hvv
        have hcell := hc k (.int .i64 zs[k]) (by simp [ints, h1])
        have hfz := hf zs[k] (List.getElem_mem h1)
        generalize zs[k] = z at hcell hfz
        have HLI := hide (literalK_any z n wr hfz.1 hfz.2 hn hn12)
        clear hc
        go_wp2_with fail
        refine (unhide HLI).mono ?_
        rintro e w1 ⟨⟨x, hx, rfl⟩, rfl⟩
        have HX := hide hx
        clear hx
        go_wp2_with (at_builtin; refine append_one rfl _ _ 22 3 rfl Tryd.underlying22 Tryd.infoIntW rfl (by decide) hown rfl rfl rfl (by omega) (Nat.le_refl _) hbel ?_; intro v' w3 hown' hbel' _)
        go_roundw
        case rel => exact ⟨k + 1, xs ++ [x], by omega, by omega, by go_num, by simpa [ints] using hown', by simp [hxk], hide ((unhide HI).snoc (unhide HX)), hbel'⟩
        case measure => simp [intOf]; omega
    · by_cases h1 : k < zs.length
      · have h2 : ¬ k < most := fun h => hlt ⟨h1, h⟩
        go_wp2
        go_ret
        exact ⟨_, xs, rfl, hown, by omega, unhide HI, hbel⟩
      · go_wp2
        go_ret
        exact ⟨_, xs, rfl, hown, by omega, unhide HI, hbel⟩

set_option maxRecDepth 100000 in
set_option maxHeartbeats 800000 in
theorem lineK_any (v : Value) (xs : List Int) (w : World) (hl : xs.length ≤ 100) (hx : ∀ x, x ∈ xs → x ≠ 0 ∧ -12 ≤ x ∧ x ≤ 12) (hv : Lies w v (ints xs)) (he : EnvT w) :
    Calls Tryd.prog 7 #[v] w fun e w' => e = .returned (.string (bs (Sp.told xs))) ∧ Below w.heap.size w w' := by
  rcases hv with ⟨h0, ao, cap, rfl⟩ | ⟨b, off, cap, hp, rfl, hb, hc⟩
  · have hx0 : xs = [] := by simpa [ints] using h0
    subst hx0
    have hadd := fun wx => add_bs (P := Tryd.prog) [] [10] (by simp) wx
    go_enter Tryd.func7, Tryd.ntmps7
    go_wp2
    refine wp_loop_rounds 1 ?_
    rw [rounds_succ]
    go_wp2
    go_ret
    exact ⟨rfl, Below.refl _ _⟩
  · have hlen : (ints xs).length = xs.length := by simp [ints]
    rw [hlen] at hp ⊢
    go_enter Tryd.func7, Tryd.ntmps7
    go_wp2
    go_loopw [3, 4] (fun s i wr => ∃ k : Nat, k ≤ xs.length ∧ i = .int .i64 k ∧ s = .string (bs (Sp.toldBody (xs.take k))) ∧ Below w.heap.size w wr) (fun _ i _ => xs.length - (intOf i).toNat)
    case atStart => exact ⟨0, Nat.zero_le _, rfl, rfl, Below.refl _ _⟩
    case round =>
      obtain ⟨k, hk, rfl, rfl, hbel⟩ := hrel
      have hbl := toldBody_len (xs.take k)
      have hbl2 : (xs.take k).length ≤ k := List.length_take_le _ _
      by_cases hlt : k < xs.length
      · have hcell : wr.cell? ⟨b, off + k, none⟩ = some (.int .i64 xs[k]) := (hbel.cell (p := ⟨b, off + k, none⟩) hb).trans (hc k (.int .i64 xs[k]) (by simp [ints, hlt]))
        have hxx := hx xs[k] (List.getElem_mem hlt)
        have HS : Hid (xs.take (k + 1) = xs.take k ++ [xs[k]]) := hide (List.take_succ_eq_append_getElem hlt)
        have HS2 := hide (toldBody_snoc (xs.take k) xs[k])
        have HE : Hid (xs.take k = [] ↔ k = 0) := hide (take_nil_iff hlt)
        generalize xs[k] = x at hcell HS HS2 hxx
        have hlwl : (Sp.lw x).length ≤ 3 := by
          unfold Sp.lw
          have := digs_len x.natAbs
          split
          · simp; omega
          · omega
        have HIT := hide (fun wx (hx : Below w.heap.size w wx) => itoa_any x (by omega) (by omega) wx (he.below hx))
        rw [Sp.itoa_lw _ hxx.1 hxx.2.1 hxx.2.2] at HIT
        generalize htb : Sp.toldBody (xs.take k) = tb at HS2 hbl ⊢
        have HB := hide htb.symm
        clear htb
        clear hc hx
        generalize Sp.lw x = lx at *
        by_cases hk0 : 0 < k
        · have ha0 : ∀ wx, (Op.stringOp .add (bs tb) ⟨#[32]⟩).run Tryd.prog wx = .ok (.string (bs (tb ++ [32]))) wx := fun wx => add_bs tb [32] (by simp; omega) wx
          have ha2 := fun wx => add_bs (P := Tryd.prog) (tb ++ [32]) lx (by simp; omega) wx
          go_wp2_with fail
          refine (unhide HIT _ hbel).mono ?_
          rintro e w1 ⟨rfl, hb1⟩
          go_wp2
          go_roundw
          case rel => exact ⟨k + 1, by omega, by go_num, by rw [unhide HS, unhide HS2, if_neg (fun h => absurd ((unhide HE).1 h) (by omega))], hbel.trans (hb1.mono hbel.size)⟩
          case measure => simp [intOf]; omega
        · have HZ : Hid (tb = []) := hide (by
            have := (unhide HE).2 (by omega)
            rw [unhide HB, this]; rfl)
          have ha2 := fun wx => add_bs (P := Tryd.prog) tb lx (by omega) wx
          have hkz : ¬ (0 : Int) < (k : Int) := by omega
          go_wp2_with fail
          refine (unhide HIT _ hbel).mono ?_
          rintro e w1 ⟨rfl, hb1⟩
          go_wp2
          go_roundw
          case rel => exact ⟨k + 1, by omega, by go_num, by rw [unhide HS, unhide HS2, if_pos ((unhide HE).2 (by omega)), unhide HZ]; rfl, hbel.trans (hb1.mono hbel.size)⟩
          case measure => simp [intOf]; omega
      · have HT : Hid (xs.take k = xs) := hide (List.take_of_length_le (by omega))
        have ha : ∀ wx, (Op.stringOp .add (bs (Sp.toldBody (xs.take k))) ⟨#[10]⟩).run Tryd.prog wx = .ok (.string (bs (Sp.toldBody (xs.take k) ++ [10]))) wx := fun wx => add_bs (P := Tryd.prog) (Sp.toldBody (xs.take k)) [10] (by simp; omega) wx
        generalize htb : Sp.toldBody (xs.take k) = tb at ha ⊢
        have HB := hide htb.symm
        clear htb
        go_wp2
        go_ret
        exact ⟨by rw [unhide HB, unhide HT]; rfl, hbel⟩

end Go.Proofs.YtekkkoipcghlmabDoor

namespace Go.Proofs.YtekkkoipcghlmabDoor
open Go.RowKit

theorem append_cellS {P : Program} {ops : Array Oper} {rest : List Oper} {o : Oper} {a : Act} {Q : Exit → Act → World → Prop} {w1 : World} {base n bytes : Nat} {v val z : Value} {xs : List Value} {tt : TypeId}
    (hgd : o.guard = none) (s x : Operand) (t e : TypeId) (ho : o.op = .call { callee := .builtin .append, args := #[s, x], argTypes := #[t, t] })
    (ht : P.underlying t = some (.slice e)) (hinfo : (P.info? e).map (fun i => (i.zero, i.size, i.bytes)) = some (some z, 1, bytes)) (hzs : z.cells.size = 1) (hby : bytes ≤ 24)
    (hown : w1.ownsRow base e 1 v n xs) (hs : a.eval s = v) (hx : a.eval x = .slice (some ⟨w1.heap.size, 0, none⟩) 1 1) (h1 : val.oneCell' = true) (hn : n ≤ 20000000) (hbase : base ≤ w1.heap.size)
    (h : ∀ (g cap : Nat) (w' : World), w'.ownsRow base e 1 (.slice (some ⟨g, 0, none⟩) (n + 1) cap) (n + 1) (xs ++ [val]) → (w1.alloc (.cells #[val] tt)).grownBy w' v.ownBlock → (v.ownBlock = some g ∨ g = (w1.alloc (.cells #[val] tt)).heap.size) → wpList P ops Q rest (a.put o.dst (.slice (some ⟨g, 0, none⟩) (n + 1) cap)) w') :
    wpList P ops Q (o :: rest) a (w1.alloc (.cells #[val] tt)) := by
  obtain ⟨i0, hi0, hz0, hz1, hz2⟩ := info_parts hinfo
  have hnb : (n + 1) * bytes ≤ 140737488355328 := Nat.le_trans (Nat.mul_le_mul (Nat.add_le_add_right hn 1) hby) (by omega)
  refine wpList_append_lies (P := P) _ hgd s x t ho base e i0 _ 1 bytes ht hi0 hz0 hz1 hz2 hzs (by decide) v n xs hs (hown.alloc _) ⟨w1.heap.size, 0, none⟩ 1 1 [val] hx rfl (cell_one_new _ _ _) ?_ (by decide) (by unfold maxLen; omega) hnb (by simp; omega) _ rfl ?_
  · intro u hu; simp at hu; subst hu; exact h1
  · intro g cap w' h1 h2 h3 _
    exact h g cap w' h1 h2 h3

theorem ownsAt {w w' : World} {base : Nat} {e : TypeId} {s : Nat} {v : Value} {n : Nat} {xs : List Value} (h : w.ownsRow base e s v n xs) (hb : ∀ g, v.ownBlock = some g → w'.heap[g]? = w.heap[g]?) : w'.ownsRow base e s v n xs := by
  obtain ⟨h1, h2⟩ := h
  refine ⟨h1, ?_⟩
  rcases h2 with h2 | ⟨g, cap, cur, hv, h3, h4, h5⟩
  · exact .inl h2
  · exact .inr ⟨g, cap, cur, hv, h3, (hb g (by rw [hv]; rfl)).trans h4, h5⟩

/-- Rows, none of which lies in block-value c. -/
def Off (vs : List Value) (c : Value) : Prop := ∀ v, v ∈ vs → ∀ g, v.ownBlock = some g → c.ownBlock ≠ some g

theorem RowsAt.lt {w : World} {base : Nat} {vs : List Value} {cs : List (List Int)} (h : RowsAt w base vs cs) {v : Value} (hv : v ∈ vs) {g : Nat} (hg : v.ownBlock = some g) : g < w.heap.size := by
  obtain ⟨i, hi⟩ := List.getElem?_of_mem hv
  have hil : i < vs.length := (List.getElem?_eq_some_iff.1 hi).1
  have hc : i < cs.length := by rw [← h.1]; exact hil
  exact ((h.2 i v _ hi (List.getElem?_eq_getElem hc)).lt g hg).2

/-- One number more in the clause that grows. -/
theorem grow_c {base n : Nat} {w1 w' : World} {o : Obj} {ov c : Value} {vs : List Value} {l : List (List Int)} {g' cap' m : Nat} (hrow : w1.ownsRow base 22 1 ov n vs) (hrows : RowsAt w1 base vs l) (hoff : Off vs c) {xs : List Int} (hcr : w1.ownsRow base 3 1 c m (ints xs))
    (hgr : (w1.alloc o).grownBy w' c.ownBlock) (hloc : c.ownBlock = some g' ∨ g' = (w1.alloc o).heap.size) : w'.ownsRow base 22 1 ov n vs ∧ RowsAt w' base vs l ∧ Off vs (.slice (some ⟨g', 0, none⟩) (m + 1) cap') := by
  have blk : ∀ k, k < w1.heap.size → c.ownBlock ≠ some k → w'.heap[k]? = w1.heap[k]? := fun k hk hn => by
    rw [hgr.block k (by simp; omega) (fun e => hn e.symm), Below.heap_alloc _ _ _ hk]
  refine ⟨ownsAt hrow (fun g hg => blk g (hrow.lt g hg).2 (fun e => ?_)), ⟨hrows.1, fun i x d hx hd => ownsAt (hrows.2 i x d hx hd) (fun g hg => blk g ((hrows.2 i x d hx hd).lt g hg).2 (hoff x (List.mem_of_getElem? hx) g hg))⟩, fun v hv g hg => ?_⟩
  · rcases rows_apart (by decide) hcr hrow with h | h
    · rw [h] at e; cases e
    · exact h (by rw [e, hg])
  · simp [Value.ownBlock]
    rcases hloc with h | h
    · intro e; subst e; exact hoff v hv g' hg h
    · have := hrows.lt hv hg
      simp at h; omega

/-- The clauses of raw numbers, so far: those that are whole, and the one that grows. -/
structure Raw (base : Nat) (w wr : World) (n most : Nat) (ov c : Value) (vs : List Value) (l : List (List Int)) (cc : List Int) : Prop where
  row : wr.ownsRow base 22 1 ov l.length vs
  rows : RowsAt wr base vs l
  off : Off vs c
  crow : wr.ownsRow base 3 1 c cc.length (ints cc)
  short : cc.length ≤ 2
  most : l.length ≤ most
  lits : In n cc
  all : ∀ d, d ∈ l → In n d ∧ d.length ≤ 3
  below : Below base w wr

theorem push_c {base n : Nat} {w1 w' : World} {o : Obj} {ov c : Value} {vs : List Value} {l : List (List Int)} {cc : List Int} (hrow : w1.ownsRow base 22 1 ov n vs) (hrows : RowsAt w1 base vs l) (hc : w1.ownsRow base 3 1 c cc.length (ints cc))
    (hgr : (w1.alloc o).grownBy w' ov.ownBlock) : RowsAt w' base (vs ++ [c]) (l ++ [cc]) := by
  have h1 : RowsAt (w1.alloc o) base (vs ++ [c]) (l ++ [cc]) := by
    have := hrows.snoc hc
    exact ⟨this.1, fun i x d hx hd => (this.2 i x d hx hd).alloc o⟩
  exact h1.grown (hrow.alloc o) hgr

theorem push_x {base n : Nat} {w1 w' : World} {o : Obj} {ov c : Value} {vs : List Value} {l : List (List Int)} {cc : List Int} {x : Int} (hrow : w1.ownsRow base 22 1 ov n vs) (hrows : RowsAt w1 base vs l) (hc : w1.ownsRow base 3 1 c (cc.length + 1) (ints cc ++ [.int .i64 x]))
    (hgr : (w1.alloc o).grownBy w' ov.ownBlock) : RowsAt w' base (vs ++ [c]) (l ++ [cc ++ [x]]) := by
  refine push_c hrow hrows ?_ hgr
  have e : ints (cc ++ [x]) = ints cc ++ [.int .i64 x] := by simp [ints]
  rw [e, List.length_append]
  exact hc

set_option maxRecDepth 100000 in
set_option maxHeartbeats 1600000 in
theorem clausesK_any (v : Value) (zs : List Int) (n most : Nat) (w : World) (hl : zs.length ≤ 9223372036854775807) (hf : Fits zs) (hn : 0 < n) (hn12 : n ≤ 12) (hm : most ≤ 100) (hv : Lies w v (ints zs)) :
    Calls Tryd.prog 4 #[v, .int .i64 n, .int .i64 most] w fun e w' => ∃ ov vs l, e = .returned ov ∧ w'.ownsRow w.heap.size 22 1 ov l.length vs ∧ RowsAt w' w.heap.size vs l ∧ l.length ≤ most ∧ (∀ d, d ∈ l → In n d ∧ d.length ≤ 3) ∧ Below w.heap.size w w' := by
  obtain ⟨ao, cap, hsh⟩ : ∃ ao cap, v = .slice ao zs.length cap := by
    have := lies_shape hv
    simpa [ints] using this
  subst hsh
  have HV := hide hv
  clear hv
  go_enter Tryd.func4, Tryd.ntmps4
  go_wp2
  go_loopw [7, 8, 9] (fun o c i wr => ∃ (k : Nat) (vs : List Value) (l : List (List Int)) (cc : List Int) (oo co : Option Addr) (oc cn : Nat), k ≤ zs.length ∧ i = .int .i64 k ∧ o = .slice oo l.length oc ∧ c = .slice co cc.length cn ∧ Hid (Raw w.heap.size w wr n most o c vs l cc)) (fun _ _ i _ => zs.length - (intOf i).toNat)
  case atStart => exact ⟨0, [], [], [], none, none, 0, 0, Nat.zero_le _, rfl, rfl, rfl, hide ⟨World.ownsRow_nil _ _ _ _, ⟨rfl, fun i x d hx => by simp at hx⟩, fun v hv => (by cases hv), World.ownsRow_nil _ _ _ _, by simp, by simp, fun x hx => (by cases hx), fun d hd => (by cases hd), Below.refl _ _⟩⟩
  case round =>
    obtain ⟨k, vs, l, cc, oo, co, oc, cn, hkz, rfl, rfl, rfl, HR⟩ := hrel
    have hshort := (unhide HR).short
    have hmost := (unhide HR).most
    have hbase := (unhide HR).below.size
    by_cases hlt : k < zs.length ∧ l.length < most
    · obtain ⟨h1, h2⟩ := hlt
      rcases unhide HV with ⟨h0, _⟩ | ⟨b, off, cap', hp, hvv, hbb, hc⟩
      · exfalso; have := congrArg List.length h0; simp [ints] at this; rw [this] at h1; simp at h1
      · simp only [Value.slice.injEq] at hvv
        obtain ⟨rfl, -, rfl⟩ := hvv
        have HCZ : Hid (∀ wx, Below w.heap.size w wx → wx.cell? ⟨b, off + k, none⟩ = some (.int .i64 zs[k])) := hide (fun wx hx => (hx.cell (p := ⟨b, off + k, none⟩) hbb).trans (hc k (.int .i64 zs[k]) (by simp [ints, h1])))
        have hfz := hf zs[k] (List.getElem_mem h1)
        generalize zs[k] = z at HCZ hfz
        have hcell := unhide HCZ wr (unhide HR).below
        have HLI := hide (literalK_any z n wr hfz.1 hfz.2 hn hn12)
        clear hc
        have HBE := hide (unhide HR).below
        by_cases h3 : cc.length = 2
        · have hq : ((cc.length : Int) + 1 == 3) = true := by rw [beq_iff_eq]; omega
          have H3 := hide h3
          clear h3
          go_wp2_with fail
          refine (unhide HLI).mono ?_
          rintro e w1 ⟨⟨x, hx, rfl⟩, rfl⟩
          have HX := hide hx
          clear hx
          go_wp2_with (first
            | (at_builtin; refine append_cellS (base := w.heap.size) rfl _ _ 22 3 rfl Tryd.underlying22 Tryd.infoIntW rfl (by decide) (unhide HR).crow rfl rfl rfl (by omega) hbase ?_; intro g' cap1 w3 hown3 hgr3 hloc3; have HG := hide (grow_c (unhide HR).row (unhide HR).rows (unhide HR).off (cap' := cap1) (unhide HR).crow hgr3 hloc3); have HO3 := hide hown3; have hb3 : Below w.heap.size w w3 := ((unhide HBE).alloc hbase _).grown hgr3 (by simp; omega) (fun j hj => ((unhide HR).crow.lt j hj).1); have hcell3 := unhide HCZ w3 hb3; have hsz3 := hb3.size; clear hown3 hgr3 hloc3)
            | (at_builtin; refine append_cellS (base := w.heap.size) rfl _ _ 23 22 rfl Tryd.underlying23 Tryd.infoInts rfl (by decide) (unhide HG).1 rfl rfl rfl (by omega) hsz3 ?_; intro g2 cap2 w5 hown5 hgr5 hloc5; have HP := hide (push_x (unhide HG).1 (unhide HG).2.1 (unhide HO3) hgr5); have HO5 := hide hown5; have hb5 : Below w.heap.size w w5 := (hb3.alloc hsz3 _).grown hgr5 (by simp; omega) (fun j hj => ((unhide HG).1.lt j hj).1); clear hown5 hgr5 hloc5))
          go_roundw
          case rel => exact ⟨k + 1, vs ++ [.slice (some ⟨g', 0, none⟩) (cc.length + 1) cap1], l ++ [cc ++ [x]], [], some ⟨g2, 0, none⟩, none, cap2, 0, by omega, by go_num, by simp, rfl, hide ⟨by simpa using unhide HO5, unhide HP, fun v hv g hg => (by simp [Value.ownBlock]), World.ownsRow_nil _ _ _ _, by simp, by simp; omega, fun x hx => (by cases hx), fun d hd => (by
            rcases List.mem_append.1 hd with hd | hd
            · exact (unhide HR).all d hd
            · simp at hd; subst hd; exact ⟨(unhide HR).lits.snoc (unhide HX), by simp; omega⟩), hb5⟩⟩
          case measure => simp [intOf]; omega
        · have hq : ((cc.length : Int) + 1 == 3) = false := by rw [beq_eq_false_iff_ne]; omega
          have hlt2 : cc.length < 2 := by omega
          clear h3
          cases hz7 : (z.tmod 7 == 0)
          · skip
            go_wp2_with fail
            refine (unhide HLI).mono ?_
            rintro e w1 ⟨⟨x, hx, rfl⟩, rfl⟩
            have HX := hide hx
            clear hx
            go_wp2_with (first
              | (at_builtin; refine append_cellS (base := w.heap.size) rfl _ _ 22 3 rfl Tryd.underlying22 Tryd.infoIntW rfl (by decide) (unhide HR).crow rfl rfl rfl (by omega) hbase ?_; intro g' cap1 w3 hown3 hgr3 hloc3; have HG := hide (grow_c (unhide HR).row (unhide HR).rows (unhide HR).off (cap' := cap1) (unhide HR).crow hgr3 hloc3); have HO3 := hide hown3; have hb3 : Below w.heap.size w w3 := ((unhide HBE).alloc hbase _).grown hgr3 (by simp; omega) (fun j hj => ((unhide HR).crow.lt j hj).1); have hcell3 := unhide HCZ w3 hb3; have hsz3 := hb3.size; clear hown3 hgr3 hloc3)
              | (at_builtin; refine append_cellS (base := w.heap.size) rfl _ _ 23 22 rfl Tryd.underlying23 Tryd.infoInts rfl (by decide) (unhide HG).1 rfl rfl rfl (by omega) hsz3 ?_; intro g2 cap2 w5 hown5 hgr5 hloc5; have HP := hide (push_x (unhide HG).1 (unhide HG).2.1 (unhide HO3) hgr5); have HO5 := hide hown5; have hb5 : Below w.heap.size w w5 := (hb3.alloc hsz3 _).grown hgr5 (by simp; omega) (fun j hj => ((unhide HG).1.lt j hj).1); clear hown5 hgr5 hloc5))
            go_roundw
            case rel => exact ⟨k + 1, vs, l, cc ++ [x], oo, some ⟨g', 0, none⟩, oc, cap1, by omega, by go_num, rfl, by simp, hide ⟨(unhide HG).1, (unhide HG).2.1, by simpa using (unhide HG).2.2, by simpa [ints] using unhide HO3, by simp; omega, by omega, (unhide HR).lits.snoc (unhide HX), (unhide HR).all, hb3⟩⟩
            case measure => simp [intOf]; omega
          · skip
            go_wp2_with fail
            refine (unhide HLI).mono ?_
            rintro e w1 ⟨⟨x, hx, rfl⟩, rfl⟩
            have HX := hide hx
            clear hx
            go_wp2_with (first
              | (at_builtin; refine append_cellS (base := w.heap.size) rfl _ _ 22 3 rfl Tryd.underlying22 Tryd.infoIntW rfl (by decide) (unhide HR).crow rfl rfl rfl (by omega) hbase ?_; intro g' cap1 w3 hown3 hgr3 hloc3; have HG := hide (grow_c (unhide HR).row (unhide HR).rows (unhide HR).off (cap' := cap1) (unhide HR).crow hgr3 hloc3); have HO3 := hide hown3; have hb3 : Below w.heap.size w w3 := ((unhide HBE).alloc hbase _).grown hgr3 (by simp; omega) (fun j hj => ((unhide HR).crow.lt j hj).1); have hcell3 := unhide HCZ w3 hb3; have hsz3 := hb3.size; clear hown3 hgr3 hloc3)
              | (at_builtin; refine append_cellS (base := w.heap.size) rfl _ _ 23 22 rfl Tryd.underlying23 Tryd.infoInts rfl (by decide) (unhide HG).1 rfl rfl rfl (by omega) hsz3 ?_; intro g2 cap2 w5 hown5 hgr5 hloc5; have HP := hide (push_x (unhide HG).1 (unhide HG).2.1 (unhide HO3) hgr5); have HO5 := hide hown5; have hb5 : Below w.heap.size w w5 := (hb3.alloc hsz3 _).grown hgr5 (by simp; omega) (fun j hj => ((unhide HG).1.lt j hj).1); clear hown5 hgr5 hloc5))
            go_roundw
            case rel => exact ⟨k + 1, vs ++ [.slice (some ⟨g', 0, none⟩) (cc.length + 1) cap1], l ++ [cc ++ [x]], [], some ⟨g2, 0, none⟩, none, cap2, 0, by omega, by go_num, by simp, rfl, hide ⟨by simpa using unhide HO5, unhide HP, fun v hv g hg => (by simp [Value.ownBlock]), World.ownsRow_nil _ _ _ _, by simp, by simp; omega, fun x hx => (by cases hx), fun d hd => (by
              rcases List.mem_append.1 hd with hd | hd
              · exact (unhide HR).all d hd
              · simp at hd; subst hd; exact ⟨(unhide HR).lits.snoc (unhide HX), by simp; omega⟩), hb5⟩⟩
            case measure => simp [intOf]; omega
    · by_cases h1 : k < zs.length
      · have h2 : ¬ l.length < most := fun h => hlt ⟨h1, h⟩
        go_wp2
        go_ret
        exact ⟨_, vs, l, rfl, (unhide HR).row, (unhide HR).rows, by omega, (unhide HR).all, (unhide HR).below⟩
      · go_wp2
        go_ret
        exact ⟨_, vs, l, rfl, (unhide HR).row, (unhide HR).rows, by omega, (unhide HR).all, (unhide HR).below⟩

end Go.Proofs.YtekkkoipcghlmabDoor

namespace Go.Proofs.YtekkkoipcghlmabDoor
open Go.RowKit

def FolRes (L : List Nat) (m : Nat) (w : World) (e : Ending) (w' : World) : Prop := ∃ r : Bool, e = .returned (.bool r) ∧ (r = true ↔ Sp.Fol L m) ∧ Below w.heap.size w w'
end Go.Proofs.YtekkkoipcghlmabDoor

namespace Go.Proofs.YtekkkoipcghlmabDoor.Sp

/-- The lines of a text, each with whether it is ended. -/
def segsAux (cur : List UInt8) : List UInt8 → List (List UInt8 × Bool)
  | [] => if cur = [] then [] else [(cur, false)]
  | c :: r => if c = 10 then (cur, true) :: segsAux [] r else segsAux (cur ++ [c]) r
def segs (s : List UInt8) : List (List UInt8 × Bool) := segsAux [] s

def scanSegs : Nat → List (List UInt8 × Bool) → Option Nat
  | _, [] => none
  | n, x :: r => if !okLine x.1 || !x.2 then some (n + 1) else scanSegs (n + 1) r

theorem segsAux_no (r : List UInt8) : ∀ cur, (10 : UInt8) ∉ cur → ∀ x, x ∈ segsAux cur r → (10 : UInt8) ∉ x.1 := by
  induction r with
  | nil =>
    intro cur h x hx
    unfold segsAux at hx
    split at hx
    · cases hx
    · simp at hx; subst hx; exact h
  | cons c r ih =>
    intro cur h x hx
    unfold segsAux at hx
    split at hx
    · rcases List.mem_cons.1 hx with rfl | hx
      · exact h
      · exact ih [] (by simp) x hx
    · rename_i hc
      exact ih _ (by simp [h]; exact fun h' => hc h'.symm) x hx

theorem segsAux_len (r : List UInt8) : ∀ cur x, x ∈ segsAux cur r → x.1.length ≤ cur.length + r.length := by
  induction r with
  | nil =>
    intro cur x hx
    unfold segsAux at hx
    split at hx
    · cases hx
    · simp at hx; subst hx; simp
  | cons c r ih =>
    intro cur x hx
    unfold segsAux at hx
    split at hx
    · rcases List.mem_cons.1 hx with rfl | hx
      · simp
      · have := ih [] x hx; simp at this ⊢; omega
    · have := ih _ x hx; simp at this ⊢; omega
theorem segsAux_count (r : List UInt8) : ∀ cur, (segsAux cur r).length ≤ r.length + 1 := by
  induction r with
  | nil => intro cur; unfold segsAux; split <;> simp
  | cons c r ih =>
    intro cur
    unfold segsAux
    split
    · have := ih []; simp; omega
    · have := ih (cur ++ [c]); simp; omega

/-- How the next line is found. -/
theorem segs_index (x : List UInt8) : (Lib.indexByte x 10 = -1 ∧ ∀ cur, cur ++ x ≠ [] → segsAux cur x = [(cur ++ x, false)]) ∨
    ∃ i : Nat, Lib.indexByte x 10 = i ∧ i < x.length ∧ x.take (i + 1) = x.take i ++ [10] ∧ ∀ cur, segsAux cur x = (cur ++ x.take i, true) :: segsAux [] (x.drop (i + 1)) := by
  induction x with
  | nil => exact .inl ⟨rfl, fun cur h => by simp at h; simp [segsAux, h]⟩
  | cons b l ih =>
    by_cases hb : b = 10
    · subst hb
      exact .inr ⟨0, by simp [Lib.indexByte], by simp, by simp, fun cur => by simp [segsAux]⟩
    · have hp : (b == 10) = false := by simpa using hb
      rcases ih with ⟨h1, h2⟩ | ⟨i, h1, h2, h4, h3⟩
      · refine .inl ⟨by unfold Lib.indexByte; rw [hp, h1]; rfl, fun cur _ => ?_⟩
        unfold segsAux
        rw [if_neg hb, h2 _ (by simp)]
        simp
      · refine .inr ⟨i + 1, ?_, by simp; omega, by simp [h4], fun cur => ?_⟩
        · unfold Lib.indexByte
          rw [hp, h1]
          have : ((i : Int) == -1) = false := by rw [beq_eq_false_iff_ne]; omega
          simp [this]
        · conv => lhs; unfold segsAux
          rw [if_neg hb, h3]
          simp

end Go.Proofs.YtekkkoipcghlmabDoor.Sp

namespace Go.Proofs.YtekkkoipcghlmabDoor
open Go.RowKit

namespace Sp
end Sp

theorem stepMask_lt (y : List UInt8) : Sp.stepMask y < 2 ^ 24 := Sp.maskOf_lt _ fun x hx => by
  obtain ⟨s, _, rfl⟩ := List.mem_map.1 hx
  exact Sp.lit_bd s

theorem lies_tail {w : World} {n cap : Nat} {x : Value} {xs : List Value} {b off : Nat} (h : Lies w (.slice (some ⟨b, off, none⟩) n cap) (x :: xs)) (c' : Nat) : Lies w (.slice (some ⟨b, off + 1, none⟩) xs.length c') xs := by
  rcases h with ⟨h0, _⟩ | ⟨b', off', cap', hp, hv, hlt, hc⟩
  · cases h0
  · simp at hv
    obtain ⟨⟨rfl, rfl⟩, -, rfl⟩ := hv
    by_cases h0 : xs = []
    · subst h0; exact .inl ⟨rfl, _, _, rfl⟩
    · exact .inr ⟨b, off + 1, c', List.length_pos_iff.2 h0, rfl, hlt, fun k y hy => by
        have := hc (k + 1) y (by simpa using hy)
        rwa [show off + 1 + k = off + (k + 1) from by omega]⟩

def Small (M : List Nat) : Prop := ∀ c, c ∈ M → c < 2 ^ 24
theorem Small.erase {M : List Nat} (h : Small M) (m : Nat) : Small (M.erase m) := fun c hc => h c (List.mem_of_mem_erase hc)
theorem Small.snoc {M : List Nat} (h : Small M) {m : Nat} (hm : m < 2 ^ 24) : Small (M ++ [m]) := fun c hc => by
  rcases List.mem_append.1 hc with hc | hc
  · exact h c hc
  · simp at hc; subst hc; exact hm

theorem step_ok {x : List UInt8} {ws : List (List UInt8)} {g : Bool} (h : Sp.stepOf x = (g, ws)) (b : Bool) : Sp.stepOk (x, b) = (allLit ws && b) := by
  unfold Sp.stepOk; rw [h]; rfl

end Go.Proofs.YtekkkoipcghlmabDoor

namespace Go.Proofs.YtekkkoipcghlmabDoor
open Go.RowKit

theorem bits_or_u32 (a b : Nat) (ha : a < 4294967296) (hb : b < 4294967296) : bits .or .u32 (a : Int) (b : Int) = ((a ||| b : Nat) : Int) := by
  have hx : a ||| b < 2 ^ 32 := Nat.or_lt_two_pow (by omega) (by omega)
  have h1 : (BitVec.ofInt 32 (a : Int)).toNat = a := by
    rw [BitVec.ofInt_natCast, BitVec.toNat_ofNat]; exact Nat.mod_eq_of_lt (by omega)
  have h2 : (BitVec.ofInt 32 (b : Int)).toNat = b := by
    rw [BitVec.ofInt_natCast, BitVec.toNat_ofNat]; exact Nat.mod_eq_of_lt (by omega)
  show IntKind.u32.wrap ((BitVec.ofInt 32 (a : Int) ||| BitVec.ofInt 32 (b : Int)).toNat : Int) = _
  rw [BitVec.toNat_or, h1, h2, wrap_u32']
  omega

set_option maxRecDepth 100000 in
set_option maxHeartbeats 400000 in
theorem unionS_any (v : Value) (ws : List (List UInt8)) (w : World) (hl : ws.length ≤ 10000000) (hw : ∀ x, x ∈ ws → x.length ≤ 6000) (hv : Lies w v (strs ws)) (he : Env w) :
    Calls Tryd.prog 29 #[v, .func (.func 30) #[] #[]] w fun e w' => Below w.heap.size w w' ∧
      ((allLit ws = false ∧ e = .returned (.tuple #[.int .u32 0, .bool false])) ∨ (allLit ws = true ∧ e = .returned (.tuple #[.int .u32 (Sp.maskOf (ws.map Sp.lit) : Int), .bool true]))) := by
  rcases hv with ⟨h0, ao, cap, rfl⟩ | ⟨b, off, cap, hp, rfl, hb, hc⟩
  · have hx0 : ws = [] := by simpa [strs] using h0
    subst hx0
    go_enter Tryd.func29, Tryd.ntmps29
    go_wp2
    refine wp_loop_rounds 1 ?_
    rw [rounds_succ]
    go_wp2
    go_ret2
    exact ⟨Below.refl _ _, .inr ⟨rfl, rfl⟩⟩
  · have hlen : (strs ws).length = ws.length := by simp [strs]
    rw [hlen] at hp ⊢
    go_enter Tryd.func29, Tryd.ntmps29
    go_wp2
    go_loopw [6, 13] (fun m i wr => ∃ k : Nat, k ≤ ws.length ∧ i = .int .i64 k ∧ m = .int .u32 (Sp.maskOf ((ws.take k).map Sp.lit) : Int) ∧ Below w.heap.size w wr ∧ Hid (allLit (ws.take k) = true)) (fun _ i _ => ws.length - (intOf i).toNat)
    case atStart => exact ⟨0, Nat.zero_le _, rfl, rfl, Below.refl _ _, rfl⟩
    case round =>
      obtain ⟨k, hk, rfl, rfl, hbel, HA⟩ := hrel
      by_cases hlt : k < ws.length
      · have hcell : wr.cell? ⟨b, off + k, none⟩ = some (.string (bs ws[k])) := (hbel.cell (p := ⟨b, off + k, none⟩) hb).trans (hc k (.string (bs ws[k])) (by simp [strs, hlt]))
        have hxl := hw ws[k] (List.getElem_mem hlt)
        have HM : Hid (ws[k] ∈ ws) := hide (List.getElem_mem hlt)
        have HS : Hid (ws.take (k + 1) = ws.take k ++ [ws[k]]) := hide (List.take_succ_eq_append_getElem hlt)
        generalize ws[k] = x at hcell HS hxl HM
        clear hc hw
        have HW := hide (fromWord_any x wr hxl (he.below hbel))
        have hbd := Sp.lit_bd x
        by_cases hz : Sp.lit x = 0
        · rw [(fw_no hz).1, (fw_no hz).2] at HW
          have HZ := hide hz
          clear hz
          go_wp2_with fail
          refine (unhide HW).mono ?_
          rintro e w1 ⟨hb1, rfl⟩
          go_wp2
          go_ret2
          have hfalse : allLit ws = false := by
            rw [allLit, List.all_eq_false]
            exact ⟨x, unhide HM, by simp [unhide HZ]⟩
          exact ⟨hbel.trans (hb1.mono hbel.size), .inl ⟨hfalse, rfl⟩⟩
        · rw [(fw_yes hz).1, (fw_yes hz).2] at HW
          have HZ := hide hz
          clear hz
          have HMB : Hid (Sp.maskOf ((ws.take (k + 1)).map Sp.lit) = Sp.maskOf ((ws.take k).map Sp.lit) ||| Sp.bit (Sp.lit x)) := hide (by rw [unhide HS, List.map_append, ← Sp.maskOf_snoc]; rfl)
          have hm1 : Sp.maskOf ((ws.take k).map Sp.lit) < 2 ^ 24 := Sp.maskOf_lt _ (fun y hy => by obtain ⟨z, _, rfl⟩ := List.mem_map.1 hy; exact Sp.lit_bd z)
          have hm2 : Sp.bit (Sp.lit x) < 2 ^ 24 := Nat.pow_lt_pow_right (by decide) (Sp.bitIx_lt _ hbd)
          generalize Sp.maskOf ((ws.take k).map Sp.lit) = m1 at *
          generalize Sp.bit (Sp.lit x) = m2 at *
          have HOR : Hid (bits BinOp.or IntKind.u32 (m1 : Int) (m2 : Int) = ((m1 ||| m2 : Nat) : Int)) := hide (bits_or_u32 m1 m2 (Nat.lt_trans hm1 (by decide)) (Nat.lt_trans hm2 (by decide)))
          go_wp2_with fail
          refine (unhide HW).mono ?_
          rintro e w1 ⟨hb1, rfl⟩
          go_wp2
          go_roundw
          case rel => exact ⟨k + 1, by omega, by go_num, by rw [unhide HMB, ← unhide HOR], hbel.trans (hb1.mono hbel.size), hide (by rw [unhide HS]; have := unhide HA; simp [allLit] at this ⊢; exact ⟨this, unhide HZ⟩)⟩
          case measure => simp [intOf]; omega
      · have HT : Hid (ws.take k = ws) := hide (List.take_of_length_le (by omega))
        go_wp2
        go_ret2
        have htrue : allLit ws = true := by rw [← unhide HT]; exact unhide HA
        exact ⟨hbel, .inr ⟨htrue, by rw [unhide HT]; rfl⟩⟩

set_option maxRecDepth 100000 in
set_option maxHeartbeats 400000 in
theorem fromWords_any (v : Value) (ws : List (List UInt8)) (w : World) (hl : ws.length ≤ 10000000) (hw : ∀ x, x ∈ ws → x.length ≤ 6000) (hv : Lies w v (strs ws)) (he : Env w) :
    Calls Tryd.prog 19 #[v] w fun e w' => Below w.heap.size w w' ∧
      ((allLit ws = false ∧ e = .returned (.tuple #[.int .u32 0, .bool false])) ∨ (allLit ws = true ∧ e = .returned (.tuple #[.int .u32 (Sp.maskOf (ws.map Sp.lit) : Int), .bool true]))) := by
  have HU := hide (unionS_any v ws w hl hw hv he)
  generalize allLit ws = al at *
  generalize Sp.maskOf (ws.map Sp.lit) = mk at *
  clear hw hv hl
  go_enter Tryd.func19, Tryd.ntmps19
  go_wp2_with fail
  refine (unhide HU).mono ?_
  rintro e w1 ⟨hb1, ⟨h1, rfl⟩ | ⟨h1, rfl⟩⟩
  · have H1 := hide h1
    clear h1
    go_wp2
    go_ret2
    exact ⟨hb1, .inl ⟨unhide H1, rfl⟩⟩
  · have H1 := hide h1
    clear h1
    go_wp2
    go_ret2
    exact ⟨hb1, .inr ⟨unhide H1, rfl⟩⟩

end Go.Proofs.YtekkkoipcghlmabDoor

namespace Go.Proofs.YtekkkoipcghlmabDoor
open Go.RowKit

theorem words_index (x : List UInt8) : (Lib.index x [32] = -1 ∧ ∀ cur, Sp.wordsAux cur x = [cur ++ x]) ∨
    ∃ i : Nat, Lib.index x [32] = i ∧ i < x.length ∧ ∀ cur, Sp.wordsAux cur x = (cur ++ x.take i) :: Sp.wordsAux [] (x.drop (i + 1)) := by
  induction x with
  | nil => exact .inl ⟨rfl, fun cur => by simp [Sp.wordsAux]⟩
  | cons b l ih =>
    by_cases hb : b = 32
    · subst hb
      exact .inr ⟨0, by simp [Lib.index], by simp, fun cur => by simp [Sp.wordsAux]⟩
    · have hp : ([32] : List UInt8).isPrefixOf (b :: l) = false := by
        simp [List.isPrefixOf]; exact fun h => hb h.symm
      rcases ih with ⟨h1, h2⟩ | ⟨i, h1, h2, h3⟩
      · refine .inl ⟨by unfold Lib.index; rw [hp, h1]; rfl, fun cur => ?_⟩
        unfold Sp.wordsAux
        rw [if_neg hb, h2]
        simp
      · refine .inr ⟨i + 1, ?_, by simp; omega, fun cur => ?_⟩
        · unfold Lib.index
          rw [hp, h1]
          have : ((i : Int) == -1) = false := by rw [beq_eq_false_iff_ne]; omega
          simp [this]
        · conv => lhs; unfold Sp.wordsAux
          rw [if_neg hb, h3]
          simp

theorem indexB_bs (x y : List UInt8) : Lib.indexB (bs x) (bs y) = Lib.index x y := by
  show Lib.index (bs x).data.toList (bs y).data.toList = _
  simp [bs]

theorem split_bs : ∀ (n : Nat) (x : List UInt8), x.length ≤ n → Lib.splitB (bs [32]) 0 (Lib.countB (bs x) (bs [32])) (bs x) = (Sp.wordsAux [] x).map bs := by
  intro n
  have h1 : 1 ≤ (bs [32]).size := by rw [bs_size]; simp
  have hz : (bs [32]).size = 1 := by rw [bs_size]; simp
  induction n with
  | zero =>
    intro x hx
    have : x = [] := List.length_eq_zero_iff.1 (by omega)
    subst this
    have hi : Lib.indexB (bs []) (bs [32]) = -1 := by rw [indexB_bs]; rfl
    rw [Lib.countB_miss _ _ hi, Lib.splitB_miss _ _ _ _ hi]; rfl
  | succ n ih =>
    intro x hx
    rcases words_index x with ⟨h2, h3⟩ | ⟨i, h2, h3, h4⟩
    · have hi : Lib.indexB (bs x) (bs [32]) = -1 := by rw [indexB_bs]; exact h2
      rw [Lib.splitB_miss _ _ _ _ hi, h3]
      simp
    · have hi : Lib.indexB (bs x) (bs [32]) = i := by rw [indexB_bs]; exact h2
      have hcut : (bs x).extract (i + 1) (bs x).size = bs (x.drop (i + 1)) := by
        rw [bs_extract, bs_size, List.take_of_length_le (by simp)]
      rw [Lib.countB_hit _ _ i h1 hi, hz, hcut, Nat.add_comm 1]
      unfold Lib.splitB
      have : ((i : Int) == -1) = false := by rw [beq_eq_false_iff_ne]; omega
      rw [hi, this]
      simp only [Bool.false_eq_true, if_false, Int.toNat_natCast, Nat.add_zero, hz]
      rw [hcut, ih _ (by simp; omega), h4, bs_extract]
      simp

end Go.Proofs.YtekkkoipcghlmabDoor
