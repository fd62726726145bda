import Derived.Test.YtekkkoipcghlmabGreatDoorD34
import Derived.Test.YtekkkoipcghlmabGreatDoorD30
import Derived.Test.YtekkkoipcghlmabGreatDoorD29
import Derived.Test.YtekkkoipcghlmabGreatDoorD31
set_option linter.all false
namespace Go.Proofs.YtekkkoipcghlmabGreatDoor
open Go.RowKit

theorem append_cellS {P : Program} {ops : Array Oper} {rest : List Oper} {o : Oper} {a : Act} {Q : Exit → Act → World → Prop} {w1 : World} {base n bytes : Nat} {v val z : Value} {xs : List Value} {tt : TypeId}
    (hgd : o.guard = none) (s x : Operand) (t e : TypeId) (ho : o.op = .call { callee := .builtin .append, args := #[s, x], argTypes := #[t, t] })
    (ht : P.underlying t = some (.slice e)) (hinfo : (P.info? e).map (fun i => (i.zero, i.size, i.bytes)) = some (some z, 1, bytes)) (hzs : z.cells.size = 1) (hby : bytes ≤ 24)
    (hown : w1.ownsRow base e 1 v n xs) (hs : a.eval s = v) (hx : a.eval x = .slice (some ⟨w1.heap.size, 0, none⟩) 1 1) (h1 : val.oneCell' = true) (hn : n ≤ 20000000) (hbase : base ≤ w1.heap.size)
    (h : ∀ (g cap : Nat) (w' : World), w'.ownsRow base e 1 (.slice (some ⟨g, 0, none⟩) (n + 1) cap) (n + 1) (xs ++ [val]) → (w1.alloc (.cells #[val] tt)).grownBy w' v.ownBlock → (v.ownBlock = some g ∨ g = (w1.alloc (.cells #[val] tt)).heap.size) → wpList P ops Q rest (a.put o.dst (.slice (some ⟨g, 0, none⟩) (n + 1) cap)) w') :
    wpList P ops Q (o :: rest) a (w1.alloc (.cells #[val] tt)) := by
  obtain ⟨i0, hi0, hz0, hz1, hz2⟩ := info_parts hinfo
  have hnb : (n + 1) * bytes ≤ 140737488355328 := Nat.le_trans (Nat.mul_le_mul (Nat.add_le_add_right hn 1) hby) (by omega)
  refine wpList_append_lies (P := P) _ hgd s x t ho base e i0 _ 1 bytes ht hi0 hz0 hz1 hz2 hzs (by decide) v n xs hs (hown.alloc _) ⟨w1.heap.size, 0, none⟩ 1 1 [val] hx rfl (cell_one_new _ _ _) ?_ (by decide) (by unfold maxLen; omega) hnb (by simp; omega) _ rfl ?_
  · intro u hu; simp at hu; subst hu; exact h1
  · intro g cap w' h1 h2 h3 _
    exact h g cap w' h1 h2 h3

theorem ownsAt {w w' : World} {base : Nat} {e : TypeId} {s : Nat} {v : Value} {n : Nat} {xs : List Value} (h : w.ownsRow base e s v n xs) (hb : ∀ g, v.ownBlock = some g → w'.heap[g]? = w.heap[g]?) : w'.ownsRow base e s v n xs := by
  obtain ⟨h1, h2⟩ := h
  refine ⟨h1, ?_⟩
  rcases h2 with h2 | ⟨g, cap, cur, hv, h3, h4, h5⟩
  · exact .inl h2
  · exact .inr ⟨g, cap, cur, hv, h3, (hb g (by rw [hv]; rfl)).trans h4, h5⟩

/-- Rows, none of which lies in block-value c. -/
def Off (vs : List Value) (c : Value) : Prop := ∀ v, v ∈ vs → ∀ g, v.ownBlock = some g → c.ownBlock ≠ some g

theorem RowsAt.lt {w : World} {base : Nat} {vs : List Value} {cs : List (List Int)} (h : RowsAt w base vs cs) {v : Value} (hv : v ∈ vs) {g : Nat} (hg : v.ownBlock = some g) : g < w.heap.size := by
  obtain ⟨i, hi⟩ := List.getElem?_of_mem hv
  have hil : i < vs.length := (List.getElem?_eq_some_iff.1 hi).1
  have hc : i < cs.length := by rw [← h.1]; exact hil
  exact ((h.2 i v _ hi (List.getElem?_eq_getElem hc)).lt g hg).2

/-- One number more in the clause that grows. -/
theorem grow_c {base n : Nat} {w1 w' : World} {o : Obj} {ov c : Value} {vs : List Value} {l : List (List Int)} {g' cap' m : Nat} (hrow : w1.ownsRow base 22 1 ov n vs) (hrows : RowsAt w1 base vs l) (hoff : Off vs c) {xs : List Int} (hcr : w1.ownsRow base 3 1 c m (ints xs))
    (hgr : (w1.alloc o).grownBy w' c.ownBlock) (hloc : c.ownBlock = some g' ∨ g' = (w1.alloc o).heap.size) : w'.ownsRow base 22 1 ov n vs ∧ RowsAt w' base vs l ∧ Off vs (.slice (some ⟨g', 0, none⟩) (m + 1) cap') := by
  have blk : ∀ k, k < w1.heap.size → c.ownBlock ≠ some k → w'.heap[k]? = w1.heap[k]? := fun k hk hn => by
    rw [hgr.block k (by simp; omega) (fun e => hn e.symm), Below.heap_alloc _ _ _ hk]
  refine ⟨ownsAt hrow (fun g hg => blk g (hrow.lt g hg).2 (fun e => ?_)), ⟨hrows.1, fun i x d hx hd => ownsAt (hrows.2 i x d hx hd) (fun g hg => blk g ((hrows.2 i x d hx hd).lt g hg).2 (hoff x (List.mem_of_getElem? hx) g hg))⟩, fun v hv g hg => ?_⟩
  · rcases rows_apart (by decide) hcr hrow with h | h
    · rw [h] at e; cases e
    · exact h (by rw [e, hg])
  · simp [Value.ownBlock]
    rcases hloc with h | h
    · intro e; subst e; exact hoff v hv g' hg h
    · have := hrows.lt hv hg
      simp at h; omega

/-- The clauses of raw numbers, so far: those that are whole, and the one that grows. -/
structure Raw (base : Nat) (w wr : World) (n most : Nat) (ov c : Value) (vs : List Value) (l : List (List Int)) (cc : List Int) : Prop where
  row : wr.ownsRow base 22 1 ov l.length vs
  rows : RowsAt wr base vs l
  off : Off vs c
  crow : wr.ownsRow base 3 1 c cc.length (ints cc)
  short : cc.length ≤ 2
  most : l.length ≤ most
  lits : In n cc
  all : ∀ d, d ∈ l → In n d ∧ d.length ≤ 3
  below : Below base w wr

theorem push_c {base n : Nat} {w1 w' : World} {o : Obj} {ov c : Value} {vs : List Value} {l : List (List Int)} {cc : List Int} (hrow : w1.ownsRow base 22 1 ov n vs) (hrows : RowsAt w1 base vs l) (hc : w1.ownsRow base 3 1 c cc.length (ints cc))
    (hgr : (w1.alloc o).grownBy w' ov.ownBlock) : RowsAt w' base (vs ++ [c]) (l ++ [cc]) := by
  have h1 : RowsAt (w1.alloc o) base (vs ++ [c]) (l ++ [cc]) := by
    have := hrows.snoc hc
    exact ⟨this.1, fun i x d hx hd => (this.2 i x d hx hd).alloc o⟩
  exact h1.grown (hrow.alloc o) hgr

theorem push_x {base n : Nat} {w1 w' : World} {o : Obj} {ov c : Value} {vs : List Value} {l : List (List Int)} {cc : List Int} {x : Int} (hrow : w1.ownsRow base 22 1 ov n vs) (hrows : RowsAt w1 base vs l) (hc : w1.ownsRow base 3 1 c (cc.length + 1) (ints cc ++ [.int .i64 x]))
    (hgr : (w1.alloc o).grownBy w' ov.ownBlock) : RowsAt w' base (vs ++ [c]) (l ++ [cc ++ [x]]) := by
  refine push_c hrow hrows ?_ hgr
  have e : ints (cc ++ [x]) = ints cc ++ [.int .i64 x] := by simp [ints]
  rw [e, List.length_append]
  exact hc

set_option maxRecDepth 100000 in
set_option maxHeartbeats 1600000 in
theorem clausesK_any (v : Value) (zs : List Int) (n most : Nat) (w : World) (hl : zs.length ≤ 9223372036854775807) (hf : Fits zs) (hn : 0 < n) (hn12 : n ≤ 12) (hm : most ≤ 100) (hv : Lies w v (ints zs)) :
    Calls Tryz.prog 7 #[v, .int .i64 n, .int .i64 most] w fun e w' => ∃ ov vs l, e = .returned ov ∧ w'.ownsRow w.heap.size 22 1 ov l.length vs ∧ RowsAt w' w.heap.size vs l ∧ l.length ≤ most ∧ (∀ d, d ∈ l → In n d ∧ d.length ≤ 3) ∧ Below w.heap.size w w' := by
  obtain ⟨ao, cap, hsh⟩ : ∃ ao cap, v = .slice ao zs.length cap := by
    have := lies_shape hv
    simpa [ints] using this
  subst hsh
  have HV := hide hv
  clear hv
  go_enter Tryz.func7, Tryz.ntmps7
  go_wp2
  go_loopw [7, 8, 9] (fun o c i wr => ∃ (k : Nat) (vs : List Value) (l : List (List Int)) (cc : List Int) (oo co : Option Addr) (oc cn : Nat), k ≤ zs.length ∧ i = .int .i64 k ∧ o = .slice oo l.length oc ∧ c = .slice co cc.length cn ∧ Hid (Raw w.heap.size w wr n most o c vs l cc)) (fun _ _ i _ => zs.length - (intOf i).toNat)
  case atStart => exact ⟨0, [], [], [], none, none, 0, 0, Nat.zero_le _, rfl, rfl, rfl, hide ⟨World.ownsRow_nil _ _ _ _, ⟨rfl, fun i x d hx => by simp at hx⟩, fun v hv => (by cases hv), World.ownsRow_nil _ _ _ _, by simp, by simp, fun x hx => (by cases hx), fun d hd => (by cases hd), Below.refl _ _⟩⟩
  case round =>
    obtain ⟨k, vs, l, cc, oo, co, oc, cn, hkz, rfl, rfl, rfl, HR⟩ := hrel
    have hshort := (unhide HR).short
    have hmost := (unhide HR).most
    have hbase := (unhide HR).below.size
    by_cases hlt : k < zs.length ∧ l.length < most
    · obtain ⟨h1, h2⟩ := hlt
      rcases unhide HV with ⟨h0, _⟩ | ⟨b, off, cap', hp, hvv, hbb, hc⟩
      · exfalso; have := congrArg List.length h0; simp [ints] at this; rw [this] at h1; simp at h1
      · simp only [Value.slice.injEq] at hvv
        obtain ⟨rfl, -, rfl⟩ := hvv
        have HCZ : Hid (∀ wx, Below w.heap.size w wx → wx.cell? ⟨b, off + k, none⟩ = some (.int .i64 zs[k])) := hide (fun wx hx => (hx.cell (p := ⟨b, off + k, none⟩) hbb).trans (hc k (.int .i64 zs[k]) (by simp [ints, h1])))
        have hfz := hf zs[k] (List.getElem_mem h1)
        generalize zs[k] = z at HCZ hfz
        have hcell := unhide HCZ wr (unhide HR).below
        have HLI := hide (literalK_any z n wr hfz.1 hfz.2 hn hn12)
        clear hc
        have HBE := hide (unhide HR).below
        by_cases h3 : cc.length = 2
        · have hq : ((cc.length : Int) + 1 == 3) = true := by rw [beq_iff_eq]; omega
          have H3 := hide h3
          clear h3
          go_wp2_with fail
          refine (unhide HLI).mono ?_
          rintro e w1 ⟨⟨x, hx, rfl⟩, rfl⟩
          have HX := hide hx
          clear hx
          go_wp2_with (first
            | (at_builtin; refine append_cellS (base := w.heap.size) rfl _ _ 22 3 rfl Tryz.underlying22 Tryz.infoIntW rfl (by decide) (unhide HR).crow rfl rfl rfl (by omega) hbase ?_; intro g' cap1 w3 hown3 hgr3 hloc3; have HG := hide (grow_c (unhide HR).row (unhide HR).rows (unhide HR).off (cap' := cap1) (unhide HR).crow hgr3 hloc3); have HO3 := hide hown3; have hb3 : Below w.heap.size w w3 := ((unhide HBE).alloc hbase _).grown hgr3 (by simp; omega) (fun j hj => ((unhide HR).crow.lt j hj).1); have hcell3 := unhide HCZ w3 hb3; have hsz3 := hb3.size; clear hown3 hgr3 hloc3)
            | (at_builtin; refine append_cellS (base := w.heap.size) rfl _ _ 24 22 rfl Tryz.underlying24 Tryz.infoInts rfl (by decide) (unhide HG).1 rfl rfl rfl (by omega) hsz3 ?_; intro g2 cap2 w5 hown5 hgr5 hloc5; have HP := hide (push_x (unhide HG).1 (unhide HG).2.1 (unhide HO3) hgr5); have HO5 := hide hown5; have hb5 : Below w.heap.size w w5 := (hb3.alloc hsz3 _).grown hgr5 (by simp; omega) (fun j hj => ((unhide HG).1.lt j hj).1); clear hown5 hgr5 hloc5))
          go_roundw
          case rel => exact ⟨k + 1, vs ++ [.slice (some ⟨g', 0, none⟩) (cc.length + 1) cap1], l ++ [cc ++ [x]], [], some ⟨g2, 0, none⟩, none, cap2, 0, by omega, by go_num, by simp, rfl, hide ⟨by simpa using unhide HO5, unhide HP, fun v hv g hg => (by simp [Value.ownBlock]), World.ownsRow_nil _ _ _ _, by simp, by simp; omega, fun x hx => (by cases hx), fun d hd => (by
            rcases List.mem_append.1 hd with hd | hd
            · exact (unhide HR).all d hd
            · simp at hd; subst hd; exact ⟨(unhide HR).lits.snoc (unhide HX), by simp; omega⟩), hb5⟩⟩
          case measure => simp [intOf]; omega
        · have hq : ((cc.length : Int) + 1 == 3) = false := by rw [beq_eq_false_iff_ne]; omega
          have hlt2 : cc.length < 2 := by omega
          clear h3
          cases hz7 : (z.tmod 7 == 0)
          · skip
            go_wp2_with fail
            refine (unhide HLI).mono ?_
            rintro e w1 ⟨⟨x, hx, rfl⟩, rfl⟩
            have HX := hide hx
            clear hx
            go_wp2_with (first
              | (at_builtin; refine append_cellS (base := w.heap.size) rfl _ _ 22 3 rfl Tryz.underlying22 Tryz.infoIntW rfl (by decide) (unhide HR).crow rfl rfl rfl (by omega) hbase ?_; intro g' cap1 w3 hown3 hgr3 hloc3; have HG := hide (grow_c (unhide HR).row (unhide HR).rows (unhide HR).off (cap' := cap1) (unhide HR).crow hgr3 hloc3); have HO3 := hide hown3; have hb3 : Below w.heap.size w w3 := ((unhide HBE).alloc hbase _).grown hgr3 (by simp; omega) (fun j hj => ((unhide HR).crow.lt j hj).1); have hcell3 := unhide HCZ w3 hb3; have hsz3 := hb3.size; clear hown3 hgr3 hloc3)
              | (at_builtin; refine append_cellS (base := w.heap.size) rfl _ _ 24 22 rfl Tryz.underlying24 Tryz.infoInts rfl (by decide) (unhide HG).1 rfl rfl rfl (by omega) hsz3 ?_; intro g2 cap2 w5 hown5 hgr5 hloc5; have HP := hide (push_x (unhide HG).1 (unhide HG).2.1 (unhide HO3) hgr5); have HO5 := hide hown5; have hb5 : Below w.heap.size w w5 := (hb3.alloc hsz3 _).grown hgr5 (by simp; omega) (fun j hj => ((unhide HG).1.lt j hj).1); clear hown5 hgr5 hloc5))
            go_roundw
            case rel => exact ⟨k + 1, vs, l, cc ++ [x], oo, some ⟨g', 0, none⟩, oc, cap1, by omega, by go_num, rfl, by simp, hide ⟨(unhide HG).1, (unhide HG).2.1, by simpa using (unhide HG).2.2, by simpa [ints] using unhide HO3, by simp; omega, by omega, (unhide HR).lits.snoc (unhide HX), (unhide HR).all, hb3⟩⟩
            case measure => simp [intOf]; omega
          · skip
            go_wp2_with fail
            refine (unhide HLI).mono ?_
            rintro e w1 ⟨⟨x, hx, rfl⟩, rfl⟩
            have HX := hide hx
            clear hx
            go_wp2_with (first
              | (at_builtin; refine append_cellS (base := w.heap.size) rfl _ _ 22 3 rfl Tryz.underlying22 Tryz.infoIntW rfl (by decide) (unhide HR).crow rfl rfl rfl (by omega) hbase ?_; intro g' cap1 w3 hown3 hgr3 hloc3; have HG := hide (grow_c (unhide HR).row (unhide HR).rows (unhide HR).off (cap' := cap1) (unhide HR).crow hgr3 hloc3); have HO3 := hide hown3; have hb3 : Below w.heap.size w w3 := ((unhide HBE).alloc hbase _).grown hgr3 (by simp; omega) (fun j hj => ((unhide HR).crow.lt j hj).1); have hcell3 := unhide HCZ w3 hb3; have hsz3 := hb3.size; clear hown3 hgr3 hloc3)
              | (at_builtin; refine append_cellS (base := w.heap.size) rfl _ _ 24 22 rfl Tryz.underlying24 Tryz.infoInts rfl (by decide) (unhide HG).1 rfl rfl rfl (by omega) hsz3 ?_; intro g2 cap2 w5 hown5 hgr5 hloc5; have HP := hide (push_x (unhide HG).1 (unhide HG).2.1 (unhide HO3) hgr5); have HO5 := hide hown5; have hb5 : Below w.heap.size w w5 := (hb3.alloc hsz3 _).grown hgr5 (by simp; omega) (fun j hj => ((unhide HG).1.lt j hj).1); clear hown5 hgr5 hloc5))
            go_roundw
            case rel => exact ⟨k + 1, vs ++ [.slice (some ⟨g', 0, none⟩) (cc.length + 1) cap1], l ++ [cc ++ [x]], [], some ⟨g2, 0, none⟩, none, cap2, 0, by omega, by go_num, by simp, rfl, hide ⟨by simpa using unhide HO5, unhide HP, fun v hv g hg => (by simp [Value.ownBlock]), World.ownsRow_nil _ _ _ _, by simp, by simp; omega, fun x hx => (by cases hx), fun d hd => (by
              rcases List.mem_append.1 hd with hd | hd
              · exact (unhide HR).all d hd
              · simp at hd; subst hd; exact ⟨(unhide HR).lits.snoc (unhide HX), by simp; omega⟩), hb5⟩⟩
            case measure => simp [intOf]; omega
    · by_cases h1 : k < zs.length
      · have h2 : ¬ l.length < most := fun h => hlt ⟨h1, h⟩
        go_wp2
        go_ret
        exact ⟨_, vs, l, rfl, (unhide HR).row, (unhide HR).rows, by omega, (unhide HR).all, (unhide HR).below⟩
      · go_wp2
        go_ret
        exact ⟨_, vs, l, rfl, (unhide HR).row, (unhide HR).rows, by omega, (unhide HR).all, (unhide HR).below⟩

end Go.Proofs.YtekkkoipcghlmabGreatDoor

namespace Go.Proofs.YtekkkoipcghlmabGreatDoor
open Go.RowKit

/-- Blocks of some types stay. -/
def KeptT (T : TypeId → Prop) (w w' : World) : Prop := ∀ (k : Nat) (cs : Array Value) (t : TypeId) (fz : Nat × Nat), T t → w.heap[k]? = some (.cells cs t fz) → w'.heap[k]? = w.heap[k]?
/-- The block of a slice has this type. -/
def TypedAt (w : World) (v : Value) (e : TypeId) : Prop := ∀ g, v.ownBlock = some g → ∃ cs fz, w.heap[g]? = some (.cells cs e fz)
def NotSolver (t : TypeId) : Prop := t ≠ 57 ∧ t ≠ 5

section
variable {T U : TypeId → Prop} {a b c w w' : World} {v : Value} {e : TypeId}
theorem KeptT.refl (T : TypeId → Prop) (w : World) : KeptT T w w := fun _ _ _ _ _ _ => rfl
theorem KeptT.trans (h : KeptT T a b) (h' : KeptT T b c) : KeptT T a c := fun k cs t fz ht hk => by
  have h1 := h k cs t fz ht hk
  rw [h' k cs t fz ht (h1.trans hk), h1]
theorem KeptT.mono (h : KeptT T a b) (hU : ∀ t, U t → T t) : KeptT U a b := fun k cs t fz ht hk => h k cs t fz (hU t ht) hk
theorem KeptT.of_below (T : TypeId → Prop) (h : Below w.heap.size w w') : KeptT T w w' := fun k _ _ _ _ hk => h.block k (lt_of_block hk)
theorem KeptT.grown {row : Option Nat} (hg : w.grownBy w' row) (hr : ∀ g, row = some g → ∃ cs fz, w.heap[g]? = some (.cells cs e fz)) : KeptT (fun t => t ≠ e) w w' := fun k cs t fz ht hk => by
  refine hg.block k (lt_of_block hk) (fun h => ?_)
  obtain ⟨cs2, fz2, h2⟩ := hr k h.symm
  rw [hk] at h2
  cases h2
  exact ht rfl
theorem TypedAt.kept (h : TypedAt w v e) (hk : KeptT T w w') (ht : T e) : TypedAt w' v e := fun g hg => by
  obtain ⟨cs, fz, h1⟩ := h g hg
  exact ⟨cs, fz, (hk g cs e fz ht h1).trans h1⟩
theorem TypedAt.of_owns {base n : Nat} {s : Nat} {xs : List Value} (h : w.ownsRow base e s v n xs) : TypedAt w v e := fun g hg => by
  rcases h.2 with ⟨rfl, _⟩ | ⟨g', cap, cur, rfl, _, h1, _⟩
  · cases hg
  · simp [Value.ownBlock] at hg
    subst hg
    exact ⟨_, _, h1⟩
theorem lies_kept {xs : List Value} (h : Lies w v xs) (hty : TypedAt w v e) (hk : KeptT T w w') (ht : T e) : Lies w' v xs := by
  rcases h with h | ⟨g, off, cap, hp, rfl, hlt, hc⟩
  · exact .inl h
  · obtain ⟨cs, fz, h1⟩ := hty g rfl
    have h2 := hk g cs e fz ht h1
    exact .inr ⟨g, off, cap, hp, rfl, lt_of_block (h2.trans h1), fun k x hx => (World.cell?_of_block (a := ⟨g, off + k, none⟩) h2).trans (hc k x hx)⟩
theorem owns_kept {base n s : Nat} {xs : List Value} (h : w.ownsRow base e s v n xs) (hk : KeptT T w w') (ht : T e) : w'.ownsRow base e s v n xs := owns_at h (fun g hg => by
  obtain ⟨cs, fz, h1⟩ := TypedAt.of_owns h g hg
  exact hk g cs e fz ht h1)
end

/-- Numbers that lie in a block of numbers. -/
def RowT (w : World) (v : Value) (xs : List Int) : Prop := Lies w v (ints xs) ∧ TypedAt w v 3
/-- Lists of numbers, in blocks of their types. -/
def UnitsT (w : World) (v : Value) (L : List (List Int)) : Prop := ∃ vs, Lies w v vs ∧ TypedAt w v 22 ∧ vs.length = L.length ∧ ∀ (i : Nat) (x : Value) (c : List Int), vs[i]? = some x → L[i]? = some c → RowT w x c

section
variable {T : TypeId → Prop} {w w' : World} {v : Value} {L : List (List Int)} {xs : List Int}
theorem RowT.of_owns {base n : Nat} (h : w.ownsRow base 3 1 v n (ints xs)) (hn : xs.length = n) : RowT w v xs := ⟨lies_of_owns h (by simpa [ints] using hn), TypedAt.of_owns h⟩
theorem RowT.kept (h : RowT w v xs) (hk : KeptT T w w') (ht : T 3) : RowT w' v xs := ⟨lies_kept h.1 h.2 hk ht, h.2.kept hk ht⟩
theorem RowT.below (h : RowT w v xs) (hb : Below w.heap.size w w') : RowT w' v xs := h.kept (KeptT.of_below (fun _ => True) hb) trivial
theorem UnitsT.kept (h : UnitsT w v L) (hk : KeptT T w w') (h1 : T 3) (h2 : T 22) : UnitsT w' v L := by
  obtain ⟨vs, a1, a2, a3, a4⟩ := h
  exact ⟨vs, lies_kept a1 a2 hk h2, a2.kept hk h2, a3, fun i x c hx hc => (a4 i x c hx hc).kept hk h1⟩
theorem UnitsT.below (h : UnitsT w v L) (hb : Below w.heap.size w w') : UnitsT w' v L := h.kept (KeptT.of_below (fun _ => True) hb) trivial trivial
theorem UnitsT.rows (h : UnitsT w v L) : RowsK w v L := by
  obtain ⟨vs, a1, _, a3, a4⟩ := h
  exact ⟨vs, a1, a3, fun i x c hx hc => (a4 i x c hx hc).1⟩
theorem UnitsT.of_rows {base : Nat} {vs : List Value} (h : w.ownsRow base 22 1 v L.length vs) (hr : RowsAt w base vs L) : UnitsT w v L :=
  ⟨vs, lies_of_owns h hr.1, TypedAt.of_owns h, hr.1, fun i x c hx hc => RowT.of_owns (hr.2 i x c hx hc) rfl⟩
end

section
variable {T : TypeId → Prop} {base x : Nat} {kv pv : Value} {ms : List Nat} {pb : List UInt8} {w w' : World}
theorem XAt.kept (h : XAt base w x kv ms pv pb) (hk : KeptT T w w') (h1 : T 57) (h2 : T 59) (h3 : T 5) : XAt base w' x kv ms pv pb :=
  ⟨(hk x _ _ _ h1 h.block).trans h.block, h.le, owns_kept h.row hk h2, owns_kept h.prow hk h3⟩
theorem KeptT.solver (hX : XAt base w x kv ms pv pb) (ho : Only (XF x pv) w w') : KeptT NotSolver w w' := fun k cs t fz ht hk => ho.block k (lt_of_block hk) (fun hf => by
  rcases hf with rfl | hf
  · rw [hX.block] at hk
    cases hk
    exact ht.1 rfl
  · exact row_ne hX.prow hk ht.2 hf)
theorem Only.solver (hX : XAt base w x kv ms pv pb) (ho : Only (XF x pv) w w') : Below base w w' := ho.below (fun k hk => by
  rcases hk with rfl | hk
  · exact hX.le
  · exact (hX.prow.lt k hk).1) (by have := hX.le; have := lt_of_block hX.block; omega)
end

/-- What Solve leaves, in short. -/
theorem SolveRes.out {base x : Nat} {kv pv vm vc : Value} {ms : List Nat} {pb : List UInt8} {A : List Int} {B kind cf : Int} {w w' : World} (h : SolveRes base x kv ms pv pb A B w kind vm vc cf w') (hX : XAt base w x kv ms pv pb) : KeptT NotSolver w w' ∧ Below base w w' ∧ ∃ pv' S, XAt base w' x kv ms pv' (pb ++ S) ∧ S.length ≤ 1000000000 := by
  obtain ⟨S, D, pv', core, hW, -, -, h3, -⟩ := h
  refine ⟨KeptT.solver hX hW.2.1, Only.solver hX hW.2.1, pv', _, hW.1, ?_⟩
  have h1 := stepsText_len S
  have h2 := toldBody_len (Sp.litsOf (oppMask (Sp.maskOf core)))
  have h4 := litsOf_len (oppMask (Sp.maskOf core))
  rw [List.length_append]
  split
  · unfold Sp.told
    simp only [List.length_append, List.length_cons, List.length_nil]
    omega
  · simp only [List.length_nil]; omega

theorem tru_mod {b n : Nat} {x : Int} (h : x ≠ 0 ∧ -(n : Int) ≤ x ∧ x ≤ n) : tru (b % 2 ^ n) x = tru b x := by
  unfold tru
  rw [Nat.testBit_mod_two_pow, decide_eq_true (by omega : x.natAbs - 1 < n), Bool.true_and]
theorem holds_mod {b n : Nat} {c : List Int} (h : In n c) : holdsOf (b % 2 ^ n) c = holdsOf b c := by
  rw [Bool.eq_iff_iff, holds_iff, holds_iff]
  constructor
  · rintro ⟨x, hx, ht⟩; exact ⟨x, hx, by rw [← tru_mod (h x hx)]; exact ht⟩
  · rintro ⟨x, hx, ht⟩; exact ⟨x, hx, by rw [tru_mod (h x hx)]; exact ht⟩
theorem models_none {L : List (List Int)} {k : Nat} : modelsTo L k = 0 ↔ ∀ b, b < k → ¬ ∀ c, c ∈ L → holdsOf b c = true := by
  unfold modelsTo
  rw [List.length_eq_zero_iff, List.filter_eq_nil_iff]
  constructor
  · intro h b hb ha
    exact h b (List.mem_range.2 hb) (by rw [List.all_eq_true]; exact ha)
  · intro h b hb ha
    rw [List.all_eq_true] at ha
    exact h b (List.mem_range.1 hb) ha
/-- No model of n variables: no model. -/
theorem models_any {L : List (List Int)} {n : Nat} (hL : ∀ c, c ∈ L → In n c) : modelsTo L (2 ^ n) = 0 ↔ ∀ b, ¬ ∀ c, c ∈ L → holdsOf b c = true := by
  rw [models_none]
  constructor
  · intro h b hb
    exact h (b % 2 ^ n) (Nat.mod_lt _ (Nat.two_pow_pos n)) (fun c hc => by rw [holds_mod (hL c hc)]; exact hb c hc)
  · intro h b _
    exact h b
theorem In.mono {n m : Nat} {c : List Int} (h : In n c) (hm : n ≤ m) : In m c := fun x hx => by have := h x hx; omega
theorem In.all {n : Nat} {c : List Int} (h : In n c) (hn : n ≤ 12) : allInt c = true := by
  rw [allInt, List.all_eq_true]
  exact fun x hx => isLit_iff.2 (by have := h x hx; omega)
theorem In.lits {n : Nat} {c : List Int} (h : In n c) (hn : n ≤ 12) : Lits c := fun x hx => by have := h x hx; omega
section
variable {L : List (List Int)}
/-- The clauses that a solver made of small clauses keeps. -/
theorem kept_fine (hL : ∀ c, c ∈ L → Lits c ∧ c.length ≤ 3) (hl : L.length ≤ 100) : KeptOK (keptTo L L.length) := by
  have h1 := kept_ok (fun c hc => (hL c hc).1) L.length (Nat.le_refl _)
  have h2 := keptTo_len L L.length
  exact ⟨h1.1, h1.2, by omega⟩
theorem kept_same (hL : ∀ c, c ∈ L → Lits c ∧ c.length ≤ 3) (hl : L.length ≤ 100) (b : Nat) : (∀ g, g ∈ keptTo L L.length → holdsB b g) ↔ ∀ c, c ∈ L → holdsOf b c = true := by
  have := kept_all (fun c hc => (hL c hc).1) (kept_adds hL hl) b L.length (Nat.le_refl _)
  rwa [List.take_length] at this
end

section
variable {base x : Nat} {kv pv vm vc : Value} {ms : List Nat} {pb : List UInt8} {A : List Int} {kind cf : Int} {w w' : World}
/-- The verdict, by all values. -/
theorem SolveRes.verdict (h : SolveRes base x kv ms pv pb (once A) 0 w kind vm vc cf w') (hA : ∀ y, y ∈ A → y ≠ 0) :
    (kind = 1 ∧ vc = .slice none 0 0 ∧ ∃ b, b < 4096 ∧ (∀ y, y ∈ A → tru b y = true) ∧ (∀ g, g ∈ ms → holdsB b g) ∧ w'.ownsRow w.heap.size 3 1 vm 12 (ints (modelOf b))) ∨
    (kind = 2 ∧ vm = .slice none 0 0 ∧ ∀ b, (∀ g, g ∈ ms → holdsB b g) → ¬ ∀ y, y ∈ A → tru b y = true) := by
  rcases h.two (fun y hy => hA y ((once_mem A y).1 hy)) with ⟨h1, h2, b, h3, h4, h5, h6⟩ | ⟨h1, h2, h3⟩
  · exact .inl ⟨h1, h2, b, h3, fun y hy => h4 y ((once_mem A y).2 hy), h5, h6⟩
  · refine .inr ⟨h1, h2, fun b hb hall => ?_⟩
    obtain ⟨y, hy, ht⟩ := h3 b hb
    rw [hall y ((once_mem A y).1 hy)] at ht
    cases ht
theorem SolveRes.vals (h : SolveRes base x kv ms pv pb A 0 w kind vm vc cf w') : (∃ ao n c, vm = .slice ao n c) ∧ ∃ ao n c, vc = .slice ao n c := by
  obtain ⟨S, D, pv', core, -, -, -, -, -, -, h6⟩ := h
  rcases h6 with ⟨_, h2, b, _, _, _, h3⟩ | ⟨_, h2, _, h3, _⟩ | ⟨_, _, _, h4, _⟩
  · exact ⟨slice_of h3, by rw [h2]; exact ⟨_, _, _, rfl⟩⟩
  · exact ⟨by rw [h2]; exact ⟨_, _, _, rfl⟩, slice_of h3⟩
  · omega
end

end Go.Proofs.YtekkkoipcghlmabGreatDoor

namespace Go.Proofs.YtekkkoipcghlmabGreatDoor
open Go.RowKit

/-- A part of a row. -/
theorem RowT.one {w : World} {g k cap c : Nat} {xs : List Int} (h : RowT w (.slice (some ⟨g, 0, none⟩) xs.length cap) xs) (hk : k < xs.length) : RowT w (.slice (some ⟨g, k, none⟩) 1 c) [xs[k]] := by
  refine ⟨?_, fun q hq => h.2 q (by simpa [Value.ownBlock] using hq)⟩
  rcases h.1 with ⟨h0, _⟩ | ⟨b, off, cap', hp, hv, hb, hc⟩
  · exfalso; have := congrArg List.length h0; simp [ints] at this; rw [this] at hk; simp at hk
  · simp only [Value.slice.injEq, Option.some.injEq, Addr.mk.injEq] at hv
    obtain ⟨⟨rfl, rfl, -⟩, -, rfl⟩ := hv
    refine .inr ⟨g, k, c, by simp [ints], rfl, hb, fun j y hy => ?_⟩
    have hj : j = 0 := by
      have := (List.getElem?_eq_some_iff.1 hy).1
      simpa [ints] using this
    subst hj
    have := hc k (.int .i64 xs[k]) (by simp [ints, hk])
    simp [ints] at hy
    subst hy
    rw [Nat.zero_add] at this
    exact this

end Go.Proofs.YtekkkoipcghlmabGreatDoor

namespace Go.Proofs.YtekkkoipcghlmabGreatDoor
open Go.RowKit

theorem Tryz.laysWS : Lays.n166 Tryz.prog Tryz.lays156_ren := {
  mixed := Tryz.lays156.mixed
  f166 := Tryz.lays156.f166
  f240 := Tryz.lays156.f240
  f276 := Tryz.lays156.f276
  t0 := Tryz.lays156.t0
  a0 := Tryz.lays156.a0
  z0 := Tryz.lays156.z0
  v0 := Tryz.lays156.v0
  t3 := Tryz.lays156.t3
  a3 := Tryz.lays156.a3
  z3 := Tryz.lays156.z3
  v3 := Tryz.lays156.v3
  t4 := Tryz.lays156.t4
  a4 := Tryz.lays156.a4
  z4 := Tryz.lays156.z4
  v4 := Tryz.lays156.v4
  t9 := Tryz.lays156.t9
  a9 := Tryz.lays156.a9
  z9 := Tryz.lays156.z9
  v9 := Tryz.lays156.v9
  t20 := Tryz.lays156.t20
  a20 := Tryz.lays156.a20
  z20 := Tryz.lays156.z20
  v20 := Tryz.lays156.v20
  t37 := Tryz.lays156.t37
  a37 := Tryz.lays156.a37
  z37 := Tryz.lays156.z37
  v37 := Tryz.lays156.v37
  t70 := Tryz.lays156.t70
  a70 := Tryz.lays156.a70
  z70 := Tryz.lays156.z70
  v70 := Tryz.lays156.v70
  t72 := Tryz.lays156.t72
  a72 := Tryz.lays156.a72
  z72 := Tryz.lays156.z72
  v72 := Tryz.lays156.v72
  t75 := Tryz.lays156.t75
  a75 := Tryz.lays156.a75
  z75 := Tryz.lays156.z75
  v75 := Tryz.lays156.v75
  t164 := Tryz.lays156.t164
  a164 := Tryz.lays156.a164
  z164 := Tryz.lays156.z164
  v164 := Tryz.lays156.v164 }

theorem Tryz.laysST : Lays.n169 Tryz.prog Tryz.lays156_ren := {
  mixed := Tryz.lays156.mixed
  f169 := Tryz.lays156.f169
  t0 := Tryz.lays156.t0
  a0 := Tryz.lays156.a0
  z0 := Tryz.lays156.z0
  v0 := Tryz.lays156.v0
  t3 := Tryz.lays156.t3
  a3 := Tryz.lays156.a3
  z3 := Tryz.lays156.z3
  v3 := Tryz.lays156.v3
  t9 := Tryz.lays156.t9
  a9 := Tryz.lays156.a9
  z9 := Tryz.lays156.z9
  v9 := Tryz.lays156.v9
  t37 := Tryz.lays156.t37
  a37 := Tryz.lays156.a37
  z37 := Tryz.lays156.z37
  v37 := Tryz.lays156.v37
  t70 := Tryz.lays156.t70
  a70 := Tryz.lays156.a70
  z70 := Tryz.lays156.z70
  v70 := Tryz.lays156.v70
  t72 := Tryz.lays156.t72
  a72 := Tryz.lays156.a72
  z72 := Tryz.lays156.z72
  v72 := Tryz.lays156.v72
  t127 := Tryz.lays156.t127
  a127 := Tryz.lays156.a127
  z127 := Tryz.lays156.z127
  v127 := Tryz.lays156.v127 }

theorem IsBuilder.below {T e : TypeId} {B b : Nat} {cs : List Value} {w w' : World} (h : Lib.IsBuilder T e B b cs w) (hb : Below w.heap.size w w') : Lib.IsBuilder T e B b cs w' := by
  have key : ∀ p, Lib.BuilderAt T e B b p cs w → Lib.BuilderAt T e B b p cs w' := by
    rintro p ⟨h1, v, h2, h3, h4⟩
    have hlt := (Array.getElem?_eq_some_iff.1 h2).1
    exact ⟨h1, v, (hb.block b hlt).trans h2, owns_below h3 hb, h4⟩
  rcases h with h | h
  · exact .inl (key _ h)
  · exact .inr (key _ h)

def maskText (ms : List Nat) : List UInt8 := ms.flatMap (fun m => Sp.told (Sp.litsOf m))
theorem maskText_snoc (ms : List Nat) (m : Nat) : maskText (ms ++ [m]) = maskText ms ++ Sp.told (Sp.litsOf m) := by
  unfold maskText; rw [List.flatMap_append]; simp
theorem maskTold_len (m : Nat) : (Sp.told (Sp.litsOf m)).length ≤ 97 := by
  have h1 := toldBody_len (Sp.litsOf m); have h2 := litsOf_len m
  simp [Sp.told]; omega
theorem maskText_len (ms : List Nat) : (maskText ms).length ≤ 97 * ms.length := by
  induction ms with
  | nil => simp [maskText]
  | cons a r ih =>
    have h1 := maskTold_len a
    simp only [maskText, List.flatMap_cons, List.length_append, List.length_cons] at ih ⊢
    omega

theorem writeString_any (B b : Nat) (l t : List UInt8) (w : World) (h : Lib.IsBuilder 118 5 B b (Lib.byteCells l) w) (hlen : l.length + t.length ≤ 140737488355328) (hBw : B ≤ w.heap.size) :
    Calls Tryz.prog 69 #[.pointer (some ⟨b, 0, none⟩), .string (bs t)] w fun e w' => ∃ n : Int, e = .returned (.tuple #[.int .i64 n, .nilIface]) ∧ Lib.IsBuilder 118 5 B b (Lib.byteCells (l ++ t)) w' ∧ Below B w w' := by
  refine (Any.Builder_WriteString Tryz.laysWS Tryz.Builder_Extra_156 B b (Lib.byteCells l) (bs t) w h (by rw [Lib.byteCells_length, bs_size]; exact hlen) hBw).mono ?_
  rintro e w' ⟨rfl, hb, hbel⟩
  refine ⟨_, rfl, .inr ?_, hbel⟩
  have e1 : Lib.byteCells l ++ Lib.strCells (bs t) = Lib.byteCells (l ++ t) := by
    rw [Lib.strCells_eq, bs_data]; simp [Lib.byteCells]
  rw [e1] at hb
  exact hb

theorem builderString_any (B b : Nat) (l : List UInt8) (w : World) (h : Lib.IsBuilder 118 5 B b (Lib.byteCells l) w) (hBw : B ≤ w.heap.size) :
    Calls Tryz.prog 70 #[.pointer (some ⟨b, 0, none⟩)] w fun e w' => e = .returned (.string (bs l)) ∧ Below B w w' :=
  Any.Builder_String_any Tryz.laysST Tryz.Builder_Extra_156 B b l w h hBw

set_option maxRecDepth 100000 in
set_option maxHeartbeats 800000 in
theorem clausePlain_any (v : Value) (ms : List Nat) (w : World) (hl : ms.length ≤ 10000000) (hm : ∀ m, m ∈ ms → m < 2 ^ 24) (hv : Lies w v (us ms)) (he : EnvT w) :
    Calls Tryz.prog 35 #[v] w fun e w' => e = .returned (.string (bs (maskText ms))) ∧ Below w.heap.size w w' := by
  have hfresh := hide (Lib.fresh_isBuilder 118 5 w)
  have hb0 : Below w.heap.size w (w.alloc (.cells #[.pointer none, .slice none 0 0] 118)) := (Below.refl _ _).alloc (Nat.le_refl _) _
  rcases hv with ⟨h0, ao, cap, rfl⟩ | ⟨b, off, cap, hp, rfl, hb, hc⟩
  · have hx : ms = [] := by simpa [us] using h0
    subst hx
    go_enter Tryz.func35, Tryz.ntmps35
    go_wp2
    refine wp_loop_rounds 1 ?_
    rw [rounds_succ]
    go_wp2_with fail
    refine (builderString_any w.heap.size w.heap.size [] _ (unhide hfresh) (by simp)).mono ?_
    rintro e w1 ⟨rfl, hb1⟩
    go_wp2
    go_ret
    exact ⟨rfl, hb0.trans hb1⟩
  · have hlen : (us ms).length = ms.length := by simp [us]
    rw [hlen] at hp ⊢
    go_enter Tryz.func35, Tryz.ntmps35
    go_wp2
    go_loopw [8] (fun i wr => ∃ k : Nat, k ≤ ms.length ∧ i = .int .i64 k ∧ Lib.IsBuilder 118 5 w.heap.size w.heap.size (Lib.byteCells (maskText (ms.take k))) wr ∧ Below w.heap.size w wr) (fun i _ => ms.length - (intOf i).toNat)
    case atStart => exact ⟨0, Nat.zero_le _, rfl, unhide hfresh, hb0⟩
    case round =>
      obtain ⟨k, hk, rfl, hbu, hbel⟩ := hrel
      have HB := hide hbu
      clear hbu
      have hml := maskText_len (ms.take k)
      have hml2 : (ms.take k).length ≤ k := List.length_take_le _ _
      by_cases hlt : k < ms.length
      · have hcell : wr.cell? ⟨b, off + k, none⟩ = some (.int .u32 (ms[k] : Int)) := (hbel.cell (p := ⟨b, off + k, none⟩) hb).trans (hc k (.int .u32 (ms[k] : Int)) (by simp [us, hlt]))
        have hmm := hm ms[k] (List.getElem_mem hlt)
        have HS : Hid (ms.take (k + 1) = ms.take k ++ [ms[k]]) := hide (List.take_succ_eq_append_getElem hlt)
        generalize ms[k] = m at hcell HS hmm
        clear hc hm
        have htl := maskTold_len m
        have HL := hide (line_any m wr hmm (he.below hbel))
        have HSN := hide (maskText_snoc (ms.take k) m)
        go_wp2_with fail
        refine (unhide HL).mono ?_
        rintro e w1 ⟨rfl, hb1⟩
        have hsz := hbel.size
        have hsz1 := hb1.size
        have HW := hide (writeString_any w.heap.size w.heap.size (maskText (ms.take k)) (Sp.told (Sp.litsOf m)) w1 (IsBuilder.below (unhide HB) hb1) (by omega) (by omega))
        go_wp2_with fail
        refine (unhide HW).mono ?_
        rintro e w2 ⟨n, rfl, hbu2, hb2⟩
        have HB2 := hide hbu2
        clear hbu2
        go_wp2
        go_roundw
        case rel => exact ⟨k + 1, by omega, by go_num, by rw [unhide HS, unhide HSN]; exact unhide HB2, (hbel.trans (hb1.mono hbel.size)).trans hb2⟩
        case measure => simp [intOf]; omega
      · have HT : Hid (ms.take k = ms) := hide (List.take_of_length_le (by omega))
        have hsz := hbel.size
        have HSt := hide (builderString_any w.heap.size w.heap.size (maskText (ms.take k)) wr (unhide HB) (by omega))
        go_wp2_with fail
        refine (unhide HSt).mono ?_
        rintro e w1 ⟨rfl, hb1⟩
        go_wp2
        go_ret
        exact ⟨by rw [unhide HT]; rfl, hbel.trans hb1⟩

end Go.Proofs.YtekkkoipcghlmabGreatDoor

namespace Go.Proofs.YtekkkoipcghlmabGreatDoor
open Go.RowKit

set_option maxRecDepth 100000 in
theorem clausesX_any (base x : Nat) (kv : Value) (ms : List Nat) (w : World) (pv : Value) (pb : List UInt8) (hX : XAt base w x kv ms pv pb) (hms : ms.length ≤ 10000000) (hsm : ∀ m, m ∈ ms → m < 2 ^ 24) (he : EnvT w) :
    Calls Tryz.prog 18 #[.pointer (some ⟨x, 0, none⟩)] w fun e w' => e = .returned (.string (bs (maskText ms))) ∧ Below w.heap.size w w' := by
  have HP := hide (clausePlain_any kv ms w hms hsm (lies_of_owns hX.row (by simp [us])) he)
  have hc0 : w.cell? ⟨x, 0, none⟩ = some kv := by simp [World.cell?, hX.block]
  obtain ⟨ao, cp, hsh⟩ := owns_shape hX.row
  subst hsh
  clear hX
  go_enter Tryz.func18, Tryz.ntmps18
  go_wp2_with fail
  refine (unhide HP).mono ?_
  rintro e w1 ⟨rfl, hb1⟩
  go_wp2
  go_ret
  exact ⟨rfl, hb1⟩

set_option maxRecDepth 100000 in
theorem resetX_any (base x : Nat) (kv : Value) (ms : List Nat) (w : World) (pv : Value) (pb : List UInt8) (hX : XAt base w x kv ms pv pb) :
    Calls Tryz.prog 21 #[.pointer (some ⟨x, 0, none⟩)] w fun e w' => e = .returned (.tuple #[]) ∧ XAt base w' x (.slice none 0 0) [] (.slice none 0 0) [] ∧ Only (· = x) w w' := by
  have hc0 : w.cell? ⟨x, 0, none⟩ = some kv := by simp [World.cell?, hX.block]
  have hc1 : w.cell? ⟨x, 1, none⟩ = some (.int .i64 (sizes ms : Int)) := by simp [World.cell?, hX.block]
  have hf0 : w.frozen? ⟨x, 0, none⟩ = false := frozen_of_row w _ _ _ _ hX.block
  have hf1 : w.frozen? ⟨x, 1, none⟩ = false := frozen_of_row w _ _ _ _ hX.block
  have hc2 : w.cell? ⟨x, 2, none⟩ = some pv := by simp [World.cell?, hX.block]
  have hf2 : w.frozen? ⟨x, 2, none⟩ = false := frozen_of_row w _ _ _ _ hX.block
  have HX := hide hX
  clear hX
  go_enter Tryz.func21, Tryz.ntmps21
  go_wp2
  go_end0
  have h0 := heap_setCell_same w x 0 _ _ (.slice none 0 0) (unhide HX).block
  have h1 := heap_setCell_same _ x 1 _ _ (.int .i64 0) h0
  have h2 := heap_setCell_same _ x 2 _ _ (.slice none 0 0) h1
  exact ⟨rfl, ⟨by rw [h2]; rfl, (unhide HX).le, World.ownsRow_nil _ _ _ _, World.ownsRow_nil _ _ _ _⟩, (Only.setCell (F := (· = x)) (p := ⟨x, 0, none⟩) rfl _ _).trans ((Only.setCell (F := (· = x)) (p := ⟨x, 1, none⟩) rfl _ _).trans (Only.setCell (F := (· = x)) (p := ⟨x, 2, none⟩) rfl _ _))⟩

end Go.Proofs.YtekkkoipcghlmabGreatDoor
