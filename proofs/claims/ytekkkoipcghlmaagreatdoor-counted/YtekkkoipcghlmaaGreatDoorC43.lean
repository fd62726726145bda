import Derived.Test.YtekkkoipcghlmaaGreatDoorC03
import Derived.Deep.AppendLies
import Derived.ArgAppend
import Derived.Test.YtekkkoipcghlmaaGreatDoorC42
import Derived.Test.YtekkkoipcghlmaaGreatDoorC34
import Derived.Test.YtekkkoipcghlmaaGreatDoorC41
import Derived.Test.YtekkkoipcghlmaaGreatDoorC35
set_option linter.all false
namespace Go.Proofs.YtekkkoipcghlmaaGreatDoor
open Go.RowKit

/-- append onto a list of one's own: the old list still reads as it did, whether there was room or not. -/
theorem append_keep {P : Program} {ops : Array Oper} {rest : List Oper} {o : Oper} {a : Act} {Q : Exit → Act → World → Prop} {w : World} {base n m bytes : Nat} {v z : Value} {xs news : List Value} {ad : Addr}
    (hgd : o.guard = none) (s x : Operand) (t e : TypeId) (ho : o.op = .call { callee := .builtin .append, args := #[s, x], argTypes := #[t, t] })
    (ht : P.underlying t = some (.slice e)) (hinfo : (P.info? e).map (fun i => (i.zero, i.size, i.bytes)) = some (some z, 1, bytes)) (hzs : z.cells.size = 1) (hby : bytes ≤ 24)
    (hown : w.ownsRow base e 1 v n xs) (hs : a.eval s = v) (hx : a.eval x = .slice (some ad) m m) (hnl : news.length = m) (hm : 0 < m) (hnews : ∀ j u, news[j]? = some u → w.cell? (ad.add j) = some u) (h1 : ∀ u ∈ news, u.oneCell' = true)
    (hn : n + m ≤ 20000000) (hbase : base ≤ w.heap.size)
    (h : ∀ (v' : Value) (w' : World), w'.ownsRow base e 1 v' (n + m) (xs ++ news) → w'.ownsRow base e 1 v n xs → Only (fun k => v.ownBlock = some k) w w' → (∀ g, v'.ownBlock = some g → v.ownBlock = some g ∨ w.heap.size ≤ g) → wpList P ops Q rest (a.put o.dst v') w') :
    wpList P ops Q (o :: rest) a w := by
  obtain ⟨i0, hi0, hz0, hz1, hz2⟩ := info_parts hinfo
  have hnb : (n + m) * bytes ≤ 140737488355328 := Nat.le_trans (Nat.mul_le_mul hn hby) (by omega)
  have hmx : n + m ≤ maxLen := by unfold maxLen; omega
  have hnl1 : news.length = m * 1 := by omega
  rcases hown.2 with ⟨rfl, h0⟩ | ⟨g, cap, cur, rfl, hbg, hg, hnc, hcm, hsz, htk⟩
  · subst h0
    have hx0 : xs = [] := List.eq_nil_of_length_eq_zero (by rw [hown.1])
    subst hx0
    refine wpList_append_grows w hgd s x t ho e i0 z 1 bytes ht hi0 hz0 hz1 hz2 hzs (by decide) none 0 0 [] hs (fun _ => ⟨rfl, rfl⟩) rfl (fun b hb => by cases hb) ad m m news hx hnl1 hnews h1 (by omega) hmx hnb ?_
    intro v' w' h2 h3
    exact h v' w' (owns_mono h2 hbase) (World.ownsRow_nil _ _ _ _) (Only.grown h3 (fun k hk => by cases hk)) (fun k hk => .inr (h2.lt k hk).1)
  · by_cases hr : n + m ≤ cap
    · refine wpList_append_fits w hgd s x t ho base e i0 1 ht hi0 hz1 g n cap xs hs hown ad m m news hx hnl1 hnews h1 hr ?_
      intro w' h2 h3
      refine h _ w' h2 ?_ (Only.grown h3 (fun k hk => by simp at hk; subst hk; rfl)) (fun k hk => .inl hk)
      rcases h2.2 with ⟨hv, _⟩ | ⟨g2, cap2, cur2, hv, hb2, hg2, _, hcm2, hsz2, htk2⟩
      · cases hv
      · simp only [Value.slice.injEq, Option.some.injEq, Addr.mk.injEq] at hv
        obtain ⟨⟨rfl, -, -⟩, -, rfl⟩ := hv
        refine ⟨hown.1, .inr ⟨g, cap, cur2, rfl, hbg, hg2, hnc, hcm, hsz2, ?_⟩⟩
        have := congrArg (List.take (n * 1)) htk2
        rw [List.take_take, Nat.min_eq_left (by omega)] at this
        rw [this, List.take_append_of_le_length (by rw [hown.1]; omega), List.take_of_length_le (by rw [hown.1]; omega)]
    · refine wpList_append_grows w hgd s x t ho e i0 z 1 bytes ht hi0 hz0 hz1 hz2 hzs (by decide) (some ⟨g, 0, none⟩) n cap xs hs (fun e => by cases e) hown.1 (fun b hb j u hu => ?_) ad m m news hx hnl1 hnews h1 (by omega) hmx hnb ?_
      · cases hb
        have hj : j < n := by
          have := (List.getElem?_eq_some_iff.1 hu).1
          rw [hown.1] at this; omega
        have hadd : (⟨g, 0, none⟩ : Addr).add j = ⟨g, j, none⟩ := by
          simp [Addr.add]; intro e; exact e.symm
        rw [hadd, hown.cellAt j (by omega)]
        exact hu
      · intro v' w' h2 h3
        exact h v' w' (owns_mono h2 hbase) (owns_at hown (fun k hk => h3.block k (hown.lt k hk).2 (fun e => by cases e))) (Only.grown h3 (fun k hk => by cases hk)) (fun k hk => .inr (h2.lt k hk).1)

end Go.Proofs.YtekkkoipcghlmaaGreatDoor

namespace Go.Proofs.YtekkkoipcghlmaaGreatDoor
open Go.RowKit

/-- A list that grows out of another one, which still reads as it did. -/
structure LInv (base : Nat) (w0 wr : World) (lv u : Value) (vs us : List Value) (L : List (List Int)) : Prop where
  inv : UInv base w0 wr u us L
  lies : Lies wr lv vs
  typed : TypedAt wr lv 25
  shape : lv = .slice none 0 0 ∨ ∃ g cap, lv = .slice (some ⟨g, 0, none⟩) vs.length cap
  pre : ∃ ns, us = vs ++ ns
section
variable {base : Nat} {w0 wr w' : World} {lv u u' : Value} {vs us : List Value} {L : List (List Int)}
theorem LInv.start {l : List (List Int)} (h : wr.ownsRow base 25 1 lv l.length vs) (hr : RowsAt wr base vs l) : LInv base wr wr lv lv vs vs l := by
  refine ⟨⟨h, fun i x c hx hc => RowT.of_owns (hr.2 i x c hx hc) rfl, Below.refl _ _, KeptT.refl _ _⟩, lies_of_owns h hr.1, TypedAt.of_owns h, ?_, [], by rw [List.append_nil]⟩
  rcases h.2 with ⟨h1, -⟩ | ⟨g, cap, cur, h1, -⟩
  · exact .inl h1
  · exact .inr ⟨g, cap, by rw [h1, hr.1]⟩
theorem LInv.below (h : LInv base w0 wr lv u vs us L) (hb : Below wr.heap.size wr w') (hbase : base ≤ wr.heap.size) : LInv base w0 w' lv u vs us L :=
  ⟨⟨owns_below h.inv.row hb, fun i x c hx hc => (h.inv.rows i x c hx hc).below hb, h.inv.below.trans (hb.mono hbase), h.inv.kept.trans (KeptT.of_below _ hb)⟩, h.lies.below hb, h.typed.kept (KeptT.of_below (fun _ => True) hb) trivial, h.shape, h.pre⟩
theorem LInv.push (h : LInv base w0 wr lv u vs us L) {o : Obj} {x : Value} {c : List Int} {n : Nat} (hn : n = L.length + 1) (hown : w'.ownsRow base 25 1 u' n (us ++ [x])) (hold : w'.ownsRow base 25 1 u L.length us) (ho : Only (fun k => u.ownBlock = some k) (wr.alloc o) w') (hx : RowT wr x c) (hb : base ≤ wr.heap.size) : LInv base w0 w' lv u' vs (us ++ [x]) (L ++ [c]) := by
  have hal : Below wr.heap.size wr (wr.alloc o) := (Below.refl _ _).alloc (Nat.le_refl _) _
  have hg : (wr.alloc o).grownBy w' u.ownBlock := ⟨ho.os, ho.tape, ho.output, ho.size, fun k hk hne => ho.block k hk (fun e => hne e.symm)⟩
  obtain ⟨ns, hns⟩ := h.pre
  have hl1 := h.lies.below hal
  have ht1 := h.typed.kept (KeptT.of_below (fun _ => True) hal) trivial
  refine ⟨h.inv.push hn hown hg hx hb, ?_, fun g hg' => ?_, h.shape, ns ++ [x], by rw [hns, List.append_assoc]⟩
  · rcases h.shape with rfl | ⟨g, cap, rfl⟩
    · rcases h.lies with h1 | ⟨b, off, cap, _, h1, _⟩
      · exact .inl h1
      · cases h1
    · rcases hl1 with h1 | ⟨b, off, cap', hp, h1, hlt, hc⟩
      · exact .inl h1
      · simp only [Value.slice.injEq, Option.some.injEq, Addr.mk.injEq] at h1
        obtain ⟨⟨rfl, rfl, -⟩, -, rfl⟩ := h1
        refine .inr ⟨g, 0, cap, hp, rfl, Nat.lt_of_lt_of_le hlt ho.size, fun k y hy => ?_⟩
        by_cases he : u.ownBlock = some g
        · have := hold.cells he k y (by rw [hns, List.getElem?_append_left (List.getElem?_eq_some_iff.1 hy).1]; exact hy)
          rw [Addr.add_lit] at this
          exact this
        · exact (World.cell?_of_block (a := ⟨g, 0 + k, none⟩) (ho.block g hlt he)).trans (hc k y hy)
  · by_cases he : u.ownBlock = some g
    · exact TypedAt.of_owns hold g he
    · obtain ⟨cs, fz, h1⟩ := ht1 g hg'
      exact ⟨cs, fz, (ho.block g (lt_of_block h1) he).trans h1⟩
theorem LInv.list {l M : List (List Int)} (h : LInv base w0 wr lv u vs us (l ++ M)) (hl : vs.length = l.length) : UnitsT wr lv l := by
  obtain ⟨ns, hns⟩ := h.pre
  refine ⟨vs, h.lies, h.typed, hl, fun i x c hx hc => h.inv.rows i x c ?_ ?_⟩
  · rw [hns, List.getElem?_append_left (List.getElem?_eq_some_iff.1 hx).1]; exact hx
  · rw [List.getElem?_append_left (List.getElem?_eq_some_iff.1 hc).1]; exact hc
end

theorem rowsAt_keptB {T : TypeId → Prop} {w w' : World} {base : Nat} {vs : List Value} {l : List (List Int)} (h : RowsAt w base vs l) (hk : KeptT T w w') (ht : T 3) : RowsAt w' base vs l := ⟨h.1, fun i x c hx hc => owns_kept (h.2 i x c hx hc) hk ht⟩

/-- A verdict of small clauses without assumptions. -/
theorem verdictN {base x : Nat} {kv pv : Value} {L : List (List Int)} {pb : List UInt8} {w : World} {n : Nat} (hX : XAt base w x kv (keptTo L L.length) pv pb) (he : EnvFrom base w) (hL : ∀ c, c ∈ L → In n c ∧ c.length ≤ 3) (hl : L.length ≤ 100) (hn : n ≤ 12) (hpb : pb.length ≤ 140000000000000) :
    Calls Tryz.prog 25 #[.pointer (some ⟨x, 0, none⟩), .slice none 0 0] w fun e w' => e = .returned (.int .i64 (if modelsTo L (2 ^ n) = 0 then 2 else 1)) ∧ Below base w w' := by
  have hL' : ∀ c, c ∈ L → Lits c ∧ c.length ≤ 3 := fun c hc => ⟨(hL c hc).1.lits hn, (hL c hc).2⟩
  refine (verdictK (A := []) hX (kept_fine hL' hl) he (fun y hy => by cases hy) (by simp) (Lies.nil _) hpb).mono ?_
  rintro e w' ⟨kind, vm, vc, cf, rfl, hres⟩
  refine ⟨?_, (hres.out hX).2.1⟩
  rcases hres.verdict (fun y hy => by cases hy) with ⟨rfl, a2, b, a3, a4, a5, a6⟩ | ⟨rfl, a2, a3⟩
  · rw [if_neg (fun h0 => (models_any (fun c hc => (hL c hc).1)).1 h0 b ((kept_same hL' hl b).1 a5))]
  · rw [if_pos ((models_any (fun c hc => (hL c hc).1)).2 (fun b hb => a3 b ((kept_same hL' hl b).2 hb) (fun y hy => by cases hy)))]

theorem maskText_small {L : List (List Int)} (hL : ∀ c, c ∈ L → Lits c ∧ c.length ≤ 3) (hl : L.length ≤ 100) : (maskText (keptTo L L.length)).length ≤ 6000 := by
  have h1 := kept_small hL L.length (Nat.le_refl _)
  have h2 := keptTo_len L L.length
  have h3 : ∀ ms : List Nat, (maskText ms).length ≤ 4 * sizes ms + ms.length := by
    intro ms
    induction ms with
    | nil => simp [maskText, sizes]
    | cons m r ih =>
      have e1 : maskText (m :: r) = Sp.told (Sp.litsOf m) ++ maskText r := rfl
      have e2 : sizes (m :: r) = (Sp.litsOf m).length + sizes r := by simp [sizes]
      have := toldBody_len (Sp.litsOf m)
      rw [e1, e2, List.length_append, List.length_cons]
      unfold Sp.told
      simp only [List.length_append, List.length_cons, List.length_nil]
      omega
  have := h3 (keptTo L L.length)
  omega

end Go.Proofs.YtekkkoipcghlmaaGreatDoor

namespace Go.Proofs.YtekkkoipcghlmaaGreatDoor
open Go.ChangeShapes Go.WideShapes Go.ChangeAt Go.RowKit Go.Deep

theorem Tryz.laidOutS : laidOutB Tryz.prog = true := by kernel_rfl
theorem wf_bdS {n : Int} (h : (Lit.int .i64 n).wf = true) : -9223372036854775808 ≤ n ∧ n ≤ 9223372036854775807 := by
  have h1 : IntKind.i64.min = -9223372036854775808 := by decide
  have h2 : IntKind.i64.max = 9223372036854775807 := by decide
  simp only [Lit.wf, Bool.and_eq_true, decide_eq_true_eq] at h
  rw [h1, h2] at h
  exact h

/-- A list of numbers, out of its reading. -/
theorem ints_read {H : Type} {enc : TypeId × Value → H} {W : World} {base n : Nat} {spare : Nat → Bool} {held : Bool} {a0 : Option Addr} {l0 c0 : Nat} {y : DataW H × List MemPlace}
    (h : DataW.trod enc Tryz.prog W base spare held n 25 (Value.slice a0 l0 c0).cells.toList = some y) : ∃ xs : List Int, Lies W (.slice a0 l0 c0) (ints xs) ∧ Fits xs ∧ xs.length ≤ 9223372036854775807 := by
  rcases open_slice1 Tryz.underlying25 Tryz.cellsInt h with ⟨hcs, hx⟩ | ⟨a, len, cap, m, n', V, D, Pl, hcs, hab, hl, hm, hmm, hx, hel⟩
  · simp [Value.cells] at hcs
    obtain ⟨rfl, rfl, rfl⟩ := hcs
    exact ⟨[], Lies.nil _, fun z hz => (by cases hz), by simp⟩
  · simp [Value.cells] at hcs
    obtain ⟨rfl, rfl, rfl⟩ := hcs
    have hlm : l0 ≤ m := by rw [hmm]; split <;> omega
    have hV : ∀ i, i < l0 → V i = .int .i64 (intOf (V i)) ∧ (-9223372036854775808 ≤ intOf (V i) ∧ intOf (V i) ≤ 9223372036854775807) := fun i hi => by
      obtain ⟨_, ht⟩ := hel i (by omega)
      obtain ⟨q, e0, _, hw⟩ := DataW.trod_int Tryz.underlying3 ht
      simp at e0; rw [e0]
      exact ⟨rfl, wf_bdS hw⟩
    refine ⟨(List.range l0).map (fun i => intOf (V i)), ?_, fun z hz => ?_, by unfold maxLen at hm; simp; omega⟩
    · by_cases h0 : l0 = 0
      · subst h0; exact .inl ⟨rfl, _, _, rfl⟩
      · obtain ⟨b, off, spot⟩ := a
        have cz := (hel 0 (by omega)).1
        have hspot : spot = none := by simpa [Addr.add] using World.cell?_spot cz
        subst hspot
        have hb : b < W.heap.size := by simpa [Addr.add] using World.block_lt_of_cell? W _ cz
        refine .inr ⟨b, off, c0, by simp [ints]; omega, by simp [ints], hb, fun k x hk => ?_⟩
        have hkl : k < l0 := by
          have := (List.getElem?_eq_some_iff.1 hk).1
          simpa [ints] using this
        have hxk : x = .int .i64 (intOf (V k)) := by
          simp [ints, hkl] at hk; exact hk.symm
        have hc := (hel k (by omega)).1
        rw [show (⟨b, off, none⟩ : Addr).add k = ⟨b, off + k, none⟩ from by simp [Addr.add]] at hc
        rw [hc, hxk, ← (hV k hkl).1]
    · obtain ⟨i, hi, rfl⟩ := List.mem_map.1 hz
      exact (hV i (by simpa using hi)).2

/-- A list of numbers that is handed in. -/
structure ArgL (w : World) (v : Value) (zs : List Int) : Prop where
  lies : Lies w v (ints zs)
  fits : Fits zs
  len : zs.length ≤ 9223372036854775807
def ArgI (n : Int) : Prop := -9223372036854775808 ≤ n ∧ n ≤ 9223372036854775807
theorem arg_read {H : Type} {enc : TypeId × Value → H} {W : World} {base n : Nat} {spare : Nat → Bool} {held : Bool} {a0 : Option Addr} {l0 c0 : Nat} {y : DataW H × List MemPlace}
    (h : DataW.trod enc Tryz.prog W base spare held n 25 (Value.slice a0 l0 c0).cells.toList = some y) : ∃ xs : List Int, ArgL W (.slice a0 l0 c0) xs := by
  obtain ⟨xs, h1, h2, h3⟩ := ints_read h
  exact ⟨xs, h1, h2, h3⟩

end Go.Proofs.YtekkkoipcghlmaaGreatDoor

namespace Go.Proofs.YtekkkoipcghlmaaGreatDoor
open Go.RowKit

def NotAdd (t : TypeId) : Prop := t ≠ 77 ∧ t ≠ 69
theorem KeptT.add {base x : Nat} {kv pv : Value} {ms : List Nat} {pb : List UInt8} {w w' : World} (hX : XAt base w x kv ms pv pb) (ho : Only (XF x kv) w w') : KeptT NotAdd w w' := fun k cs t fz ht hk => ho.block k (lt_of_block hk) (fun hf => by
  rcases hf with rfl | hf
  · rw [hX.block] at hk
    cases hk
    exact ht.1 rfl
  · exact row_ne hX.row hk ht.2 hf)
theorem Only.added {base x : Nat} {kv pv : Value} {ms : List Nat} {pb : List UInt8} {w w' : World} (hX : XAt base w x kv ms pv pb) (ho : Only (XF x kv) w w') : Below base w w' := ho.below (fun k hk => by
  rcases hk with rfl | hk
  · exact hX.le
  · exact (hX.row.lt k hk).1) (by have := hX.le; have := lt_of_block hX.block; omega)

end Go.Proofs.YtekkkoipcghlmaaGreatDoor
