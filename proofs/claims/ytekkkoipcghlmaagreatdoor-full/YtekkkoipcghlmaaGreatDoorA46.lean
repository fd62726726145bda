import Derived.Test.YtekkkoipcghlmaaGreatDoorA45
import Derived.Test.YtekkkoipcghlmaaGreatDoorA39
import Derived.Test.YtekkkoipcghlmaaGreatDoorCards
import Derived.Test.YtekkkoipcghlmaaGreatDoorTie
import Derived.ProofKit
import Derived.OpenShut
import Derived.Deep.DeepHandedRow
import Derived.Deep.Slices
import Derived.Lib.LaidTab
import Derived.Lib.LaidU8
import Derived.Lay
import Derived.Stop.LaidErr
import Derived.Shelf.Vars
import Derived.SevenTiedAt
set_option linter.all false
namespace Go.Proofs.YtekkkoipcghlmaaGreatDoor
open Go.RowKit

/-- Clauses, and behind them literals as clauses: a list that grows. -/
structure UInv (base : Nat) (w0 wr : World) (u : Value) (vs : List Value) (L : List (List Int)) : Prop where
  row : wr.ownsRow base 25 1 u L.length vs
  rows : ∀ (i : Nat) (x : Value) (c : List Int), vs[i]? = some x → L[i]? = some c → RowT wr x c
  below : Below base w0 wr
  kept : KeptT (fun t => t ≠ 25) w0 wr
section
variable {base : Nat} {w0 wr w' : World} {u u' : Value} {vs : List Value} {L : List (List Int)}
theorem UInv.len (h : UInv base w0 wr u vs L) : vs.length = L.length := by have := h.row.1; simpa using this
theorem UInv.units (h : UInv base w0 wr u vs L) : UnitsT wr u L := ⟨vs, lies_of_owns h.row h.len, TypedAt.of_owns h.row, h.len, h.rows⟩
theorem UInv.push (h : UInv base w0 wr u vs L) {o : Obj} {x : Value} {c : List Int} {n : Nat} (hn : n = L.length + 1) (hown : w'.ownsRow base 25 1 u' n (vs ++ [x])) (hg : (wr.alloc o).grownBy w' u.ownBlock) (hx : RowT wr x c) (hb : base ≤ wr.heap.size) : UInv base w0 w' u' (vs ++ [x]) (L ++ [c]) := by
  have hal : Below wr.heap.size wr (wr.alloc o) := (Below.refl _ _).alloc (Nat.le_refl _) _
  have hk : KeptT (fun t => t ≠ 25) wr w' := (KeptT.of_below _ hal).trans (KeptT.grown hg (fun g hg' => (TypedAt.of_owns h.row).kept (KeptT.of_below (fun _ => True) hal) trivial g hg'))
  refine ⟨by rw [List.length_append, List.length_singleton, ← hn]; exact hown, fun i y d hy hd => ?_, ?_, h.kept.trans hk⟩
  · by_cases hi : i < vs.length
    · rw [List.getElem?_append_left hi] at hy
      rw [List.getElem?_append_left (by rw [← h.len]; exact hi)] at hd
      exact (h.rows i y d hy hd).kept hk (by decide)
    · have hl := (List.getElem?_eq_some_iff.1 hy).1
      simp at hl
      have : i = vs.length := by omega
      subst this
      rw [List.getElem?_append_right (Nat.le_refl _)] at hy
      rw [h.len, List.getElem?_append_right (Nat.le_refl _)] at hd
      simp at hy hd
      subst hy
      subst hd
      exact hx.kept hk (by decide)
  · have hle : base ≤ (wr.alloc o).heap.size := by simp; omega
    exact (h.below.alloc hb o).grown hg hle (fun j hj => (h.row.lt j hj).1)
end

/-- A part of a row. -/
theorem RowT.one {w : World} {g k cap c : Nat} {xs : List Int} (h : RowT w (.slice (some ⟨g, 0, none⟩) xs.length cap) xs) (hk : k < xs.length) : RowT w (.slice (some ⟨g, k, none⟩) 1 c) [xs[k]] := by
  refine ⟨?_, fun q hq => h.2 q (by simpa [Value.ownBlock] using hq)⟩
  rcases h.1 with ⟨h0, _⟩ | ⟨b, off, cap', hp, hv, hb, hc⟩
  · exfalso; have := congrArg List.length h0; simp [ints] at this; rw [this] at hk; simp at hk
  · simp only [Value.slice.injEq, Option.some.injEq, Addr.mk.injEq] at hv
    obtain ⟨⟨rfl, rfl, -⟩, -, rfl⟩ := hv
    refine .inr ⟨g, k, c, by simp [ints], rfl, hb, fun j y hy => ?_⟩
    have hj : j = 0 := by
      have := (List.getElem?_eq_some_iff.1 hy).1
      simpa [ints] using this
    subst hj
    have := hc k (.int .i64 xs[k]) (by simp [ints, hk])
    simp [ints] at hy
    subst hy
    rw [Nat.zero_add] at this
    exact this

theorem unit_snoc (l : List (List Int)) (xs : List Int) (k : Nat) (h : k < xs.length) : l ++ (xs.take (k + 1)).map (fun x => [x]) = (l ++ (xs.take k).map (fun x => [x])) ++ [[xs[k]]] := by
  rw [List.take_succ_eq_append_getElem h, List.map_append, List.append_assoc]; rfl

/-- A question without a budget of a solver of small clauses. -/
theorem solveK {base x : Nat} {kv pv av : Value} {L : List (List Int)} {pb : List UInt8} {A : List Int} {w : World} {n : Nat} (hX : XAt base w x kv (keptTo L L.length) pv pb) (he : EnvFrom base w) (hL : ∀ c, c ∈ L → Lits c ∧ c.length ≤ 3) (hl : L.length ≤ 100) (hA : In n A) (hn : n ≤ 12) (hAl : A.length ≤ 10000000) (hv : Lies w av (ints A)) (hpb : pb.length ≤ 140000000000000) :
    Calls Tryz.prog 18 #[.pointer (some ⟨x, 0, none⟩), av, .int .i64 0] w fun e w' => ∃ kind ao k c ao2 k2 c2 cf, e = .returned (.tuple #[.agg #[.int .i64 kind, .slice ao k c, .slice ao2 k2 c2, .int .i64 cf], .int .i64 0]) ∧ SolveRes base x kv (keptTo L L.length) pv pb (once A) 0 w kind (.slice ao k c) (.slice ao2 k2 c2) cf w' := by
  refine (solve_any base x kv pv av _ pb A 0 w hX (kept_fine hL hl) he hv hAl (by omega) (by omega) hpb).mono ?_
  rintro e w' (⟨h1, -⟩ | ⟨-, h1, -⟩ | ⟨-, -, kind, vm, vc, cf, rfl, hres⟩)
  · rw [hA.all hn] at h1; cases h1
  · omega
  · obtain ⟨⟨ao, k, c, rfl⟩, ao2, k2, c2, rfl⟩ := hres.vals
    exact ⟨kind, ao, k, c, ao2, k2, c2, cf, rfl, hres⟩

/-- What Tried sees of the verdict. -/
def TriedRes (w : World) (L : List (List Int)) (n : Nat) (kind : Int) (vm : Value) (k k2 : Nat) : Prop :=
  (kind = 2 ∧ k = 0 ∧ modelsTo L (2 ^ n) = 0) ∨ (kind = 1 ∧ k2 = 0 ∧ modelsTo L (2 ^ n) ≠ 0 ∧ ∃ b, b < 4096 ∧ L.all (holdsOf b) = true ∧ Lies w vm (ints (modelOf b)))
theorem tried_res {base x : Nat} {kv pv : Value} {L : List (List Int)} {pb : List UInt8} {A : List Int} {kind cf : Int} {ao ao2 : Option Addr} {k c k2 c2 : Nat} {w w' : World} {n : Nat} (h : SolveRes base x kv (keptTo L L.length) pv pb (once A) 0 w kind (.slice ao k c) (.slice ao2 k2 c2) cf w') (hL : ∀ c, c ∈ L → In n c ∧ c.length ≤ 3) (hl : L.length ≤ 100) (hA : In n A) (hn : n ≤ 12) : TriedRes w' (L ++ A.map (fun x => [x])) n kind (.slice ao k c) k k2 := by
  have hL' : ∀ c, c ∈ L → Lits c ∧ c.length ≤ 3 := fun c hc => ⟨(hL c hc).1.lits hn, (hL c hc).2⟩
  have hU : ∀ c, c ∈ L ++ A.map (fun x => [x]) → In n c := fun c hc => by
    rcases List.mem_append.1 hc with hc | hc
    · exact (hL c hc).1
    · obtain ⟨y, hy, rfl⟩ := List.mem_map.1 hc
      intro z hz
      simp at hz; subst hz
      exact hA z hy
  have hall : ∀ b, (∀ c, c ∈ L ++ A.map (fun x => [x]) → holdsOf b c = true) ↔ (∀ g, g ∈ keptTo L L.length → holdsB b g) ∧ ∀ y, y ∈ A → tru b y = true := fun b => by
    rw [kept_same hL' hl b]
    constructor
    · intro h
      exact ⟨fun c hc => h c (List.mem_append_left _ hc), fun y hy => by rw [← holds_one]; exact h [y] (List.mem_append_right _ (List.mem_map.2 ⟨y, hy, rfl⟩))⟩
    · rintro ⟨h1, h2⟩ c hc
      rcases List.mem_append.1 hc with hc | hc
      · exact h1 c hc
      · obtain ⟨y, hy, rfl⟩ := List.mem_map.1 hc
        rw [holds_one]; exact h2 y hy
  rcases h.verdict (fun y hy => (hA y hy).1) with ⟨h1, h2, b, h3, h4, h5, h6⟩ | ⟨h1, h2, h3⟩
  · have hm := (hall b).2 ⟨h5, h4⟩
    refine .inr ⟨h1, by cases h2; rfl, fun h0 => (models_any hU).1 h0 b hm, b, h3, by rw [List.all_eq_true]; exact hm, lies_of_owns h6 (by simp [ints, modelOf])⟩
  · exact .inl ⟨h1, by cases h2; rfl, (models_any hU).2 (fun b hb => h3 b ((hall b).1 hb).1 ((hall b).1 hb).2)⟩

set_option maxRecDepth 100000 in
set_option maxHeartbeats 3200000 in
theorem tried_walk (v1 v2 : Value) (zs ys : List Int) (vars : Int) (w : World) (h0 : -9223372036854775808 ≤ vars) (h1 : vars ≤ 9223372036854775807) (hl1 : zs.length ≤ 9223372036854775807) (hl2 : ys.length ≤ 9223372036854775807) (hf1 : Fits zs) (hf2 : Fits ys) (hv1 : Lies w v1 (ints zs)) (hv2 : Lies w v2 (ints ys)) (he : EnvT w) :
    Calls Tryz.prog 5 #[v1, v2, .int .i64 vars] w fun e w' => e = .returned (.bool true) ∧ Below w.heap.size w w' := by
  have HP : Hid (Calls Tryz.prog 14 #[.int .i64 vars, .int .i64 9] w fun e w' => (∃ d : Nat, d < 9 ∧ e = .returned (.int .i64 d)) ∧ w' = w) := hide (pickK_any vars 9 w h0 h1 (by decide) (by decide))
  have HC : Hid (∀ d : Nat, d < 9 → Calls Tryz.prog 15 #[v1, .int .i64 (1 + (d : Int)), .int .i64 60] w fun e w' => ∃ ov vs l, e = .returned ov ∧ w'.ownsRow w.heap.size 25 1 ov l.length vs ∧ RowsAt w' w.heap.size vs l ∧ l.length ≤ 60 ∧ (∀ c, c ∈ l → In (1 + d) c ∧ c.length ≤ 3) ∧ Below w.heap.size w w') := hide (fun d hd => by
    have := clausesK_any v1 zs (1 + d) 60 w hl1 hf1 (by omega) (by omega) (by decide) hv1
    rwa [show (((1 + d : Nat)) : Int) = 1 + (d : Int) from by omega] at this)
  have HSO : Hid (∀ (d : Nat) wx, d < 9 → Below w.heap.size w wx → Calls Tryz.prog 16 #[v2, .int .i64 (1 + (d : Int)), .int .i64 5] wx fun e w' => ∃ v' xs, e = .returned v' ∧ w'.ownsRow wx.heap.size 3 1 v' xs.length (ints xs) ∧ xs.length ≤ 5 ∧ In (1 + d) xs ∧ Below wx.heap.size wx w') := hide (fun d wx hd hb => by
    have := someK_any v2 ys (1 + d) 5 wx hl2 hf2 (by omega) (by omega) (by decide) (hv2.below hb)
    rwa [show (((1 + d : Nat)) : Int) = 1 + (d : Int) from by omega] at this)
  obtain ⟨a1, n1, c1, rfl⟩ : ∃ a n c, v1 = .slice a n c := by
    obtain ⟨a, c, h⟩ := lies_shape hv1; exact ⟨a, _, c, h⟩
  obtain ⟨a2, n2, c2, rfl⟩ : ∃ a n c, v2 = .slice a n c := by
    obtain ⟨a, c, h⟩ := lies_shape hv2; exact ⟨a, _, c, h⟩
  clear hv1 hv2 hf1 hf2
  go_enter Tryz.func5, Tryz.ntmps5
  go_wp2_with fail
  refine (unhide HP).mono ?_
  rintro e w1 ⟨⟨d, hd, rfl⟩, rfl⟩
  go_wp2_with fail
  refine (unhide HC d hd).mono ?_
  rintro e w2 ⟨ov, vs, l, rfl, hrow, hrows, hlen, hall, hb2⟩
  have HSO2 := hide (unhide HSO d w2 hd hb2)
  have HROW := hide hrow
  have HROWS := hide hrows
  have HALL := hide hall
  obtain ⟨oo, oc, hsh⟩ := owns_shape hrow
  subst hsh
  clear hrow hrows hall HP HC HSO
  go_wp2_with fail
  refine (unhide HSO2).mono ?_
  rintro e w3 ⟨av, xs, rfl, harow, hxl, hxi, hb3⟩
  have hb03 : Below w1.heap.size w1 w3 := hb2.trans (hb3.mono hb2.size)
  have HU0 : Hid (UInv w1.heap.size w3 w3 (.slice oo l.length oc) vs l) := hide ⟨owns_below (unhide HROW) hb3, fun i x c hx hc => (RowT.of_owns ((unhide HROWS).2 i x c hx hc) rfl).below hb3, Below.refl _ _, KeptT.refl _ _⟩
  have HL : Hid (∀ c, c ∈ l → Lits c ∧ c.length ≤ 3) := hide (fun c hc => ⟨((unhide HALL c hc).1).lits (by omega), (unhide HALL c hc).2⟩)
  have HSV := hide (solverK_any (.slice oo l.length oc) l w3 (by omega) (fun c hc => by have := (unhide HL c hc).2; omega) (unhide HU0).units.rows (kept_adds (unhide HL) (by omega)))
  have HXI := hide hxi
  have HAT : Hid (RowT w3 av xs) := hide (RowT.of_owns harow rfl)
  obtain ⟨ao, ac, hsh⟩ := owns_shape harow
  have HSH : Hid (0 < xs.length → ∃ g, ao = some ⟨g, 0, none⟩ ∧ xs.length ≤ ac) := hide (fun hp => by
    rcases harow.2 with ⟨hv, h0⟩ | ⟨g, cap, cur, hv, _, _, hle, _⟩
    · omega
    · rw [hsh] at hv; cases hv; exact ⟨g, rfl, hle⟩)
  subst hsh
  clear harow hxi HROW HROWS HSO2
  go_wp2_with fail
  refine (unhide HSV).mono ?_
  rintro e w4 ⟨kv, rfl, hX, hb4⟩
  have HX := hide hX
  have HB4 := hide hb4
  have HE4 : Hid (EnvFrom w3.heap.size w4) := hide ⟨w1, he, hb03.size, hb03.trans (hb4.mono hb03.size)⟩
  have HU4 : Hid (UInv w1.heap.size w4 w4 (.slice oo l.length oc) vs l) := hide ⟨owns_below (unhide HU0).row hb4, fun i x c hx hc => ((unhide HU0).rows i x c hx hc).below hb4, Below.refl _ _, KeptT.refl _ _⟩
  have HA4 := hide ((unhide HAT).below hb4)
  have hs3 := hb03.size
  have hs4 := hb4.size
  clear hX hb4 HSV HU0 HAT
  go_wp2_with fail
  go_loopw [12, 13] (fun u i wr => ∃ (k : Nat) (us : List Value) (uo : Option Addr) (uc : Nat), k ≤ xs.length ∧ i = .int .i64 k ∧ u = .slice uo (l.length + k) uc ∧ Hid (UInv w1.heap.size w4 wr (.slice uo (l.length + k) uc) us (l ++ (xs.take k).map (fun x => [x])))) (fun _ i _ => xs.length - (intOf i).toNat)
  case atStart => exact ⟨0, vs, oo, oc, Nat.zero_le _, rfl, rfl, by simpa using HU4⟩
  case round =>
    obtain ⟨k, us, uo, uc, hk, rfl, rfl, HU⟩ := hrel
    by_cases hlt : k < xs.length
    · obtain ⟨g, hg, hac⟩ := unhide HSH (by omega)
      subst hg
      have hwr : w4.heap.size ≤ wr.heap.size := (unhide HU).below.size
      have HR1 := hide (((unhide HA4).kept (unhide HU).kept (by decide)).one hlt (c := ac - k))
      have HS := hide (unit_snoc l xs k hlt)
      have hlen2 : (l ++ (xs.take k).map (fun x => [x])).length = l.length + k := by rw [List.length_append, List.length_map, List.length_take]; omega
      have HLN := hide hlen2
      clear hlen2
      go_wp2_with (at_builtin; refine append_cellS (base := w1.heap.size) rfl _ _ 27 25 rfl Tryz.underlying27 Tryz.infoInts rfl (by decide) (by have := (unhide HU).row; rw [unhide HLN] at this; exact this) rfl rfl rfl (by omega) (by omega) ?_; intro g2 cap2 w5 hown5 hgr5 hloc5; have HP5 := hide ((unhide HU).push (by rw [unhide HLN]) hown5 hgr5 (unhide HR1) (by omega)); clear hown5 hgr5 hloc5)
      go_roundw
      case rel => exact ⟨k + 1, _, _, _, by omega, by go_num, rfl, by rw [unhide HS]; exact HP5⟩
      case measure => simp [intOf]; omega
    · have hkx : k = xs.length := by omega
      subst hkx
      rw [List.take_length] at HU
      have hbr := (unhide HU).below
      have hsr := hbr.size
      have hX := (unhide HX).kept (unhide HU).kept (by decide) (by decide) (by decide)
      have HAr := hide ((unhide HA4).kept (unhide HU).kept (by decide))
      have HUr := hide (unhide HU).units
      have hB : Below w1.heap.size w1 wr := (hb03.trans ((unhide HB4).mono hs3)).trans hbr
      have hEr : EnvFrom w3.heap.size wr := ⟨w1, he, hs3, hB⟩
      have HCO : Hid (Calls Tryz.prog 19 #[.slice ao xs.length ac] wr fun e w' => ∃ co cn cc, e = .returned (.slice co cn cc) ∧ Hid (Lies w' (.slice co cn cc) (ints xs)) ∧ Below wr.heap.size wr w') := hide ((copiedK_any _ xs wr (by omega) (unhide HAr).1).mono (fun e w' h => by
        obtain ⟨v', h1, h2, h3⟩ := h
        obtain ⟨co, cc, rfl⟩ := owns_shape h2
        exact ⟨co, _, cc, h1, hide (lies_of_owns h2 (by simp [ints])), h3⟩))
      have HIN : Hid (∀ c, c ∈ l → In (1 + d) c ∧ c.length ≤ 3) := HALL
      have HUL : Hid (∀ c, c ∈ l ++ xs.map (fun x => [x]) → Lits c ∧ c.length ≤ 10000000) := hide (fun c hc => by
        rcases List.mem_append.1 hc with hc | hc
        · have := unhide HL c hc; exact ⟨this.1, by omega⟩
        · obtain ⟨y, hy, rfl⟩ := List.mem_map.1 hc
          refine ⟨fun z hz => ?_, by simp⟩
          simp at hz; subst hz
          have := unhide HXI z hy; omega)
      have HLU : Hid ((l ++ xs.map (fun x => [x])).length ≤ 10000000) := hide (by rw [List.length_append, List.length_map]; omega)
      have HSOL : Hid (∀ wx co cn cc, Below wr.heap.size wr wx → Lies wx (.slice co cn cc) (ints xs) → Calls Tryz.prog 18 #[.pointer (some ⟨w3.heap.size, 0, none⟩), .slice co cn cc, .int .i64 0] wx fun e w' => ∃ kind ao k c ao2 k2 c2 cf, e = .returned (.tuple #[.agg #[.int .i64 kind, .slice ao k c, .slice ao2 k2 c2, .int .i64 cf], .int .i64 0]) ∧ Hid (Below w1.heap.size w1 w') ∧ Hid (UnitsT w' (.slice uo (l.length + xs.length) uc) (l ++ xs.map (fun x => [x]))) ∧ Hid (TriedRes w' (l ++ xs.map (fun x => [x])) (1 + d) kind (.slice ao k c) k k2)) := hide (fun wx co cn cc hbx hlx => by
        have hXx := hX.below hbx
        refine (solveK (n := 1 + d) hXx (hEr.below (hbx.mono (by omega))) (unhide HL) (by omega) (unhide HXI) (by omega) (by omega) hlx (by simp)).mono ?_
        rintro e w' ⟨kind, ao, k, c, ao2, k2, c2, cf, rfl, hres⟩
        obtain ⟨hk1, hk2, -⟩ := hres.out hXx
        exact ⟨kind, ao, k, c, ao2, k2, c2, cf, rfl, hide ((hB.trans (hbx.mono hB.size)).trans (hk2.mono hs3)), hide (((unhide HUr).below hbx).kept hk1 ⟨by decide, by decide⟩ ⟨by decide, by decide⟩), hide (tried_res hres (unhide HIN) (by omega) (unhide HXI) (by omega))⟩)
      clear hX hEr HU HX HE4 HU4 HA4 HAr HUr HIN HXI HL HALL hbr HSH HB4
      generalize l ++ xs.map (fun x => [x]) = Lu at *
      go_wp2_with fail
      refine (unhide HCO).mono ?_
      rintro e w5 ⟨co, cn, cc, rfl, HL5, hb5⟩
      have HS5 := hide (unhide HSOL w5 co cn cc hb5 (unhide HL5))
      clear HSOL HCO
      go_wp2_with fail
      refine (unhide HS5).mono ?_
      rintro e w6 ⟨kind, mo, k, c, mo2, k2, c2, cf, rfl, HB6, HU6, HT6⟩
      have hb7 : Below w6.heap.size w6 (w6.alloc (.cells #[.int .i64 kind, .slice mo k c, .slice mo2 k2 c2, .int .i64 cf] 34)) := (Below.refl _ _).alloc (Nat.le_refl _) _
      have hbox := heap_alloc_new w6 (.cells #[.int .i64 kind, .slice mo k c, .slice mo2 k2 c2, .int .i64 cf] 34)
      have hz7 : (w6.alloc (.cells #[.int .i64 kind, .slice mo k c, .slice mo2 k2 c2, .int .i64 cf] 34)).heap.size = w6.heap.size + 1 := by simp
      clear HS5
      go_wp2_with fail
      generalize w6.alloc (.cells #[.int .i64 kind, .slice mo k c, .slice mo2 k2 c2, .int .i64 cf] 34) = w7 at *
      have q0 : w7.cell? ⟨w6.heap.size, 0, none⟩ = some (.int .i64 kind) := by simp [World.cell?, hbox]
      have q1 : w7.cell? ⟨w6.heap.size, 1, none⟩ = some (.slice mo k c) := by simp [World.cell?, hbox]
      have q2 : w7.cell? ⟨w6.heap.size, 2, none⟩ = some (.slice mo2 k2 c2) := by simp [World.cell?, hbox]
      have HBW : Hid (Below w1.heap.size w1 w7) := hide ((unhide HB6).trans (hb7.mono (unhide HB6).size))
      have HBQ : Hid (∀ n, Below w1.heap.size w1 (w7.drewN n)) := hide (fun n => belowDrew (unhide HBW) n)
      have HU7 := hide ((unhide HU6).below hb7)
      have HMO : Hid (Calls Tryz.prog 20 #[.slice uo (l.length + xs.length) uc, .int .i64 (1 + (d : Int))] w7 fun e w' => e = .returned (.int .i64 (modelsTo Lu (2 ^ (1 + d)) : Nat)) ∧ ∃ q, w' = w7.drewN q) := hide (by
        have := modelsK_any _ Lu (1 + d) w7 (unhide HLU) (by omega) (unhide HUL) (unhide HU7).rows
        rwa [show (((1 + d : Nat)) : Int) = 1 + (d : Int) from by omega] at this)
      have HALQ : Hid (∀ b q, b < 4096 → Calls Tryz.prog 22 #[.slice uo (l.length + xs.length) uc, .int .i64 (b : Nat)] (w7.drewN q) fun e w' => e = .returned (.bool (Lu.all (holdsOf b))) ∧ ∃ q2, w' = (w7.drewN q).drewN q2) := hide (fun b q hb => allK_any _ Lu b (w7.drewN q) (unhide HLU) hb (unhide HUL) ((unhide HU7).below (belowDrew (Below.refl _ _) q)).rows)
      refine (unhide HMO).mono ?_
      rintro e w8 ⟨rfl, q, rfl⟩
      have HB6' := HB6
      rcases unhide HT6 with ⟨rfl, rfl, hm0⟩ | ⟨rfl, rfl, hm0, b, hb, hba, hlm⟩
      · rw [hm0]
        clear HT6 hm0 HMO HALQ HU6 HU7 HUL HLU HB6 hbox
        go_wp2
        go_ret
        exact ⟨by simp, unhide HBQ q⟩
      · have HBI : Hid (Calls Tryz.prog 21 #[.slice mo k c] (w7.drewN q) fun e w' => e = .returned (.tuple #[.int .i64 b, .bool true]) ∧ ∃ q2, w' = (w7.drewN q).drewN q2) := hide (bitsK_any _ b (w7.drewN q) hb ((hlm.below hb7).below (belowDrew (Below.refl _ _) q)))
        have HAL := hide (fun q => unhide HALQ b q hb)
        rw [hba] at HAL
        have hmq : ((modelsTo Lu (2 ^ (1 + d)) : Int) == 0) = false := by rw [beq_eq_false_iff_ne]; omega
        clear HT6 hm0 HMO HALQ HU6 HU7 HUL HLU HB6 hbox hlm hba
        generalize modelsTo Lu (2 ^ (1 + d)) = mn at *
        go_wp2_with fail
        refine (unhide HBI).mono ?_
        rintro e w9 ⟨rfl, q2, rfl⟩
        rw [World.drewN_drewN]
        go_wp2_with fail
        refine (unhide HAL _).mono ?_
        rintro e w10 ⟨rfl, q3, rfl⟩
        rw [World.drewN_drewN]
        go_wp2
        go_ret
        exact ⟨by simp, unhide HBQ _⟩

end Go.Proofs.YtekkkoipcghlmaaGreatDoor

namespace Go.Proofs.YtekkkoipcghlmaaGreatDoor
open Go.ChangeShapes Go.WideShapes Go.ChangeAt Go.RowKit Go.Deep

theorem Tryz.ownKnob : ownKnob Tryz.prog.godebug = none := by kernel_rfl
theorem Tryz.gTabType : (Tryz.prog.globals[1]?).map (·.type) = some 238 := by kernel_rfl
theorem Tryz.gBrjType : (Tryz.prog.globals[0]?).map (·.type) = some 202 := by kernel_rfl
theorem Tryz.gBrj : Tryz.prog.globalNamed "math/bits.deBruijn32tab" = some 0 := by kernel_rfl
theorem Tryz.cellsU64 : Tryz.prog.cellsOf 230 = 1 := by kernel_rfl
theorem Tryz.cellsTab : Tryz.prog.cellsOf 238 = 20 := by kernel_rfl
theorem Tryz.cellsU8 : Tryz.prog.cellsOf 5 = 1 := by kernel_rfl
theorem Tryz.cellsBrj : Tryz.prog.cellsOf 202 = 32 := by kernel_rfl
theorem Tryz.cellsInt : Tryz.prog.cellsOf 3 = 1 := by kernel_rfl
theorem brj_of {W : World} (h : Lib.TabIs Tryz.prog W "math/bits.deBruijn32tab" .u8 (Lib.deBruijn32tab.map Int.ofNat)) : 0 < W.heap.size ∧ TabAt 0 Lib.deBruijn32tab W := by
  have hc : ∀ j, j < 32 → W.cell? ⟨0, j, none⟩ = some (.int .u8 ((Lib.deBruijn32tab.map Int.ofNat).getD j 0)) := fun j hj => h.cell Tryz.gBrj j hj
  refine ⟨World.block_lt_of_cell? W _ (hc 0 (by decide)), fun j hj => ?_⟩
  have hj' : j < 32 := hj
  rw [hc j hj']
  congr 2
  have : ∀ j : Fin 32, (Lib.deBruijn32tab.map Int.ofNat).getD j.val 0 = ((Lib.deBruijn32tab.getD j.val 0 : Nat) : Int) := by decide
  exact this ⟨j, hj'⟩

theorem tab_eq : (Rows.laid_internal_strconv_uint64pow10 : DataW Unit) = Lib.tabData .u64 Lib.pow10Tab := by kernel_rfl
theorem brj_eq : (Rows.laid_math_bits_deBruijn32tab : DataW Unit) = Lib.tabData .u8 (Lib.deBruijn32tab.map Int.ofNat) := by kernel_rfl

end Go.Proofs.YtekkkoipcghlmaaGreatDoor

namespace Go.Proofs.YtekkkoipcghlmaaGreatDoor
open Go.ChangeShapes Go.WideShapes Go.ChangeAt Go.RowKit Go.Deep

theorem Tryz.laidOutS : laidOutB Tryz.prog = true := by kernel_rfl
theorem wf_bdS {n : Int} (h : (Lit.int .i64 n).wf = true) : -9223372036854775808 ≤ n ∧ n ≤ 9223372036854775807 := by
  have h1 : IntKind.i64.min = -9223372036854775808 := by decide
  have h2 : IntKind.i64.max = 9223372036854775807 := by decide
  simp only [Lit.wf, Bool.and_eq_true, decide_eq_true_eq] at h
  rw [h1, h2] at h
  exact h

/-- A list of numbers, out of its reading. -/
theorem ints_read {H : Type} {enc : TypeId × Value → H} {W : World} {base n : Nat} {spare : Nat → Bool} {held : Bool} {a0 : Option Addr} {l0 c0 : Nat} {y : DataW H × List MemPlace}
    (h : DataW.trod enc Tryz.prog W base spare held n 25 (Value.slice a0 l0 c0).cells.toList = some y) : ∃ xs : List Int, Lies W (.slice a0 l0 c0) (ints xs) ∧ Fits xs ∧ xs.length ≤ 9223372036854775807 := by
  rcases open_slice1 Tryz.underlying25 Tryz.cellsInt h with ⟨hcs, hx⟩ | ⟨a, len, cap, m, n', V, D, Pl, hcs, hab, hl, hm, hmm, hx, hel⟩
  · simp [Value.cells] at hcs
    obtain ⟨rfl, rfl, rfl⟩ := hcs
    exact ⟨[], Lies.nil _, fun z hz => (by cases hz), by simp⟩
  · simp [Value.cells] at hcs
    obtain ⟨rfl, rfl, rfl⟩ := hcs
    have hlm : l0 ≤ m := by rw [hmm]; split <;> omega
    have hV : ∀ i, i < l0 → V i = .int .i64 (intOf (V i)) ∧ (-9223372036854775808 ≤ intOf (V i) ∧ intOf (V i) ≤ 9223372036854775807) := fun i hi => by
      obtain ⟨_, ht⟩ := hel i (by omega)
      obtain ⟨q, e0, _, hw⟩ := DataW.trod_int Tryz.underlying3 ht
      simp at e0; rw [e0]
      exact ⟨rfl, wf_bdS hw⟩
    refine ⟨(List.range l0).map (fun i => intOf (V i)), ?_, fun z hz => ?_, by unfold maxLen at hm; simp; omega⟩
    · by_cases h0 : l0 = 0
      · subst h0; exact .inl ⟨rfl, _, _, rfl⟩
      · obtain ⟨b, off, spot⟩ := a
        have cz := (hel 0 (by omega)).1
        have hspot : spot = none := by simpa [Addr.add] using World.cell?_spot cz
        subst hspot
        have hb : b < W.heap.size := by simpa [Addr.add] using World.block_lt_of_cell? W _ cz
        refine .inr ⟨b, off, c0, by simp [ints]; omega, by simp [ints], hb, fun k x hk => ?_⟩
        have hkl : k < l0 := by
          have := (List.getElem?_eq_some_iff.1 hk).1
          simpa [ints] using this
        have hxk : x = .int .i64 (intOf (V k)) := by
          simp [ints, hkl] at hk; exact hk.symm
        have hc := (hel k (by omega)).1
        rw [show (⟨b, off, none⟩ : Addr).add k = ⟨b, off + k, none⟩ from by simp [Addr.add]] at hc
        rw [hc, hxk, ← (hV k hkl).1]
    · obtain ⟨i, hi, rfl⟩ := List.mem_map.1 hz
      exact (hV i (by simpa using hi)).2

/-- A list of numbers that is handed in. -/
structure ArgL (w : World) (v : Value) (zs : List Int) : Prop where
  lies : Lies w v (ints zs)
  fits : Fits zs
  len : zs.length ≤ 9223372036854775807
def ArgI (n : Int) : Prop := -9223372036854775808 ≤ n ∧ n ≤ 9223372036854775807
theorem arg_read {H : Type} {enc : TypeId × Value → H} {W : World} {base n : Nat} {spare : Nat → Bool} {held : Bool} {a0 : Option Addr} {l0 c0 : Nat} {y : DataW H × List MemPlace}
    (h : DataW.trod enc Tryz.prog W base spare held n 25 (Value.slice a0 l0 c0).cells.toList = some y) : ∃ xs : List Int, ArgL W (.slice a0 l0 c0) xs := by
  obtain ⟨xs, h1, h2, h3⟩ := ints_read h
  exact ⟨xs, h1, h2, h3⟩

end Go.Proofs.YtekkkoipcghlmaaGreatDoor

namespace Go.Proofs.YtekkkoipcghlmaaGreatDoor
open Go.ChangeShapes Go.WideShapes Go.ChangeAt Go.RowKit Go.Deep

/-- The tables, out of what is laid for Tried and Full. -/
theorem envT_of {W : World} (hL0 : laidMetH Tryz.prog Rows.triedRow.laid W) (_hS : W.ShapedOpen Tryz.prog) : EnvT W := by
  have hL := hL0
  rw [MakeChecks.laidMetH_plain _ _ _ (by kernel_rfl)] at hL
  have hT : Lib.TabIs Tryz.prog W "internal/strconv.uint64pow10" .u64 Lib.pow10Tab := by
    have h2 : laidMet Tryz.prog (("internal/strconv.uint64pow10", Rows.laid_internal_strconv_uint64pow10) :: _) W := hL.tail.tail
    rw [tab_eq] at h2
    exact Lib.tabIs_of_head Tryz.gTab Tryz.gTabType Tryz.underlying238 Tryz.underlying230 Tryz.cellsU64 Tryz.cellsTab h2
  have hB : Lib.TabIs Tryz.prog W "math/bits.deBruijn32tab" .u8 (Lib.deBruijn32tab.map Int.ofNat) := by
    have h2 : laidMet Tryz.prog (("math/bits.deBruijn32tab", Rows.laid_math_bits_deBruijn32tab) :: _) W := hL
    rw [brj_eq] at h2
    exact Lib.tabIs_of_head Tryz.gBrj Tryz.gBrjType Tryz.underlying202 Tryz.underlying5 Tryz.cellsU8 Tryz.cellsBrj h2
  exact ⟨hT, brj_of hB⟩

theorem tried_all (v0 : Value) (z0 : List Int) (v1 : Value) (z1 : List Int) (n2 : Int) (w : World) (a0 : ArgL w v0 z0) (a1 : ArgL w v1 z1) (b2 : ArgI n2) (he : EnvT w) :
    Calls Tryz.prog 5 #[v0, v1, .int .i64 n2] w fun e w' => e = .returned (.bool true) ∧ Below w.heap.size w w' :=
  tried_walk v0 v1 z0 z1 n2 w b2.1 b2.2 a0.len a1.len a0.fits a1.fits a0.lies a1.lies he

end Go.Proofs.YtekkkoipcghlmaaGreatDoor
