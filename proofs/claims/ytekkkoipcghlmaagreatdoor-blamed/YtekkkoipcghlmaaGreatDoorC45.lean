import Derived.Test.YtekkkoipcghlmaaGreatDoorC43
set_option linter.all false
namespace Go.Proofs.YtekkkoipcghlmaaGreatDoor
open Go.RowKit

/-- What Blamed has of the first question. -/
structure BlamedAt (base x : Nat) (kv : Value) (l : List (List Int)) (xs : List Int) (n : Nat) (w : World) (vc : Value) (k2 : Nat) (core : List Int) (pv : Value) (pb : List UInt8) : Prop where
  solver : XAt base w x kv (keptTo l l.length) pv pb
  small : pb.length ≤ 2000000000
  acc : Accepted (keptTo l l.length) pb
  ne : pb ≠ []
  row : RowT w vc core
  shape : 0 < core.length → ∃ g cap, vc = .slice (some ⟨g, 0, none⟩) core.length cap ∧ core.length ≤ cap
  len : k2 = core.length
  sub : ∀ y, y ∈ core → y ∈ xs
  short : core.length ≤ 12
  blame : ∀ b, (∀ c, c ∈ l → holdsOf b c = true) → ∃ y, y ∈ core ∧ tru b y = false

theorem blamed_res {base x : Nat} {kv pv : Value} {L : List (List Int)} {A : List Int} {cf : Int} {ao ao2 : Option Addr} {k c k2 c2 : Nat} {w w' : World} {n : Nat} (hX : XAt base w x kv (keptTo L L.length) pv []) (h : SolveRes base x kv (keptTo L L.length) pv [] (once A) 0 w 2 (.slice ao k c) (.slice ao2 k2 c2) cf w') (hL : ∀ c, c ∈ L → In n c ∧ c.length ≤ 3) (hl : L.length ≤ 100) (hA : In n A) (hAl : A.length ≤ 12) (hn : n ≤ 12) : ∃ core pv' pb', BlamedAt base x kv L A n w' (.slice ao2 k2 c2) k2 core pv' pb' := by
  have hL' : ∀ c, c ∈ L → Lits c ∧ c.length ≤ 3 := fun c hc => ⟨(hL c hc).1.lits hn, (hL c hc).2⟩
  have hAo : Lits (once A) := fun y hy => hA.lits hn y ((once_mem A y).1 hy)
  obtain ⟨core, ⟨p, hp⟩, hrow, hbl⟩ := h.core (fun y hy => (hAo y hy).1) rfl
  obtain ⟨pv', S, h1, h2, h3, h4⟩ := (Accepted.nil (keptTo L L.length)).solve h hAo
  obtain ⟨core2, U, -, -, hU⟩ := h4 rfl
  have hlen : k2 = core.length := by
    obtain ⟨a, c, hs⟩ := owns_shape hrow
    simp only [Value.slice.injEq] at hs
    exact hs.2.1
  refine ⟨core, pv', [] ++ S, h1, by rw [List.nil_append]; omega, h3, by rw [hU]; simp [Sp.told], RowT.of_owns hrow rfl, fun hp => ?_, hlen, fun y hy => ?_, ?_, fun b hb => hbl b ((kept_same hL' hl b).2 hb)⟩
  · rcases hrow.2 with ⟨-, h0⟩ | ⟨g, cap, cur, hv, -, -, hle, -⟩
    · omega
    · exact ⟨g, cap, hv, hle⟩
  · rw [hp] at hy
    exact (once_mem A y).1 (List.mem_filter.1 hy).1
  · rw [hp]
    have := List.length_filter_le p (once A)
    have := once_len A
    omega

section
variable {base x : Nat} {kv vc pv : Value} {l : List (List Int)} {xs core : List Int} {n k2 : Nat} {w w' : World} {pb : List UInt8}
theorem BlamedAt.below (h : BlamedAt base x kv l xs n w vc k2 core pv pb) (hb : Below w.heap.size w w') : BlamedAt base x kv l xs n w' vc k2 core pv pb :=
  ⟨h.solver.below hb, h.small, h.acc, h.ne, h.row.below hb, h.shape, h.len, h.sub, h.short, h.blame⟩
theorem BlamedAt.kept (h : BlamedAt base x kv l xs n w vc k2 core pv pb) (hk : KeptT (fun t => t ≠ 25) w w') : BlamedAt base x kv l xs n w' vc k2 core pv pb :=
  ⟨h.solver.kept hk (by decide) (by decide) (by decide), h.small, h.acc, h.ne, h.row.kept hk (by decide), h.shape, h.len, h.sub, h.short, h.blame⟩
/-- With the core alone there is no model. -/
theorem BlamedAt.none (h : BlamedAt base x kv l xs n w vc k2 core pv pb) (hl : ∀ c, c ∈ l → In n c) (hx : In n xs) : modelsTo (l ++ core.map (fun x => [x])) (2 ^ n) = 0 := by
  refine (models_any (fun c hc => ?_)).2 (fun b hb => ?_)
  · rcases List.mem_append.1 hc with hc | hc
    · exact hl c hc
    · obtain ⟨y, hy, rfl⟩ := List.mem_map.1 hc
      intro z hz
      simp at hz; subst hz
      exact hx z (h.sub z hy)
  · obtain ⟨y, hy, ht⟩ := h.blame b (fun c hc => hb c (List.mem_append_left _ hc))
    have := hb [y] (List.mem_append_right _ (List.mem_map.2 ⟨y, hy, rfl⟩))
    rw [holds_one, ht] at this
    cases this
end

/-- Does a number stand among the first m? -/
def seenIn (c : Int) (l : List Int) (m : Nat) : Bool := (l.take m).contains c
theorem seenIn_zero (c : Int) (l : List Int) : seenIn c l 0 = false := by simp [seenIn]
theorem seenIn_succ (c : Int) (l : List Int) (m : Nat) (h : m < l.length) : seenIn c l (m + 1) = (seenIn c l m || l[m] == c) := by
  unfold seenIn
  rw [List.take_succ_eq_append_getElem h, Bool.eq_iff_iff]
  simp only [Bool.or_eq_true, List.contains_iff_mem, List.mem_append, List.mem_singleton, beq_iff_eq]
  constructor
  · rintro (h1 | h1)
    · exact .inl h1
    · exact .inr h1.symm
  · rintro (h1 | h1)
    · exact .inl h1
    · exact .inr h1.symm
theorem seenIn_all {c : Int} {l : List Int} (h : c ∈ l) : seenIn c l l.length = true := by
  unfold seenIn
  rw [List.take_length]
  simpa using h

set_option maxRecDepth 100000 in
set_option maxHeartbeats 6400000 in
theorem blamed_walk (v1 v2 : Value) (zs ys : List Int) (vars : Int) (w : World) (h0 : -9223372036854775808 ≤ vars) (h1 : vars ≤ 9223372036854775807) (hl1 : zs.length ≤ 9223372036854775807) (hl2 : ys.length ≤ 9223372036854775807) (hf1 : Fits zs) (hf2 : Fits ys) (hv1 : Lies w v1 (ints zs)) (hv2 : Lies w v2 (ints ys)) (he : Env w) :
    Calls Tryz.prog 9 #[v1, v2, .int .i64 vars] w fun e w' => e = .returned (.bool true) ∧ Below w.heap.size w w' := by
  have HP : Hid (Calls Tryz.prog 14 #[.int .i64 vars, .int .i64 9] w fun e w' => (∃ d : Nat, d < 9 ∧ e = .returned (.int .i64 d)) ∧ w' = w) := hide (pickK_any vars 9 w h0 h1 (by decide) (by decide))
  have HC : Hid (∀ d : Nat, d < 9 → Calls Tryz.prog 15 #[v1, .int .i64 (1 + (d : Int)), .int .i64 60] w fun e w' => ∃ ov vs l, e = .returned ov ∧ w'.ownsRow w.heap.size 25 1 ov l.length vs ∧ RowsAt w' w.heap.size vs l ∧ l.length ≤ 60 ∧ (∀ c, c ∈ l → In (1 + d) c ∧ c.length ≤ 3) ∧ Below w.heap.size w w') := hide (fun d hd => by
    have := clausesK_any v1 zs (1 + d) 60 w hl1 hf1 (by omega) (by omega) (by decide) hv1
    rwa [show (((1 + d : Nat)) : Int) = 1 + (d : Int) from by omega] at this)
  have HSO : Hid (∀ (d : Nat) wx, d < 9 → Below w.heap.size w wx → Calls Tryz.prog 16 #[v2, .int .i64 (1 + (d : Int)), .int .i64 12] wx fun e w' => ∃ v' xs, e = .returned v' ∧ w'.ownsRow wx.heap.size 3 1 v' xs.length (ints xs) ∧ xs.length ≤ 12 ∧ In (1 + d) xs ∧ Below wx.heap.size wx w') := hide (fun d wx hd hb => by
    have := someK_any v2 ys (1 + d) 12 wx hl2 hf2 (by omega) (by omega) (by decide) (hv2.below hb)
    rwa [show (((1 + d : Nat)) : Int) = 1 + (d : Int) from by omega] at this)
  obtain ⟨a1, n1, c1, rfl⟩ : ∃ a n c, v1 = .slice a n c := by
    obtain ⟨a, c, h⟩ := lies_shape hv1; exact ⟨a, _, c, h⟩
  obtain ⟨a2, n2, c2, rfl⟩ : ∃ a n c, v2 = .slice a n c := by
    obtain ⟨a, c, h⟩ := lies_shape hv2; exact ⟨a, _, c, h⟩
  clear hv1 hv2 hf1 hf2
  go_enter Tryz.func9, Tryz.ntmps9
  go_wp2_with fail
  refine (unhide HP).mono ?_
  rintro e w1 ⟨⟨d, hd, rfl⟩, rfl⟩
  go_wp2_with fail
  refine (unhide HC d hd).mono ?_
  rintro e w2 ⟨ov, vs, l, rfl, hrow, hrows, hlen, hall, hb2⟩
  have HSO2 := hide (unhide HSO d w2 hd hb2)
  have HROW := hide hrow
  have HROWS := hide hrows
  have HALL := hide hall
  obtain ⟨oo, oc, hsh⟩ := owns_shape hrow
  subst hsh
  clear hrow hrows hall HP HC HSO
  go_wp2_with fail
  refine (unhide HSO2).mono ?_
  rintro e w3 ⟨av, xs, rfl, harow, hxl, hxi, hb3⟩
  have hb03 : Below w1.heap.size w1 w3 := hb2.trans (hb3.mono hb2.size)
  have HL : Hid (∀ c, c ∈ l → Lits c ∧ c.length ≤ 3) := hide (fun c hc => ⟨((unhide HALL c hc).1).lits (by omega), (unhide HALL c hc).2⟩)
  have HR3 : Hid (w3.ownsRow w1.heap.size 25 1 (.slice oo l.length oc) l.length vs ∧ RowsAt w3 w1.heap.size vs l) := hide ⟨owns_below (unhide HROW) hb3, (unhide HROWS).below hb3⟩
  have HSV := hide (solverK_any (.slice oo l.length oc) l w3 (by omega) (fun c hc => by have := (unhide HL c hc).2; omega) (UnitsT.of_rows (unhide HR3).1 (unhide HR3).2).rows (kept_adds (unhide HL) (by omega)))
  have HXI := hide hxi
  have HAT : Hid (RowT w3 av xs) := hide (RowT.of_owns harow rfl)
  obtain ⟨ao, ac, hsh⟩ := owns_shape harow
  subst hsh
  clear harow hxi HROW HROWS HSO2
  go_wp2_with fail
  refine (unhide HSV).mono ?_
  rintro e w4 ⟨kv, rfl, hX, hb4⟩
  have hb04 : Below w1.heap.size w1 w4 := hb03.trans (hb4.mono hb03.size)
  have HW := hide (works_any w4 (he.below hb04).toEnvT)
  have HX := hide hX
  have hs3 := hb03.size
  have hs4 := hb4.size
  clear HSV hX
  go_wp2_with fail
  refine (unhide HW).mono ?_
  rintro e w5 ⟨rfl, hb5⟩
  have hb05 : Below w1.heap.size w1 w5 := hb04.trans (hb5.mono hb04.size)
  have HX5 := hide ((unhide HX).below hb5)
  have HA5 := hide (((unhide HAT).below hb4).below hb5)
  have HR5 : Hid (w5.ownsRow w1.heap.size 25 1 (.slice oo l.length oc) l.length vs ∧ RowsAt w5 w1.heap.size vs l) := hide ⟨owns_below (owns_below (unhide HR3).1 hb4) hb5, ((unhide HR3).2.below hb4).below hb5⟩
  have hs5 := hb5.size
  have HENV : Hid (∀ wx, Below w1.heap.size w1 wx → EnvFrom w3.heap.size wx ∧ Env wx) := hide (fun wx hb => ⟨⟨w1, he.toEnvT, hs3, hb⟩, he.below hb⟩)
  have HCO : Hid (Calls Tryz.prog 19 #[.slice ao xs.length ac] w5 fun e w' => ∃ co cn cc, e = .returned (.slice co cn cc) ∧ Hid (Lies w' (.slice co cn cc) (ints xs)) ∧ Below w5.heap.size w5 w') := hide ((copiedK_any _ xs w5 (by omega) (unhide HA5).1).mono (fun e w' h => by
    obtain ⟨v', h1, h2, h3⟩ := h
    obtain ⟨co, cc, rfl⟩ := owns_shape h2
    exact ⟨co, _, cc, h1, hide (lies_of_owns h2 (by simp [ints])), h3⟩))
  have HSOL : Hid (∀ wx co cn cc, Below w5.heap.size w5 wx → Lies wx (.slice co cn cc) (ints xs) → Calls Tryz.prog 18 #[.pointer (some ⟨w3.heap.size, 0, none⟩), .slice co cn cc, .int .i64 0] wx fun e w' => ∃ kind ao' k c ao2 k2 c2 cf, e = .returned (.tuple #[.agg #[.int .i64 kind, .slice ao' k c, .slice ao2 k2 c2, .int .i64 cf], .int .i64 0]) ∧ Hid (Below w1.heap.size w1 w') ∧ Hid (RowT w' (.slice ao xs.length ac) xs) ∧ Hid (w'.ownsRow w1.heap.size 25 1 (.slice oo l.length oc) l.length vs ∧ RowsAt w' w1.heap.size vs l) ∧ Hid ((kind = 1 ∧ ∃ pv pb, XAt w3.heap.size w' w3.heap.size kv (keptTo l l.length) pv pb ∧ pb.length ≤ 1000000000) ∨ (kind = 2 ∧ ∃ core pv pb, BlamedAt w3.heap.size w3.heap.size kv l xs (1 + d) w' (.slice ao2 k2 c2) k2 core pv pb))) := hide (fun wx co cn cc hbx hlx => by
    have hXx := (unhide HX5).below hbx
    have hBx := hb05.trans (hbx.mono hb05.size)
    refine (solveK (n := 1 + d) hXx (unhide HENV wx hBx).1 (unhide HL) (by omega) (unhide HXI) (by omega) (by omega) hlx (by simp)).mono ?_
    rintro e w' ⟨kind, ao', k, c, ao2, k2, c2, cf, rfl, hres⟩
    obtain ⟨hk1, hk2, pv', S, hk3, hk4⟩ := hres.out hXx
    refine ⟨kind, ao', k, c, ao2, k2, c2, cf, rfl, hide (hBx.trans (hk2.mono hs3)), hide (((unhide HA5).below hbx).kept hk1 ⟨by decide, by decide⟩), hide ⟨owns_kept (owns_below (unhide HR5).1 hbx) hk1 ⟨by decide, by decide⟩, rowsAt_keptB ((unhide HR5).2.below hbx) hk1 ⟨by decide, by decide⟩⟩, hide ?_⟩
    rcases hres.verdict (fun y hy => (unhide HXI y hy).1) with ⟨h1, -⟩ | ⟨h1, -⟩
    · exact .inl ⟨h1, pv', _, hk3, by rw [List.nil_append]; exact hk4⟩
    · subst h1
      exact .inr ⟨rfl, blamed_res hXx hres (unhide HALL) (by omega) (unhide HXI) hxl (by omega)⟩)
  have HLI : Hid (∀ c, c ∈ l → In (1 + d) c) := hide (fun c hc => (unhide HALL c hc).1)
  -- the end: what trying all values gives
  have HMOD : Hid (∀ wx, UnitsT wx (.slice oo l.length oc) l → Calls Tryz.prog 20 #[.slice oo l.length oc, .int .i64 (1 + (d : Int))] wx fun e w' => e = .returned (.int .i64 (modelsTo l (2 ^ (1 + d)) : Nat)) ∧ ∃ q, w' = wx.drewN q) := hide (fun wx hu => by
    have := modelsK_any _ l (1 + d) wx (by omega) (by omega) (fun c hc => ⟨(unhide HL c hc).1, by have := (unhide HL c hc).2; omega⟩) hu.rows
    rwa [show (((1 + d : Nat)) : Int) = 1 + (d : Int) from by omega] at this)
  have HVN : Hid (∀ wx pv pb, XAt w3.heap.size wx w3.heap.size kv (keptTo l l.length) pv pb → pb.length ≤ 100000000000 → Below w1.heap.size w1 wx → Calls Tryz.prog 25 #[.pointer (some ⟨w3.heap.size, 0, none⟩), .slice none 0 0] wx fun e w' => e = .returned (.int .i64 (if modelsTo l (2 ^ (1 + d)) = 0 then 2 else 1)) ∧ Below w1.heap.size w1 w') := hide (fun wx pv pb hX hp hb => (verdictN (n := 1 + d) hX (unhide HENV wx hb).1 (unhide HALL) (by omega) (by omega) (by omega)).mono (fun e w' h => ⟨h.1, hb.trans (h.2.mono hs3)⟩))
  clear HX HAT HR3 HX5 HA5 HR5 HW
  go_wp2_with fail
  refine (unhide HCO).mono ?_
  rintro e w6 ⟨co, cn, cc, rfl, HL6, hb6⟩
  have HS6 := hide (unhide HSOL w6 co cn cc hb6 (unhide HL6))
  clear HSOL HCO
  go_wp2_with fail
  refine (unhide HS6).mono ?_
  rintro e w7 ⟨kind, mo, mk, mc, mo2, k2, c2, cf, rfl, HB7, HA7, HR7, HK7⟩
  obtain ⟨w8, hw8⟩ : ∃ w8, w7.alloc (.cells #[.int .i64 kind, .slice mo mk mc, .slice mo2 k2 c2, .int .i64 cf] 34) = w8 := ⟨_, rfl⟩
  have hb8 : Below w7.heap.size w7 w8 := by rw [← hw8]; exact below_new w7 _
  have hbox8 : w8.heap[w7.heap.size]? = some (.cells #[.int .i64 kind, .slice mo mk mc, .slice mo2 k2 c2, .int .i64 cf] 34) := by rw [← hw8]; exact heap_alloc_new w7 _
  have HB8 : Hid (Below w1.heap.size w1 w8) := hide ((unhide HB7).trans (hb8.mono (unhide HB7).size))
  have HA8 := hide ((unhide HA7).below hb8)
  have HR8 : Hid (LInv w1.heap.size w8 w8 (.slice oo l.length oc) (.slice oo l.length oc) vs vs l) := hide (LInv.start (owns_below (unhide HR7).1 hb8) ((unhide HR7).2.below hb8))
  have HVL : Hid (vs.length = l.length) := hide (unhide HR7).2.1
  have p0 : w8.cell? ⟨w7.heap.size, 0, none⟩ = some (.int .i64 kind) := by simp [World.cell?, hbox8]
  have HBOX := hide hbox8
  clear HS6 hbox8 HR7 HA7 HB7
  rcases unhide HK7 with ⟨rfl, pv, pb, hX7, hpb⟩ | ⟨rfl, core, pv, pb, hBA7⟩
  · have HX8 := hide (hX7.below hb8)
    have HM8 := hide (unhide HMOD w8 (by have := unhide HR8; exact (LInv.list (l := l) (M := []) (by rw [List.append_nil]; exact this) (unhide HVL))))
    have HV8 : Hid (∀ q, Calls Tryz.prog 25 #[.pointer (some ⟨w3.heap.size, 0, none⟩), .slice none 0 0] (w8.drewN q) fun e w' => e = .returned (.int .i64 (if modelsTo l (2 ^ (1 + d)) = 0 then 2 else 1)) ∧ Below w1.heap.size w1 w') := hide (fun q => unhide HVN (w8.drewN q) pv pb ((unhide HX8).below (belowDrew (Below.refl _ _) q)) (by omega) (belowDrew (unhide HB8) q))
    clear HK7 hX7 hpb hb8 HVN HMOD HX8
    by_cases hm : modelsTo l (2 ^ (1 + d)) = 0
    · rw [hm] at HM8
      rw [if_pos hm] at HV8
      clear hm
      go_wp2_with fail
      refine (unhide HM8).mono ?_
      rintro e w9 ⟨rfl, q, rfl⟩
      go_wp2_with fail
      refine (unhide HV8 q).mono ?_
      rintro e w10 ⟨rfl, hb10⟩
      go_wp2
      go_ret
      exact ⟨rfl, hb10⟩
    · rw [if_neg hm] at HV8
      have hmq : ((modelsTo l (2 ^ (1 + d)) : Int) == 0) = false := by rw [beq_eq_false_iff_ne]; omega
      generalize modelsTo l (2 ^ (1 + d)) = mn at *
      clear hm
      go_wp2_with fail
      refine (unhide HM8).mono ?_
      rintro e w9 ⟨rfl, q, rfl⟩
      go_wp2_with fail
      refine (unhide HV8 q).mono ?_
      rintro e w10 ⟨rfl, hb10⟩
      go_wp2
      go_ret
      exact ⟨rfl, hb10⟩
  · have HBA := hide (hBA7.below hb8)
    have hk2 := hBA7.len
    have hcs := hBA7.short
    have hs8 : w1.heap.size ≤ w8.heap.size := (unhide HB8).size
    subst hk2
    clear HK7 hBA7 hb8
    go_wp2_with fail
    go_loopw [15, 16, 17, 18] (fun u i _ _ wr => ∃ (k : Nat) (us : List Value) (uo : Option Addr) (uc : Nat), k ≤ core.length ∧ i = .int .i64 k ∧ u = .slice uo (l.length + k) uc ∧ Hid (LInv w1.heap.size w8 wr (.slice oo l.length oc) (.slice uo (l.length + k) uc) vs us (l ++ (core.take k).map (fun x => [x])))) (fun _ i _ _ _ => core.length - (intOf i).toNat)
    case atStart => exact ⟨0, vs, oo, oc, Nat.zero_le _, rfl, rfl, by simpa using HR8⟩
    case round =>
      obtain ⟨k, us, uo, uc, hk, rfl, rfl, HU⟩ := hrel
      have hwr : w8.heap.size ≤ wr.heap.size := (unhide HU).inv.below.size
      have hbox : wr.heap[w7.heap.size]? = some (.cells #[.int .i64 2, .slice mo mk mc, .slice mo2 core.length c2, .int .i64 cf] 34) := ((unhide HU).inv.kept _ _ _ _ (by decide) (unhide HBOX)).trans (unhide HBOX)
      have q2 : wr.cell? ⟨w7.heap.size, 2, none⟩ = some (.slice mo2 core.length c2) := by simp [World.cell?, hbox]
      have hbl : w7.heap.size < wr.heap.size := lt_of_block hbox
      have HBAr := hide ((unhide HBA).kept (unhide HU).inv.kept)
      have HAr := hide ((unhide HA8).kept (unhide HU).inv.kept (by decide))
      by_cases hlt : k < core.length
      · obtain ⟨g, cap, hvc, hcap⟩ := (unhide HBAr).shape (by omega)
        simp only [Value.slice.injEq] at hvc
        obtain ⟨rfl, -, rfl⟩ := hvc
        have HCC : Hid (wr.cell? ⟨g, k, none⟩ = some (.int .i64 core[k])) := hide (by
          rcases (unhide HBAr).row.1 with ⟨h0, _⟩ | ⟨b, off, cap', hp, hv, hb, hc⟩
          · exfalso; have := congrArg List.length h0; simp [ints] at this; rw [this] at hlt; simp at hlt
          · simp only [Value.slice.injEq, Option.some.injEq, Addr.mk.injEq] at hv
            obtain ⟨⟨rfl, rfl, -⟩, -, rfl⟩ := hv
            have := hc k (.int .i64 core[k]) (by simp [ints, hlt])
            rw [Nat.zero_add] at this
            exact this)
        have HAA : Hid (∀ m (h : m < xs.length), ∃ ga offa, ao = some ⟨ga, offa, none⟩ ∧ wr.cell? ⟨ga, offa + m, none⟩ = some (.int .i64 xs[m])) := hide (fun m hm => by
          rcases (unhide HAr).1 with ⟨h0, _⟩ | ⟨b, off, cap', hp, hv, hb, hc⟩
          · exfalso; have := congrArg List.length h0; simp [ints] at this; rw [this] at hm; simp at hm
          · simp only [Value.slice.injEq] at hv
            obtain ⟨rfl, -, rfl⟩ := hv
            exact ⟨b, off, rfl, hc m (.int .i64 xs[m]) (by simp [ints, hm])⟩)
        have HSEEN : Hid (seenIn core[k] xs xs.length = true) := hide (seenIn_all ((unhide HBAr).sub _ (List.getElem_mem hlt)))
        have HSUCC : Hid (∀ m (h : m < xs.length), seenIn core[k] xs (m + 1) = (seenIn core[k] xs m || xs[m] == core[k])) := hide (fun m h => seenIn_succ core[k] xs m h)
        have HZ : Hid (seenIn core[k] xs 0 = false) := hide (seenIn_zero _ _)
        have HR1 := hide (((unhide HBAr).row).one hlt (c := c2 - k))
        have HS := hide (unit_snoc l core k hlt)
        have HLN : Hid ((l ++ (core.take k).map (fun x => [x])).length = l.length + k) := hide (by rw [List.length_append, List.length_map, List.length_take]; omega)
        have hdk : decide ((k : Int) < (core.length : Int)) = true := decide_eq_true (by omega)
        generalize core[k] = ck at *
        clear HBAr HAr HMOD HVN HBA HA8 hbox
        go_wp2_with fail
        go_loopw [17, 18] (fun t j wi => ∃ m q : Nat, m ≤ xs.length ∧ j = .int .i64 m ∧ t = .bool (seenIn ck xs m) ∧ wi = wr.drewN q) (fun _ j _ => xs.length - (intOf j).toNat)
        case atStart => exact ⟨0, 0, Nat.zero_le _, rfl, by rw [unhide HZ], rfl⟩
        case round =>
          obtain ⟨m, q, hm, rfl, rfl, rfl⟩ := hrel
          by_cases hml : m < xs.length
          · obtain ⟨ga, offa, rfl, hca⟩ := unhide HAA m hml
            have hcc := unhide HCC
            have HSU := hide (unhide HSUCC m hml)
            generalize xs[m] = xm at *
            clear HAA HSUCC HSEEN HZ
            cases hsm : seenIn ck xs m
            · rw [hsm, Bool.false_or] at HSU
              clear hsm
              go_wp2
              go_quiet (fail)
              go_wp2
              go_roundw
              case rel => exact ⟨m + 1, q + nq, by omega, by go_num, by rw [unhide HSU], rfl⟩
              case measure => simp [intOf]; omega
            · rw [hsm, Bool.true_or] at HSU
              clear hsm
              go_wp2
              go_quiet (fail)
              go_wp2
              go_roundw
              case rel => exact ⟨m + 1, q + nq, by omega, by go_num, by rw [unhide HSU], rfl⟩
              case measure => simp [intOf]; omega
          · have hmx : m = xs.length := by omega
            subst hmx
            rw [unhide HSEEN]
            have hbq : Below wr.heap.size wr (wr.drewN q) := belowDrew (Below.refl _ _) q
            have HUq := hide ((unhide HU).below hbq (by omega))
            have HR1q := hide ((unhide HR1).below hbq)
            have hszq : (wr.drewN q).heap.size = wr.heap.size := rfl
            clear HAA HSUCC HSEEN HZ HCC
            go_wp2_with (at_builtin; refine append_keep (base := w1.heap.size) (n := l.length + k) (m := 1) (xs := us) (ad := ⟨wr.heap.size, 0, none⟩) rfl _ _ 27 25 rfl Tryz.underlying27 Tryz.infoInts rfl (by decide) (owns_below (by have := (unhide HUq).inv.row; rw [unhide HLN] at this; exact this) (below_new _ _)) rfl rfl rfl (by decide) (cell_one_new (wr.drewN q) _ _) (by intro u hu; simp at hu; subst hu; rfl) (by omega) (by simp; omega) ?_; intro v' w5 hown5 hold5 hon5 hloc5; have HP5 := hide ((unhide HUq).push (by rw [unhide HLN]) hown5 (by rw [unhide HLN]; exact hold5) hon5 (unhide HR1q) (by omega)); obtain ⟨uo5, uc5, hsh5⟩ := owns_shape hown5; subst hsh5; clear hown5 hold5 hon5 hloc5)
            go_roundw
            case rel => exact ⟨k + 1, _, _, _, by omega, by go_num, rfl, by rw [unhide HS]; exact HP5⟩
            case measure => simp [intOf]; omega
      · have hkc : k = core.length := by omega
        subst hkc
        rw [List.take_length] at HU
        have hB := (unhide HB8).trans ((unhide HU).inv.below)
        have HLU : Hid ((l ++ core.map (fun x => [x])).length ≤ 10000000) := hide (by rw [List.length_append, List.length_map]; omega)
        have HUL : Hid (∀ c, c ∈ l ++ core.map (fun x => [x]) → Lits c ∧ c.length ≤ 10000000) := hide (fun c hc => by
          rcases List.mem_append.1 hc with hc | hc
          · have := unhide HL c hc; exact ⟨this.1, by omega⟩
          · obtain ⟨y, hy, rfl⟩ := List.mem_map.1 hc
            refine ⟨fun z hz => ?_, by simp⟩
            simp at hz; subst hz
            exact (unhide HXI).lits (by omega) z ((unhide HBAr).sub z hy))
        have HXr := hide (unhide HBAr).solver
        have hpbs := (unhide HBAr).small
        have hOK : KeptOK (keptTo l l.length) := kept_fine (unhide HL) (by omega)
        have HPR := hide (proofX_any _ _ kv _ wr pv pb (unhide HXr))
        have HCL := hide (clausesX_any _ _ kv _ wr pv pb (unhide HXr) (by have := hOK.2.2; omega) (fun m hm => (hOK.1 m hm).1) (unhide HENV wr hB).2.toEnvT)
        have HCH : Hid (∀ wx, Below wr.heap.size wr wx → Calls Tryz.prog 31 #[.string (bs (maskText (keptTo l l.length))), .string (bs pb)] wx fun e w' => e = .returned (.tuple #[.int .i64 (if pb.length ≤ 6000 then 0 else 4), .int .i64 0]) ∧ Below wx.heap.size wx w') := hide (fun wx hb => check_two (unhide HBAr).acc (fun m hm => (hOK.1 m hm).1) (maskText_small (unhide HL) (by omega)) (by omega) wx (unhide HENV wx (hB.trans (hb.mono hB.size))).2)
        have HMU : Hid (∀ wx, Below wr.heap.size wr wx → Calls Tryz.prog 20 #[.slice uo (l.length + core.length) uc, .int .i64 (1 + (d : Int))] wx fun e w' => e = .returned (.int .i64 0) ∧ ∃ q, w' = wx.drewN q) := hide (fun wx hb => by
          have := modelsK_any _ (l ++ core.map (fun x => [x])) (1 + d) wx (unhide HLU) (by omega) (unhide HUL) ((unhide HU).inv.units.below hb).rows
          rw [(unhide HBAr).none (unhide HLI) (unhide HXI)] at this
          rwa [show (((1 + d : Nat)) : Int) = 1 + (d : Int) from by omega] at this)
        have HVC : Hid (∀ wx, Below wr.heap.size wr wx → Calls Tryz.prog 25 #[.pointer (some ⟨w3.heap.size, 0, none⟩), .slice mo2 core.length c2] wx fun e w' => e = .returned (.int .i64 2) ∧ Hid (∃ pv pb, XAt w3.heap.size w' w3.heap.size kv (keptTo l l.length) pv pb ∧ pb.length ≤ 100000000000) ∧ Hid (Below w1.heap.size w1 w') ∧ Hid (UnitsT w' (.slice oo l.length oc) l)) := hide (fun wx hb => by
          have hBx := hB.trans (hb.mono hB.size)
          have hXx := (unhide HXr).below hb
          refine (verdictK (A := core) hXx hOK (unhide HENV wx hBx).1 (fun y hy => (unhide HXI).lits (by omega) y ((unhide HBAr).sub y hy)) (by omega) (((unhide HBAr).row.below hb).1) (by omega)).mono ?_
          rintro e w' ⟨kind, vm, vc, cf', rfl, hres⟩
          obtain ⟨a1, a2, pv', S, a3, a4⟩ := hres.out hXx
          have hk : kind = 2 := by
            rcases hres.verdict (fun y hy => (unhide HXI y ((unhide HBAr).sub y hy)).1) with ⟨-, -, b, -, b1, b2, -⟩ | ⟨h1, -⟩
            · exfalso
              obtain ⟨y, hy, ht⟩ := (unhide HBAr).blame b ((kept_same (unhide HL) (by omega) b).1 b2)
              rw [b1 y hy] at ht
              cases ht
            · exact h1
          subst hk
          exact ⟨rfl, hide ⟨pv', _, a3, by rw [List.length_append]; omega⟩, hide (hBx.trans (a2.mono hs3)), hide ((((unhide HU).list (unhide HVL)).below hb).kept a1 ⟨by decide, by decide⟩ ⟨by decide, by decide⟩)⟩)
        have hpn2 : ((bs pb).toList == []) = false := by rw [bs_toList]; simpa using (unhide HBAr).ne
        have hpsz := bs_size pb
        clear HBAr HAr HBA HA8 hbox HU HXr HUL HLU HBOX HR8 hOK
        generalize maskText (keptTo l l.length) = mt at *
        go_wp2_with fail
        refine (unhide HPR).mono ?_
        rintro e w9 ⟨rfl, rfl⟩
        go_wp2_with fail
        refine (unhide HCL).mono ?_
        rintro e w10 ⟨rfl, hb10⟩
        go_wp2_with fail
        refine (unhide HCH w10 hb10).mono ?_
        rintro e w11 ⟨rfl, hb11⟩
        by_cases h6 : pb.length ≤ 6000
        · rw [if_pos h6]
          have hb911 := hb10.trans (hb11.mono hb10.size)
          go_wp2_with fail
          refine (unhide HMU w11 hb911).mono ?_
          rintro e w12 ⟨rfl, q, rfl⟩
          have hb912 := belowDrew hb911 q
          have HV12 := hide (unhide HVC _ hb912)
          have q12 : (w11.drewN q).cell? ⟨w7.heap.size, 2, none⟩ = some (.slice mo2 core.length c2) := (hb912.cell (p := ⟨w7.heap.size, 2, none⟩) hbl).trans q2
          have HEND : Hid (∀ wx pv pb, XAt w3.heap.size wx w3.heap.size kv (keptTo l l.length) pv pb → pb.length ≤ 100000000000 → Below w1.heap.size w1 wx → UnitsT wx (.slice oo l.length oc) l → (Calls Tryz.prog 20 #[.slice oo l.length oc, .int .i64 (1 + (d : Int))] wx fun e w' => e = .returned (.int .i64 (modelsTo l (2 ^ (1 + d)) : Nat)) ∧ ∃ q, w' = wx.drewN q) ∧ ∀ q, Calls Tryz.prog 25 #[.pointer (some ⟨w3.heap.size, 0, none⟩), .slice none 0 0] (wx.drewN q) fun e w' => e = .returned (.int .i64 (if modelsTo l (2 ^ (1 + d)) = 0 then 2 else 1)) ∧ Below w1.heap.size w1 w') := hide (fun wx pv pb hX hp hb hu => ⟨unhide HMOD wx hu, fun q => unhide HVN (wx.drewN q) pv pb (hX.below (belowDrew (Below.refl _ _) q)) hp (belowDrew hb q)⟩)
          clear HVC HMU HCH HCL HPR HMOD HVN q2
          generalize w11.drewN q = wq at *
          go_wp2_with fail
          refine (unhide HV12).mono ?_
          rintro e w13 ⟨rfl, HX13, HB13, HU13⟩
          obtain ⟨pv13, pb13, hX13, hp13⟩ := unhide HX13
          obtain ⟨hm13, hv13⟩ := unhide HEND w13 pv13 pb13 hX13 hp13 (unhide HB13) (unhide HU13)
          have HM13 := hide hm13
          have HV13 := hide hv13
          clear hX13 HX13 HU13 hm13 hv13 HEND
          by_cases hm : modelsTo l (2 ^ (1 + d)) = 0
          · rw [hm] at HM13
            rw [if_pos hm] at HV13
            clear hm
            go_wp2_with fail
            refine (unhide HM13).mono ?_
            rintro e w14 ⟨rfl, q14, rfl⟩
            go_wp2_with fail
            refine (unhide HV13 _).mono ?_
            rintro e w15 ⟨rfl, hb15⟩
            go_wp2
            go_ret
            exact ⟨rfl, hb15⟩
          · rw [if_neg hm] at HV13
            have hmq : ((modelsTo l (2 ^ (1 + d)) : Int) == 0) = false := by rw [beq_eq_false_iff_ne]; omega
            generalize modelsTo l (2 ^ (1 + d)) = mn at *
            clear hm
            go_wp2_with fail
            refine (unhide HM13).mono ?_
            rintro e w14 ⟨rfl, q14, rfl⟩
            go_wp2_with fail
            refine (unhide HV13 _).mono ?_
            rintro e w15 ⟨rfl, hb15⟩
            go_wp2
            go_ret
            exact ⟨rfl, hb15⟩
        · rw [if_neg h6]
          have hb911 := hb10.trans (hb11.mono hb10.size)
          go_wp2_with fail
          refine (unhide HMU w11 hb911).mono ?_
          rintro e w12 ⟨rfl, q, rfl⟩
          have hb912 := belowDrew hb911 q
          have HV12 := hide (unhide HVC _ hb912)
          have q12 : (w11.drewN q).cell? ⟨w7.heap.size, 2, none⟩ = some (.slice mo2 core.length c2) := (hb912.cell (p := ⟨w7.heap.size, 2, none⟩) hbl).trans q2
          have HEND : Hid (∀ wx pv pb, XAt w3.heap.size wx w3.heap.size kv (keptTo l l.length) pv pb → pb.length ≤ 100000000000 → Below w1.heap.size w1 wx → UnitsT wx (.slice oo l.length oc) l → (Calls Tryz.prog 20 #[.slice oo l.length oc, .int .i64 (1 + (d : Int))] wx fun e w' => e = .returned (.int .i64 (modelsTo l (2 ^ (1 + d)) : Nat)) ∧ ∃ q, w' = wx.drewN q) ∧ ∀ q, Calls Tryz.prog 25 #[.pointer (some ⟨w3.heap.size, 0, none⟩), .slice none 0 0] (wx.drewN q) fun e w' => e = .returned (.int .i64 (if modelsTo l (2 ^ (1 + d)) = 0 then 2 else 1)) ∧ Below w1.heap.size w1 w') := hide (fun wx pv pb hX hp hb hu => ⟨unhide HMOD wx hu, fun q => unhide HVN (wx.drewN q) pv pb (hX.below (belowDrew (Below.refl _ _) q)) hp (belowDrew hb q)⟩)
          clear HVC HMU HCH HCL HPR HMOD HVN q2
          generalize w11.drewN q = wq at *
          go_wp2_with fail
          refine (unhide HV12).mono ?_
          rintro e w13 ⟨rfl, HX13, HB13, HU13⟩
          obtain ⟨pv13, pb13, hX13, hp13⟩ := unhide HX13
          obtain ⟨hm13, hv13⟩ := unhide HEND w13 pv13 pb13 hX13 hp13 (unhide HB13) (unhide HU13)
          have HM13 := hide hm13
          have HV13 := hide hv13
          clear hX13 HX13 HU13 hm13 hv13 HEND
          by_cases hm : modelsTo l (2 ^ (1 + d)) = 0
          · rw [hm] at HM13
            rw [if_pos hm] at HV13
            clear hm
            go_wp2_with fail
            refine (unhide HM13).mono ?_
            rintro e w14 ⟨rfl, q14, rfl⟩
            go_wp2_with fail
            refine (unhide HV13 _).mono ?_
            rintro e w15 ⟨rfl, hb15⟩
            go_wp2
            go_ret
            exact ⟨rfl, hb15⟩
          · rw [if_neg hm] at HV13
            have hmq : ((modelsTo l (2 ^ (1 + d)) : Int) == 0) = false := by rw [beq_eq_false_iff_ne]; omega
            generalize modelsTo l (2 ^ (1 + d)) = mn at *
            clear hm
            go_wp2_with fail
            refine (unhide HM13).mono ?_
            rintro e w14 ⟨rfl, q14, rfl⟩
            go_wp2_with fail
            refine (unhide HV13 _).mono ?_
            rintro e w15 ⟨rfl, hb15⟩
            go_wp2
            go_ret
            exact ⟨rfl, hb15⟩

theorem blamed_all (v0 : Value) (z0 : List Int) (v1 : Value) (z1 : List Int) (n2 : Int) (w : World) (a0 : ArgL w v0 z0) (a1 : ArgL w v1 z1) (b2 : ArgI n2) (he : Env w) :
    Calls Tryz.prog 9 #[v0, v1, .int .i64 n2] w fun e w' => e = .returned (.bool true) ∧ Below w.heap.size w w' :=
  blamed_walk v0 v1 z0 z1 n2 w b2.1 b2.2 a0.len a1.len a0.fits a1.fits a0.lies a1.lies he

end Go.Proofs.YtekkkoipcghlmaaGreatDoor

namespace Go.Proofs.YtekkkoipcghlmaaGreatDoor
open Go.ChangeShapes Go.WideShapes Go.ChangeAt Go.RowKit Go.Deep

set_option maxRecDepth 100000 in
theorem blamed_contract (H : Type) (enc : TypeId × Value → H) (W : World) (base : Nat) (args : Array Value) (ds gs : List (DataW H)) (before : List MemPlace)
    (hval : ∀ (j : Nat) t v, Tryz.f9.params[j]? = some t → args[j]? = some v → Value.okWide Tryz.prog W .any base t v)
    (hW : DataW.Whole enc Tryz.prog Tryz.f9.params.toList Rows.blamedSpec.vars false W args.toList ds gs before) (hL : laidMetH Tryz.prog Rows.blamedRow.laid W) (hS : W.ShapedOpen Tryz.prog) :
    Calls Tryz.prog 9 args W fun e W' => ∃ v, e = .returned v ∧ Rows.blamedSpec.post enc Tryz.prog Tryz.f9 false true false false W args v W' := by
  have he := env_of hL hS
  have hW' := hW
  obtain ⟨p, q, hA0, hV, rfl, hfz, hnd⟩ := hW
  have hA : DataW.TrodAll enc Tryz.prog W 0 (fun _ => true) true Tryz.f9.params.toList args.toList ds p := hA0
  rw [Tryz.params9] at hA hval
  obtain ⟨v0, vs0, d0, ds0, p0, q0, hargs, rfl, rfl, t0, r0⟩ := trodAll_cons hA
  obtain ⟨v1, vs1, d1, ds1, p1, q1, rfl, rfl, rfl, t1, r1⟩ := trodAll_cons r0
  obtain ⟨v2, vs2, d2, ds2, p2, q2, rfl, rfl, rfl, t2, r2⟩ := trodAll_cons r1
  obtain ⟨rfl, rfl, rfl⟩ := trodAll_nil r2
  obtain rfl : args = #[v0, v1, v2] := by cases args; simp_all
  obtain ⟨rfl, rfl⟩ := trodVars_none hV
  obtain ⟨a0, l0, c0, rfl⟩ := okWide_slice Tryz.underlying25 (hval 0 25 v0 rfl rfl)
  obtain ⟨a1, l1, c1, rfl⟩ := okWide_slice Tryz.underlying25 (hval 1 25 v1 rfl rfl)
  obtain ⟨n2, rfl, rfl, rfl, hw2⟩ := open_int Tryz.underlying3 (hval 2 3 v2 rfl rfl) t2
  clear hA0
  simp only [List.append_nil, List.nil_append] at hW'
  have hlt : ∀ x ∈ p0 ++ p1, x.block < W.heap.size := fun x hx => by simpa using hW'.lt x hx
  have hlt0 : ∀ x ∈ p0, x.block < W.heap.size := fun x hx => hlt x (List.mem_append_left _ hx)
  have k0 := fun (W' : World) (hn : Below W.heap.size W W') => Below.trod Tryz.laidOutS (by kernel_rfl) (of_decide_eq_true (by kernel_rfl)) t0 hn hlt0
  have hlt1 : ∀ x ∈ p1, x.block < W.heap.size := fun x hx => hlt x (List.mem_append_right _ hx)
  have k1 := fun (W' : World) (hn : Below W.heap.size W W') => Below.trod Tryz.laidOutS (by kernel_rfl) (of_decide_eq_true (by kernel_rfl)) t1 hn hlt1
  obtain ⟨f0, hf0⟩ := t0
  obtain ⟨z0, hz0⟩ := arg_read hf0
  obtain ⟨f1, hf1⟩ := t1
  obtain ⟨z1, hz1⟩ := arg_read hf1
  refine (blamed_all _ z0 _ z1 n2 W hz0 hz1 (wf_bdS hw2) he).mono fun e W' ⟨hr, hb'⟩ => ?_
  subst hr
  exact ⟨_, rfl, _, _, _, [], p0 ++ (p1 ++ ([] ++ ([]))), [], hW', trodAll_mk1 (shut_bool Tryz.underlying4 _), trodAll_cons_mk (k0 W' hb') (trodAll_cons_mk (k1 W' hb') (trodAll_cons_mk (shut_int Tryz.underlying3 hw2) (trodAll_mk0))), rfl, hb'.frame _, fun h => by cases h⟩

theorem blamed_start_met (os : Os) : laidMet Tryz.prog Rows.blamedRow.laid ((World.laidAll Tryz.prog os Rows.blamedRow.laid).forCall (fun _ _ => 0) ⟨#[], #[.slice none 0 0, .slice none 0 0, .int .i64 0], []⟩).memory :=
  laidMet_laidAll _ (by kernel_rfl) (by kernel_rfl)
theorem blamed_start_reads (os : Os) {H : Type} (enc : TypeId × Value → H) : ∃ places, DataW.whole enc Tryz.prog ((World.laidAll Tryz.prog os Rows.blamedRow.laid).forCall (fun _ _ => 0) ⟨#[], #[.slice none 0 0, .slice none 0 0, .int .i64 0], []⟩).memory Tryz.f9.params.toList Rows.blamedSpec.vars false #[Value.slice none 0 0, Value.slice none 0 0, Value.int .i64 0].toList 8 = some ([.nil, .nil, .lit (.int .i64 0)], [], places) :=
  ⟨[], by kernel_rfl⟩

set_option maxRecDepth 100000 in
theorem blamed_lifted (os : Os) (started : os.Started) (H : Type) (enc : TypeId × Value → H) (F : Stop.Interp) :
    ReturnsInHanded {} Tryz.checked os 9 .any ((OpenSpec.ofChange Rows.blamedSpec).preRow enc Tryz.prog Tryz.f9 Rows.blamedRow.domain false Rows.blamedRow.laid) (((OpenSpec.ofChange Rows.blamedSpec).at F).post enc Tryz.prog Tryz.f9 false true false false) := by
  obtain ⟨places, hx⟩ := blamed_start_reads os enc
  refine returnsInHanded_of_row (C := Tryz.checked) (s := OpenSpec.ofChange Rows.blamedSpec) Tryz.ownKnob started (by kernel_rfl) Tryz.func9
    ⟨World.laidAll Tryz.prog os Rows.blamedRow.laid, fun _ _ => 0, ⟨#[], #[.slice none 0 0, .slice none 0 0, .int .i64 0], []⟩, World.laidAll_os _ _ _, World.shaped_of_ZipB (by kernel_rfl) (by kernel_rfl), rfl, (Input.okWide_of_okWideB (by kernel_rfl)).2,
      OpenSpec.preRow_of_cond 8 hx (by kernel_rfl) (fun k hk => by cases hk) (by kernel_rfl) (blamed_start_met os), by simp [Assume.holds]⟩ ?_
  intro W base args ds gs before hval hW _ _ _ hL hS _
  exact blamed_contract H enc W base args ds gs before hval hW hL hS

theorem blamed_said : Rows.BlamedSaid :=
  OpenClaim.holds_of_cond 9 Tryz.f9 rfl rfl rfl rfl rfl rfl rfl ⟨rfl, rfl, rfl, rfl, rfl⟩ rfl rfl rfl rfl rfl (by kernel_rfl) Tryz.func9 (by kernel_rfl)
    (of_decide_eq_true (by kernel_rfl)) (by unfold Func.isWrapper; first | (rw [if_pos (by decide +kernel)]; kernel_rfl) | (rw [if_neg (by decide +kernel)]; exact ⟨rfl, rfl⟩))
    (fun os started H enc _ F => by rw [OpenClaim.pre_eq_preRow]; exact blamed_lifted os started H enc F)

theorem blamed_plain (f : FuncId) (fn : Func) (hf : Tryz.pinned.checked.prog.funcNamed "knots/knotskeep.Blamed" = some f) (hfn : Tryz.pinned.checked.prog.funcs[f]? = some fn) :
    true = Tryz.pinned.checked.prog.looks [] ∧ ∀ (j : Nat) t, fn.params[j]? = some t → Tryz.pinned.checked.prog.wantsStandIn t = false := by
  obtain rfl : f = 9 := Option.some.inj ((show Tryz.prog.funcNamed "knots/knotskeep.Blamed" = some 9 by kernel_rfl).symm.trans hf) |>.symm
  obtain rfl : fn = Tryz.f9 := (Option.some.inj (Tryz.func9.symm.trans hfn)).symm
  refine ⟨by kernel_rfl, fun j t ht => ?_⟩
  rw [Tryz.params9] at ht
  have hm : t = 25 ∨ t = 3 := by
    have := Array.mem_of_getElem? ht
    simp at this
    omega
  rcases hm with rfl | rfl
  · exact (show Tryz.prog.wantsStandIn 25 = false by kernel_rfl)
  · exact (show Tryz.prog.wantsStandIn 3 = false by kernel_rfl)

theorem blamed_card : Rows.BlamedCardSaid :=
  Claim7.holds_tied_plain_at .later [] _ _ _ _ blamed_said (fun _ h => by cases h) (by kernel_rfl) (fun _ h => by cases h) blamed_row_tie rfl ⟨rfl, rfl⟩ (by kernel_rfl) rfl blamed_plain (by kernel_rfl)
#print axioms blamed_card

end Go.Proofs.YtekkkoipcghlmaaGreatDoor
