import Derived.Test.YtekkkoipcghlmabDoorJ18
namespace Go.Proofs.YtekkkoipcghlmabDoor
open Go.ChangeShapes Go.WideShapes Go.ChangeAt Go.RowKit Go.Deep

theorem Tryd.laidOutS : laidOutB Tryd.prog = true := by kernel_rfl
theorem wf_bdS {n : Int} (h : (Lit.int .i64 n).wf = true) : -9223372036854775808 ≤ n ∧ n ≤ 9223372036854775807 := by
  have h1 : IntKind.i64.min = -9223372036854775808 := by decide
  have h2 : IntKind.i64.max = 9223372036854775807 := by decide
  simp only [Lit.wf, Bool.and_eq_true, decide_eq_true_eq] at h
  rw [h1, h2] at h
  exact h

/-- A list of numbers, out of its reading. -/
theorem ints_read {H : Type} {enc : TypeId × Value → H} {W : World} {base n : Nat} {spare : Nat → Bool} {held : Bool} {a0 : Option Addr} {l0 c0 : Nat} {y : DataW H × List MemPlace}
    (h : DataW.trod enc Tryd.prog W base spare held n 22 (Value.slice a0 l0 c0).cells.toList = some y) : ∃ xs : List Int, Lies W (.slice a0 l0 c0) (ints xs) ∧ Fits xs ∧ xs.length ≤ 9223372036854775807 := by
  rcases open_slice1 Tryd.underlying22 Tryd.cellsInt h with ⟨hcs, hx⟩ | ⟨a, len, cap, m, n', V, D, Pl, hcs, hab, hl, hm, hmm, hx, hel⟩
  · simp [Value.cells] at hcs
    obtain ⟨rfl, rfl, rfl⟩ := hcs
    exact ⟨[], Lies.nil _, fun z hz => (by cases hz), by simp⟩
  · simp [Value.cells] at hcs
    obtain ⟨rfl, rfl, rfl⟩ := hcs
    have hlm : l0 ≤ m := by rw [hmm]; split <;> omega
    have hV : ∀ i, i < l0 → V i = .int .i64 (intOf (V i)) ∧ (-9223372036854775808 ≤ intOf (V i) ∧ intOf (V i) ≤ 9223372036854775807) := fun i hi => by
      obtain ⟨_, ht⟩ := hel i (by omega)
      obtain ⟨q, e0, _, hw⟩ := DataW.trod_int Tryd.underlying3 ht
      simp at e0; rw [e0]
      exact ⟨rfl, wf_bdS hw⟩
    refine ⟨(List.range l0).map (fun i => intOf (V i)), ?_, fun z hz => ?_, by unfold maxLen at hm; simp; omega⟩
    · by_cases h0 : l0 = 0
      · subst h0; exact .inl ⟨rfl, _, _, rfl⟩
      · obtain ⟨b, off, spot⟩ := a
        have cz := (hel 0 (by omega)).1
        have hspot : spot = none := by simpa [Addr.add] using World.cell?_spot cz
        subst hspot
        have hb : b < W.heap.size := by simpa [Addr.add] using World.block_lt_of_cell? W _ cz
        refine .inr ⟨b, off, c0, by simp [ints]; omega, by simp [ints], hb, fun k x hk => ?_⟩
        have hkl : k < l0 := by
          have := (List.getElem?_eq_some_iff.1 hk).1
          simpa [ints] using this
        have hxk : x = .int .i64 (intOf (V k)) := by
          simp [ints, hkl] at hk; exact hk.symm
        have hc := (hel k (by omega)).1
        rw [show (⟨b, off, none⟩ : Addr).add k = ⟨b, off + k, none⟩ from by simp [Addr.add]] at hc
        rw [hc, hxk, ← (hV k hkl).1]
    · obtain ⟨i, hi, rfl⟩ := List.mem_map.1 hz
      exact (hV i (by simpa using hi)).2

set_option maxRecDepth 100000 in
theorem spoilt_contract (H : Type) (enc : TypeId × Value → H) (W : World) (base : Nat) (args : Array Value) (ds gs : List (DataW H)) (before : List MemPlace)
    (hval : ∀ (j : Nat) t v, Tryd.f3.params[j]? = some t → args[j]? = some v → Value.okWide Tryd.prog W .any base t v)
    (hW : DataW.Whole enc Tryd.prog Tryd.f3.params.toList Rows.spoiltSpec.vars false W args.toList ds gs before) (hL : laidMetH Tryd.prog Rows.spoiltRow.laid W) (hS : W.ShapedOpen Tryd.prog) :
    Calls Tryd.prog 3 args W fun e W' => ∃ v, e = .returned v ∧ Rows.spoiltSpec.post enc Tryd.prog Tryd.f3 false true false false W args v W' := by
  have he := env_of hL hS
  have hW' := hW
  obtain ⟨p, q, hA0, hV, rfl, hfz, hnd⟩ := hW
  have hA : DataW.TrodAll enc Tryd.prog W 0 (fun _ => true) true Tryd.f3.params.toList args.toList ds p := hA0
  rw [Tryd.params3] at hA hval
  obtain ⟨v0, vs0, d0, ds0, p0, q0, hargs, rfl, rfl, t0, r0⟩ := trodAll_cons hA
  obtain ⟨v1, vs1, d1, ds1, p1, q1, rfl, rfl, rfl, t1, r1⟩ := trodAll_cons r0
  obtain ⟨v2, vs2, d2, ds2, p2, q2, rfl, rfl, rfl, t2, r2'⟩ := trodAll_cons r1
  obtain ⟨rfl, rfl, rfl⟩ := trodAll_nil r2'
  obtain rfl : args = #[v0, v1, v2] := by cases args; simp_all
  obtain ⟨rfl, rfl⟩ := trodVars_none hV
  obtain ⟨a0, l0, c0, rfl⟩ := okWide_slice Tryd.underlying22 (hval 0 22 v0 rfl rfl)
  obtain ⟨a2, l2, c2, rfl⟩ := okWide_slice Tryd.underlying22 (hval 2 22 v2 rfl rfl)
  obtain ⟨n, rfl, rfl, rfl, hwn⟩ := open_int Tryd.underlying3 (hval 1 3 v1 rfl rfl) t1
  clear hA0
  simp only [List.append_nil, List.nil_append] at hW'
  have hlt : ∀ x ∈ p0 ++ p2, x.block < W.heap.size := fun x hx => by simpa using hW'.lt x hx
  have hlt0 : ∀ x ∈ p0, x.block < W.heap.size := fun x hx => hlt x (List.mem_append_left _ hx)
  have hlt2 : ∀ x ∈ p2, x.block < W.heap.size := fun x hx => hlt x (List.mem_append_right _ hx)
  have k0 := fun (W' : World) (hn : Below W.heap.size W W') => Below.trod Tryd.laidOutS (by kernel_rfl) (of_decide_eq_true (by kernel_rfl)) t0 hn hlt0
  have k2 := fun (W' : World) (hn : Below W.heap.size W W') => Below.trod Tryd.laidOutS (by kernel_rfl) (of_decide_eq_true (by kernel_rfl)) t2 hn hlt2
  obtain ⟨f0, hf0⟩ := t0
  obtain ⟨f2, hf2⟩ := t2
  obtain ⟨zs, hz1, hz2, hz3⟩ := ints_read hf0
  obtain ⟨ys, hy1, hy2, hy3⟩ := ints_read hf2
  have hb := wf_bdS hwn
  refine (spoilt_walk _ _ zs ys n W hb.1 hb.2 hz3 hy3 hz2 hy2 hz1 hy1 he).mono fun e W' ⟨hr, hb'⟩ => ?_
  subst hr
  exact ⟨_, rfl, _, _, _, [], p0 ++ ([] ++ (p2 ++ [])), [], hW', trodAll_mk1 (shut_bool Tryd.underlying4 _), trodAll_cons_mk (k0 W' hb') (trodAll_cons_mk (shut_int Tryd.underlying3 hwn) (trodAll_cons_mk (k2 W' hb') trodAll_mk0)), rfl, hb'.frame _, fun h => by cases h⟩

theorem spoilt_start_met (os : Os) : laidMet Tryd.prog Rows.spoiltRow.laid ((World.laidAll Tryd.prog os Rows.spoiltRow.laid).forCall (fun _ _ => 0) ⟨#[], #[.slice none 0 0, .int .i64 0, .slice none 0 0], []⟩).memory :=
  laidMet_laidAll _ (by kernel_rfl) (by kernel_rfl)
theorem spoilt_start_reads (os : Os) {H : Type} (enc : TypeId × Value → H) : ∃ places, DataW.whole enc Tryd.prog ((World.laidAll Tryd.prog os Rows.spoiltRow.laid).forCall (fun _ _ => 0) ⟨#[], #[.slice none 0 0, .int .i64 0, .slice none 0 0], []⟩).memory Tryd.f3.params.toList Rows.spoiltSpec.vars false #[Value.slice none 0 0, Value.int .i64 0, Value.slice none 0 0].toList 8 = some ([.nil, .lit (.int .i64 0), .nil], [], places) :=
  ⟨[], by kernel_rfl⟩

set_option maxRecDepth 100000 in
theorem spoilt_lifted (os : Os) (started : os.Started) (H : Type) (enc : TypeId × Value → H) (F : Stop.Interp) :
    ReturnsInHanded {} Tryd.checked os 3 .any ((OpenSpec.ofChange Rows.spoiltSpec).preRow enc Tryd.prog Tryd.f3 Rows.spoiltRow.domain false Rows.spoiltRow.laid) (((OpenSpec.ofChange Rows.spoiltSpec).at F).post enc Tryd.prog Tryd.f3 false true false false) := by
  obtain ⟨places, hx⟩ := spoilt_start_reads os enc
  refine returnsInHanded_of_row (C := Tryd.checked) (s := OpenSpec.ofChange Rows.spoiltSpec) Tryd.ownKnob started (by kernel_rfl) Tryd.func3
    ⟨World.laidAll Tryd.prog os Rows.spoiltRow.laid, fun _ _ => 0, ⟨#[], #[.slice none 0 0, .int .i64 0, .slice none 0 0], []⟩, World.laidAll_os _ _ _, World.shaped_of_ZipB (by kernel_rfl) (by kernel_rfl), rfl, (Input.okWide_of_okWideB (by kernel_rfl)).2,
      OpenSpec.preRow_of_cond 8 hx (by kernel_rfl) (fun k hk => by cases hk) (by kernel_rfl) (spoilt_start_met os), by simp [Assume.holds]⟩ ?_
  intro W base args ds gs before hval hW _ _ _ hL hS _
  exact spoilt_contract H enc W base args ds gs before hval hW hL hS

theorem spoilt_said : Rows.SpoiltSaid :=
  OpenClaim.holds_of_cond 3 Tryd.f3 rfl rfl rfl rfl rfl rfl rfl ⟨rfl, rfl, rfl, rfl, rfl⟩ rfl rfl rfl rfl rfl (by kernel_rfl) Tryd.func3 (by kernel_rfl)
    (of_decide_eq_true (by kernel_rfl)) (by unfold Func.isWrapper; first | (rw [if_pos (by decide +kernel)]; kernel_rfl) | (rw [if_neg (by decide +kernel)]; exact ⟨rfl, rfl⟩))
    (fun os started H enc _ F => by rw [OpenClaim.pre_eq_preRow]; exact spoilt_lifted os started H enc F)

theorem spoilt_plain (f : FuncId) (fn : Func) (hf : Tryd.pinned.checked.prog.funcNamed "knots/knotskeep.Spoilt" = some f) (hfn : Tryd.pinned.checked.prog.funcs[f]? = some fn) :
    true = Tryd.pinned.checked.prog.looks [] ∧ ∀ (j : Nat) t, fn.params[j]? = some t → Tryd.pinned.checked.prog.wantsStandIn t = false := by
  obtain rfl : f = 3 := Option.some.inj ((show Tryd.prog.funcNamed "knots/knotskeep.Spoilt" = some 3 by kernel_rfl).symm.trans hf) |>.symm
  obtain rfl : fn = Tryd.f3 := (Option.some.inj (Tryd.func3.symm.trans hfn)).symm
  refine ⟨by kernel_rfl, fun j t ht => ?_⟩
  rw [Tryd.params3] at ht
  have hm : t = 22 ∨ t = 3 := by
    have := Array.mem_of_getElem? ht
    simp at this
    rcases this with h | h | h
    · exact .inl h
    · exact .inr h
    · exact .inl h
  rcases hm with rfl | rfl
  · exact (show Tryd.prog.wantsStandIn 22 = false by kernel_rfl)
  · exact (show Tryd.prog.wantsStandIn 3 = false by kernel_rfl)

theorem spoilt_card : Rows.SpoiltCardSaid :=
  Claim7.holds_tied_plain_at .later [] _ _ _ _ spoilt_said (fun _ h => by cases h) (by kernel_rfl) (fun _ h => by cases h) spoilt_row_tie rfl ⟨rfl, rfl⟩ (by kernel_rfl) rfl spoilt_plain (by kernel_rfl)
#print axioms spoilt_card

end Go.Proofs.YtekkkoipcghlmabDoor
