import Derived.Test.YtekkkoipcghlmaaGreatDoorV16
set_option linter.all false
namespace Go.Proofs.YtekkkoipcghlmaaGreatDoor
open Go.ChangeShapes Go.WideShapes Go.ChangeAt Go.RowKit Go.Deep

theorem bulk_pos {H : Type} (d : DataW H) : 1 ≤ Rows.uptoBulk d := by
  cases d with
  | lit l => cases l <;> simp [Rows.uptoBulk]
  | _ => simp [Rows.uptoBulk]
theorem bulk_part {H : Type} {d : DataW H} : ∀ {l : List (DataW H)}, d ∈ l → Rows.uptoBulk d ≤ Rows.uptoBulkAll l
  | [], h => by cases h
  | x :: r, h => by
    simp only [Rows.uptoBulkAll]
    rcases List.mem_cons.1 h with rfl | h
    · omega
    · have := bulk_part h; omega
theorem bulk_many {H : Type} : ∀ (l : List (DataW H)), l.length ≤ Rows.uptoBulkAll l
  | [] => by simp [Rows.uptoBulkAll]
  | x :: r => by
    have := bulk_many r
    have := bulk_pos x
    simp only [Rows.uptoBulkAll, List.length_cons]; omega

theorem Tryz.cellsInts : Tryz.prog.cellsOf 25 = 1 := by kernel_rfl
theorem wf_bd {n : Int} (h : (Lit.int .i64 n).wf = true) : -9223372036854775808 ≤ n ∧ n ≤ 9223372036854775807 := by
  have h1 : IntKind.i64.min = -9223372036854775808 := by decide
  have h2 : IntKind.i64.max = 9223372036854775807 := by decide
  simp only [Lit.wf, Bool.and_eq_true, decide_eq_true_eq] at h
  rw [h1, h2] at h
  exact h

/-- A list of numbers, out of its reading. -/
theorem ints_open {H : Type} {enc : TypeId × Value → H} {W : World} {base n : Nat} {spare : Nat → Bool} {held : Bool} {v : Value} {y : DataW H × List MemPlace}
    (h : DataW.trod enc Tryz.prog W base spare held n 25 [v] = some y) : ∃ xs : List Int, Lies W v (ints xs) ∧ xs.length ≤ Rows.uptoBulk y.1 := by
  rcases open_slice1 Tryz.underlying25 Tryz.cellsInt h with ⟨hcs, hx⟩ | ⟨a, len, cap, m, n', V, D, Pl, hcs, hab, hl, hm, hmm, hx, hel⟩
  · simp at hcs; subst hcs
    exact ⟨[], Lies.nil _, by simp⟩
  · simp at hcs; subst hcs
    have hlm : len ≤ m := by rw [hmm]; split <;> omega
    have hV : ∀ i, i < len → V i = .int .i64 (intOf (V i)) := fun i hi => by
      obtain ⟨_, ht⟩ := hel i (by omega)
      obtain ⟨q, e0, _, _⟩ := DataW.trod_int Tryz.underlying3 ht
      simp at e0; rw [e0]; rfl
    have hbulk : len ≤ Rows.uptoBulk y.1 := by
      rw [hx]
      have := bulk_many ((List.range len).map D)
      simp only [Rows.uptoBulk, List.length_map, List.length_range] at this ⊢
      omega
    refine ⟨(List.range len).map (fun i => intOf (V i)), ?_, by simpa using hbulk⟩
    by_cases h0 : len = 0
    · subst h0; exact .inl ⟨rfl, _, _, rfl⟩
    · obtain ⟨b, off, spot⟩ := a
      have c0 := (hel 0 (by omega)).1
      have hspot : spot = none := by simpa [Addr.add] using World.cell?_spot c0
      subst hspot
      have hb : b < W.heap.size := by simpa [Addr.add] using World.block_lt_of_cell? W _ c0
      refine .inr ⟨b, off, cap, by simp [ints]; omega, by simp [ints], hb, fun k x hk => ?_⟩
      have hkl : k < len := by
        have := (List.getElem?_eq_some_iff.1 hk).1
        simpa [ints] using this
      have hxk : x = .int .i64 (intOf (V k)) := by
        simp [ints, hkl] at hk; exact hk.symm
      have hc := (hel k (by omega)).1
      rw [show (⟨b, off, none⟩ : Addr).add k = ⟨b, off + k, none⟩ from by simp [Addr.add]] at hc
      rw [hc, hxk, ← hV k hkl]

/-- A step of a script, opened whole. -/
theorem op_full {H : Type} {enc : TypeId × Value → H} {W : World} {base n : Nat} {spare : Nat → Bool} {held : Bool} {cs : List Value} {x : DataW H × List MemPlace}
    (h : DataW.trod enc Tryz.prog W base spare held n 67 cs = some x) :
    ∃ (kind a b : Int) (s t : ByteArray) (v : Value) (xs : List Int), cs[0]? = some (.int .i64 kind) ∧ cs[1]? = some (.int .i64 a) ∧ cs[2]? = some (.int .i64 b) ∧ cs[3]? = some (.string s) ∧ cs[4]? = some (.string t) ∧ cs[5]? = some v ∧
      (-9223372036854775808 ≤ a ∧ a ≤ 9223372036854775807) ∧ s.size ≤ maxLen ∧ t.size ≤ maxLen ∧ Lies W v (ints xs) ∧ xs.length ≤ Rows.uptoBulk x.1 := by
  obtain ⟨xs, n', _, hx0, _, hxl, hf⟩ := DataW.trod_struct Tryz.underlying67 h
  have hx : ∀ i, i < 6 → ∃ y, xs[i]? = some y := fun i hi => ⟨xs[i]'(by rw [hxl]; exact hi), List.getElem?_eq_getElem _⟩
  have f0 : DataW.trod enc Tryz.prog W base spare held n' 3 ((cs.drop 0).take (Tryz.prog.cellsOf 3)) = xs[0]? := hf 0 _ rfl
  have f1 : DataW.trod enc Tryz.prog W base spare held n' 3 ((cs.drop 1).take (Tryz.prog.cellsOf 3)) = xs[1]? := hf 1 _ rfl
  have f2 : DataW.trod enc Tryz.prog W base spare held n' 3 ((cs.drop 2).take (Tryz.prog.cellsOf 3)) = xs[2]? := hf 2 _ rfl
  have f3 : DataW.trod enc Tryz.prog W base spare held n' 9 ((cs.drop 3).take (Tryz.prog.cellsOf 9)) = xs[3]? := hf 3 _ rfl
  have f4 : DataW.trod enc Tryz.prog W base spare held n' 9 ((cs.drop 4).take (Tryz.prog.cellsOf 9)) = xs[4]? := hf 4 _ rfl
  have f5 : DataW.trod enc Tryz.prog W base spare held n' 25 ((cs.drop 5).take (Tryz.prog.cellsOf 25)) = xs[5]? := hf 5 _ rfl
  obtain ⟨y0, h0⟩ := hx 0 (by omega)
  obtain ⟨y1, h1⟩ := hx 1 (by omega)
  obtain ⟨y2, h2⟩ := hx 2 (by omega)
  obtain ⟨y3, h3⟩ := hx 3 (by omega)
  obtain ⟨y4, h4⟩ := hx 4 (by omega)
  obtain ⟨y5, h5⟩ := hx 5 (by omega)
  rw [h0] at f0
  rw [h1] at f1
  rw [h2] at f2
  rw [h3] at f3
  rw [h4] at f4
  rw [h5] at f5
  obtain ⟨kind, e0, _, _⟩ := DataW.trod_int Tryz.underlying3 f0
  obtain ⟨a, e1, _, hwa⟩ := DataW.trod_int Tryz.underlying3 f1
  obtain ⟨b, e2, _, _⟩ := DataW.trod_int Tryz.underlying3 f2
  obtain ⟨s, e3, _, hs⟩ := DataW.trod_string Tryz.underlying9 f3
  obtain ⟨t, e4, _, ht⟩ := DataW.trod_string Tryz.underlying9 f4
  rw [Tryz.cellsInt] at e0 e1 e2
  rw [Tryz.cellsStr] at e3 e4
  rw [Tryz.cellsInts] at f5
  have e5 : ∃ v, (cs.drop 5).take 1 = [v] := by
    rcases open_slice Tryz.underlying25 f5 with ⟨hcs, _⟩ | ⟨a, len, cap, m, n, D, Pl, hcs, _⟩
    · exact ⟨_, hcs⟩
    · exact ⟨_, hcs⟩
  obtain ⟨v, e5⟩ := e5
  rw [e5] at f5
  obtain ⟨zs, hz, hzl⟩ := ints_open f5
  refine ⟨kind, a, b, s, t, v, zs, ptake_one e0, ptake_one e1, ptake_one e2, ptake_one e3, ptake_one e4, ptake_one e5, wf_bd hwa, hs, ht, hz, Nat.le_trans hzl ?_⟩
  rw [hx0]
  simp only [Rows.uptoBulk]
  have : y5.1 ∈ xs.map (fun y => y.1) := List.mem_map.2 ⟨y5, List.mem_of_getElem? h5, rfl⟩
  have := bulk_part this
  omega

/-- A script's steps, out of its reading. -/
theorem ops_full {H : Type} {enc : TypeId × Value → H} {W : World} {base n m len : Nat} {spare : Nat → Bool} {held : Bool} {a : Addr} {D : Nat → DataW H} {Pl : Nat → List MemPlace} (hlen : 0 < len) (hm : len ≤ m) (hsmall : ∀ i, i < len → Rows.uptoBulk (D i) ≤ 2000000)
    (hel : ∀ i, i < m → ∃ cs', W.cells? base (a.add (i * Tryz.prog.cellsOf 67)) (Tryz.prog.cellsOf 67) = some cs' ∧ DataW.trod enc Tryz.prog W base spare held n 67 cs' = some (D i, Pl i)) :
    ∃ b off, a = ⟨b, off, none⟩ ∧ b < W.heap.size ∧ OpsFull W b off len := by
  obtain ⟨b, off, spot⟩ := a
  have key : ∀ i, i < len → ∃ (kind a bb : Int) (s t : ByteArray) (v : Value) (xs : List Int), W.cell? ((⟨b, off, spot⟩ : Addr).add (i * 6)) = some (.int .i64 kind) ∧ W.cell? (((⟨b, off, spot⟩ : Addr).add (i * 6)).add 1) = some (.int .i64 a) ∧ W.cell? (((⟨b, off, spot⟩ : Addr).add (i * 6)).add 2) = some (.int .i64 bb) ∧ W.cell? (((⟨b, off, spot⟩ : Addr).add (i * 6)).add 3) = some (.string s) ∧ W.cell? (((⟨b, off, spot⟩ : Addr).add (i * 6)).add 4) = some (.string t) ∧ W.cell? (((⟨b, off, spot⟩ : Addr).add (i * 6)).add 5) = some v ∧
      (-9223372036854775808 ≤ a ∧ a ≤ 9223372036854775807) ∧ s.size ≤ maxLen ∧ t.size ≤ maxLen ∧ Lies W v (ints xs) ∧ xs.length ≤ 2000000 := by
    intro i hi
    obtain ⟨cs', hc, ht⟩ := hel i (by omega)
    rw [Tryz.cellsOp] at hc
    obtain ⟨_, _, hcell⟩ := World.cells?_some hc
    obtain ⟨kind, a, bb, s, t, v, xs, e0, e1, e2, e3, e4, e5, ha, hs, ht', hz, hzl⟩ := op_full ht
    refine ⟨kind, a, bb, s, t, v, xs, ?_, (hcell 1 (by omega)).trans e1, (hcell 2 (by omega)).trans e2, (hcell 3 (by omega)).trans e3, (hcell 4 (by omega)).trans e4, (hcell 5 (by omega)).trans e5, ha, hs, ht', hz, Nat.le_trans hzl (hsmall i hi)⟩
    have := (hcell 0 (by omega)).trans e0
    simpa [Addr.add] using this
  obtain ⟨k0, _, _, _, _, _, _, h0, _⟩ := key 0 hlen
  have hspot : spot = none := by simpa [Addr.add] using World.cell?_spot h0
  subst hspot
  have hb : b < W.heap.size := by simpa [Addr.add] using World.block_lt_of_cell? W _ h0
  refine ⟨b, off, rfl, hb, fun k hk => ?_⟩
  obtain ⟨kind, a, bb, s, t, v, xs, e0, e1, e2, e3, e4, e5, ha, hs, ht, hz, hzl⟩ := key k hk
  have add_none : ∀ o j : Nat, (⟨b, o, none⟩ : Addr).add j = ⟨b, o + j, none⟩ := fun o j => by simp [Addr.add]
  rw [add_none] at e0 e1 e2 e3 e4 e5
  rw [add_none] at e1 e2 e3 e4 e5
  refine ⟨kind, a, bb, s.data.toList, t.data.toList, v, xs, e0, e1, e2, by rw [← bs_of]; exact e3, by rw [← bs_of]; exact e4, e5, ha.1, ha.2, ?_, ?_, hzl, hz⟩
  · have := Lib.size_eq s
    unfold maxLen at hs; omega
  · have := Lib.size_eq t
    unfold maxLen at ht; omega

end Go.Proofs.YtekkkoipcghlmaaGreatDoor

namespace Go.Proofs.YtekkkoipcghlmaaGreatDoor
open Go.ChangeShapes Go.WideShapes Go.ChangeAt Go.RowKit Go.Deep

set_option maxRecDepth 100000 in
theorem keeps_contract (H : Type) (enc : TypeId × Value → H) (W : World) (base : Nat) (args : Array Value) (ds gs : List (DataW H)) (before : List MemPlace)
    (hval : ∀ (j : Nat) t v, Tryz.f3.params[j]? = some t → args[j]? = some v → Value.okWide Tryz.prog W .any base t v)
    (hW : DataW.Whole enc Tryz.prog Tryz.f3.params.toList Rows.keepsSpec.vars false W args.toList ds gs before) (hk : Rows.uptoSmall H (ds ++ gs) = true) (hL : laidMetH Tryz.prog Rows.keepsUptoRow.laid W) (hS : W.ShapedOpen Tryz.prog) :
    Calls Tryz.prog 3 args W fun e W' => ∃ v, e = .returned v ∧ Rows.keepsSpec.post enc Tryz.prog Tryz.f3 false true false false W args v W' := by
  have he := env_of hL hS
  have hW' := hW
  obtain ⟨p, q, hA0, hV, rfl, hfz, hnd⟩ := hW
  have hA : DataW.TrodAll enc Tryz.prog W 0 (fun _ => true) true Tryz.f3.params.toList args.toList ds p := hA0
  rw [Tryz.params3] at hA hval
  obtain ⟨v0, d0, rfl, rfl, h0⟩ := trodAll_one hA
  obtain ⟨rfl, rfl⟩ := trodVars_none hV
  have h0k := h0
  obtain ⟨fuel, hf⟩ := h0
  clear hA0
  simp only [List.append_nil] at hW'
  have hlt : ∀ x ∈ p, x.block < W.heap.size := fun x hx => by simpa using hW'.lt x hx
  obtain ⟨a0, len, cap, rfl⟩ := okWide_slice Tryz.underlying22 (hval 0 22 v0 rfl rfl)
  have hargs : ∀ (W' : World), Below W.heap.size W W' → DataW.Trod enc Tryz.prog W' 0 (fun b => decide (b < W.heap.size)) true 22 (.slice a0 len cap) d0 p :=
    fun W' hn => Below.trod Tryz.laidOut (by kernel_rfl) (of_decide_eq_true (by kernel_rfl)) h0k hn hlt
  have fin : (Calls Tryz.prog 3 #[.slice a0 len cap] W fun e w' => e = .returned (.bool true) ∧ Below W.heap.size W w') →
      Calls Tryz.prog 3 #[.slice a0 len cap] W fun e W' => ∃ v, e = .returned v ∧ Rows.keepsSpec.post enc Tryz.prog Tryz.f3 false true false false W #[.slice a0 len cap] v W' := by
    intro hc
    refine hc.mono fun e W' ⟨he, hb⟩ => ?_
    subst he
    exact ⟨_, rfl, _, _, _, [], p, [], hW', trodAll_mk1 (shut_bool Tryz.underlying4 _), trodAll_mk1 (hargs W' hb), rfl, hb.frame _, fun h => by cases h⟩
  rcases open_slice Tryz.underlying22 hf with ⟨hcs, hx⟩ | ⟨a, len', cap', m, n, D, Pl, hcs, _, hl, hm, hmm, hx, hel⟩
  · simp [Value.cells] at hcs
    obtain ⟨rfl, rfl, rfl⟩ := hcs
    exact fin (keeps_walk none 0 0 0 0 W (by omega) (fun h => by omega) (fun k hk => by omega) he)
  · simp [Value.cells] at hcs
    obtain ⟨rfl, rfl, rfl⟩ := hcs
    by_cases h0 : len = 0
    · subst h0
      exact fin (keeps_walk (some a) 0 0 0 cap W (by omega) (fun h => by omega) (fun k hk => by omega) he)
    · simp only [if_true] at hmm
      subst hmm
      have hbd : Rows.uptoBulkAll ([d0] ++ ([] : List (DataW H))) ≤ 1048576 := of_decide_eq_true hk
      rw [show d0 = _ from congrArg Prod.fst hx] at hbd
      simp only [List.append_nil, Rows.uptoBulkAll, Rows.uptoBulk] at hbd
      have hlen : len ≤ 2000000 := by
        have := bulk_many ((List.range len).map D)
        simp only [List.length_map, List.length_range] at this
        omega
      have hsm : ∀ i, i < len → Rows.uptoBulk (D i) ≤ 2000000 := fun i hi => by
        have := bulk_part (d := D i) (l := (List.range len).map D) (List.mem_map.2 ⟨i, by simpa using hi, rfl⟩)
        omega
      obtain ⟨b, off, rfl, hb, hops⟩ := ops_full (by omega) hl hsm hel
      exact fin (keeps_walk _ b off len _ W hlen (fun _ => ⟨rfl, hb⟩) hops he)

theorem keeps_start_met (os : Os) : laidMet Tryz.prog Rows.keepsUptoRow.laid ((World.laidAll Tryz.prog os Rows.keepsUptoRow.laid).forCall (fun _ _ => 0) ⟨#[], #[.slice none 0 0], []⟩).memory :=
  laidMet_laidAll _ (by kernel_rfl) (by kernel_rfl)
theorem keeps_start_reads (os : Os) {H : Type} (enc : TypeId × Value → H) : ∃ places, DataW.whole enc Tryz.prog ((World.laidAll Tryz.prog os Rows.keepsUptoRow.laid).forCall (fun _ _ => 0) ⟨#[], #[.slice none 0 0], []⟩).memory Tryz.f3.params.toList Rows.keepsSpec.vars false #[Value.slice none 0 0].toList 8 = some ([.nil], [], places) :=
  ⟨[], by kernel_rfl⟩

set_option maxRecDepth 100000 in
theorem keeps_lifted (os : Os) (started : os.Started) (H : Type) (enc : TypeId × Value → H) (F : Stop.Interp) :
    ReturnsInHanded {} Tryz.checked os 3 .any ((Rows.OpenSpec.upto Rows.keepsSpec).preRow enc Tryz.prog Tryz.f3 Rows.keepsUptoRow.domain false Rows.keepsUptoRow.laid) (((Rows.OpenSpec.upto Rows.keepsSpec).at F).post enc Tryz.prog Tryz.f3 false true false false) := by
  obtain ⟨places, hx⟩ := keeps_start_reads os enc
  refine returnsInHanded_of_row (C := Tryz.checked) (s := Rows.OpenSpec.upto Rows.keepsSpec) Tryz.ownKnob started (by kernel_rfl) Tryz.func3
    ⟨World.laidAll Tryz.prog os Rows.keepsUptoRow.laid, fun _ _ => 0, ⟨#[], #[.slice none 0 0], []⟩, World.laidAll_os _ _ _, World.shaped_of_ZipB (by kernel_rfl) (by kernel_rfl), rfl, (Input.okWide_of_okWideB (by kernel_rfl)).2,
      OpenSpec.preRow_of_cond 8 hx (by kernel_rfl) (fun k hk => by cases hk; kernel_rfl) (by kernel_rfl) (keeps_start_met os), by simp [Assume.holds]⟩ ?_
  intro W base args ds gs before hval hW _ hcond _ hL hS _
  exact keeps_contract H enc W base args ds gs before hval hW (hcond _ rfl) hL hS

theorem keeps_said : Rows.KeepsUptoSaid :=
  OpenClaim.holds_of_cond 3 Tryz.f3 rfl rfl rfl rfl rfl rfl rfl ⟨rfl, rfl, rfl, rfl, rfl⟩ rfl rfl rfl rfl rfl (by kernel_rfl) Tryz.func3 (by kernel_rfl)
    (of_decide_eq_true (by kernel_rfl)) (by unfold Func.isWrapper; first | (rw [if_pos (by decide +kernel)]; kernel_rfl) | (rw [if_neg (by decide +kernel)]; exact ⟨rfl, rfl⟩))
    (fun os started H enc _ F => by rw [OpenClaim.pre_eq_preRow]; exact keeps_lifted os started H enc F)

theorem keeps_plain (f : FuncId) (fn : Func) (hf : Tryz.pinned.checked.prog.funcNamed "knots/knotslaw.Keeps" = some f) (hfn : Tryz.pinned.checked.prog.funcs[f]? = some fn) :
    true = Tryz.pinned.checked.prog.looks [] ∧ ∀ (j : Nat) t, fn.params[j]? = some t → Tryz.pinned.checked.prog.wantsStandIn t = false := by
  obtain rfl : f = 3 := Option.some.inj ((show Tryz.prog.funcNamed "knots/knotslaw.Keeps" = some 3 by kernel_rfl).symm.trans hf) |>.symm
  obtain rfl : fn = Tryz.f3 := (Option.some.inj (Tryz.func3.symm.trans hfn)).symm
  refine ⟨by kernel_rfl, fun j t ht => ?_⟩
  rw [Tryz.params3] at ht
  obtain rfl : t = 22 := by simpa using Array.mem_of_getElem? ht
  exact (show Tryz.prog.wantsStandIn 22 = false by kernel_rfl)

theorem keeps_card : Rows.KeepsUptoCardSaid :=
  Claim7.holds_tied_plain_at .later [] _ _ _ _ keeps_said (fun _ h => by cases h) (by kernel_rfl) (fun _ h => by cases h) keepsUpto_row_tie rfl ⟨rfl, rfl⟩ (by kernel_rfl) rfl keeps_plain (by kernel_rfl)
#print axioms keeps_card

end Go.Proofs.YtekkkoipcghlmaaGreatDoor
