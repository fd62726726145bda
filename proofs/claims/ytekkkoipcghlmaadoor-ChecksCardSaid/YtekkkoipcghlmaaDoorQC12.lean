import Derived.Test.YtekkkoipcghlmaaDoorQC11
import Derived.Deep.RegionWith
set_option linter.all false
namespace Go.Proofs.YtekkkoipcghlmaaDoor
open Go.RowKit

set_option maxRecDepth 100000 in
set_option maxHeartbeats 800000 in
theorem checks_walk (b off len cap : Nat) (w : World) (hlen : len ≤ 9223372036854775807) (hb : b < w.heap.size) (hops : OpsAt w b off len) (he : Env w) :
    Calls Tryd.prog 4 #[.slice (some ⟨b, off, none⟩) len cap] w fun e w' => e = .returned (.bool true) ∧ Below w.heap.size w w' := by
  have H0 : Hid (∀ wx, Below w.heap.size w wx → Calls Tryd.prog 6 #[.string ⟨#[49, 32, 50, 10, 45, 49, 32, 50, 10, 49, 32, 45, 50, 10, 45, 49, 32, 45, 50, 10]⟩, .string ⟨#[50, 10, 10]⟩] wx fun e w' => e = .returned (.bool true) ∧ Below wx.heap.size wx w') := hide (fun wx hx => lawChecked_any [49, 32, 50, 10, 45, 49, 32, 50, 10, 49, 32, 45, 50, 10, 45, 49, 32, 45, 50, 10] [50, 10, 10] wx (by decide) (by decide) (he.below hx))
  have H1 : Hid (∀ wx, Below w.heap.size w wx → Calls Tryd.prog 6 #[.string ⟨#[49, 32, 50, 10, 45, 49, 32, 50, 10, 49, 32, 45, 50, 10, 45, 49, 32, 45, 50, 10]⟩, .string ⟨#[10]⟩] wx fun e w' => e = .returned (.bool true) ∧ Below wx.heap.size wx w') := hide (fun wx hx => lawChecked_any [49, 32, 50, 10, 45, 49, 32, 50, 10, 49, 32, 45, 50, 10, 45, 49, 32, 45, 50, 10] [10] wx (by decide) (by decide) (he.below hx))
  have H2 : Hid (∀ wx, Below w.heap.size w wx → Calls Tryd.prog 6 #[.string ⟨#[49, 32, 50, 10]⟩, .string ⟨#[100, 32, 49, 10]⟩] wx fun e w' => e = .returned (.bool true) ∧ Below wx.heap.size wx w') := hide (fun wx hx => lawChecked_any [49, 32, 50, 10] [100, 32, 49, 10] wx (by decide) (by decide) (he.below hx))
  go_enter Tryd.func4, Tryd.ntmps4
  go_wp2_with fail
  refine (unhide H0 _ (Below.refl _ _)).mono ?_
  rintro e wa ⟨rfl, hba⟩
  go_wp2_with fail
  refine (unhide H1 _ hba).mono ?_
  rintro e wb ⟨rfl, hbb⟩
  have hbb' := hba.trans (hbb.mono hba.size)
  go_wp2_with fail
  refine (unhide H2 _ hbb').mono ?_
  rintro e w1 ⟨rfl, hbc⟩
  have hb1 := hbb'.trans (hbc.mono hbb'.size)
  go_wp2_with fail
  go_loopw [6, 7] (fun ok i wr => ∃ k : Nat, k ≤ len ∧ i = .int .i64 k ∧ ok = .bool true ∧ Below w.heap.size w wr) (fun _ i _ => len - (intOf i).toNat)
  case atStart => exact ⟨0, Nat.zero_le _, rfl, rfl, hb1⟩
  case round =>
    obtain ⟨k, hk, rfl, rfl, hbel⟩ := hrel
    by_cases hlt : k < len
    · obtain ⟨kind, s, t, c0, c3, c4, hsl, htl⟩ := hops k hlt
      have d0 : wr.cell? ⟨b, off + k * 6, none⟩ = some (.int .i64 kind) := (hbel.cell (p := ⟨b, off + k * 6, none⟩) hb).trans c0
      have d3 : wr.cell? ⟨b, off + k * 6 + 3, none⟩ = some (.string (bs s)) := (hbel.cell (p := ⟨b, off + k * 6 + 3, none⟩) hb).trans c3
      have d4 : wr.cell? ⟨b, off + k * 6 + 4, none⟩ = some (.string (bs t)) := (hbel.cell (p := ⟨b, off + k * 6 + 4, none⟩) hb).trans c4
      clear c0 c3 c4
      by_cases h1 : kind = 2
      · have hq : (kind == 2) = true := by simpa using h1
        clear h1
        have HP : Hid (∀ wx, Below w.heap.size w wx → Calls Tryd.prog 6 #[.string (bs s), .string (bs t)] wx fun e w' => e = .returned (.bool true) ∧ Below w.heap.size w w') := hide (fun wx hx => (lawChecked_any s t wx hsl htl (he.below hx)).mono (fun e w' ⟨h1, h2⟩ => ⟨h1, hx.trans (h2.mono hx.size)⟩))
        go_wp2
        go_region_with (go_at_call 6; refine (unhide HP _ (by first | exact hbel | exact hbel.drew | exact hbel.drew.drew | exact below_drewN hbel _)).mono ?_; rintro e w2 ⟨rfl, hb2⟩)
        all_goals go_wp2
        all_goals
          refine ⟨⟨k + 1, by omega, by go_num, rfl, hb2⟩, ?_⟩
          simp [intOf]; omega
      · have hq : (kind == 2) = false := by simpa using h1
        clear h1
        go_wp2
        go_roundw
        case rel => exact ⟨k + 1, by omega, by go_num, rfl, hbel⟩
        case measure => simp [intOf]; omega
    · go_wp2
      go_ret
      exact ⟨rfl, hbel⟩

set_option maxRecDepth 100000 in
set_option maxHeartbeats 800000 in
theorem checks_none (a : Option Addr) (cap : Nat) (w : World) (he : Env w) :
    Calls Tryd.prog 4 #[.slice a 0 cap] w fun e w' => e = .returned (.bool true) ∧ Below w.heap.size w w' := by
  have H0 : Hid (∀ wx, Below w.heap.size w wx → Calls Tryd.prog 6 #[.string ⟨#[49, 32, 50, 10, 45, 49, 32, 50, 10, 49, 32, 45, 50, 10, 45, 49, 32, 45, 50, 10]⟩, .string ⟨#[50, 10, 10]⟩] wx fun e w' => e = .returned (.bool true) ∧ Below wx.heap.size wx w') := hide (fun wx hx => lawChecked_any [49, 32, 50, 10, 45, 49, 32, 50, 10, 49, 32, 45, 50, 10, 45, 49, 32, 45, 50, 10] [50, 10, 10] wx (by decide) (by decide) (he.below hx))
  have H1 : Hid (∀ wx, Below w.heap.size w wx → Calls Tryd.prog 6 #[.string ⟨#[49, 32, 50, 10, 45, 49, 32, 50, 10, 49, 32, 45, 50, 10, 45, 49, 32, 45, 50, 10]⟩, .string ⟨#[10]⟩] wx fun e w' => e = .returned (.bool true) ∧ Below wx.heap.size wx w') := hide (fun wx hx => lawChecked_any [49, 32, 50, 10, 45, 49, 32, 50, 10, 49, 32, 45, 50, 10, 45, 49, 32, 45, 50, 10] [10] wx (by decide) (by decide) (he.below hx))
  have H2 : Hid (∀ wx, Below w.heap.size w wx → Calls Tryd.prog 6 #[.string ⟨#[49, 32, 50, 10]⟩, .string ⟨#[100, 32, 49, 10]⟩] wx fun e w' => e = .returned (.bool true) ∧ Below wx.heap.size wx w') := hide (fun wx hx => lawChecked_any [49, 32, 50, 10] [100, 32, 49, 10] wx (by decide) (by decide) (he.below hx))
  go_enter Tryd.func4, Tryd.ntmps4
  go_wp2_with fail
  refine (unhide H0 _ (Below.refl _ _)).mono ?_
  rintro e wa ⟨rfl, hba⟩
  go_wp2_with fail
  refine (unhide H1 _ hba).mono ?_
  rintro e wb ⟨rfl, hbb⟩
  have hbb' := hba.trans (hbb.mono hba.size)
  go_wp2_with fail
  refine (unhide H2 _ hbb').mono ?_
  rintro e w1 ⟨rfl, hbc⟩
  have hb1 := hbb'.trans (hbc.mono hbb'.size)
  go_wp2
  refine wp_loop_rounds 1 ?_
  rw [rounds_succ]
  go_wp2
  go_ret
  exact ⟨rfl, hb1⟩

end Go.Proofs.YtekkkoipcghlmaaDoor

namespace Go.Proofs.YtekkkoipcghlmaaDoor
open Go.ChangeShapes Go.WideShapes Go.ChangeAt Go.RowKit Go.Deep

theorem Tryd.laidOut : laidOutB Tryd.prog = true := by kernel_rfl

theorem ptake_one {cs : List Value} {o : Nat} {v : Value} (h : (cs.drop o).take 1 = [v]) : cs[o]? = some v := by
  have := congrArg (·[0]?) h
  simpa [List.getElem?_take, List.getElem?_drop] using this

/-- A step of a script, opened. -/
theorem op_open {H : Type} {enc : TypeId × Value → H} {W : World} {base n : Nat} {spare : Nat → Bool} {held : Bool} {cs : List Value} {x : DataW H × List MemPlace}
    (h : DataW.trod enc Tryd.prog W base spare held n 26 cs = some x) :
    ∃ (kind : Int) (s t : ByteArray), cs[0]? = some (.int .i64 kind) ∧ cs[3]? = some (.string s) ∧ cs[4]? = some (.string t) ∧ s.size ≤ maxLen ∧ t.size ≤ maxLen := by
  obtain ⟨xs, n', _, _, _, hxl, hf⟩ := DataW.trod_struct Tryd.underlying26 h
  have hx : ∀ i, i < 6 → ∃ y, xs[i]? = some y := fun i hi => ⟨xs[i]'(by rw [hxl]; exact hi), List.getElem?_eq_getElem _⟩
  have f0 : DataW.trod enc Tryd.prog W base spare held n' 3 ((cs.drop 0).take (Tryd.prog.cellsOf 3)) = xs[0]? := hf 0 _ rfl
  have f3 : DataW.trod enc Tryd.prog W base spare held n' 9 ((cs.drop 3).take (Tryd.prog.cellsOf 9)) = xs[3]? := hf 3 _ rfl
  have f4 : DataW.trod enc Tryd.prog W base spare held n' 9 ((cs.drop 4).take (Tryd.prog.cellsOf 9)) = xs[4]? := hf 4 _ rfl
  obtain ⟨y0, h0⟩ := hx 0 (by omega)
  obtain ⟨y3, h3⟩ := hx 3 (by omega)
  obtain ⟨y4, h4⟩ := hx 4 (by omega)
  rw [h0] at f0
  rw [h3] at f3
  rw [h4] at f4
  obtain ⟨kind, e0, _, _⟩ := DataW.trod_int Tryd.underlying3 f0
  obtain ⟨s, e3, _, hs⟩ := DataW.trod_string Tryd.underlying9 f3
  obtain ⟨t, e4, _, ht⟩ := DataW.trod_string Tryd.underlying9 f4
  rw [Tryd.cellsInt] at e0
  rw [Tryd.cellsStr] at e3 e4
  exact ⟨kind, s, t, ptake_one e0, ptake_one e3, ptake_one e4, hs, ht⟩

theorem bs_of (s : ByteArray) : s = bs s.data.toList := by unfold bs; cases s; simp

/-- A script's steps, out of its reading. -/
theorem ops_open {H : Type} {enc : TypeId × Value → H} {W : World} {base n m len : Nat} {spare : Nat → Bool} {held : Bool} {a : Addr} {D : Nat → DataW H} {Pl : Nat → List MemPlace} (hlen : 0 < len) (hm : len ≤ m)
    (hel : ∀ i, i < m → ∃ cs', W.cells? base (a.add (i * Tryd.prog.cellsOf 26)) (Tryd.prog.cellsOf 26) = some cs' ∧ DataW.trod enc Tryd.prog W base spare held n 26 cs' = some (D i, Pl i)) :
    ∃ b off, a = ⟨b, off, none⟩ ∧ b < W.heap.size ∧ OpsAt W b off len := by
  obtain ⟨b, off, spot⟩ := a
  have key : ∀ i, i < len → ∃ (kind : Int) (s t : ByteArray), W.cell? ((⟨b, off, spot⟩ : Addr).add (i * 6)) = some (.int .i64 kind) ∧ W.cell? (((⟨b, off, spot⟩ : Addr).add (i * 6)).add 3) = some (.string s) ∧ W.cell? (((⟨b, off, spot⟩ : Addr).add (i * 6)).add 4) = some (.string t) ∧ s.size ≤ maxLen ∧ t.size ≤ maxLen := by
    intro i hi
    obtain ⟨cs', hc, ht⟩ := hel i (by omega)
    rw [Tryd.cellsOp] at hc
    obtain ⟨_, _, hcell⟩ := World.cells?_some hc
    obtain ⟨kind, s, t, e0, e3, e4, hs, ht'⟩ := op_open ht
    refine ⟨kind, s, t, ?_, (hcell 3 (by omega)).trans e3, (hcell 4 (by omega)).trans e4, hs, ht'⟩
    have := (hcell 0 (by omega)).trans e0
    simpa [Addr.add] using this
  obtain ⟨k0, s0, t0, h0, _⟩ := key 0 hlen
  have hspot : spot = none := by simpa [Addr.add] using World.cell?_spot h0
  subst hspot
  have hb : b < W.heap.size := by simpa [Addr.add] using World.block_lt_of_cell? W _ h0
  refine ⟨b, off, rfl, hb, fun k hk => ?_⟩
  obtain ⟨kind, s, t, e0, e3, e4, hs, ht⟩ := key k hk
  have add_none : ∀ o j : Nat, (⟨b, o, none⟩ : Addr).add j = ⟨b, o + j, none⟩ := fun o j => by simp [Addr.add]
  rw [add_none] at e0 e3 e4
  rw [add_none] at e3 e4
  refine ⟨kind, s.data.toList, t.data.toList, e0, by rw [← bs_of]; exact e3, by rw [← bs_of]; exact e4, ?_, ?_⟩
  · have := Lib.size_eq s
    unfold maxLen at hs; omega
  · have := Lib.size_eq t
    unfold maxLen at ht; omega

end Go.Proofs.YtekkkoipcghlmaaDoor

namespace Go.Proofs.YtekkkoipcghlmaaDoor
open Go.ChangeShapes Go.WideShapes Go.ChangeAt Go.RowKit Go.Deep

set_option maxRecDepth 100000 in
theorem checks_contract (H : Type) (enc : TypeId × Value → H) (W : World) (base : Nat) (args : Array Value) (ds gs : List (DataW H)) (before : List MemPlace)
    (hval : ∀ (j : Nat) t v, Tryd.f4.params[j]? = some t → args[j]? = some v → Value.okWide Tryd.prog W .any base t v)
    (hW : DataW.Whole enc Tryd.prog Tryd.f4.params.toList Rows.checksSpec.vars false W args.toList ds gs before) (hL : laidMetH Tryd.prog Rows.checksRow.laid W) (hS : W.ShapedOpen Tryd.prog) :
    Calls Tryd.prog 4 args W fun e W' => ∃ v, e = .returned v ∧ Rows.checksSpec.post enc Tryd.prog Tryd.f4 false true false false W args v W' := by
  have he := env_of hL hS
  have hW' := hW
  obtain ⟨p, q, hA0, hV, rfl, hfz, hnd⟩ := hW
  have hA : DataW.TrodAll enc Tryd.prog W 0 (fun _ => true) true Tryd.f4.params.toList args.toList ds p := hA0
  rw [Tryd.params4] at hA hval
  obtain ⟨v0, d0, rfl, rfl, h0⟩ := trodAll_one hA
  obtain ⟨rfl, rfl⟩ := trodVars_none hV
  have h0k := h0
  obtain ⟨fuel, hf⟩ := h0
  clear hA0
  simp only [List.append_nil] at hW'
  have hlt : ∀ x ∈ p, x.block < W.heap.size := fun x hx => by simpa using hW'.lt x hx
  obtain ⟨a0, len, cap, rfl⟩ := okWide_slice Tryd.underlying22 (hval 0 22 v0 rfl rfl)
  have hargs : ∀ (W' : World), Below W.heap.size W W' → DataW.Trod enc Tryd.prog W' 0 (fun b => decide (b < W.heap.size)) true 22 (.slice a0 len cap) d0 p :=
    fun W' hn => Below.trod Tryd.laidOut (by kernel_rfl) (of_decide_eq_true (by kernel_rfl)) h0k hn hlt
  have fin : (Calls Tryd.prog 4 #[.slice a0 len cap] W fun e w' => e = .returned (.bool true) ∧ Below W.heap.size W w') →
      Calls Tryd.prog 4 #[.slice a0 len cap] W fun e W' => ∃ v, e = .returned v ∧ Rows.checksSpec.post enc Tryd.prog Tryd.f4 false true false false W #[.slice a0 len cap] v W' := by
    intro hc
    refine hc.mono fun e W' ⟨he, hb⟩ => ?_
    subst he
    exact ⟨_, rfl, _, _, _, [], p, [], hW', trodAll_mk1 (shut_bool Tryd.underlying4 _), trodAll_mk1 (hargs W' hb), rfl, hb.frame _, fun h => by cases h⟩
  rcases open_slice Tryd.underlying22 hf with ⟨hcs, hx⟩ | ⟨a, len', cap', m, n, D, Pl, hcs, _, hl, hm, hmm, hx, hel⟩
  · simp [Value.cells] at hcs
    obtain ⟨rfl, rfl, rfl⟩ := hcs
    exact fin (checks_none none 0 W he)
  · simp [Value.cells] at hcs
    obtain ⟨rfl, rfl, rfl⟩ := hcs
    by_cases h0 : len = 0
    · subst h0
      exact fin (checks_none (some a) cap W he)
    · simp only [if_true] at hmm
      subst hmm
      obtain ⟨b, off, rfl, hb, hops⟩ := ops_open (by omega) hl hel
      unfold maxLen at hm
      exact fin (checks_walk b off len _ W (by omega) hb hops he)

theorem checks_start_met (os : Os) : laidMet Tryd.prog Rows.checksRow.laid ((World.laidAll Tryd.prog os Rows.checksRow.laid).forCall (fun _ _ => 0) ⟨#[], #[.slice none 0 0], []⟩).memory :=
  laidMet_laidAll _ (by kernel_rfl) (by kernel_rfl)
theorem checks_start_reads (os : Os) {H : Type} (enc : TypeId × Value → H) : ∃ places, DataW.whole enc Tryd.prog ((World.laidAll Tryd.prog os Rows.checksRow.laid).forCall (fun _ _ => 0) ⟨#[], #[.slice none 0 0], []⟩).memory Tryd.f4.params.toList Rows.checksSpec.vars false #[Value.slice none 0 0].toList 8 = some ([.nil], [], places) :=
  ⟨[], by kernel_rfl⟩

set_option maxRecDepth 100000 in
theorem checks_lifted (os : Os) (started : os.Started) (H : Type) (enc : TypeId × Value → H) (F : Stop.Interp) :
    ReturnsInHanded {} Tryd.checked os 4 .any ((OpenSpec.ofChange Rows.checksSpec).preRow enc Tryd.prog Tryd.f4 Rows.checksRow.domain false Rows.checksRow.laid) (((OpenSpec.ofChange Rows.checksSpec).at F).post enc Tryd.prog Tryd.f4 false true false false) := by
  obtain ⟨places, hx⟩ := checks_start_reads os enc
  refine returnsInHanded_of_row (C := Tryd.checked) (s := OpenSpec.ofChange Rows.checksSpec) Tryd.ownKnob started (by kernel_rfl) Tryd.func4
    ⟨World.laidAll Tryd.prog os Rows.checksRow.laid, fun _ _ => 0, ⟨#[], #[.slice none 0 0], []⟩, World.laidAll_os _ _ _, World.shaped_of_ZipB (by kernel_rfl) (by kernel_rfl), rfl, (Input.okWide_of_okWideB (by kernel_rfl)).2,
      OpenSpec.preRow_of_cond 8 hx (by kernel_rfl) (fun k hk => by cases hk) (by kernel_rfl) (checks_start_met os), by simp [Assume.holds]⟩ ?_
  intro W base args ds gs before hval hW _ _ _ hL hS _
  exact checks_contract H enc W base args ds gs before hval hW hL hS

theorem checks_said : Rows.ChecksSaid :=
  OpenClaim.holds_of_cond 4 Tryd.f4 rfl rfl rfl rfl rfl rfl rfl ⟨rfl, rfl, rfl, rfl, rfl⟩ rfl rfl rfl rfl rfl (by kernel_rfl) Tryd.func4 (by kernel_rfl)
    (of_decide_eq_true (by kernel_rfl)) (by unfold Func.isWrapper; first | (rw [if_pos (by decide +kernel)]; kernel_rfl) | (rw [if_neg (by decide +kernel)]; exact ⟨rfl, rfl⟩))
    (fun os started H enc _ F => by rw [OpenClaim.pre_eq_preRow]; exact checks_lifted os started H enc F)

theorem checks_plain (f : FuncId) (fn : Func) (hf : Tryd.pinned.checked.prog.funcNamed "knots/knotslaw.Checks" = some f) (hfn : Tryd.pinned.checked.prog.funcs[f]? = some fn) :
    true = Tryd.pinned.checked.prog.looks [] ∧ ∀ (j : Nat) t, fn.params[j]? = some t → Tryd.pinned.checked.prog.wantsStandIn t = false := by
  obtain rfl : f = 4 := Option.some.inj ((show Tryd.prog.funcNamed "knots/knotslaw.Checks" = some 4 by kernel_rfl).symm.trans hf) |>.symm
  obtain rfl : fn = Tryd.f4 := (Option.some.inj (Tryd.func4.symm.trans hfn)).symm
  refine ⟨by kernel_rfl, fun j t ht => ?_⟩
  rw [Tryd.params4] at ht
  obtain rfl : t = 22 := by simpa using Array.mem_of_getElem? ht
  exact (show Tryd.prog.wantsStandIn 22 = false by kernel_rfl)

theorem checks_card : Rows.ChecksCardSaid :=
  Claim7.holds_tied_plain_at .later [] _ _ _ _ checks_said (fun _ h => by cases h) (by kernel_rfl) (fun _ h => by cases h) checks_row_tie rfl ⟨rfl, rfl⟩ (by kernel_rfl) rfl checks_plain (by kernel_rfl)
#print axioms checks_card

end Go.Proofs.YtekkkoipcghlmaaDoor
