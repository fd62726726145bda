import Derived.Test.YtekkkoipcghlmaaDoorQ13
import Derived.Test.YtekkkoipcghlmaaDoorP11
import Derived.Deep.RegionWith
namespace Go.Proofs.YtekkkoipcghlmaaDoor
open Go.RowKit

set_option maxRecDepth 100000 in
set_option maxHeartbeats 800000 in
theorem checks_walk (b off len cap : Nat) (w : World) (hlen : len ≤ 9223372036854775807) (hb : b < w.heap.size) (hops : OpsAt w b off len) (he : Env w) :
    Calls Tryd.prog 4 #[.slice (some ⟨b, off, none⟩) len cap] w fun e w' => e = .returned (.bool true) ∧ Below w.heap.size w w' := by
  have H0 : Hid (∀ wx, Below w.heap.size w wx → Calls Tryd.prog 6 #[.string ⟨#[49, 32, 50, 10, 45, 49, 32, 50, 10, 49, 32, 45, 50, 10, 45, 49, 32, 45, 50, 10]⟩, .string ⟨#[50, 10, 10]⟩] wx fun e w' => e = .returned (.bool true) ∧ Below wx.heap.size wx w') := hide (fun wx hx => lawChecked_any [49, 32, 50, 10, 45, 49, 32, 50, 10, 49, 32, 45, 50, 10, 45, 49, 32, 45, 50, 10] [50, 10, 10] wx (by decide) (by decide) (he.below hx))
  have H1 : Hid (∀ wx, Below w.heap.size w wx → Calls Tryd.prog 6 #[.string ⟨#[49, 32, 50, 10, 45, 49, 32, 50, 10, 49, 32, 45, 50, 10, 45, 49, 32, 45, 50, 10]⟩, .string ⟨#[10]⟩] wx fun e w' => e = .returned (.bool true) ∧ Below wx.heap.size wx w') := hide (fun wx hx => lawChecked_any [49, 32, 50, 10, 45, 49, 32, 50, 10, 49, 32, 45, 50, 10, 45, 49, 32, 45, 50, 10] [10] wx (by decide) (by decide) (he.below hx))
  have H2 : Hid (∀ wx, Below w.heap.size w wx → Calls Tryd.prog 6 #[.string ⟨#[49, 32, 50, 10]⟩, .string ⟨#[100, 32, 49, 10]⟩] wx fun e w' => e = .returned (.bool true) ∧ Below wx.heap.size wx w') := hide (fun wx hx => lawChecked_any [49, 32, 50, 10] [100, 32, 49, 10] wx (by decide) (by decide) (he.below hx))
  go_enter Tryd.func4, Tryd.ntmps4
  go_wp2_with fail
  refine (unhide H0 _ (Below.refl _ _)).mono ?_
  rintro e wa ⟨rfl, hba⟩
  go_wp2_with fail
  refine (unhide H1 _ hba).mono ?_
  rintro e wb ⟨rfl, hbb⟩
  have hbb' := hba.trans (hbb.mono hba.size)
  go_wp2_with fail
  refine (unhide H2 _ hbb').mono ?_
  rintro e w1 ⟨rfl, hbc⟩
  have hb1 := hbb'.trans (hbc.mono hbb'.size)
  go_wp2_with fail
  go_loopw [6, 7] (fun ok i wr => ∃ k : Nat, k ≤ len ∧ i = .int .i64 k ∧ ok = .bool true ∧ Below w.heap.size w wr) (fun _ i _ => len - (intOf i).toNat)
  case atStart => exact ⟨0, Nat.zero_le _, rfl, rfl, hb1⟩
  case round =>
    obtain ⟨k, hk, rfl, rfl, hbel⟩ := hrel
    by_cases hlt : k < len
    · obtain ⟨kind, s, t, c0, c3, c4, hsl, htl⟩ := hops k hlt
      have d0 : wr.cell? ⟨b, off + k * 6, none⟩ = some (.int .i64 kind) := (hbel.cell (p := ⟨b, off + k * 6, none⟩) hb).trans c0
      have d3 : wr.cell? ⟨b, off + k * 6 + 3, none⟩ = some (.string (bs s)) := (hbel.cell (p := ⟨b, off + k * 6 + 3, none⟩) hb).trans c3
      have d4 : wr.cell? ⟨b, off + k * 6 + 4, none⟩ = some (.string (bs t)) := (hbel.cell (p := ⟨b, off + k * 6 + 4, none⟩) hb).trans c4
      clear c0 c3 c4
      by_cases h1 : kind = 2
      · have hq : (kind == 2) = true := by simpa using h1
        clear h1
        have HP : Hid (∀ wx, Below w.heap.size w wx → Calls Tryd.prog 6 #[.string (bs s), .string (bs t)] wx fun e w' => e = .returned (.bool true) ∧ Below w.heap.size w w') := hide (fun wx hx => (lawChecked_any s t wx hsl htl (he.below hx)).mono (fun e w' ⟨h1, h2⟩ => ⟨h1, hx.trans (h2.mono hx.size)⟩))
        go_wp2
        go_region_with (go_at_call 6; refine (unhide HP _ (by first | exact hbel | exact hbel.drew | exact hbel.drew.drew | exact below_drewN hbel _)).mono ?_; rintro e w2 ⟨rfl, hb2⟩)
        all_goals go_wp2
        all_goals
          refine ⟨⟨k + 1, by omega, by go_num, rfl, hb2⟩, ?_⟩
          simp [intOf]; omega
      · have hq : (kind == 2) = false := by simpa using h1
        clear h1
        go_wp2
        go_roundw
        case rel => exact ⟨k + 1, by omega, by go_num, rfl, hbel⟩
        case measure => simp [intOf]; omega
    · go_wp2
      go_ret
      exact ⟨rfl, hbel⟩

set_option maxRecDepth 100000 in
set_option maxHeartbeats 800000 in
theorem checks_none (a : Option Addr) (cap : Nat) (w : World) (he : Env w) :
    Calls Tryd.prog 4 #[.slice a 0 cap] w fun e w' => e = .returned (.bool true) ∧ Below w.heap.size w w' := by
  have H0 : Hid (∀ wx, Below w.heap.size w wx → Calls Tryd.prog 6 #[.string ⟨#[49, 32, 50, 10, 45, 49, 32, 50, 10, 49, 32, 45, 50, 10, 45, 49, 32, 45, 50, 10]⟩, .string ⟨#[50, 10, 10]⟩] wx fun e w' => e = .returned (.bool true) ∧ Below wx.heap.size wx w') := hide (fun wx hx => lawChecked_any [49, 32, 50, 10, 45, 49, 32, 50, 10, 49, 32, 45, 50, 10, 45, 49, 32, 45, 50, 10] [50, 10, 10] wx (by decide) (by decide) (he.below hx))
  have H1 : Hid (∀ wx, Below w.heap.size w wx → Calls Tryd.prog 6 #[.string ⟨#[49, 32, 50, 10, 45, 49, 32, 50, 10, 49, 32, 45, 50, 10, 45, 49, 32, 45, 50, 10]⟩, .string ⟨#[10]⟩] wx fun e w' => e = .returned (.bool true) ∧ Below wx.heap.size wx w') := hide (fun wx hx => lawChecked_any [49, 32, 50, 10, 45, 49, 32, 50, 10, 49, 32, 45, 50, 10, 45, 49, 32, 45, 50, 10] [10] wx (by decide) (by decide) (he.below hx))
  have H2 : Hid (∀ wx, Below w.heap.size w wx → Calls Tryd.prog 6 #[.string ⟨#[49, 32, 50, 10]⟩, .string ⟨#[100, 32, 49, 10]⟩] wx fun e w' => e = .returned (.bool true) ∧ Below wx.heap.size wx w') := hide (fun wx hx => lawChecked_any [49, 32, 50, 10] [100, 32, 49, 10] wx (by decide) (by decide) (he.below hx))
  go_enter Tryd.func4, Tryd.ntmps4
  go_wp2_with fail
  refine (unhide H0 _ (Below.refl _ _)).mono ?_
  rintro e wa ⟨rfl, hba⟩
  go_wp2_with fail
  refine (unhide H1 _ hba).mono ?_
  rintro e wb ⟨rfl, hbb⟩
  have hbb' := hba.trans (hbb.mono hba.size)
  go_wp2_with fail
  refine (unhide H2 _ hbb').mono ?_
  rintro e w1 ⟨rfl, hbc⟩
  have hb1 := hbb'.trans (hbc.mono hbb'.size)
  go_wp2
  refine wp_loop_rounds 1 ?_
  rw [rounds_succ]
  go_wp2
  go_ret
  exact ⟨rfl, hb1⟩

end Go.Proofs.YtekkkoipcghlmaaDoor
