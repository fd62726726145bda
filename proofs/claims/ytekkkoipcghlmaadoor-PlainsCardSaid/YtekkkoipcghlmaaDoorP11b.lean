import Derived.Test.YtekkkoipcghlmaaDoorP11
namespace Go.Proofs.YtekkkoipcghlmaaDoor
open Go.RowKit

set_option maxRecDepth 100000 in
set_option maxHeartbeats 800000 in
theorem plains_walk (b off len cap : Nat) (w : World) (hlen : len ≤ 9223372036854775807) (hb : b < w.heap.size) (hops : OpsAt w b off len) (he : Env w) :
    Calls Tryd.prog 3 #[.slice (some ⟨b, off, none⟩) len cap] w fun e w' => e = .returned (.bool true) ∧ Below w.heap.size w w' := by
  have H0 := hide (lawPlain_any [50, 32, 45, 49, 32, 50, 10] w (by decide) he)
  have H0 : Hid (Calls Tryd.prog 5 #[.string ⟨#[50, 32, 45, 49, 32, 50, 10]⟩] w fun e w' => e = .returned (.bool true) ∧ Below w.heap.size w w') := H0
  go_enter Tryd.func3, Tryd.ntmps3
  go_wp2_with fail
  refine (unhide H0).mono ?_
  rintro e w1 ⟨rfl, hb1⟩
  go_wp2_with fail
  go_loopw [3, 4] (fun ok i wr => ∃ k : Nat, k ≤ len ∧ i = .int .i64 k ∧ ok = .bool true ∧ Below w.heap.size w wr) (fun _ i _ => len - (intOf i).toNat)
  case atStart => exact ⟨0, Nat.zero_le _, rfl, rfl, hb1⟩
  case round =>
    obtain ⟨k, hk, rfl, rfl, hbel⟩ := hrel
    by_cases hlt : k < len
    · obtain ⟨kind, s, t, c0, c3, _, hsl, _⟩ := hops k hlt
      have d0 : wr.cell? ⟨b, off + k * 6, none⟩ = some (.int .i64 kind) := (hbel.cell (p := ⟨b, off + k * 6, none⟩) hb).trans c0
      have d3 : wr.cell? ⟨b, off + k * 6 + 3, none⟩ = some (.string (bs s)) := (hbel.cell (p := ⟨b, off + k * 6 + 3, none⟩) hb).trans c3
      clear c0 c3
      have HP := hide (lawPlain_any s wr hsl (he.below hbel))
      by_cases h1 : kind = 1
      · have hq : (kind == 1) = true := by simpa using h1
        clear h1
        go_wp2_with fail
        refine (unhide HP).mono ?_
        rintro e w2 ⟨rfl, hb2⟩
        go_wp2
        go_roundw
        case rel => exact ⟨k + 1, by omega, by go_num, rfl, hbel.trans (hb2.mono hbel.size)⟩
        case measure => simp [intOf]; omega
      · have hq : (kind == 1) = false := by simpa using h1
        clear h1
        go_wp2
        go_roundw
        case rel => exact ⟨k + 1, by omega, by go_num, rfl, hbel⟩
        case measure => simp [intOf]; omega
    · go_wp2
      go_ret
      exact ⟨rfl, hbel⟩

set_option maxRecDepth 100000 in
set_option maxHeartbeats 800000 in
theorem plains_none (a : Option Addr) (cap : Nat) (w : World) (he : Env w) :
    Calls Tryd.prog 3 #[.slice a 0 cap] w fun e w' => e = .returned (.bool true) ∧ Below w.heap.size w w' := by
  have H0 := hide (lawPlain_any [50, 32, 45, 49, 32, 50, 10] w (by decide) he)
  have H0 : Hid (Calls Tryd.prog 5 #[.string ⟨#[50, 32, 45, 49, 32, 50, 10]⟩] w fun e w' => e = .returned (.bool true) ∧ Below w.heap.size w w') := H0
  go_enter Tryd.func3, Tryd.ntmps3
  go_wp2_with fail
  refine (unhide H0).mono ?_
  rintro e w1 ⟨rfl, hb1⟩
  go_wp2
  refine wp_loop_rounds 1 ?_
  rw [rounds_succ]
  go_wp2
  go_ret
  exact ⟨rfl, hb1⟩

end Go.Proofs.YtekkkoipcghlmaaDoor
