import Derived.Test.YtekkkoipcghlmaaDoorW9
import Derived.Test.YtekkkoipcghlmaaDoorFol
namespace Go.Proofs.YtekkkoipcghlmaaDoor
open Go.RowKit

/-- Two opposite numbers in a list; are two lists one. -/
def alwaysOf (xs : List Int) : Bool := xs.any fun x => xs.contains (-x)
def sameOf (xs ys : List Int) : Bool := decide (xs = ys)

set_option maxRecDepth 100000 in
set_option maxHeartbeats 400000 in
theorem always_any (v : Value) (xs : List Int) (w : World) (hl : xs.length ≤ 10000000) (hx : ∀ x, x ∈ xs → -12 ≤ x ∧ x ≤ 12) (hv : Lies w v (ints xs)) :
    Calls Tryd.prog 48 #[v] w fun e w' => e = .returned (.bool (alwaysOf xs)) ∧ w' = w := by
  have hv0 := hv
  rcases hv with ⟨h0, ao, cap, rfl⟩ | ⟨b, off, cap, hp, rfl, hb, hc⟩
  · have hx0 : xs = [] := by simpa [ints] using h0
    subst hx0
    go_enter Tryd.func48, Tryd.ntmps48
    go_wp2
    refine wp_loop_rounds 1 ?_
    rw [rounds_succ]
    go_wp2
    go_ret
    exact ⟨rfl, rfl⟩
  · have hlen : (ints xs).length = xs.length := by simp [ints]
    rw [hlen] at hp hv0 ⊢
    have HV := hide hv0
    clear hv0
    go_enter Tryd.func48, Tryd.ntmps48
    go_wp2
    go_loop [3] (fun i => ∃ k : Nat, k ≤ xs.length ∧ i = .int .i64 k ∧ Hid ((xs.take k).any (fun x => xs.contains (-x)) = false)) (fun i => xs.length - (intOf i).toNat)
    case atStart => exact ⟨0, Nat.zero_le _, rfl, rfl⟩
    case round =>
      obtain ⟨k, hk, rfl, HA⟩ := hrel
      by_cases hlt : k < xs.length
      · have hcell := hc k (.int .i64 xs[k]) (by simp [ints, hlt])
        have hxb := hx xs[k] (List.getElem_mem hlt)
        have HM : Hid (xs[k] ∈ xs) := hide (List.getElem_mem hlt)
        have HS : Hid (xs.take (k + 1) = xs.take k ++ [xs[k]]) := hide (List.take_succ_eq_append_getElem hlt)
        generalize xs[k] = x at hcell HM HS hxb
        clear hc hx
        have HI := hide (in_any _ xs (-x) w hl (unhide HV))
        cases hcc : xs.contains (-x)
        · rw [hcc] at HI
          have HCC := hide hcc
          clear hcc
          go_wp2_with fail
          refine (unhide HI).mono ?_
          rintro e w1 ⟨rfl, rfl⟩
          go_wp2
          go_round
          case rel => exact ⟨k + 1, by omega, by go_num, hide (by rw [unhide HS, List.any_append, unhide HA]; simp only [List.any_cons, List.any_nil, unhide HCC]; rfl)⟩
          case measure => simp [intOf]; omega
        · rw [hcc] at HI
          have HCC := hide hcc
          clear hcc
          go_wp2_with fail
          refine (unhide HI).mono ?_
          rintro e w1 ⟨rfl, rfl⟩
          go_wp2
          go_ret
          have : alwaysOf xs = true := List.any_eq_true.2 ⟨x, unhide HM, unhide HCC⟩
          exact ⟨by rw [this]; rfl, rfl⟩
      · have HT : Hid (xs.take k = xs) := hide (List.take_of_length_le (by omega))
        go_wp2
        go_ret
        have : alwaysOf xs = false := by have := unhide HA; rw [unhide HT] at this; exact this
        exact ⟨by rw [this]; rfl, rfl⟩

set_option maxRecDepth 100000 in
set_option maxHeartbeats 400000 in
theorem same_any (v u : Value) (xs ys : List Int) (w : World) (hl : xs.length ≤ 10000000) (hl2 : ys.length ≤ 10000000) (hv : Lies w v (ints xs)) (hu : Lies w u (ints ys)) :
    Calls Tryd.prog 47 #[v, u] w fun e w' => e = .returned (.bool (sameOf xs ys)) ∧ Below w.heap.size w w' := by
  have shape : ∀ {v : Value} {xs : List Int}, Lies w v (ints xs) → ∃ ao cap, v = .slice ao xs.length cap := by
    intro v xs h
    rcases h with ⟨h0, ao, cap, rfl⟩ | ⟨b, off, cap, hp, rfl, hb, hc⟩
    · have hx0 : xs = [] := by simpa [ints] using h0
      subst hx0; exact ⟨_, _, rfl⟩
    · exact ⟨some ⟨b, off, none⟩, cap, by simp [ints]⟩
  by_cases hle : xs.length = ys.length
  · rcases hv with ⟨h0, ao, cap, rfl⟩ | ⟨b, off, cap, hp, rfl, hb, hc⟩
    · have hx0 : xs = [] := by simpa [ints] using h0
      subst hx0
      have hy0 : ys = [] := List.length_eq_zero_iff.1 hle.symm
      subst hy0
      obtain ⟨ao', cap', rfl⟩ := shape hu
      clear hu hle
      go_enter Tryd.func47, Tryd.ntmps47
      go_wp2
      refine wp_loop_rounds 1 ?_
      rw [rounds_succ]
      go_wp2
      go_ret
      exact ⟨rfl, Below.refl _ _⟩
    · rcases hu with ⟨h0, ao, cap2, rfl⟩ | ⟨b2, off2, cap2, hp2, rfl, hb2, hc2⟩
      · exfalso
        have hy0 : ys = [] := by simpa [ints] using h0
        subst hy0; simp [ints] at hp hle; rw [hle] at hp; simp at hp
      · have hlen : (ints xs).length = xs.length := by simp [ints]
        have hlen2 : (ints ys).length = ys.length := by simp [ints]
        rw [hlen] at hp ⊢
        rw [hlen2, ← hle]
        have HLE := hide hle
        clear hle hp2 hlen2
        go_enter Tryd.func47, Tryd.ntmps47
        go_wp2
        go_loopw [5] (fun i wr => ∃ k : Nat, k ≤ xs.length ∧ i = .int .i64 k ∧ Hid (xs.take k = ys.take k) ∧ ∃ q, wr = w.drewN q) (fun i _ => xs.length - (intOf i).toNat)
        case atStart => exact ⟨0, Nat.zero_le _, rfl, rfl, 0, rfl⟩
        case round =>
          obtain ⟨k, hk, rfl, HA, q, rfl⟩ := hrel
          by_cases hlt : k < xs.length
          · have hlt2 : k < ys.length := by rw [← unhide HLE]; exact hlt
            have hc1 := hc k (.int .i64 xs[k]) (by simp [ints, hlt])
            have hc2' := hc2 k (.int .i64 ys[k]) (by simp [ints, hlt2])
            have HS : Hid (xs.take (k + 1) = xs.take k ++ [xs[k]]) := hide (List.take_succ_eq_append_getElem hlt)
            have HS2 : Hid (ys.take (k + 1) = ys.take k ++ [ys[k]]) := hide (List.take_succ_eq_append_getElem hlt2)
            have HG : Hid (xs = ys → xs[k] = ys[k]) := hide (fun h => by subst h; rfl)
            generalize xs[k] = x at hc1 HS HG
            generalize ys[k] = y at hc2' HS2 HG
            clear hc hc2 hlt2
            by_cases hxy : x = y
            · subst hxy
              go_wp2
              go_quiet (fail)
              go_wp2
              go_roundw
              case rel => exact ⟨k + 1, by omega, by go_num, hide (by rw [unhide HS, unhide HS2, unhide HA]), _, rfl⟩
              case measure => simp [intOf]; omega
            · have hq : (x == y) = false := by simpa using hxy
              have HX := hide hxy
              clear hxy
              go_wp2
              go_quiet (fail)
              go_wp2
              go_ret
              have : sameOf xs ys = false := by unfold sameOf; simp; exact fun h => unhide HX (unhide HG h)
              exact ⟨by rw [this]; rfl, below_drewN (below_drewN (Below.refl _ _) _) _⟩
          · have HT : Hid (xs = ys) := hide (by
              have := unhide HA
              rw [List.take_of_length_le (by omega), List.take_of_length_le (by rw [← unhide HLE]; omega)] at this
              exact this)
            go_wp2
            go_ret
            exact ⟨by rw [show sameOf xs ys = true from decide_eq_true (unhide HT)]; rfl, below_drewN (Below.refl _ _) _⟩
  · obtain ⟨ao, cap, rfl⟩ := shape hv
    obtain ⟨ao', cap', rfl⟩ := shape hu
    clear hv hu
    have hq : ((xs.length : Int) == (ys.length : Int)) = false := by rw [beq_eq_false_iff_ne]; omega
    have HD : Hid (sameOf xs ys = false) := hide (by unfold sameOf; simp; intro h; subst h; exact hle rfl)
    clear hle
    go_enter Tryd.func47, Tryd.ntmps47
    go_wp2
    go_ret
    exact ⟨by rw [unhide HD]; rfl, Below.refl _ _⟩

end Go.Proofs.YtekkkoipcghlmaaDoor
