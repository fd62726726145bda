import Derived.Test.YtekkkoipcghlmaaDoorQ3
namespace Go.Proofs.YtekkkoipcghlmaaDoor
open Go.RowKit

/-- The entries of the program's list, in memory: each a clause and how often it is there. -/
def EntsLie (w : World) (v : Value) (E : List (Nat × Nat)) : Prop :=
  (E = [] ∧ ∃ ao cap, v = .slice ao 0 cap) ∨
  (∃ b cap, 0 < E.length ∧ v = .slice (some ⟨b, 0, none⟩) E.length cap ∧ b < w.heap.size ∧ ∀ k x, E[k]? = some x → w.cell? ⟨b, k * 2, none⟩ = some (.int .u32 (x.1 : Int)) ∧ w.cell? ⟨b, k * 2 + 1, none⟩ = some (.int .i64 (x.2 : Int)))

theorem ents_shape {w : World} {v : Value} {E : List (Nat × Nat)} (h : EntsLie w v E) : ∃ ao cap, v = .slice ao E.length cap := by
  rcases h with ⟨h0, ao, cap, rfl⟩ | ⟨b, cap, hp, rfl, hb, hc⟩
  · subst h0; exact ⟨_, _, rfl⟩
  · exact ⟨_, _, rfl⟩

def Live (E : List (Nat × Nat)) (L : List Nat) : Prop := ∀ c, c ∈ L ↔ ∃ t, (c, t) ∈ E ∧ 0 < t
def PassOut (L : List Nat) (m u u' : Nat) (cf : Bool) : Prop := Sp.Untrue L m u' ∧ (cf = true → Sp.Fol L m) ∧ (cf = false → u ||| u' = u' ∧ (u' = u → ∀ c, c ∈ L → Sp.Quiet u c))
def PassRes (L : List Nat) (m u : Nat) (w : World) (e : Ending) (w' : World) : Prop := ∃ (u' : Nat) (cf : Bool), e = .returned (.tuple #[.int .u32 (u' : Int), .bool cf]) ∧ PassOut L m u u' cf ∧ Below w.heap.size w w'

set_option maxRecDepth 100000 in
set_option maxHeartbeats 1600000 in
theorem pass_any (p : Nat) (ev : Value) (E : List (Nat × Nat)) (L : List Nat) (m u : Nat) (w : World) (hcell : w.cell? ⟨p, 0, none⟩ = some ev) (hE : EntsLie w ev E) (hl : E.length ≤ 10000000) (hlive : Live E L)
    (hsm : ∀ x, x ∈ E → x.2 ≤ 10000000 ∧ (0 < x.2 → x.1 < 2 ^ 24)) (hu : Sp.Untrue L m u) :
    Calls Tryd.prog 60 #[.pointer (some ⟨p, 0, none⟩), .int .u32 u] w fun e w' => PassRes L m u w e w' := by
  obtain ⟨ao, cap, rfl⟩ := ents_shape hE
  have HE := hide hE
  have HU := hide hu
  have HLV := hide hlive
  have HSM := hide hsm
  have hult := hu.lt
  clear hE hu hlive hsm
  go_enter Tryd.func60, Tryd.ntmps60
  go_wp2
  go_loopw [1, 14] (fun uu i wr => ∃ (k u' : Nat), k ≤ E.length ∧ i = .int .i64 k ∧ uu = .int .u32 u' ∧ u' < 2 ^ 24 ∧ Hid (Sp.Untrue L m u') ∧ Hid (u ||| u' = u') ∧ Hid (u' = u → ∀ x, x ∈ E.take k → 0 < x.2 → Sp.Quiet u x.1) ∧ Below w.heap.size w wr) (fun _ i _ => E.length - (intOf i).toNat)
  case atStart => exact ⟨0, u, Nat.zero_le _, rfl, rfl, hult, HU, hide (Nat.or_self u), hide (fun _ x hx => by simp at hx), Below.refl _ _⟩
  case round =>
    clear hult HU
    obtain ⟨k, u', hk, rfl, rfl, hult, HU, HG, HQ, hbel⟩ := hrel
    by_cases hlt : k < E.length
    · rcases unhide HE with ⟨h0, _⟩ | ⟨b, cap', hp, hsl, hb, hc⟩
      · exfalso; rw [h0] at hlt; simp at hlt
      · simp only [Value.slice.injEq] at hsl
        obtain ⟨rfl, -, rfl⟩ := hsl
        obtain ⟨hc0, hc1⟩ := hc k E[k] (List.getElem?_eq_getElem hlt)
        have hc0 := (hbel.cell (p := ⟨b, k * 2, none⟩) hb).trans hc0
        have hc1 := (hbel.cell (p := ⟨b, k * 2 + 1, none⟩) hb).trans hc1
        have hx := unhide HSM E[k] (List.getElem_mem hlt)
        have HXM : Hid (E[k] ∈ E) := hide (List.getElem_mem hlt)
        have HS : Hid (E.take (k + 1) = E.take k ++ [E[k]]) := hide (List.take_succ_eq_append_getElem hlt)
        generalize E[k] = x at *
        obtain ⟨c, t⟩ := x
        simp only at hc0 hc1 hx
        obtain ⟨ht, hc24'⟩ := hx
        have HC24 := hide hc24'
        clear hc24'
        clear hc
        rcases Nat.eq_zero_or_pos t with ht0 | ht0
        · subst ht0
          have hbel1 := fun o => hbel.alloc hbel.size o
          go_wp2
          go_roundw
          case rel => exact ⟨k + 1, u', by omega, by go_num, rfl, hult, HU, HG, hide (fun he x hx => by
            rw [unhide HS] at hx
            rcases List.mem_append.1 hx with hx | hx
            · exact unhide HQ he x hx
            · simp at hx; subst hx; intro h; simp at h), hbel1 _⟩
          case measure => simp [intOf]; omega
        · have hq : ((t : Int) == 0) = false := by rw [beq_eq_false_iff_ne]; omega
          have hc24 := unhide HC24 ht0
          have HCL : Hid (c ∈ L) := hide ((unhide HLV c).2 ⟨t, unhide HXM, ht0⟩)
          have hll := leftMask_lt u' hc24
          have el := bits_left c u' (by omega) (by omega)
          have HLZ : Hid (leftMask c u' = 0 → Sp.Fol L m) := hide (fun h => (unhide HU).conflict (unhide HCL) h)
          have HMO : Hid (oneBit (leftMask c u') = true → Sp.Untrue L m (u' ||| oppMask (leftMask c u'))) := hide (fun h => (unhide HU).more (unhide HCL) hc24 h)
          have hol := oppMask_lt hll
          have eo := bits_or_u32 u' (oppMask (leftMask c u')) (by omega) (by omega)
          have HSI := hide (fun wx => single_any (leftMask c u') wx hll)
          have HOP := hide (fun wx => opposites_any (leftMask c u') wx hll)
          have HQN : Hid (leftMask c u' ≠ 0 → (oneBit (leftMask c u') = true → u' ||| oppMask (leftMask c u') = u') → Sp.Quiet u' c) := hide (fun h1 h2 => ⟨h1, h2⟩)
          generalize leftMask c u' = lm at *
          generalize oppMask lm = om at *
          generalize hob : oneBit lm = ob at *
          clear hob
          have hbel1 := fun o => hbel.alloc hbel.size o
          rcases Nat.eq_zero_or_pos lm with hl0 | hl0
          · subst hl0
            have HF := hide (unhide HLZ rfl)
            clear HLZ HMO eo
            go_wp2
            go_ret2
            exact ⟨u', true, rfl, ⟨unhide HU, fun _ => unhide HF, fun h => (by cases h)⟩, hbel1 _⟩
          · have hlq : ((lm : Int) == 0) = false := by rw [beq_eq_false_iff_ne]; omega
            have HL0 : Hid (lm ≠ 0) := hide (by omega)
            cases ob
            · go_wp2_with fail
              refine (unhide HSI _).mono ?_
              rintro e w1 ⟨rfl, q, rfl⟩
              go_wp2
              go_roundw
              case rel => exact ⟨k + 1, u', by omega, by go_num, rfl, hult, HU, HG, hide (fun he x hx => by
                rw [unhide HS] at hx
                rcases List.mem_append.1 hx with hx | hx
                · exact unhide HQ he x hx
                · simp at hx; subst hx; intro _; rw [← he]; exact unhide HQN (unhide HL0) (fun h => (by cases h))), below_drewN (hbel1 _) _⟩
              case measure => simp [intOf]; omega
            · have HUN := hide (unhide HMO rfl)
              go_wp2_with fail
              refine (unhide HSI _).mono ?_
              rintro e w1 ⟨rfl, q, rfl⟩
              go_wp2_with fail
              refine (unhide HOP _).mono ?_
              rintro e w2 ⟨rfl, rfl⟩
              go_wp2
              go_roundw
              case rel => exact ⟨k + 1, u' ||| om, by omega, by go_num, rfl, (unhide HUN).lt, HUN, hide (Sp.or_grows (unhide HG)), hide (fun he x hx => by
                have hback := Sp.or_back (unhide HG) he
                rw [unhide HS] at hx
                rcases List.mem_append.1 hx with hx | hx
                · exact unhide HQ hback x hx
                · simp at hx; subst hx; intro _; rw [← hback]; exact unhide HQN (unhide HL0) (fun _ => by rw [he, hback])), below_drewN (hbel1 _) _⟩
              case measure => simp [intOf]; omega
    · have HT : Hid (E.take k = E) := hide (List.take_of_length_le (by omega))
      go_wp2
      go_ret2
      refine ⟨u', false, rfl, ⟨unhide HU, fun h => (by cases h), fun _ => ⟨unhide HG, fun he c hc => ?_⟩⟩, hbel⟩
      obtain ⟨t, ht, ht0⟩ := (unhide HLV c).1 hc
      exact unhide HQ he (c, t) (by rw [unhide HT]; exact ht) ht0

end Go.Proofs.YtekkkoipcghlmaaDoor
