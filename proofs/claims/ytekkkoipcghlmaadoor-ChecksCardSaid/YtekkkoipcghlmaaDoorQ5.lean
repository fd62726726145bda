import Derived.Test.YtekkkoipcghlmaaDoorQ4
namespace Go.Proofs.YtekkkoipcghlmaaDoor
open Go.RowKit

theorem EntsLie.below {w w' : World} {v : Value} {E : List (Nat × Nat)} (h : EntsLie w v E) (hb : Below w.heap.size w w') : EntsLie w' v E := by
  rcases h with h | ⟨b, cap, hp, hv, hlt, hc⟩
  · exact .inl h
  · exact .inr ⟨b, cap, hp, hv, Nat.lt_of_lt_of_le hlt hb.size, fun k x hx => ⟨(hb.cell (p := ⟨b, k * 2, none⟩) hlt).trans (hc k x hx).1, (hb.cell (p := ⟨b, k * 2 + 1, none⟩) hlt).trans (hc k x hx).2⟩⟩

set_option maxRecDepth 100000 in
set_option maxHeartbeats 1600000 in
theorem followsGo_any (p : Nat) (ev : Value) (E : List (Nat × Nat)) (L : List Nat) (m : Nat) (w : World) (hp : p < w.heap.size) (hcell : w.cell? ⟨p, 0, none⟩ = some ev) (hE : EntsLie w ev E) (hl : E.length ≤ 10000000) (hlive : Live E L)
    (hsm : ∀ x, x ∈ E → x.2 ≤ 10000000 ∧ (0 < x.2 → x.1 < 2 ^ 24)) (hL : Small L) (hm : m < 2 ^ 24) :
    Calls Tryd.prog 46 #[.pointer (some ⟨p, 0, none⟩), .int .u32 m] w fun e w' => FolRes L m w e w' := by
  have HA := hide (fun wx => alwaysTrue_any m wx hm)
  have HAI := hide (alwaysMask_iff hm)
  have HP : Hid (∀ (u : Nat) (wx : World), Below w.heap.size w wx → Sp.Untrue L m u → Calls Tryd.prog 60 #[.pointer (some ⟨p, 0, none⟩), .int .u32 u] wx fun e w' => PassRes L m u wx e w') :=
    hide (fun u wx hb hu => pass_any p ev E L m u wx ((hb.cell (p := ⟨p, 0, none⟩) hp).trans hcell) (hE.below hb) hl hlive hsm hu)
  have HFX : Hid (∀ u, Sp.Untrue L m u → alwaysMask m = false → (∀ c, c ∈ L → Sp.Quiet u c) → ¬ Sp.Fol L m) := hide (fun u hu ha hq => hu.fixed hm hL ha hq)
  have HST : Hid (Sp.Untrue L m m) := hide (Sp.Untrue.start hm)
  clear hcell hE hlive hsm hL
  cases ham : alwaysMask m
  · rw [ham] at HA
    have HAM := hide ham
    clear ham
    go_enter Tryd.func46, Tryd.ntmps46
    go_wp2_with fail
    refine (unhide HA _).mono ?_
    rintro e w1 ⟨rfl, q, rfl⟩
    go_wp2
    go_loopw [5] (fun uu wr => ∃ (u : Nat), uu = .int .u32 u ∧ Hid (Sp.Untrue L m u) ∧ Below w.heap.size w wr) (fun uu _ => 16777216 - (intOf uu).toNat)
    case atStart => exact ⟨m, rfl, HST, below_drewN (Below.refl _ _) _⟩
    case round =>
      obtain ⟨u, rfl, HU, hbel⟩ := hrel
      go_wp2_with fail
      refine (unhide HP u _ hbel (unhide HU)).mono ?_
      rintro e w2 ⟨u', cf, rfl, ho, hb2⟩
      have hult' := ho.1.lt
      have hult := (unhide HU).lt
      have HO := hide ho
      clear ho
      have hbel2 := hbel.trans (hb2.mono hbel.size)
      cases cf
      · by_cases he : u' = u
        · subst he
          have HF : Hid (¬ Sp.Fol L m) := hide (unhide HFX u' (unhide HU) (unhide HAM) (((unhide HO).2.2 rfl).2 rfl))
          go_wp2
          go_ret
          exact ⟨false, rfl, by simp [unhide HF], hbel2⟩
        · have hq : ((u' : Int) == (u : Int)) = false := by rw [beq_eq_false_iff_ne]; omega
          have hle := Sp.or_le ((unhide HO).2.2 rfl).1
          go_wp2
          go_roundw
          case rel => exact ⟨u', rfl, hide (unhide HO).1, hbel2⟩
          case measure => simp [intOf]; omega
      · have HF : Hid (Sp.Fol L m) := hide ((unhide HO).2.1 rfl)
        go_wp2
        go_ret
        exact ⟨true, rfl, by simp [unhide HF], hbel2⟩
  · rw [ham] at HA
    have HF : Hid (Sp.Fol L m) := hide (.inl ((unhide HAI).1 ham))
    clear ham
    go_enter Tryd.func46, Tryd.ntmps46
    go_wp2_with fail
    refine (unhide HA _).mono ?_
    rintro e w1 ⟨rfl, q, rfl⟩
    go_wp2
    go_ret
    exact ⟨true, rfl, by simp [unhide HF], below_drewN (Below.refl _ _) _⟩

end Go.Proofs.YtekkkoipcghlmaaDoor
