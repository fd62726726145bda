import Derived.Test.YtekkkoipcghlmaaDoorAid
import Derived.Test.YtekkkoipcghlmaaDoorSpec
import Derived.Test.YtekkkoipcghlmaaDoorProg
namespace Go.Proofs.YtekkkoipcghlmaaDoor
open Go.RowKit

theorem Tryd.infoStr : (Tryd.prog.info? 9).map (fun i => (i.zero, i.size, i.bytes)) = some (some (.string ⟨#[]⟩), 1, 16) := by kernel_rfl

set_option maxRecDepth 100000 in
set_option maxHeartbeats 400000 in
theorem words_any (s : List UInt8) (w : World) (hs : s.length ≤ 10000000) (hne : s ≠ []) :
    Calls Tryd.prog 25 #[.string (bs s)] w fun e w' => ∃ v, e = .returned v ∧ w'.ownsRow w.heap.size 9 1 v (Sp.words s).length (strs (Sp.words s)) ∧ Below w.heap.size w w' := by
  obtain ⟨i0, hi, hz0, hz1, hz2⟩ := info_parts Tryd.infoStr
  have hsz := bs_size s
  have hemp : (bs s).toList.isEmpty = false := bs_nonempty hne
  have HW : Hid (Sp.words s = Sp.wordsAux [] s) := hide (by simp [Sp.words, hne])
  go_enter Tryd.func25, Tryd.ntmps25
  go_wp2_with fail
  go_loopw [3, 4, 5] (fun v c i wr => ∃ (k : Nat) (O : List (List UInt8)) (cur : List UInt8), k ≤ s.length ∧ i = .int .i64 k ∧ c = .string (bs cur) ∧ wr.ownsRow w.heap.size 9 1 v O.length (strs O) ∧ Below w.heap.size w wr ∧ O.length ≤ k ∧ cur.length ≤ k ∧ Hid (O ++ Sp.wordsAux cur (s.drop k) = Sp.wordsAux [] s))
    (fun _ _ i _ => s.length - (intOf i).toNat)
  case atStart => exact ⟨0, [], [], Nat.zero_le _, rfl, rfl, World.ownsRow_nil _ _ _ _, Below.refl _ _, by simp, by simp, rfl⟩
  case round =>
    obtain ⟨k, O, cur, hk, rfl, rfl, hown, hbel, hO, hcur, HI⟩ := hrel
    by_cases hlt : k < s.length
    · have hlt' : k < (bs s).size := by omega
      have HD : Hid (s.drop k = s[k] :: s.drop (k + 1)) := hide (List.drop_eq_getElem_cons hlt)
      have HB : Hid ((bs s)[k] = s[k]) := hide (bs_get hlt)
      by_cases hc : s[k] = 32
      · have ht : (((bs s)[k].toNat : Int) == 32) = true := by rw [unhide HB, hc]; rfl
        have HC := hide hc
        clear hc
        go_wp2_with (at_builtin; refine append_one rfl _ _ 46 9 rfl Tryd.underlying46 Tryd.infoStr rfl (by decide) hown rfl rfl rfl (by omega) (Nat.le_refl _) hbel ?_; intro v' w1 hown' hbel' _)
        go_roundw
        case rel => exact ⟨k + 1, O ++ [cur], [], by omega, by go_num, rfl, by simpa [strs] using hown', hbel', by simp; omega, by simp, hide (by rw [← unhide HI, unhide HD, unhide HC]; simp [Sp.wordsAux])⟩
        case measure => simp [intOf]; omega
      · have ht : (((bs s)[k].toNat : Int) == 32) = false := by rw [unhide HB]; exact byte_ne (by decide) hc
        have HC := hide hc
        clear hc
        have hsl := fun wx => slice_bs (P := Tryd.prog) 9 Tryd.underlying9 s k (k + 1) k (k + 1) rfl rfl (by omega) (by omega) wx
        have e1 : (s.drop k).take (k + 1 - k) = [s[k]] := by rw [unhide HD]; simp
        rw [e1] at hsl
        clear e1
        have hadd := fun wx => add_bs (P := Tryd.prog) cur [s[k]] (by simp; omega) wx
        go_wp2
        go_roundw
        case rel => exact ⟨k + 1, O, cur ++ [s[k]], by omega, by go_num, rfl, hown, hbel, by omega, by simp; omega, hide (by rw [← unhide HI, unhide HD]; simp [Sp.wordsAux, unhide HC])⟩
        case measure => simp [intOf]; omega
    · have HE : Hid (s.drop k = []) := hide (List.drop_eq_nil_of_le (by omega))
      go_wp2_with (at_builtin; refine append_one rfl _ _ 46 9 rfl Tryd.underlying46 Tryd.infoStr rfl (by decide) hown rfl rfl rfl (by omega) (Nat.le_refl _) hbel ?_; intro v' w1 hown' hbel' _)
      go_ret
      have hfin : Sp.words s = O ++ [cur] := by rw [unhide HW, ← unhide HI, unhide HE]; rfl
      exact ⟨_, rfl, by rw [hfin]; simpa [strs] using hown', hbel'⟩

theorem words_nil (w : World) :
    Calls Tryd.prog 25 #[.string (bs [])] w fun e w' => e = .returned (.slice none 0 0) ∧ w' = w := by
  have hemp : (bs []).toList.isEmpty = true := by rw [bs_toList]; rfl
  go_enter Tryd.func25, Tryd.ntmps25
  go_wp2
  go_ret
  exact ⟨rfl, rfl⟩

end Go.Proofs.YtekkkoipcghlmaaDoor
