import Derived.Test.YtekkkoipcghlmaaDoorW2
namespace Go.Proofs.YtekkkoipcghlmaaDoor
open Go.RowKit

theorem seg_snoc (s : List UInt8) (f k : Nat) (hf : f ≤ k) (hk : k < s.length) : (s.drop f).take (k + 1 - f) = (s.drop f).take (k - f) ++ [s[k]] := by
  rw [show k + 1 - f = (k - f) + 1 from by omega, List.take_succ_eq_append_getElem (by simp; omega)]
  simp [show f + (k - f) = k from by omega]

set_option maxRecDepth 100000 in
set_option maxHeartbeats 400000 in
theorem lines_any (s : List UInt8) (w : World) (hs : s.length ≤ 10000000) :
    Calls Tryd.prog 23 #[.string (bs s)] w fun e w' => ∃ v, e = .returned (.tuple #[v, .bool (Sp.ended s)]) ∧ w'.ownsRow w.heap.size 9 1 v (Sp.lines s).length (strs (Sp.lines s)) ∧ Below w.heap.size w w' := by
  have hsz := bs_size s
  go_enter Tryd.func23, Tryd.ntmps23
  go_wp2_with fail
  go_loopw [4, 5, 6] (fun v fr i wr => ∃ (k f : Nat) (O : List (List UInt8)), f ≤ k ∧ k ≤ s.length ∧ i = .int .i64 k ∧ fr = .int .i64 f ∧ wr.ownsRow w.heap.size 9 1 v O.length (strs O) ∧ Below w.heap.size w wr ∧ O.length ≤ k ∧
      Hid (O ++ Sp.linesAux ((s.drop f).take (k - f)) (s.drop k) = Sp.lines s) ∧ Hid (Sp.endAux ((s.drop f).take (k - f)) (s.drop k) = Sp.ended s))
    (fun _ _ i _ => s.length - (intOf i).toNat)
  case atStart => exact ⟨0, 0, [], Nat.le_refl _, Nat.zero_le _, rfl, rfl, World.ownsRow_nil _ _ _ _, Below.refl _ _, by simp, rfl, rfl⟩
  case round =>
    obtain ⟨k, f, O, hf, hk, rfl, rfl, hown, hbel, hO, HI, HE⟩ := hrel
    by_cases hlt : k < s.length
    · have hlt' : k < (bs s).size := by omega
      have HD : Hid (s.drop k = s[k] :: s.drop (k + 1)) := hide (List.drop_eq_getElem_cons hlt)
      have HB : Hid ((bs s)[k] = s[k]) := hide (bs_get hlt)
      have HN := hide (seg_snoc s f k hf hlt)
      by_cases hc : s[k] = 10
      · have ht : (((bs s)[k].toNat : Int) == 10) = true := by rw [unhide HB, hc]; rfl
        have HC := hide hc
        clear hc
        have hsl := fun wx => slice_bs (P := Tryd.prog) 9 Tryd.underlying9 s f k f k rfl rfl hf (by omega) wx
        go_wp2_with (at_builtin; refine append_one rfl _ _ 46 9 rfl Tryd.underlying46 Tryd.infoStr rfl (by decide) hown rfl rfl rfl (by omega) (Nat.le_refl _) hbel ?_; intro v' w1 hown' hbel' _)
        go_roundw
        case rel => exact ⟨k + 1, k + 1, O ++ [(s.drop f).take (k - f)], Nat.le_refl _, by omega, by go_num, by go_num, by simpa [strs] using hown', hbel', by simp; omega, hide (by rw [← unhide HI, unhide HD, unhide HC]; simp [Sp.linesAux]), hide (by rw [← unhide HE, unhide HD, unhide HC]; simp [Sp.endAux])⟩
        case measure => simp [intOf]; omega
      · have ht : (((bs s)[k].toNat : Int) == 10) = false := by rw [unhide HB]; exact byte_ne (by decide) hc
        have HC := hide hc
        clear hc
        go_wp2
        go_roundw
        case rel => exact ⟨k + 1, f, O, by omega, by omega, by go_num, rfl, hown, hbel, by omega, hide (by rw [← unhide HI, unhide HD, unhide HN, Sp.linesAux, if_neg (unhide HC)]; rfl), hide (by rw [← unhide HE, unhide HD, unhide HN, Sp.endAux, if_neg (unhide HC)]; rfl)⟩
        case measure => simp [intOf]; omega
    · have HL : Hid (s.drop k = []) := hide (List.drop_eq_nil_of_le (by omega))
      have HF : Hid ((s.drop f).take (k - f) = s.drop f) := hide (List.take_of_length_le (by simp; omega))
      by_cases hfl : f < s.length
      · have HG : Hid (¬ s.drop f = []) := hide (by intro h; have := congrArg List.length h; simp at this; omega)
        have hsl := fun wx => slice_from_bs (P := Tryd.prog) 9 Tryd.underlying9 s f f rfl (by omega) wx
        go_wp2_with (at_builtin; refine append_one rfl _ _ 46 9 rfl Tryd.underlying46 Tryd.infoStr rfl (by decide) hown rfl rfl rfl (by omega) (Nat.le_refl _) hbel ?_; intro v' w1 hown' hbel' _)
        go_ret2
        have hfin : Sp.lines s = O ++ [s.drop f] := by rw [← unhide HI, unhide HL, unhide HF]; simp only [Sp.linesAux]; rw [if_neg (unhide HG)]
        have hend : Sp.ended s = false := by rw [← unhide HE, unhide HL, unhide HF]; simpa [Sp.endAux] using unhide HG
        exact ⟨_, by rw [hend]; rfl, by rw [hfin]; simpa [strs] using hown', hbel'⟩
      · have HG : Hid (s.drop f = []) := hide (List.drop_eq_nil_of_le (by omega))
        go_wp2
        go_ret2
        have hfin : Sp.lines s = O := by rw [← unhide HI, unhide HL, unhide HF, unhide HG]; simp [Sp.linesAux]
        have hend : Sp.ended s = true := by rw [← unhide HE, unhide HL, unhide HF, unhide HG]; simp [Sp.endAux]
        exact ⟨_, by rw [hend]; rfl, by rw [hfin]; exact hown, hbel⟩

end Go.Proofs.YtekkkoipcghlmaaDoor
