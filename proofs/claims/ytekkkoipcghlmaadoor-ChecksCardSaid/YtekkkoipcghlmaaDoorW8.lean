import Derived.Test.YtekkkoipcghlmaaDoorW3
import Derived.Test.YtekkkoipcghlmaaDoorW5
import Derived.Test.YtekkkoipcghlmaaDoorW6
import Derived.Test.YtekkkoipcghlmaaDoorW7
namespace Go.Proofs.YtekkkoipcghlmaaDoor
open Go.RowKit

set_option maxRecDepth 100000 in
theorem word_none (w : World) : Calls Tryd.prog 41 #[.string (bs [])] w fun e w' => e = .returned (.int .i64 0) ∧ w' = w := by
  have hemp : (bs []).toList.isEmpty = true := by rw [bs_toList]; rfl
  go_enter Tryd.func41, Tryd.ntmps41
  go_wp2
  go_ret
  exact ⟨rfl, rfl⟩
set_option maxRecDepth 100000 in
theorem word_dash (w : World) : Calls Tryd.prog 41 #[.string (bs [45])] w fun e w' => e = .returned (.int .i64 0) ∧ w' = w := by
  have hempF : (bs [45]).toList.isEmpty = false := bs_nonempty (by simp)
  have hemp : (bs []).toList.isEmpty = true := by rw [bs_toList]; rfl
  have hszF : (bs [45]).size = 1 := by rw [bs_size]; simp
  have h0F : 0 < (bs [45]).size := by omega
  have hgF : (bs [45])[0] = 45 := bs_get (l := [45]) (k := 0) (by simp)
  have hslF : ∀ wx, (Instr.slice 9 (.string (bs [45])) (some (.int .i64 1)) none none).run Tryd.prog wx = .ok (.string (bs [])) wx := fun wx => slice_from_bs (P := Tryd.prog) 9 Tryd.underlying9 [45] 1 1 rfl (by simp) wx
  go_enter Tryd.func41, Tryd.ntmps41
  go_wp2
  go_ret
  exact ⟨rfl, rfl⟩

theorem word_any (s : List UInt8) (w : World) (hl : s.length ≤ 10000000) :
    Calls Tryd.prog 41 #[.string (bs s)] w fun e w' => e = .returned (.int .i64 (Sp.lit s)) ∧ w' = w := by
  rcases s with _ | ⟨a, r⟩
  · exact word_none w
  · by_cases ha : a = 45
    · subst ha
      rcases r with _ | ⟨b, r⟩
      · exact word_dash w
      · have := word_minus b r w (by simp at hl; omega)
        simpa [Sp.lit] using this
    · have := word_plus a r w ha (by simp at hl; omega)
      simpa [Sp.lit, ha] using this

set_option maxRecDepth 100000 in
set_option maxHeartbeats 800000 in
theorem clause_any (v : Value) (ws : List (List UInt8)) (w : World) (hl : ws.length ≤ 10000000) (hw : ∀ x, x ∈ ws → x.length ≤ 10000000) (hv : Lies w v (strs ws)) :
    Calls Tryd.prog 24 #[v] w fun e w' => ∃ v', e = .returned (.tuple #[v', .bool (allLit ws)]) ∧ Below w.heap.size w w' ∧
      (allLit ws = false → v' = .slice none 0 0) ∧ (allLit ws = true → w'.ownsRow w.heap.size 3 1 v' (Sp.sorted (ws.map Sp.lit)).length (ints (Sp.sorted (ws.map Sp.lit)))) := by
  rcases hv with ⟨h0, ao, cap, rfl⟩ | ⟨b, off, cap, hp, rfl, hb, hc⟩
  · have hx0 : ws = [] := by simpa [strs] using h0
    subst hx0
    go_enter Tryd.func24, Tryd.ntmps24
    go_wp2
    refine wp_loop_rounds 1 ?_
    rw [rounds_succ]
    go_wp2_with fail
    refine (sorted_any (.slice none 0 0) [] w (by simp) (Lies.nil w)).mono ?_
    rintro e w1 ⟨v1, rfl, hown1, hb1⟩
    go_wp2
    go_ret2
    exact ⟨_, rfl, hb1, fun h => (by cases h), fun _ => hown1⟩
  · have hlen : (strs ws).length = ws.length := by simp [strs]
    rw [hlen] at hp ⊢
    go_enter Tryd.func24, Tryd.ntmps24
    go_wp2
    go_loopw [4, 5] (fun o i wr => ∃ k : Nat, k ≤ ws.length ∧ i = .int .i64 k ∧ wr.ownsRow w.heap.size 3 1 o k (ints ((ws.take k).map Sp.lit)) ∧ Below w.heap.size w wr ∧ Hid (allLit (ws.take k) = true)) (fun _ i _ => ws.length - (intOf i).toNat)
    case atStart => exact ⟨0, Nat.zero_le _, rfl, World.ownsRow_nil _ _ _ _, Below.refl _ _, rfl⟩
    case round =>
      obtain ⟨k, hk, rfl, hown, hbel, HA⟩ := hrel
      by_cases hlt : k < ws.length
      · have hcell : wr.cell? ⟨b, off + k, none⟩ = some (.string (bs ws[k])) := (hbel.cell (p := ⟨b, off + k, none⟩) hb).trans (hc k (.string (bs ws[k])) (by simp [strs, hlt]))
        have hxl := hw ws[k] (List.getElem_mem hlt)
        have HM : Hid (ws[k] ∈ ws) := hide (List.getElem_mem hlt)
        have HS : Hid (ws.take (k + 1) = ws.take k ++ [ws[k]]) := hide (List.take_succ_eq_append_getElem hlt)
        generalize ws[k] = x at hcell HS hxl HM
        clear hc hw
        have HW := hide (word_any x wr hxl)
        have hbd := Sp.lit_bd x
        by_cases hz : Sp.lit x = 0
        · rw [hz] at HW hbd
          have HZ := hide hz
          clear hz
          go_wp2_with fail
          refine (unhide HW).mono ?_
          rintro e w1 ⟨rfl, rfl⟩
          go_wp2
          go_ret2
          have hfalse : allLit ws = false := by
            rw [allLit, List.all_eq_false]
            exact ⟨x, unhide HM, by simp [unhide HZ]⟩
          exact ⟨_, by rw [hfalse]; rfl, hbel, fun _ => rfl, fun h => by rw [hfalse] at h; cases h⟩
        · have hzq : (Sp.lit x == 0) = false := by simpa using hz
          have HZ := hide hz
          clear hz
          go_wp2_with fail
          refine (unhide HW).mono ?_
          rintro e w1 ⟨rfl, rfl⟩
          go_wp2_with (at_builtin; refine append_one rfl _ _ 24 3 rfl Tryd.underlying24 Tryd.infoInt rfl (by decide) hown rfl rfl rfl (by omega) (Nat.le_refl _) hbel ?_; intro v' w1 hown' hbel' _)
          go_roundw
          case rel => exact ⟨k + 1, by omega, by go_num, by rw [unhide HS]; simpa [ints] using hown', hbel', hide (by rw [unhide HS]; have := unhide HA; simp [allLit] at this ⊢; exact ⟨this, unhide HZ⟩)⟩
          case measure => simp [intOf]; omega
      · have HT : Hid (ws.take k = ws) := hide (List.take_of_length_le (by omega))
        have hlie : Lies wr _ (ints ((ws.take k).map Sp.lit)) := lies_of_owns hown (by simp [ints]; omega)
        have HL := hide hlie
        clear hlie
        go_wp2_with fail
        refine (sorted_any _ ((ws.take k).map Sp.lit) wr (by simp; omega) (unhide HL)).mono ?_
        rintro e w1 ⟨v1, rfl, hown1, hb1⟩
        go_wp2
        go_ret2
        rw [unhide HT] at hown1
        have htrue : allLit ws = true := by rw [← unhide HT]; exact unhide HA
        exact ⟨_, by rw [htrue]; rfl, hbel.trans (hb1.mono hbel.size), fun h => (by rw [htrue] at h; cases h), fun _ => owns_mono hown1 hbel.size⟩

end Go.Proofs.YtekkkoipcghlmaaDoor
