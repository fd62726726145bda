import Derived.Test.YtekkkoipcghlmaaDoorR1
namespace Go.Proofs.YtekkkoipcghlmaaDoor
open Go.RowKit

/-- A list of clauses in memory, as the document's program keeps it; L: their masks. -/
def RowsIn (w : World) (vs : List Value) (L : List Nat) : Prop := vs.length = L.length ∧ ∀ (i : Nat) (x : Value) (m : Nat), vs[i]? = some x → L[i]? = some m → Lies w x (ints (Sp.litsOf m))
def RowsOf (w : World) (v : Value) (L : List Nat) : Prop := ∃ vs, Lies w v vs ∧ RowsIn w vs L

theorem RowsIn.below {w w' : World} {vs : List Value} {L : List Nat} (h : RowsIn w vs L) (hb : Below w.heap.size w w') : RowsIn w' vs L := ⟨h.1, fun i x m hx hm => (h.2 i x m hx hm).below hb⟩
theorem RowsOf.below {w w' : World} {v : Value} {L : List Nat} (h : RowsOf w v L) (hb : Below w.heap.size w w') : RowsOf w' v L := by
  obtain ⟨vs, h1, h2⟩ := h
  exact ⟨vs, h1.below hb, h2.below hb⟩
theorem RowsIn.nil (w : World) : RowsIn w [] [] := ⟨rfl, fun i x m hx _ => by simp at hx⟩
theorem RowsIn.snoc {w : World} {vs : List Value} {L : List Nat} {x : Value} {m : Nat} (h : RowsIn w vs L) (hx : Lies w x (ints (Sp.litsOf m))) : RowsIn w (vs ++ [x]) (L ++ [m]) := by
  refine ⟨by simp [h.1], fun i y d hy hd => ?_⟩
  by_cases hi : i < vs.length
  · rw [List.getElem?_append_left hi] at hy
    rw [List.getElem?_append_left (by rw [← h.1]; exact hi)] at hd
    exact h.2 i y d hy hd
  · have hi' : i = vs.length := by
      rcases Nat.lt_or_ge vs.length i with hh | hh
      · rw [List.getElem?_eq_none (by simp; omega)] at hy; cases hy
      · omega
    subst hi'
    rw [List.getElem?_append_right (Nat.le_refl _)] at hy
    rw [h.1, List.getElem?_append_right (Nat.le_refl _)] at hd
    simp at hy hd
    subst hy hd
    exact hx

theorem lies_shape {w : World} {v : Value} {vs : List Value} (h : Lies w v vs) : ∃ ao cap, v = .slice ao vs.length cap := by
  rcases h with ⟨h0, ao, cap, rfl⟩ | ⟨b, off, cap, hp, rfl, hb, hc⟩
  · subst h0; exact ⟨_, _, rfl⟩
  · exact ⟨_, _, rfl⟩

theorem same_masks {m m' : Nat} (h1 : m < 2 ^ 24) (h2 : m' < 2 ^ 24) : sameOf (Sp.litsOf m) (Sp.litsOf m') = decide (m = m') := by
  unfold sameOf
  rw [Bool.eq_iff_iff, decide_eq_true_iff, decide_eq_true_iff]
  exact ⟨fun h => Sp.litsOf_inj h1 h2 h, fun h => by rw [h]⟩

theorem erase_snoc (l : List Nat) (x m : Nat) : (l ++ [x]).erase m = if m ∈ l then l.erase m ++ [x] else if x = m then l else l ++ [x] := by
  rw [List.erase_append]
  by_cases h : m ∈ l
  · rw [if_pos h, if_pos h]
  · rw [if_neg h, if_neg h]
    by_cases hx : x = m
    · rw [if_pos hx, hx]; simp
    · rw [if_neg hx]
      congr 1
      simp [hx]
theorem litsOf_len24 (m : Nat) : (Sp.litsOf m).length ≤ 24 := by
  unfold Sp.litsOf
  rw [List.length_map]
  exact Nat.le_trans (List.length_filter_le _ _) (by simp)

set_option maxRecDepth 100000 in
set_option maxHeartbeats 800000 in
theorem without_any (v u : Value) (L : List Nat) (m : Nat) (w : World) (hl : L.length ≤ 10000000) (hL : ∀ c, c ∈ L → c < 2 ^ 24) (hm : m < 2 ^ 24) (hv : RowsOf w v L) (hu : Lies w u (ints (Sp.litsOf m))) :
    Calls Tryd.prog 29 #[v, u] w fun e w' => ∃ v', e = .returned (.tuple #[v', .bool (L.contains m)]) ∧ RowsOf w' v' (L.erase m) ∧ Below w.heap.size w w' := by
  obtain ⟨vs, hvs, hrows⟩ := hv
  have hlenv := hrows.1
  rcases hvs with ⟨h0, ao, cap, rfl⟩ | ⟨b, off, cap, hp, rfl, hb, hc⟩
  · subst h0
    have hL0 : L = [] := List.length_eq_zero_iff.1 hlenv.symm
    subst hL0
    go_enter Tryd.func29, Tryd.ntmps29
    go_wp2
    refine wp_loop_rounds 1 ?_
    rw [rounds_succ]
    go_wp2
    go_ret2
    exact ⟨_, rfl, ⟨[], Lies.nil _, RowsIn.nil _⟩, Below.refl _ _⟩
  · rw [hlenv] at hp ⊢
    have HR := hide hrows
    have HLV := hide hlenv
    clear hrows hlenv
    go_enter Tryd.func29, Tryd.ntmps29
    go_wp2
    go_loopw [6, 7, 8] (fun o g i wr => ∃ (k : Nat) (ys : List Value), k ≤ L.length ∧ i = .int .i64 k ∧ g = .bool ((L.take k).contains m) ∧ wr.ownsRow w.heap.size 24 1 o ys.length ys ∧ Hid (RowsIn w ys ((L.take k).erase m)) ∧ Below w.heap.size w wr) (fun _ _ i _ => L.length - (intOf i).toNat)
    case atStart => exact ⟨0, [], Nat.zero_le _, rfl, rfl, World.ownsRow_nil _ _ _ _, RowsIn.nil _, Below.refl _ _⟩
    case round =>
      obtain ⟨k, ys, hk, rfl, rfl, hown, HY, hbel⟩ := hrel
      have hyl : ys.length ≤ 10000000 := by
        have h1 := (unhide HY).1
        have h2 := List.length_erase_le (a := m) (l := L.take k)
        have h3 : (L.take k).length ≤ k := List.length_take_le _ _
        omega
      by_cases hlt : k < L.length
      · have hkv : k < vs.length := by rw [unhide HLV]; exact hlt
        have hcell : wr.cell? ⟨b, off + k, none⟩ = some vs[k] := (hbel.cell (p := ⟨b, off + k, none⟩) hb).trans (hc k vs[k] (List.getElem?_eq_getElem hkv))
        have hli := (unhide HR).2 k vs[k] L[k] (List.getElem?_eq_getElem hkv) (List.getElem?_eq_getElem hlt)
        have hcm := hL L[k] (List.getElem_mem hlt)
        have HS : Hid (L.take (k + 1) = L.take k ++ [L[k]]) := hide (List.take_succ_eq_append_getElem hlt)
        obtain ⟨ao3, c3, hsh⟩ := lies_shape hli
        generalize L[k] = c at *
        generalize vs[k] = x at *
        subst hsh
        rw [show (ints (Sp.litsOf c)).length = (Sp.litsOf c).length from by simp [ints]] at hcell hli
        have hl24 := litsOf_len24 c
        have hl24m := litsOf_len24 m
        have HLI := hide hli
        have HSA := hide (same_any _ u (Sp.litsOf c) (Sp.litsOf m) wr (by omega) (by omega) (hli.below hbel) (hu.below hbel))
        rw [same_masks hcm hm] at HSA
        clear hc hL hli
        generalize (Sp.litsOf c).length = nc at *
        cases hg : (L.take k).contains m
        · have hg' : m ∉ L.take k := by simpa using hg
          by_cases hcmm : c = m
          · rw [decide_eq_true hcmm] at HSA
            have HM := hide hcmm
            have HG := hide hg'
            clear hcmm hg hg'
            go_wp2_with fail
            refine (unhide HSA).mono ?_
            rintro e w1 ⟨rfl, hb1⟩
            have hown1 := owns_below hown hb1
            have hbel1 := hbel.trans (hb1.mono hbel.size)
            go_wp2
            go_roundw
            case rel => exact ⟨k + 1, ys, by omega, by go_num, by rw [unhide HS]; simp [unhide HM], hown1, hide (by rw [unhide HS, erase_snoc, if_neg (unhide HG), if_pos (unhide HM)]; have := unhide HY; rwa [List.erase_of_not_mem (unhide HG)] at this), hbel1⟩
            case measure => simp [intOf]; omega
          · rw [decide_eq_false hcmm] at HSA
            have HM := hide hcmm
            have HG := hide hg'
            clear hcmm hg hg'
            go_wp2_with fail
            refine (unhide HSA).mono ?_
            rintro e w1 ⟨rfl, hb1⟩
            have hown1 := owns_below hown hb1
            have hbel1 := hbel.trans (hb1.mono hbel.size)
            have hcell1 : w1.cell? ⟨b, off + k, none⟩ = some (.slice ao3 nc c3) := (hb1.cell (p := ⟨b, off + k, none⟩) (Nat.lt_of_lt_of_le hb hbel.size)).trans hcell
            go_wp2_with (at_builtin; refine append_one rfl _ _ 38 24 rfl Tryd.underlying38 Tryd.infoInts rfl (by decide) hown1 rfl rfl rfl (by omega) (Nat.le_refl _) hbel1 ?_; intro v' w4 hown' hbel' hgr)
            go_roundw
            case rel => exact ⟨k + 1, ys ++ [.slice ao3 nc c3], by omega, by go_num, by rw [unhide HS]; simp; exact ⟨unhide HG, fun h => unhide HM h.symm⟩, by simpa using hown', hide (by rw [unhide HS, erase_snoc, if_neg (unhide HG), if_neg (unhide HM)]; have := unhide HY; rw [List.erase_of_not_mem (unhide HG)] at this; exact this.snoc (unhide HLI)), hbel'⟩
            case measure => simp [intOf]; omega
        · have hg' : m ∈ L.take k := by simpa using hg
          have HG := hide hg'
          clear hg hg'
          go_wp2_with fail
          refine (unhide HSA).mono ?_
          rintro e w1 ⟨rfl, hb1⟩
          have hown1 := owns_below hown hb1
          have hbel1 := hbel.trans (hb1.mono hbel.size)
          have hcell1 : w1.cell? ⟨b, off + k, none⟩ = some (.slice ao3 nc c3) := (hb1.cell (p := ⟨b, off + k, none⟩) (Nat.lt_of_lt_of_le hb hbel.size)).trans hcell
          cases decide (c = m)
          all_goals
            go_wp2_with (at_builtin; refine append_one rfl _ _ 38 24 rfl Tryd.underlying38 Tryd.infoInts rfl (by decide) hown1 rfl rfl rfl (by omega) (Nat.le_refl _) hbel1 ?_; intro v' w4 hown' hbel' hgr)
            go_roundw
            case rel => exact ⟨k + 1, ys ++ [.slice ao3 nc c3], by omega, by go_num, by rw [unhide HS]; simp [unhide HG], by simpa using hown', hide (by rw [unhide HS, erase_snoc, if_pos (unhide HG)]; exact (unhide HY).snoc (unhide HLI)), hbel'⟩
            case measure => simp [intOf]; omega
      · have HT : Hid (L.take k = L) := hide (List.take_of_length_le (by omega))
        have HO := hide hown
        clear hown
        go_wp2
        go_ret2
        have hy := unhide HY
        rw [unhide HT] at hy
        exact ⟨_, by rw [unhide HT]; rfl, ⟨ys, lies_of_owns (unhide HO) rfl, hy.below hbel⟩, hbel⟩

end Go.Proofs.YtekkkoipcghlmaaDoor
