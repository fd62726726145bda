import Derived.Test.YtekkkoipcghlmaaDoorQC03
import Derived.Test.YtekkkoipcghlmaaDoorQC02
set_option linter.all false
namespace Go.Proofs.YtekkkoipcghlmaaDoor
open Go.RowKit

/-- Two opposite numbers in a list; are two lists one. -/
def alwaysOf (xs : List Int) : Bool := xs.any fun x => xs.contains (-x)
def sameOf (xs ys : List Int) : Bool := decide (xs = ys)

set_option maxRecDepth 100000 in
set_option maxHeartbeats 400000 in
theorem always_any (v : Value) (xs : List Int) (w : World) (hl : xs.length ≤ 10000000) (hx : ∀ x, x ∈ xs → -12 ≤ x ∧ x ≤ 12) (hv : Lies w v (ints xs)) :
    Calls Tryd.prog 48 #[v] w fun e w' => e = .returned (.bool (alwaysOf xs)) ∧ w' = w := by
  have hv0 := hv
  rcases hv with ⟨h0, ao, cap, rfl⟩ | ⟨b, off, cap, hp, rfl, hb, hc⟩
  · have hx0 : xs = [] := by simpa [ints] using h0
    subst hx0
    go_enter Tryd.func48, Tryd.ntmps48
    go_wp2
    refine wp_loop_rounds 1 ?_
    rw [rounds_succ]
    go_wp2
    go_ret
    exact ⟨rfl, rfl⟩
  · have hlen : (ints xs).length = xs.length := by simp [ints]
    rw [hlen] at hp hv0 ⊢
    have HV := hide hv0
    clear hv0
    go_enter Tryd.func48, Tryd.ntmps48
    go_wp2
    go_loop [3] (fun i => ∃ k : Nat, k ≤ xs.length ∧ i = .int .i64 k ∧ Hid ((xs.take k).any (fun x => xs.contains (-x)) = false)) (fun i => xs.length - (intOf i).toNat)
    case atStart => exact ⟨0, Nat.zero_le _, rfl, rfl⟩
    case round =>
      obtain ⟨k, hk, rfl, HA⟩ := hrel
      by_cases hlt : k < xs.length
      · have hcell := hc k (.int .i64 xs[k]) (by simp [ints, hlt])
        have hxb := hx xs[k] (List.getElem_mem hlt)
        have HM : Hid (xs[k] ∈ xs) := hide (List.getElem_mem hlt)
        have HS : Hid (xs.take (k + 1) = xs.take k ++ [xs[k]]) := hide (List.take_succ_eq_append_getElem hlt)
        generalize xs[k] = x at hcell HM HS hxb
        clear hc hx
        have HI := hide (in_any _ xs (-x) w hl (unhide HV))
        cases hcc : xs.contains (-x)
        · rw [hcc] at HI
          have HCC := hide hcc
          clear hcc
          go_wp2_with fail
          refine (unhide HI).mono ?_
          rintro e w1 ⟨rfl, rfl⟩
          go_wp2
          go_round
          case rel => exact ⟨k + 1, by omega, by go_num, hide (by rw [unhide HS, List.any_append, unhide HA]; simp only [List.any_cons, List.any_nil, unhide HCC]; rfl)⟩
          case measure => simp [intOf]; omega
        · rw [hcc] at HI
          have HCC := hide hcc
          clear hcc
          go_wp2_with fail
          refine (unhide HI).mono ?_
          rintro e w1 ⟨rfl, rfl⟩
          go_wp2
          go_ret
          have : alwaysOf xs = true := List.any_eq_true.2 ⟨x, unhide HM, unhide HCC⟩
          exact ⟨by rw [this]; rfl, rfl⟩
      · have HT : Hid (xs.take k = xs) := hide (List.take_of_length_le (by omega))
        go_wp2
        go_ret
        have : alwaysOf xs = false := by have := unhide HA; rw [unhide HT] at this; exact this
        exact ⟨by rw [this]; rfl, rfl⟩

set_option maxRecDepth 100000 in
set_option maxHeartbeats 400000 in
theorem same_any (v u : Value) (xs ys : List Int) (w : World) (hl : xs.length ≤ 10000000) (hl2 : ys.length ≤ 10000000) (hv : Lies w v (ints xs)) (hu : Lies w u (ints ys)) :
    Calls Tryd.prog 47 #[v, u] w fun e w' => e = .returned (.bool (sameOf xs ys)) ∧ Below w.heap.size w w' := by
  have shape : ∀ {v : Value} {xs : List Int}, Lies w v (ints xs) → ∃ ao cap, v = .slice ao xs.length cap := by
    intro v xs h
    rcases h with ⟨h0, ao, cap, rfl⟩ | ⟨b, off, cap, hp, rfl, hb, hc⟩
    · have hx0 : xs = [] := by simpa [ints] using h0
      subst hx0; exact ⟨_, _, rfl⟩
    · exact ⟨some ⟨b, off, none⟩, cap, by simp [ints]⟩
  by_cases hle : xs.length = ys.length
  · rcases hv with ⟨h0, ao, cap, rfl⟩ | ⟨b, off, cap, hp, rfl, hb, hc⟩
    · have hx0 : xs = [] := by simpa [ints] using h0
      subst hx0
      have hy0 : ys = [] := List.length_eq_zero_iff.1 hle.symm
      subst hy0
      obtain ⟨ao', cap', rfl⟩ := shape hu
      clear hu hle
      go_enter Tryd.func47, Tryd.ntmps47
      go_wp2
      refine wp_loop_rounds 1 ?_
      rw [rounds_succ]
      go_wp2
      go_ret
      exact ⟨rfl, Below.refl _ _⟩
    · rcases hu with ⟨h0, ao, cap2, rfl⟩ | ⟨b2, off2, cap2, hp2, rfl, hb2, hc2⟩
      · exfalso
        have hy0 : ys = [] := by simpa [ints] using h0
        subst hy0; simp [ints] at hp hle; rw [hle] at hp; simp at hp
      · have hlen : (ints xs).length = xs.length := by simp [ints]
        have hlen2 : (ints ys).length = ys.length := by simp [ints]
        rw [hlen] at hp ⊢
        rw [hlen2, ← hle]
        have HLE := hide hle
        clear hle hp2 hlen2
        go_enter Tryd.func47, Tryd.ntmps47
        go_wp2
        go_loopw [5] (fun i wr => ∃ k : Nat, k ≤ xs.length ∧ i = .int .i64 k ∧ Hid (xs.take k = ys.take k) ∧ ∃ q, wr = w.drewN q) (fun i _ => xs.length - (intOf i).toNat)
        case atStart => exact ⟨0, Nat.zero_le _, rfl, rfl, 0, rfl⟩
        case round =>
          obtain ⟨k, hk, rfl, HA, q, rfl⟩ := hrel
          by_cases hlt : k < xs.length
          · have hlt2 : k < ys.length := by rw [← unhide HLE]; exact hlt
            have hc1 := hc k (.int .i64 xs[k]) (by simp [ints, hlt])
            have hc2' := hc2 k (.int .i64 ys[k]) (by simp [ints, hlt2])
            have HS : Hid (xs.take (k + 1) = xs.take k ++ [xs[k]]) := hide (List.take_succ_eq_append_getElem hlt)
            have HS2 : Hid (ys.take (k + 1) = ys.take k ++ [ys[k]]) := hide (List.take_succ_eq_append_getElem hlt2)
            have HG : Hid (xs = ys → xs[k] = ys[k]) := hide (fun h => by subst h; rfl)
            generalize xs[k] = x at hc1 HS HG
            generalize ys[k] = y at hc2' HS2 HG
            clear hc hc2 hlt2
            by_cases hxy : x = y
            · subst hxy
              go_wp2
              go_quiet (fail)
              go_wp2
              go_roundw
              case rel => exact ⟨k + 1, by omega, by go_num, hide (by rw [unhide HS, unhide HS2, unhide HA]), _, rfl⟩
              case measure => simp [intOf]; omega
            · have hq : (x == y) = false := by simpa using hxy
              have HX := hide hxy
              clear hxy
              go_wp2
              go_quiet (fail)
              go_wp2
              go_ret
              have : sameOf xs ys = false := by unfold sameOf; simp; exact fun h => unhide HX (unhide HG h)
              exact ⟨by rw [this]; rfl, below_drewN (below_drewN (Below.refl _ _) _) _⟩
          · have HT : Hid (xs = ys) := hide (by
              have := unhide HA
              rw [List.take_of_length_le (by omega), List.take_of_length_le (by rw [← unhide HLE]; omega)] at this
              exact this)
            go_wp2
            go_ret
            exact ⟨by rw [show sameOf xs ys = true from decide_eq_true (unhide HT)]; rfl, below_drewN (Below.refl _ _) _⟩
  · obtain ⟨ao, cap, rfl⟩ := shape hv
    obtain ⟨ao', cap', rfl⟩ := shape hu
    clear hv hu
    have hq : ((xs.length : Int) == (ys.length : Int)) = false := by rw [beq_eq_false_iff_ne]; omega
    have HD : Hid (sameOf xs ys = false) := hide (by unfold sameOf; simp; intro h; subst h; exact hle rfl)
    clear hle
    go_enter Tryd.func47, Tryd.ntmps47
    go_wp2
    go_ret
    exact ⟨by rw [unhide HD]; rfl, Below.refl _ _⟩

end Go.Proofs.YtekkkoipcghlmaaDoor

namespace Go.Proofs.YtekkkoipcghlmaaDoor
open Go.RowKit

/-- A list of clauses in memory, as the document's program keeps it; L: their masks. -/
def RowsIn (w : World) (vs : List Value) (L : List Nat) : Prop := vs.length = L.length ∧ ∀ (i : Nat) (x : Value) (m : Nat), vs[i]? = some x → L[i]? = some m → Lies w x (ints (Sp.litsOf m))
def RowsOf (w : World) (v : Value) (L : List Nat) : Prop := ∃ vs, Lies w v vs ∧ RowsIn w vs L

theorem RowsIn.below {w w' : World} {vs : List Value} {L : List Nat} (h : RowsIn w vs L) (hb : Below w.heap.size w w') : RowsIn w' vs L := ⟨h.1, fun i x m hx hm => (h.2 i x m hx hm).below hb⟩
theorem RowsOf.below {w w' : World} {v : Value} {L : List Nat} (h : RowsOf w v L) (hb : Below w.heap.size w w') : RowsOf w' v L := by
  obtain ⟨vs, h1, h2⟩ := h
  exact ⟨vs, h1.below hb, h2.below hb⟩
theorem RowsIn.nil (w : World) : RowsIn w [] [] := ⟨rfl, fun i x m hx _ => by simp at hx⟩
theorem RowsIn.snoc {w : World} {vs : List Value} {L : List Nat} {x : Value} {m : Nat} (h : RowsIn w vs L) (hx : Lies w x (ints (Sp.litsOf m))) : RowsIn w (vs ++ [x]) (L ++ [m]) := by
  refine ⟨by simp [h.1], fun i y d hy hd => ?_⟩
  by_cases hi : i < vs.length
  · rw [List.getElem?_append_left hi] at hy
    rw [List.getElem?_append_left (by rw [← h.1]; exact hi)] at hd
    exact h.2 i y d hy hd
  · have hi' : i = vs.length := by
      rcases Nat.lt_or_ge vs.length i with hh | hh
      · rw [List.getElem?_eq_none (by simp; omega)] at hy; cases hy
      · omega
    subst hi'
    rw [List.getElem?_append_right (Nat.le_refl _)] at hy
    rw [h.1, List.getElem?_append_right (Nat.le_refl _)] at hd
    simp at hy hd
    subst hy hd
    exact hx

theorem lies_shape {w : World} {v : Value} {vs : List Value} (h : Lies w v vs) : ∃ ao cap, v = .slice ao vs.length cap := by
  rcases h with ⟨h0, ao, cap, rfl⟩ | ⟨b, off, cap, hp, rfl, hb, hc⟩
  · subst h0; exact ⟨_, _, rfl⟩
  · exact ⟨_, _, rfl⟩

theorem same_masks {m m' : Nat} (h1 : m < 2 ^ 24) (h2 : m' < 2 ^ 24) : sameOf (Sp.litsOf m) (Sp.litsOf m') = decide (m = m') := by
  unfold sameOf
  rw [Bool.eq_iff_iff, decide_eq_true_iff, decide_eq_true_iff]
  exact ⟨fun h => Sp.litsOf_inj h1 h2 h, fun h => by rw [h]⟩

theorem erase_snoc (l : List Nat) (x m : Nat) : (l ++ [x]).erase m = if m ∈ l then l.erase m ++ [x] else if x = m then l else l ++ [x] := by
  rw [List.erase_append]
  by_cases h : m ∈ l
  · rw [if_pos h, if_pos h]
  · rw [if_neg h, if_neg h]
    by_cases hx : x = m
    · rw [if_pos hx, hx]; simp
    · rw [if_neg hx]
      congr 1
      simp [hx]
theorem litsOf_len24 (m : Nat) : (Sp.litsOf m).length ≤ 24 := by
  unfold Sp.litsOf
  rw [List.length_map]
  exact Nat.le_trans (List.length_filter_le _ _) (by simp)

set_option maxRecDepth 100000 in
set_option maxHeartbeats 800000 in
theorem without_any (v u : Value) (L : List Nat) (m : Nat) (w : World) (hl : L.length ≤ 10000000) (hL : ∀ c, c ∈ L → c < 2 ^ 24) (hm : m < 2 ^ 24) (hv : RowsOf w v L) (hu : Lies w u (ints (Sp.litsOf m))) :
    Calls Tryd.prog 29 #[v, u] w fun e w' => ∃ v', e = .returned (.tuple #[v', .bool (L.contains m)]) ∧ RowsOf w' v' (L.erase m) ∧ Below w.heap.size w w' := by
  obtain ⟨vs, hvs, hrows⟩ := hv
  have hlenv := hrows.1
  rcases hvs with ⟨h0, ao, cap, rfl⟩ | ⟨b, off, cap, hp, rfl, hb, hc⟩
  · subst h0
    have hL0 : L = [] := List.length_eq_zero_iff.1 hlenv.symm
    subst hL0
    go_enter Tryd.func29, Tryd.ntmps29
    go_wp2
    refine wp_loop_rounds 1 ?_
    rw [rounds_succ]
    go_wp2
    go_ret2
    exact ⟨_, rfl, ⟨[], Lies.nil _, RowsIn.nil _⟩, Below.refl _ _⟩
  · rw [hlenv] at hp ⊢
    have HR := hide hrows
    have HLV := hide hlenv
    clear hrows hlenv
    go_enter Tryd.func29, Tryd.ntmps29
    go_wp2
    go_loopw [6, 7, 8] (fun o g i wr => ∃ (k : Nat) (ys : List Value), k ≤ L.length ∧ i = .int .i64 k ∧ g = .bool ((L.take k).contains m) ∧ wr.ownsRow w.heap.size 24 1 o ys.length ys ∧ Hid (RowsIn w ys ((L.take k).erase m)) ∧ Below w.heap.size w wr) (fun _ _ i _ => L.length - (intOf i).toNat)
    case atStart => exact ⟨0, [], Nat.zero_le _, rfl, rfl, World.ownsRow_nil _ _ _ _, RowsIn.nil _, Below.refl _ _⟩
    case round =>
      obtain ⟨k, ys, hk, rfl, rfl, hown, HY, hbel⟩ := hrel
      have hyl : ys.length ≤ 10000000 := by
        have h1 := (unhide HY).1
        have h2 := List.length_erase_le (a := m) (l := L.take k)
        have h3 : (L.take k).length ≤ k := List.length_take_le _ _
        omega
      by_cases hlt : k < L.length
      · have hkv : k < vs.length := by rw [unhide HLV]; exact hlt
        have hcell : wr.cell? ⟨b, off + k, none⟩ = some vs[k] := (hbel.cell (p := ⟨b, off + k, none⟩) hb).trans (hc k vs[k] (List.getElem?_eq_getElem hkv))
        have hli := (unhide HR).2 k vs[k] L[k] (List.getElem?_eq_getElem hkv) (List.getElem?_eq_getElem hlt)
        have hcm := hL L[k] (List.getElem_mem hlt)
        have HS : Hid (L.take (k + 1) = L.take k ++ [L[k]]) := hide (List.take_succ_eq_append_getElem hlt)
        obtain ⟨ao3, c3, hsh⟩ := lies_shape hli
        generalize L[k] = c at *
        generalize vs[k] = x at *
        subst hsh
        rw [show (ints (Sp.litsOf c)).length = (Sp.litsOf c).length from by simp [ints]] at hcell hli
        have hl24 := litsOf_len24 c
        have hl24m := litsOf_len24 m
        have HLI := hide hli
        have HSA := hide (same_any _ u (Sp.litsOf c) (Sp.litsOf m) wr (by omega) (by omega) (hli.below hbel) (hu.below hbel))
        rw [same_masks hcm hm] at HSA
        clear hc hL hli
        generalize (Sp.litsOf c).length = nc at *
        cases hg : (L.take k).contains m
        · have hg' : m ∉ L.take k := by simpa using hg
          by_cases hcmm : c = m
          · rw [decide_eq_true hcmm] at HSA
            have HM := hide hcmm
            have HG := hide hg'
            clear hcmm hg hg'
            go_wp2_with fail
            refine (unhide HSA).mono ?_
            rintro e w1 ⟨rfl, hb1⟩
            have hown1 := owns_below hown hb1
            have hbel1 := hbel.trans (hb1.mono hbel.size)
            go_wp2
            go_roundw
            case rel => exact ⟨k + 1, ys, by omega, by go_num, by rw [unhide HS]; simp [unhide HM], hown1, hide (by rw [unhide HS, erase_snoc, if_neg (unhide HG), if_pos (unhide HM)]; have := unhide HY; rwa [List.erase_of_not_mem (unhide HG)] at this), hbel1⟩
            case measure => simp [intOf]; omega
          · rw [decide_eq_false hcmm] at HSA
            have HM := hide hcmm
            have HG := hide hg'
            clear hcmm hg hg'
            go_wp2_with fail
            refine (unhide HSA).mono ?_
            rintro e w1 ⟨rfl, hb1⟩
            have hown1 := owns_below hown hb1
            have hbel1 := hbel.trans (hb1.mono hbel.size)
            have hcell1 : w1.cell? ⟨b, off + k, none⟩ = some (.slice ao3 nc c3) := (hb1.cell (p := ⟨b, off + k, none⟩) (Nat.lt_of_lt_of_le hb hbel.size)).trans hcell
            go_wp2_with (at_builtin; refine append_one rfl _ _ 38 24 rfl Tryd.underlying38 Tryd.infoInts rfl (by decide) hown1 rfl rfl rfl (by omega) (Nat.le_refl _) hbel1 ?_; intro v' w4 hown' hbel' hgr)
            go_roundw
            case rel => exact ⟨k + 1, ys ++ [.slice ao3 nc c3], by omega, by go_num, by rw [unhide HS]; simp; exact ⟨unhide HG, fun h => unhide HM h.symm⟩, by simpa using hown', hide (by rw [unhide HS, erase_snoc, if_neg (unhide HG), if_neg (unhide HM)]; have := unhide HY; rw [List.erase_of_not_mem (unhide HG)] at this; exact this.snoc (unhide HLI)), hbel'⟩
            case measure => simp [intOf]; omega
        · have hg' : m ∈ L.take k := by simpa using hg
          have HG := hide hg'
          clear hg hg'
          go_wp2_with fail
          refine (unhide HSA).mono ?_
          rintro e w1 ⟨rfl, hb1⟩
          have hown1 := owns_below hown hb1
          have hbel1 := hbel.trans (hb1.mono hbel.size)
          have hcell1 : w1.cell? ⟨b, off + k, none⟩ = some (.slice ao3 nc c3) := (hb1.cell (p := ⟨b, off + k, none⟩) (Nat.lt_of_lt_of_le hb hbel.size)).trans hcell
          cases decide (c = m)
          all_goals
            go_wp2_with (at_builtin; refine append_one rfl _ _ 38 24 rfl Tryd.underlying38 Tryd.infoInts rfl (by decide) hown1 rfl rfl rfl (by omega) (Nat.le_refl _) hbel1 ?_; intro v' w4 hown' hbel' hgr)
            go_roundw
            case rel => exact ⟨k + 1, ys ++ [.slice ao3 nc c3], by omega, by go_num, by rw [unhide HS]; simp [unhide HG], by simpa using hown', hide (by rw [unhide HS, erase_snoc, if_pos (unhide HG)]; exact (unhide HY).snoc (unhide HLI)), hbel'⟩
            case measure => simp [intOf]; omega
      · have HT : Hid (L.take k = L) := hide (List.take_of_length_le (by omega))
        have HO := hide hown
        clear hown
        go_wp2
        go_ret2
        have hy := unhide HY
        rw [unhide HT] at hy
        exact ⟨_, by rw [unhide HT]; rfl, ⟨ys, lies_of_owns (unhide HO) rfl, hy.below hbel⟩, hbel⟩

end Go.Proofs.YtekkkoipcghlmaaDoor

namespace Go.Proofs.YtekkkoipcghlmaaDoor.Sp

/-- What the document's Follows has taken: numbers, consistent, literals. U i: the literal at i is taken to be false. -/
def UOf (T : List Int) (i : Nat) : Prop := - litAt i ∈ T
def Cons (T : List Int) : Prop := ∀ x, x ∈ T → -x ∉ T

/-- One clause looked at: how many of its literals are open; is one taken to be true; the last open one. -/
def openOf (T : List Int) (c : List Int) : List Int := c.filter fun x => !T.contains (-x) && !T.contains x
def doneOf (T : List Int) (c : List Int) : Bool := c.any fun x => T.contains x
def leftOf (T : List Int) (c : List Int) : Int := ((openOf T c).getLast?).getD 0

theorem openOf_snoc (T c : List Int) (x : Int) : openOf T (c ++ [x]) = openOf T c ++ (if !T.contains (-x) && !T.contains x then [x] else []) := by
  unfold openOf; rw [List.filter_append]; simp [List.filter_cons]
theorem doneOf_snoc (T c : List Int) (x : Int) : doneOf T (c ++ [x]) = (doneOf T c || T.contains x) := by
  unfold doneOf; rw [List.any_append]; simp

section
variable {L : List Nat} {T : List Int} {U : Nat → Prop}

theorem lit_neg_neg (i : Nat) : - litAt (opp i) = litAt i := by rw [litAt_opp, Int.neg_neg]

/-- A clause whose literals are all false: no stable set above. -/
theorem conflict_ends (hU : ∀ i, i < 24 → UOf T i → U i) {c : Nat} (hcL : c ∈ L) (hc : c < 2 ^ 24) (hd : doneOf T (litsOf c) = false) (ho : openOf T (litsOf c) = []) : ¬ Stable L U := by
  intro hs
  obtain ⟨⟨i, hi, hn⟩, _⟩ := hs c hcL
  have hi24 : i < 24 := by
    rcases Nat.lt_or_ge i 24 with h | h
    · exact h
    · rw [Nat.testBit_lt_two_pow (Nat.lt_of_lt_of_le hc (Nat.pow_le_pow_right (by decide) h))] at hi; cases hi
  have hm := (mem_litsOf c i hi24).2 hi
  have h1 := List.filter_eq_nil_iff.1 ho _ hm
  have h2 := List.any_eq_false.1 hd _ hm
  apply hn
  apply hU i hi24
  unfold UOf
  simp at h1 h2
  by_cases h3 : - litAt i ∈ T
  · exact h3
  · exact absurd (h1 h3) h2

/-- One literal is left: what comes of it lies in every stable set above. -/
theorem unit_goes (hU : ∀ i, i < 24 → UOf T i → U i) (hs : Stable L U) {c : Nat} (hcL : c ∈ L) (hc : c < 2 ^ 24) (hd : doneOf T (litsOf c) = false) {x : Int} (ho : openOf T (litsOf c) = [x]) :
    ∃ i, i < 24 ∧ x = litAt i ∧ U (opp i) := by
  have hx : x ∈ openOf T (litsOf c) := by rw [ho]; simp
  have hxm : x ∈ litsOf c := (List.mem_filter.1 hx).1
  obtain ⟨i, hi24, rfl, hi⟩ := litsOf_mem hxm
  refine ⟨i, hi24, rfl, ?_⟩
  have others : ∀ j, c.testBit j = true → j ≠ i → U j := by
    intro j hj hne
    have hj24 : j < 24 := by
      rcases Nat.lt_or_ge j 24 with h | h
      · exact h
      · rw [Nat.testBit_lt_two_pow (Nat.lt_of_lt_of_le hc (Nat.pow_le_pow_right (by decide) h))] at hj; cases hj
    have hm := (mem_litsOf c j hj24).2 hj
    have h2 := List.any_eq_false.1 hd _ hm
    apply hU j hj24
    unfold UOf
    by_cases h3 : - litAt j ∈ T
    · exact h3
    · exfalso
      have : litAt j ∈ openOf T (litsOf c) := by
        unfold openOf
        refine List.mem_filter.2 ⟨hm, ?_⟩
        simp at h2 ⊢
        exact ⟨h3, h2⟩
      rw [ho] at this
      simp at this
      exact hne (litAt_inj this)
  obtain ⟨⟨k, hk, hkn⟩, hun⟩ := hs c hcL
  by_cases hki : k = i
  · subst hki
    exact hun k hk hkn others
  · exact absurd (others k hk hki) hkn

/-- Nothing more comes: what was taken is stable. -/
theorem fixed_stable (hcons : Cons T) (hL : ∀ c, c ∈ L → c < 2 ^ 24) (h : ∀ c, c ∈ L → doneOf T (litsOf c) = true ∨ 2 ≤ (openOf T (litsOf c)).length) : Stable L (fun i => UOf T i) := by
  intro c hc
  have h24 : ∀ j, c.testBit j = true → j < 24 := fun j hj => by
    rcases Nat.lt_or_ge j 24 with h | h
    · exact h
    · rw [Nat.testBit_lt_two_pow (Nat.lt_of_lt_of_le (hL c hc) (Nat.pow_le_pow_right (by decide) h))] at hj; cases hj
  rcases h c hc with hd | ho
  · obtain ⟨x, hx, hxT⟩ := List.any_eq_true.1 hd
    obtain ⟨i, hi24, rfl, hi⟩ := litsOf_mem hx
    have hxT' : litAt i ∈ T := by simpa using hxT
    have hni : ¬ UOf T i := fun h' => hcons _ hxT' h'
    refine ⟨⟨i, hi, hni⟩, fun j hj hnj hoth => ?_⟩
    have : j = i := by
      by_cases e : j = i
      · exact e
      · exact absurd (hoth i hi (fun e' => e e'.symm)) hni
    subst this
    show - litAt (opp j) ∈ T
    rw [lit_neg_neg]
    exact hxT'
  · match hl : openOf T (litsOf c), ho with
    | a :: b :: r, _ =>
      have ha : a ∈ openOf T (litsOf c) := by rw [hl]; simp
      have hb : b ∈ openOf T (litsOf c) := by rw [hl]; simp
      have hab : a ≠ b := by
        have hnd : (openOf T (litsOf c)).Nodup := by
          unfold openOf litsOf
          refine List.Nodup.sublist List.filter_sublist ?_
          refine List.Pairwise.map litAt (R := (· ≠ ·)) (fun a b h e => h (litAt_inj e)) ?_
          exact List.Nodup.sublist List.filter_sublist List.nodup_range
        rw [hl] at hnd
        intro e
        subst e
        simp at hnd
      obtain ⟨i, _, rfl, hi⟩ := litsOf_mem (List.mem_filter.1 ha).1
      obtain ⟨j, _, rfl, hj⟩ := litsOf_mem (List.mem_filter.1 hb).1
      have hni : ¬ UOf T i := by have := (List.mem_filter.1 ha).2; simp at this; exact this.1
      have hnj : ¬ UOf T j := by have := (List.mem_filter.1 hb).2; simp at this; exact this.1
      refine ⟨⟨i, hi, hni⟩, fun k _ _ hoth => ?_⟩
      exfalso
      by_cases e : k = i
      · subst e; exact hnj (hoth j hj (fun e' => hab (by rw [e'])))
      · exact hni (hoth i hi (fun e' => e e'.symm))
end

/-- How many literals are not in a list. -/
def freeOf (T : List Int) : Nat := ((List.range 24).filter fun i => !T.contains (litAt i)).length
theorem filter_less (p : Nat → Bool) (k : Nat) : ∀ l : List Nat, l.Nodup → k ∈ l → p k = true → (l.filter fun i => p i && i != k).length + 1 = (l.filter p).length := by
  intro l
  induction l with
  | nil => intro _ h; cases h
  | cons a r ih =>
    intro hn hm hp
    have hn' := List.nodup_cons.1 hn
    rcases List.mem_cons.1 hm with rfl | hm
    · have : (r.filter fun i => p i && i != k) = r.filter p := by
        apply List.filter_congr
        intro x hx
        have : x ≠ k := fun e => hn'.1 (e ▸ hx)
        simp [this]
      simp [hp, this]
    · have hak : a ≠ k := fun e => hn'.1 (e ▸ hm)
      have := ih hn'.2 hm hp
      by_cases hpa : p a = true
      · simp [hpa, hak]; omega
      · simp [hpa]; omega
theorem free_len (T : List Int) : T.Nodup → (∀ x, x ∈ T → ∃ i, i < 24 ∧ x = litAt i) → T.length + freeOf T = 24 := by
  induction T with
  | nil => intro _ _; decide
  | cons x T ih =>
    intro hn hx
    have hn' := List.nodup_cons.1 hn
    have h1 := ih hn'.2 (fun y hy => hx y (by simp [hy]))
    obtain ⟨i, hi, rfl⟩ := hx x (by simp)
    have h2 := filter_less (fun j => !T.contains (litAt j)) i (List.range 24) List.nodup_range (List.mem_range.2 hi) (by simpa using hn'.1)
    have h3 : freeOf (litAt i :: T) + 1 = freeOf T := by
      unfold freeOf
      rw [← h2]
      congr 2
      apply List.filter_congr
      intro j _
      rw [Bool.eq_iff_iff]
      simp
      constructor
      · rintro ⟨ha, hb⟩
        exact ⟨hb, fun e => ha (by rw [e])⟩
      · rintro ⟨ha, hb⟩
        exact ⟨fun e => hb (litAt_inj e), ha⟩
    simp only [List.length_cons]
    omega

/-- What holds of what is taken. -/
structure Taken (L : List Nat) (m : Nat) (T : List Int) : Prop where
  nodup : T.Nodup
  lits : ∀ x, x ∈ T → ∃ i, i < 24 ∧ x = litAt i
  cons : Cons T
  has : ∀ i, i < 24 → m.testBit i = true → UOf T i
  least : ∀ U : Nat → Prop, (∀ i, m.testBit i = true → U i) → Stable L U → ∀ i, i < 24 → UOf T i → U i

theorem Taken.len {L : List Nat} {m : Nat} {T : List Int} (h : Taken L m T) : T.length ≤ 24 := by have := free_len T h.nodup h.lits; omega

theorem taken_start {L : List Nat} {m : Nat} (h : ¬ ∃ i, m.testBit i = true ∧ m.testBit (opp i) = true) : Taken L m ((litsOf m).map fun x => -x) := by
  refine ⟨?_, ?_, ?_, ?_, ?_⟩
  · refine List.Pairwise.map _ (R := (· ≠ ·)) (fun a b hab e => hab (by omega)) ?_
    unfold litsOf
    refine List.Pairwise.map litAt (R := (· ≠ ·)) (fun a b h e => h (litAt_inj e)) ?_
    exact List.Nodup.sublist List.filter_sublist List.nodup_range
  · intro x hx
    obtain ⟨y, hy, rfl⟩ := List.mem_map.1 hx
    obtain ⟨i, hi, rfl, _⟩ := litsOf_mem hy
    exact ⟨opp i, opp_lt hi, (litAt_opp i).symm⟩
  · intro x hx hx'
    obtain ⟨y, hy, rfl⟩ := List.mem_map.1 hx
    obtain ⟨z, hz, hzz⟩ := List.mem_map.1 hx'
    obtain ⟨i, hi, rfl, hbi⟩ := litsOf_mem hy
    obtain ⟨j, hj, rfl, hbj⟩ := litsOf_mem hz
    have e : litAt j = litAt (opp i) := by rw [litAt_opp]; omega
    have := litAt_inj e
    subst this
    exact h ⟨i, hbi, hbj⟩
  · intro i hi hb
    exact List.mem_map.2 ⟨litAt i, (mem_litsOf m i hi).2 hb, rfl⟩
  · intro U hU _ i hi hu
    obtain ⟨y, hy, he⟩ := List.mem_map.1 hu
    obtain ⟨j, _, rfl, hbj⟩ := litsOf_mem hy
    have : j = i := litAt_inj (by omega)
    subst this
    exact hU j hbj

theorem Taken.more {L : List Nat} {m : Nat} {T : List Int} (h : Taken L m T) {c : Nat} (hcL : c ∈ L) (hc : c < 2 ^ 24) (hd : doneOf T (litsOf c) = false) {x : Int} (ho : openOf T (litsOf c) = [x]) : Taken L m (T ++ [x]) := by
  have hxo : x ∈ openOf T (litsOf c) := by rw [ho]; simp
  have hxp := (List.mem_filter.1 hxo).2
  simp at hxp
  obtain ⟨i, hi, rfl, _⟩ := litsOf_mem (List.mem_filter.1 hxo).1
  refine ⟨?_, ?_, ?_, ?_, ?_⟩
  · rw [List.nodup_append]
    refine ⟨h.nodup, by simp, fun a ha b hb e => ?_⟩
    simp at hb; subst hb; subst e; exact hxp.2 ha
  · intro y hy
    rcases List.mem_append.1 hy with hy | hy
    · exact h.lits y hy
    · simp at hy; exact ⟨i, hi, hy⟩
  · intro y hy hy'
    rcases List.mem_append.1 hy with hy | hy <;> rcases List.mem_append.1 hy' with hy' | hy'
    · exact h.cons y hy hy'
    · simp at hy'
      have : y = - litAt i := by omega
      subst this; exact hxp.1 hy
    · simp at hy; subst hy; exact hxp.1 hy'
    · simp at hy hy'
      have : litAt i ≠ 0 := by unfold litAt; split <;> omega
      omega
  · intro j hj hb
    exact List.mem_append_left _ (h.has j hj hb)
  · intro U hU hs j hj hu
    rcases List.mem_append.1 hu with hu | hu
    · exact h.least U hU hs j hj hu
    · simp at hu
      obtain ⟨k, hk, hxk, hUk⟩ := unit_goes (T := T) (fun i hi' hu' => h.least U hU hs i hi' hu') hs hcL hc hd ho
      have : k = i := litAt_inj hxk.symm
      subst this
      have e : litAt j = litAt (opp k) := by rw [litAt_opp]; omega
      rw [litAt_inj e]
      exact hUk

theorem Taken.conflict {L : List Nat} {m : Nat} {T : List Int} (h : Taken L m T) {c : Nat} (hcL : c ∈ L) (hc : c < 2 ^ 24) (hd : doneOf T (litsOf c) = false) (ho : openOf T (litsOf c) = []) : Fol L m :=
  .inr fun U hU hs => conflict_ends (U := U) (fun i hi hu => h.least U hU hs i hi hu) hcL hc hd ho hs

theorem Taken.fixed {L : List Nat} {m : Nat} {T : List Int} (h : Taken L m T) (hm : m < 2 ^ 24) (hL : ∀ c, c ∈ L → c < 2 ^ 24) (hno : ¬ ∃ i, m.testBit i = true ∧ m.testBit (opp i) = true)
    (hf : ∀ c, c ∈ L → doneOf T (litsOf c) = true ∨ 2 ≤ (openOf T (litsOf c)).length) : ¬ Fol L m := by
  rintro (hx | hx)
  · exact hno hx
  · refine hx (fun i => UOf T i) (fun i hb => ?_) (fixed_stable h.cons hL hf)
    have hi : i < 24 := by
      rcases Nat.lt_or_ge i 24 with h' | h'
      · exact h'
      · rw [Nat.testBit_lt_two_pow (Nat.lt_of_lt_of_le hm (Nat.pow_le_pow_right (by decide) h'))] at hb; cases hb
    exact h.has i hi hb

end Go.Proofs.YtekkkoipcghlmaaDoor.Sp
