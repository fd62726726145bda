import Derived.Test.YtekkkoipcghlmaaGreatDoorV04
import Derived.Test.YtekkkoipcghlmaaGreatDoorV02
import Derived.Test.YtekkkoipcghlmaaGreatDoorV01
import Derived.Deep.AppendLies
import Derived.Deep.RegionWith
import Derived.WalkSmall
set_option linter.all false
namespace Go.Proofs.YtekkkoipcghlmaaGreatDoor
open Go.RowKit

/-- Two opposite numbers in a list; are two lists one. -/
def alwaysOf (xs : List Int) : Bool := xs.any fun x => xs.contains (-x)
def sameOf (xs ys : List Int) : Bool := decide (xs = ys)

set_option maxRecDepth 100000 in
set_option maxHeartbeats 400000 in
theorem always_any (v : Value) (xs : List Int) (w : World) (hl : xs.length ≤ 10000000) (hx : ∀ x, x ∈ xs → -12 ≤ x ∧ x ≤ 12) (hv : Lies w v (ints xs)) :
    Calls Tryz.prog 99 #[v] w fun e w' => e = .returned (.bool (alwaysOf xs)) ∧ w' = w := by
  have hv0 := hv
  rcases hv with ⟨h0, ao, cap, rfl⟩ | ⟨b, off, cap, hp, rfl, hb, hc⟩
  · have hx0 : xs = [] := by simpa [ints] using h0
    subst hx0
    go_enter Tryz.func99, Tryz.ntmps99
    go_wp2
    refine wp_loop_rounds 1 ?_
    rw [rounds_succ]
    go_wp2
    go_ret
    exact ⟨rfl, rfl⟩
  · have hlen : (ints xs).length = xs.length := by simp [ints]
    rw [hlen] at hp hv0 ⊢
    have HV := hide hv0
    clear hv0
    go_enter Tryz.func99, Tryz.ntmps99
    go_wp2
    go_loop [3] (fun i => ∃ k : Nat, k ≤ xs.length ∧ i = .int .i64 k ∧ Hid ((xs.take k).any (fun x => xs.contains (-x)) = false)) (fun i => xs.length - (intOf i).toNat)
    case atStart => exact ⟨0, Nat.zero_le _, rfl, rfl⟩
    case round =>
      obtain ⟨k, hk, rfl, HA⟩ := hrel
      by_cases hlt : k < xs.length
      · have hcell := hc k (.int .i64 xs[k]) (by simp [ints, hlt])
        have hxb := hx xs[k] (List.getElem_mem hlt)
        have HM : Hid (xs[k] ∈ xs) := hide (List.getElem_mem hlt)
        have HS : Hid (xs.take (k + 1) = xs.take k ++ [xs[k]]) := hide (List.take_succ_eq_append_getElem hlt)
        generalize xs[k] = x at hcell HM HS hxb
        clear hc hx
        have HI := hide (in_any _ xs (-x) w hl (unhide HV))
        cases hcc : xs.contains (-x)
        · rw [hcc] at HI
          have HCC := hide hcc
          clear hcc
          go_wp2_with fail
          refine (unhide HI).mono ?_
          rintro e w1 ⟨rfl, rfl⟩
          go_wp2
          go_round
          case rel => exact ⟨k + 1, by omega, by go_num, hide (by rw [unhide HS, List.any_append, unhide HA]; simp only [List.any_cons, List.any_nil, unhide HCC]; rfl)⟩
          case measure => simp [intOf]; omega
        · rw [hcc] at HI
          have HCC := hide hcc
          clear hcc
          go_wp2_with fail
          refine (unhide HI).mono ?_
          rintro e w1 ⟨rfl, rfl⟩
          go_wp2
          go_ret
          have : alwaysOf xs = true := List.any_eq_true.2 ⟨x, unhide HM, unhide HCC⟩
          exact ⟨by rw [this]; rfl, rfl⟩
      · have HT : Hid (xs.take k = xs) := hide (List.take_of_length_le (by omega))
        go_wp2
        go_ret
        have : alwaysOf xs = false := by have := unhide HA; rw [unhide HT] at this; exact this
        exact ⟨by rw [this]; rfl, rfl⟩

set_option maxRecDepth 100000 in
set_option maxHeartbeats 400000 in
theorem same_any (v u : Value) (xs ys : List Int) (w : World) (hl : xs.length ≤ 10000000) (hl2 : ys.length ≤ 10000000) (hv : Lies w v (ints xs)) (hu : Lies w u (ints ys)) :
    Calls Tryz.prog 182 #[v, u] w fun e w' => e = .returned (.bool (sameOf xs ys)) ∧ Below w.heap.size w w' := by
  have shape : ∀ {v : Value} {xs : List Int}, Lies w v (ints xs) → ∃ ao cap, v = .slice ao xs.length cap := by
    intro v xs h
    rcases h with ⟨h0, ao, cap, rfl⟩ | ⟨b, off, cap, hp, rfl, hb, hc⟩
    · have hx0 : xs = [] := by simpa [ints] using h0
      subst hx0; exact ⟨_, _, rfl⟩
    · exact ⟨some ⟨b, off, none⟩, cap, by simp [ints]⟩
  by_cases hle : xs.length = ys.length
  · rcases hv with ⟨h0, ao, cap, rfl⟩ | ⟨b, off, cap, hp, rfl, hb, hc⟩
    · have hx0 : xs = [] := by simpa [ints] using h0
      subst hx0
      have hy0 : ys = [] := List.length_eq_zero_iff.1 hle.symm
      subst hy0
      obtain ⟨ao', cap', rfl⟩ := shape hu
      clear hu hle
      go_enter Tryz.func182, Tryz.ntmps182
      go_wp2
      refine wp_loop_rounds 1 ?_
      rw [rounds_succ]
      go_wp2
      go_ret
      exact ⟨rfl, Below.refl _ _⟩
    · rcases hu with ⟨h0, ao, cap2, rfl⟩ | ⟨b2, off2, cap2, hp2, rfl, hb2, hc2⟩
      · exfalso
        have hy0 : ys = [] := by simpa [ints] using h0
        subst hy0; simp [ints] at hp hle; rw [hle] at hp; simp at hp
      · have hlen : (ints xs).length = xs.length := by simp [ints]
        have hlen2 : (ints ys).length = ys.length := by simp [ints]
        rw [hlen] at hp ⊢
        rw [hlen2, ← hle]
        have HLE := hide hle
        clear hle hp2 hlen2
        go_enter Tryz.func182, Tryz.ntmps182
        go_wp2
        go_loopw [5] (fun i wr => ∃ k : Nat, k ≤ xs.length ∧ i = .int .i64 k ∧ Hid (xs.take k = ys.take k) ∧ ∃ q, wr = w.drewN q) (fun i _ => xs.length - (intOf i).toNat)
        case atStart => exact ⟨0, Nat.zero_le _, rfl, rfl, 0, rfl⟩
        case round =>
          obtain ⟨k, hk, rfl, HA, q, rfl⟩ := hrel
          by_cases hlt : k < xs.length
          · have hlt2 : k < ys.length := by rw [← unhide HLE]; exact hlt
            have hc1 := hc k (.int .i64 xs[k]) (by simp [ints, hlt])
            have hc2' := hc2 k (.int .i64 ys[k]) (by simp [ints, hlt2])
            have HS : Hid (xs.take (k + 1) = xs.take k ++ [xs[k]]) := hide (List.take_succ_eq_append_getElem hlt)
            have HS2 : Hid (ys.take (k + 1) = ys.take k ++ [ys[k]]) := hide (List.take_succ_eq_append_getElem hlt2)
            have HG : Hid (xs = ys → xs[k] = ys[k]) := hide (fun h => by subst h; rfl)
            generalize xs[k] = x at hc1 HS HG
            generalize ys[k] = y at hc2' HS2 HG
            clear hc hc2 hlt2
            by_cases hxy : x = y
            · subst hxy
              go_wp2
              go_quiet (fail)
              go_wp2
              go_roundw
              case rel => exact ⟨k + 1, by omega, by go_num, hide (by rw [unhide HS, unhide HS2, unhide HA]), _, rfl⟩
              case measure => simp [intOf]; omega
            · have hq : (x == y) = false := by simpa using hxy
              have HX := hide hxy
              clear hxy
              go_wp2
              go_quiet (fail)
              go_wp2
              go_ret
              have : sameOf xs ys = false := by unfold sameOf; simp; exact fun h => unhide HX (unhide HG h)
              exact ⟨by rw [this]; rfl, below_drewN (below_drewN (Below.refl _ _) _) _⟩
          · have HT : Hid (xs = ys) := hide (by
              have := unhide HA
              rw [List.take_of_length_le (by omega), List.take_of_length_le (by rw [← unhide HLE]; omega)] at this
              exact this)
            go_wp2
            go_ret
            exact ⟨by rw [show sameOf xs ys = true from decide_eq_true (unhide HT)]; rfl, below_drewN (Below.refl _ _) _⟩
  · obtain ⟨ao, cap, rfl⟩ := shape hv
    obtain ⟨ao', cap', rfl⟩ := shape hu
    clear hv hu
    have hq : ((xs.length : Int) == (ys.length : Int)) = false := by rw [beq_eq_false_iff_ne]; omega
    have HD : Hid (sameOf xs ys = false) := hide (by unfold sameOf; simp; intro h; subst h; exact hle rfl)
    clear hle
    go_enter Tryz.func182, Tryz.ntmps182
    go_wp2
    go_ret
    exact ⟨by rw [unhide HD]; rfl, Below.refl _ _⟩

end Go.Proofs.YtekkkoipcghlmaaGreatDoor

namespace Go.Proofs.YtekkkoipcghlmaaGreatDoor
open Go.RowKit

/-- A list of clauses in memory, as the document's program keeps it; L: their masks. -/
def RowsIn (w : World) (vs : List Value) (L : List Nat) : Prop := vs.length = L.length ∧ ∀ (i : Nat) (x : Value) (m : Nat), vs[i]? = some x → L[i]? = some m → Lies w x (ints (Sp.litsOf m))
def RowsOf (w : World) (v : Value) (L : List Nat) : Prop := ∃ vs, Lies w v vs ∧ RowsIn w vs L

theorem RowsIn.below {w w' : World} {vs : List Value} {L : List Nat} (h : RowsIn w vs L) (hb : Below w.heap.size w w') : RowsIn w' vs L := ⟨h.1, fun i x m hx hm => (h.2 i x m hx hm).below hb⟩
theorem RowsOf.below {w w' : World} {v : Value} {L : List Nat} (h : RowsOf w v L) (hb : Below w.heap.size w w') : RowsOf w' v L := by
  obtain ⟨vs, h1, h2⟩ := h
  exact ⟨vs, h1.below hb, h2.below hb⟩
theorem RowsIn.nil (w : World) : RowsIn w [] [] := ⟨rfl, fun i x m hx _ => by simp at hx⟩
theorem RowsIn.snoc {w : World} {vs : List Value} {L : List Nat} {x : Value} {m : Nat} (h : RowsIn w vs L) (hx : Lies w x (ints (Sp.litsOf m))) : RowsIn w (vs ++ [x]) (L ++ [m]) := by
  refine ⟨by simp [h.1], fun i y d hy hd => ?_⟩
  by_cases hi : i < vs.length
  · rw [List.getElem?_append_left hi] at hy
    rw [List.getElem?_append_left (by rw [← h.1]; exact hi)] at hd
    exact h.2 i y d hy hd
  · have hi' : i = vs.length := by
      rcases Nat.lt_or_ge vs.length i with hh | hh
      · rw [List.getElem?_eq_none (by simp; omega)] at hy; cases hy
      · omega
    subst hi'
    rw [List.getElem?_append_right (Nat.le_refl _)] at hy
    rw [h.1, List.getElem?_append_right (Nat.le_refl _)] at hd
    simp at hy hd
    subst hy hd
    exact hx

theorem lies_shape {w : World} {v : Value} {vs : List Value} (h : Lies w v vs) : ∃ ao cap, v = .slice ao vs.length cap := by
  rcases h with ⟨h0, ao, cap, rfl⟩ | ⟨b, off, cap, hp, rfl, hb, hc⟩
  · subst h0; exact ⟨_, _, rfl⟩
  · exact ⟨_, _, rfl⟩

theorem same_masks {m m' : Nat} (h1 : m < 2 ^ 24) (h2 : m' < 2 ^ 24) : sameOf (Sp.litsOf m) (Sp.litsOf m') = decide (m = m') := by
  unfold sameOf
  rw [Bool.eq_iff_iff, decide_eq_true_iff, decide_eq_true_iff]
  exact ⟨fun h => Sp.litsOf_inj h1 h2 h, fun h => by rw [h]⟩

theorem erase_snoc (l : List Nat) (x m : Nat) : (l ++ [x]).erase m = if m ∈ l then l.erase m ++ [x] else if x = m then l else l ++ [x] := by
  rw [List.erase_append]
  by_cases h : m ∈ l
  · rw [if_pos h, if_pos h]
  · rw [if_neg h, if_neg h]
    by_cases hx : x = m
    · rw [if_pos hx, hx]; simp
    · rw [if_neg hx]
      congr 1
      simp [hx]
theorem litsOf_len24 (m : Nat) : (Sp.litsOf m).length ≤ 24 := by
  unfold Sp.litsOf
  rw [List.length_map]
  exact Nat.le_trans (List.length_filter_le _ _) (by simp)

set_option maxRecDepth 100000 in
set_option maxHeartbeats 800000 in
theorem without_any (v u : Value) (L : List Nat) (m : Nat) (w : World) (hl : L.length ≤ 10000000) (hL : ∀ c, c ∈ L → c < 2 ^ 24) (hm : m < 2 ^ 24) (hv : RowsOf w v L) (hu : Lies w u (ints (Sp.litsOf m))) :
    Calls Tryz.prog 152 #[v, u] w fun e w' => ∃ v', e = .returned (.tuple #[v', .bool (L.contains m)]) ∧ RowsOf w' v' (L.erase m) ∧ Below w.heap.size w w' := by
  obtain ⟨vs, hvs, hrows⟩ := hv
  have hlenv := hrows.1
  rcases hvs with ⟨h0, ao, cap, rfl⟩ | ⟨b, off, cap, hp, rfl, hb, hc⟩
  · subst h0
    have hL0 : L = [] := List.length_eq_zero_iff.1 hlenv.symm
    subst hL0
    go_enter Tryz.func152, Tryz.ntmps152
    go_wp2
    refine wp_loop_rounds 1 ?_
    rw [rounds_succ]
    go_wp2
    go_ret2
    exact ⟨_, rfl, ⟨[], Lies.nil _, RowsIn.nil _⟩, Below.refl _ _⟩
  · rw [hlenv] at hp ⊢
    have HR := hide hrows
    have HLV := hide hlenv
    clear hrows hlenv
    go_enter Tryz.func152, Tryz.ntmps152
    go_wp2
    go_loopw [6, 7, 8] (fun o g i wr => ∃ (k : Nat) (ys : List Value), k ≤ L.length ∧ i = .int .i64 k ∧ g = .bool ((L.take k).contains m) ∧ wr.ownsRow w.heap.size 25 1 o ys.length ys ∧ Hid (RowsIn w ys ((L.take k).erase m)) ∧ Below w.heap.size w wr) (fun _ _ i _ => L.length - (intOf i).toNat)
    case atStart => exact ⟨0, [], Nat.zero_le _, rfl, rfl, World.ownsRow_nil _ _ _ _, RowsIn.nil _, Below.refl _ _⟩
    case round =>
      obtain ⟨k, ys, hk, rfl, rfl, hown, HY, hbel⟩ := hrel
      have hyl : ys.length ≤ 10000000 := by
        have h1 := (unhide HY).1
        have h2 := List.length_erase_le (a := m) (l := L.take k)
        have h3 : (L.take k).length ≤ k := List.length_take_le _ _
        omega
      by_cases hlt : k < L.length
      · have hkv : k < vs.length := by rw [unhide HLV]; exact hlt
        have hcell : wr.cell? ⟨b, off + k, none⟩ = some vs[k] := (hbel.cell (p := ⟨b, off + k, none⟩) hb).trans (hc k vs[k] (List.getElem?_eq_getElem hkv))
        have hli := (unhide HR).2 k vs[k] L[k] (List.getElem?_eq_getElem hkv) (List.getElem?_eq_getElem hlt)
        have hcm := hL L[k] (List.getElem_mem hlt)
        have HS : Hid (L.take (k + 1) = L.take k ++ [L[k]]) := hide (List.take_succ_eq_append_getElem hlt)
        obtain ⟨ao3, c3, hsh⟩ := lies_shape hli
        generalize L[k] = c at *
        generalize vs[k] = x at *
        subst hsh
        rw [show (ints (Sp.litsOf c)).length = (Sp.litsOf c).length from by simp [ints]] at hcell hli
        have hl24 := litsOf_len24 c
        have hl24m := litsOf_len24 m
        have HLI := hide hli
        have HSA := hide (same_any _ u (Sp.litsOf c) (Sp.litsOf m) wr (by omega) (by omega) (hli.below hbel) (hu.below hbel))
        rw [same_masks hcm hm] at HSA
        clear hc hL hli
        generalize (Sp.litsOf c).length = nc at *
        cases hg : (L.take k).contains m
        · have hg' : m ∉ L.take k := by simpa using hg
          by_cases hcmm : c = m
          · rw [decide_eq_true hcmm] at HSA
            have HM := hide hcmm
            have HG := hide hg'
            clear hcmm hg hg'
            go_wp2_with fail
            refine (unhide HSA).mono ?_
            rintro e w1 ⟨rfl, hb1⟩
            have hown1 := owns_below hown hb1
            have hbel1 := hbel.trans (hb1.mono hbel.size)
            go_wp2
            go_roundw
            case rel => exact ⟨k + 1, ys, by omega, by go_num, by rw [unhide HS]; simp [unhide HM], hown1, hide (by rw [unhide HS, erase_snoc, if_neg (unhide HG), if_pos (unhide HM)]; have := unhide HY; rwa [List.erase_of_not_mem (unhide HG)] at this), hbel1⟩
            case measure => simp [intOf]; omega
          · rw [decide_eq_false hcmm] at HSA
            have HM := hide hcmm
            have HG := hide hg'
            clear hcmm hg hg'
            go_wp2_with fail
            refine (unhide HSA).mono ?_
            rintro e w1 ⟨rfl, hb1⟩
            have hown1 := owns_below hown hb1
            have hbel1 := hbel.trans (hb1.mono hbel.size)
            have hcell1 : w1.cell? ⟨b, off + k, none⟩ = some (.slice ao3 nc c3) := (hb1.cell (p := ⟨b, off + k, none⟩) (Nat.lt_of_lt_of_le hb hbel.size)).trans hcell
            go_wp2_with (at_builtin; refine append_one rfl _ _ 27 25 rfl Tryz.underlying27 Tryz.infoInts rfl (by decide) hown1 rfl rfl rfl (by omega) (Nat.le_refl _) hbel1 ?_; intro v' w4 hown' hbel' hgr)
            go_roundw
            case rel => exact ⟨k + 1, ys ++ [.slice ao3 nc c3], by omega, by go_num, by rw [unhide HS]; simp; exact ⟨unhide HG, fun h => unhide HM h.symm⟩, by simpa using hown', hide (by rw [unhide HS, erase_snoc, if_neg (unhide HG), if_neg (unhide HM)]; have := unhide HY; rw [List.erase_of_not_mem (unhide HG)] at this; exact this.snoc (unhide HLI)), hbel'⟩
            case measure => simp [intOf]; omega
        · have hg' : m ∈ L.take k := by simpa using hg
          have HG := hide hg'
          clear hg hg'
          go_wp2_with fail
          refine (unhide HSA).mono ?_
          rintro e w1 ⟨rfl, hb1⟩
          have hown1 := owns_below hown hb1
          have hbel1 := hbel.trans (hb1.mono hbel.size)
          have hcell1 : w1.cell? ⟨b, off + k, none⟩ = some (.slice ao3 nc c3) := (hb1.cell (p := ⟨b, off + k, none⟩) (Nat.lt_of_lt_of_le hb hbel.size)).trans hcell
          cases decide (c = m)
          all_goals
            go_wp2_with (at_builtin; refine append_one rfl _ _ 27 25 rfl Tryz.underlying27 Tryz.infoInts rfl (by decide) hown1 rfl rfl rfl (by omega) (Nat.le_refl _) hbel1 ?_; intro v' w4 hown' hbel' hgr)
            go_roundw
            case rel => exact ⟨k + 1, ys ++ [.slice ao3 nc c3], by omega, by go_num, by rw [unhide HS]; simp [unhide HG], by simpa using hown', hide (by rw [unhide HS, erase_snoc, if_pos (unhide HG)]; exact (unhide HY).snoc (unhide HLI)), hbel'⟩
            case measure => simp [intOf]; omega
      · have HT : Hid (L.take k = L) := hide (List.take_of_length_le (by omega))
        have HO := hide hown
        clear hown
        go_wp2
        go_ret2
        have hy := unhide HY
        rw [unhide HT] at hy
        exact ⟨_, by rw [unhide HT]; rfl, ⟨ys, lies_of_owns (unhide HO) rfl, hy.below hbel⟩, hbel⟩

end Go.Proofs.YtekkkoipcghlmaaGreatDoor

namespace Go.Proofs.YtekkkoipcghlmaaGreatDoor
open Go.RowKit

theorem newX_any (w : World) :
    Calls Tryz.prog 23 #[] w fun e w' => e = .returned (.pointer (some ⟨w.heap.size, 0, none⟩)) ∧ w' = w.alloc (.cells #[.slice none 0 0, .int .i64 0, .slice none 0 0] 77) := by
  go_enter Tryz.func23, Tryz.ntmps23
  go_wp2
  go_ret
  exact ⟨rfl, rfl⟩

theorem byte_ones : ∀ a : Fin 256, Lib.onesCount a.val = ((List.range 8).filter (fun i => a.val.testBit i)).length := by decide +kernel
theorem filter_shift (m s : Nat) : ((List.range 8).map (· + s)).filter (fun i => m.testBit i) = ((List.range 8).filter (fun i => (m / 2 ^ s % 256).testBit i)).map (· + s) := by
  rw [List.filter_map]
  congr 1
  apply List.filter_congr
  intro i hi
  have hi8 : i < 8 := by simpa using hi
  simp only [Function.comp]
  rw [show (256 : Nat) = 2 ^ 8 from rfl, Nat.testBit_mod_two_pow, Nat.testBit_div_two_pow]
  simp [hi8]
theorem ones_lits {m : Nat} : onesOf m = (Sp.litsOf m).length := by
  have e : List.range 24 = (List.range 8).map (· + 0) ++ (List.range 8).map (· + 8) ++ (List.range 8).map (· + 16) := by decide
  have b := fun (x : Nat) (h : x < 256) => byte_ones ⟨x, h⟩
  unfold Sp.litsOf onesOf
  rw [List.length_map, e, List.filter_append, List.filter_append, filter_shift, filter_shift, filter_shift]
  simp only [List.length_append, List.length_map]
  have h1 := b (m / 65536 % 256) (by omega)
  have h2 := b (m / 256 % 256) (by omega)
  have h3 := b (m % 256) (by omega)
  simp only at h1 h2 h3
  rw [h1, h2, h3]
  simp only [Nat.pow_zero, Nat.div_one, show (2 : Nat) ^ 8 = 256 from rfl, show (2 : Nat) ^ 16 = 65536 from rfl]
  omega

theorem sizes_le (ms : List Nat) : sizes ms ≤ 24 * ms.length := by
  induction ms with
  | nil => simp [sizes]
  | cons a r ih =>
    have := litsOf_len24 a
    simp only [sizes, List.map_cons, List.sum_cons, List.length_cons] at ih ⊢
    omega

/-- What Add answers, and what is kept then. -/
def addTo (ms : List Nat) (xs : List Int) : Int × List Nat :=
  if allInt xs = false then (1, ms) else if alwaysMask (Sp.maskOf xs) = true then (0, ms) else if 400 < sizes ms + (Sp.litsOf (Sp.maskOf xs)).length then (2, ms) else (0, ms ++ [Sp.maskOf xs])

theorem Tryz.infoClauseK : (Tryz.prog.info? 69).map (fun i => (i.zero, i.size, i.bytes)) = some (some (.int .u32 0), 1, 4) := by kernel_rfl

def XF (x : Nat) (kv : Value) (k : Nat) : Prop := k = x ∨ kv.ownBlock = some k
/-- What an Add of the program's leaves. -/
def AddX (base x : Nat) (kv : Value) (ms : List Nat) (xs : List Int) (pv : Value) (pb : List UInt8) (w w' : World) : Prop :=
  ∃ kv', XAt base w' x kv' (addTo ms xs).2 pv pb ∧ Only (XF x kv) w w' ∧ ∀ g, kv'.ownBlock = some g → kv.ownBlock = some g ∨ w.heap.size ≤ g

theorem XAt.below {base : Nat} {w w' : World} {x : Nat} {kv pv : Value} {ms : List Nat} {pb : List UInt8} (h : XAt base w x kv ms pv pb) (hb : Below w.heap.size w w') : XAt base w' x kv ms pv pb :=
  ⟨(hb.block x (lt_of_block h.block)).trans h.block, h.le, owns_at h.row (fun g hg => hb.block g (h.row.lt g hg).2), owns_at h.prow (fun g hg => hb.block g (h.prow.lt g hg).2)⟩
theorem AddX.stay {base x : Nat} {kv pv : Value} {ms : List Nat} {xs : List Int} {pb : List UInt8} {w w' : World} (h : XAt base w x kv ms pv pb) (hb : Below w.heap.size w w') (ha : (addTo ms xs).2 = ms) : AddX base x kv ms xs pv pb w w' :=
  ⟨kv, by rw [ha]; exact h.below hb, Only.of_below _ hb, fun g hg => .inl hg⟩

theorem us_snoc (ms : List Nat) (m : Nat) : us (ms ++ [m]) = us ms ++ [.int .u32 (m : Int)] := by simp [us]
/-- Behind the append, ahead of the stores. -/
structure Mid (base x : Nat) (kv : Value) (ms : List Nat) (pv : Value) (pb : List UInt8) (m : Nat) (w w4 : World) (g' cap' : Nat) : Prop where
  block : w4.heap[x]? = some (.cells #[kv, .int .i64 (sizes ms : Int), pv] 77 (0, 0))
  prow : w4.ownsRow base 5 1 pv pb.length (bytesV pb)
  row : w4.ownsRow base 69 1 (.slice (some ⟨g', 0, none⟩) (ms.length + 1) cap') (ms.length + 1) (us ms ++ [.int .u32 (m : Int)])
  only : Only (XF x kv) w w4
  loc : kv.ownBlock = some g' ∨ w.heap.size ≤ g'
  ne : g' ≠ x
theorem mid_of {base x : Nat} {kv pv : Value} {ms : List Nat} {pb : List UInt8} {m : Nat} {w wz w4 : World} {g' cap' : Nat} {o : Obj} (hX : XAt base w x kv ms pv pb) (hz : Below w.heap.size w wz)
    (hown : w4.ownsRow base 69 1 (.slice (some ⟨g', 0, none⟩) (ms.length + 1) cap') (ms.length + 1) (us ms ++ [.int .u32 (m : Int)])) (hgr : (wz.alloc o).grownBy w4 kv.ownBlock) (hloc : kv.ownBlock = some g' ∨ g' = (wz.alloc o).heap.size) :
    Mid base x kv ms pv pb m w w4 g' cap' := by
  have hlt := lt_of_block hX.block
  have hzs := hz.size
  have hne : kv.ownBlock ≠ some x := row_ne hX.row hX.block (by decide)
  have hb1 : (wz.alloc o).heap[x]? = some (.cells #[kv, .int .i64 (sizes ms : Int), pv] 77 (0, 0)) := by
    rw [Below.heap_alloc _ _ _ (by omega), hz.block x hlt]; exact hX.block
  have hp1 : (wz.alloc o).ownsRow base 5 1 pv pb.length (bytesV pb) := (owns_at hX.prow (fun g hg => hz.block g (hX.prow.lt g hg).2)).alloc o
  have hp4 : w4.ownsRow base 5 1 pv pb.length (bytesV pb) := hp1.kept hgr (rows_apart (by decide) hX.prow hX.row)
  refine ⟨by rw [hgr.block x (lt_of_block hb1) (fun e => hne e.symm)]; exact hb1, hp4, hown, (Only.of_below _ hz).trans ((Only.alloc _ wz o).trans (Only.grown hgr (fun k hk => .inr hk))), ?_, ?_⟩
  · rcases hloc with h | h
    · exact .inl h
    · exact .inr (by rw [h]; simp; omega)
  · rcases hloc with h | h
    · intro e; subst e; exact hne h
    · rw [h]; simp; omega
theorem Mid.cell0 {base x : Nat} {kv pv : Value} {ms : List Nat} {pb : List UInt8} {m : Nat} {w w4 : World} {g' cap' : Nat} (h : Mid base x kv ms pv pb m w w4 g' cap') : w4.cell? ⟨x, 0, none⟩ = some kv := by simp [World.cell?, h.block]
theorem Mid.cell1 {base x : Nat} {kv pv : Value} {ms : List Nat} {pb : List UInt8} {m : Nat} {w w4 : World} {g' cap' : Nat} (h : Mid base x kv ms pv pb m w w4 g' cap') : w4.cell? ⟨x, 1, none⟩ = some (.int .i64 (sizes ms : Int)) := by simp [World.cell?, h.block]
theorem Mid.free {base x : Nat} {kv pv : Value} {ms : List Nat} {pb : List UInt8} {m : Nat} {w w4 : World} {g' cap' : Nat} (h : Mid base x kv ms pv pb m w w4 g' cap') (j : Nat) : w4.frozen? ⟨x, j, none⟩ = false := frozen_of_row w4 _ _ _ _ h.block
theorem row_drew {w : World} {base : Nat} {e : TypeId} {s : Nat} {v : Value} {n : Nat} {xs : List Value} (h : w.ownsRow base e s v n xs) (q : Nat) : (w.drewN q).ownsRow base e s v n xs := owns_at h (fun _ _ => rfl)
theorem Mid.fin {base x : Nat} {kv pv : Value} {ms : List Nat} {pb : List UInt8} {m : Nat} {w w4 wm : World} {g' cap' : Nat} (h : Mid base x kv ms pv pb m w w4 g' cap') (hle : base ≤ x) (hm : Below (w4.setCell ⟨x, 0, none⟩ (.slice (some ⟨g', 0, none⟩) (ms.length + 1) cap')).heap.size (w4.setCell ⟨x, 0, none⟩ (.slice (some ⟨g', 0, none⟩) (ms.length + 1) cap')) wm)
    {n : Int} (hn : n = (sizes (ms ++ [m]) : Nat)) (_hlt : x < w.heap.size) : XAt base (wm.setCell ⟨x, 1, none⟩ (.int .i64 n)) x (.slice (some ⟨g', 0, none⟩) (ms.length + 1) cap') (ms ++ [m]) pv pb ∧ Only (XF x kv) w (wm.setCell ⟨x, 1, none⟩ (.int .i64 n)) := by
  subst hn
  have h0 := heap_setCell_same w4 x 0 _ _ (.slice (some ⟨g', 0, none⟩) (ms.length + 1) cap') h.block
  have hlt4 := lt_of_block h0
  have h1 := (hm.block x hlt4).trans h0
  have h2 := heap_setCell_same wm x 1 _ _ (.int .i64 (sizes (ms ++ [m]) : Nat)) h1
  have hpn : pv.ownBlock ≠ some x := row_ne h.prow h.block (by decide)
  refine ⟨⟨by rw [h2]; rfl, hle, ?_, ?_⟩, ?_⟩
  · rw [List.length_append, us_snoc]
    have r1 := ownsRow_setCell_other h.row (a := ⟨x, 0, none⟩) (by simp [Value.ownBlock]; exact h.ne) (.slice (some ⟨g', 0, none⟩) (ms.length + 1) cap')
    have r2 := owns_below r1 hm
    exact ownsRow_setCell_other r2 (a := ⟨x, 1, none⟩) (by simp [Value.ownBlock]; exact h.ne) _
  · have r1 := ownsRow_setCell_other h.prow (a := ⟨x, 0, none⟩) hpn (.slice (some ⟨g', 0, none⟩) (ms.length + 1) cap')
    have r2 := owns_below r1 hm
    exact ownsRow_setCell_other r2 (a := ⟨x, 1, none⟩) hpn _
  · exact h.only.trans ((Only.setCell (F := XF x kv) (p := ⟨x, 0, none⟩) (.inl rfl) _ _).trans ((Only.of_below _ hm).trans (Only.setCell (F := XF x kv) (p := ⟨x, 1, none⟩) (.inl rfl) _ _)))
theorem AddX.grow {base x : Nat} {kv pv : Value} {ms : List Nat} {pb : List UInt8} {m : Nat} {xs : List Int} {w w4 w' : World} {g' cap' : Nat} (h : Mid base x kv ms pv pb m w w4 g' cap') (hx : XAt base w' x (.slice (some ⟨g', 0, none⟩) (ms.length + 1) cap') (ms ++ [m]) pv pb) (ho : Only (XF x kv) w w') (ha : (addTo ms xs).2 = ms ++ [m]) : AddX base x kv ms xs pv pb w w' :=
  ⟨_, by rw [ha]; exact hx, ho, fun g hg => by simp [Value.ownBlock] at hg; subst hg; exact h.loc⟩

set_option maxRecDepth 100000 in
set_option maxHeartbeats 1600000 in
theorem addX_any (base x : Nat) (kv v : Value) (ms : List Nat) (xs : List Int) (w : World) (pv : Value) (pb : List UInt8) (hX : XAt base w x kv ms pv pb) (hms : ms.length ≤ 10000000) (hl : xs.length ≤ 10000000) (hv : Lies w v (ints xs)) :
    Calls Tryz.prog 24 #[.pointer (some ⟨x, 0, none⟩), v] w fun e w' => e = .returned (.int .i64 (addTo ms xs).1) ∧ AddX base x kv ms xs pv pb w w' := by
  have HF := hide (fromNumbers_any v xs w hl hv)
  have hszl := sizes_le ms
  obtain ⟨ao, cp, hsh⟩ := owns_shape hX.row
  subst hsh
  have hc0 : w.cell? ⟨x, 0, none⟩ = some (.slice ao ms.length cp) := by simp [World.cell?, hX.block]
  have hc1 : w.cell? ⟨x, 1, none⟩ = some (.int .i64 (sizes ms : Int)) := by simp [World.cell?, hX.block]
  have HX := hide hX
  clear hX hv
  cases ha : allInt xs
  · have HT : Hid (addTo ms xs = (1, ms)) := hide (by unfold addTo; rw [if_pos ha])
    have HA := hide ha
    clear ha
    go_enter Tryz.func24, Tryz.ntmps24
    go_wp2_with fail
    refine (unhide HF).mono ?_
    rintro e w1 ⟨rfl, ⟨h1, rfl⟩ | ⟨h1, rfl⟩⟩
    · clear h1
      go_wp2
      go_ret
      exact ⟨by rw [unhide HT]; rfl, AddX.stay (unhide HX) (Below.refl _ _) (by rw [unhide HT])⟩
    · rw [unhide HA] at h1; cases h1
  · have hbd : ∀ y, y ∈ xs → y ≠ 0 ∧ -12 ≤ y ∧ y ≤ 12 := fun y hy => isLit_iff.1 (by rw [allInt, List.all_eq_true] at ha; exact ha y hy)
    have hm : Sp.maskOf xs < 2 ^ 24 := Sp.maskOf_lt _ (fun y hy => (hbd y hy).2)
    have HAL := hide (fun wx => alwaysTrue_any (Sp.maskOf xs) wx hm)
    have HSI := hide (fun wx => size_any (Sp.maskOf xs) wx hm)
    rw [ones_lits] at HSI
    have h24 := litsOf_len24 (Sp.maskOf xs)
    have HT0 : Hid (alwaysMask (Sp.maskOf xs) = true → addTo ms xs = (0, ms)) := hide (fun h => by unfold addTo; rw [if_neg (by rw [ha]; decide), if_pos h])
    have HT2 : Hid (alwaysMask (Sp.maskOf xs) = false → 400 < sizes ms + (Sp.litsOf (Sp.maskOf xs)).length → addTo ms xs = (2, ms)) := hide (fun h h2 => by unfold addTo; rw [if_neg (by rw [ha]; decide), if_neg (by rw [h]; decide), if_pos h2])
    have HT3 : Hid (alwaysMask (Sp.maskOf xs) = false → ¬ 400 < sizes ms + (Sp.litsOf (Sp.maskOf xs)).length → addTo ms xs = (0, ms ++ [Sp.maskOf xs])) := hide (fun h h2 => by unfold addTo; rw [if_neg (by rw [ha]; decide), if_neg (by rw [h]; decide), if_neg h2])
    have HSN := hide (sizes_snoc ms (Sp.maskOf xs))
    have HA := hide ha
    clear ha hbd
    generalize hsz : (Sp.litsOf (Sp.maskOf xs)).length = sz at *
    clear hsz
    generalize hmm : Sp.maskOf xs = m at *
    have HMM := hide hmm
    clear hmm
    generalize hal : alwaysMask m = al at *
    clear hal
    generalize hai : allInt xs = ai at *
    clear hai
    have hwr : IntKind.i64.wrap ((sizes ms : Int) + (sz : Int)) = (sizes ms : Int) + (sz : Int) := by rw [IntKind.wrap_i64]; omega
    cases al
    · by_cases h4 : 400 < sizes ms + sz
      · have HT := hide (unhide HT2 rfl h4)
        clear HT0 HT2 HT3
        go_enter Tryz.func24, Tryz.ntmps24
        go_wp2_with fail
        refine (unhide HF).mono ?_
        rintro e w1 ⟨rfl, ⟨h1, rfl⟩ | ⟨h1, rfl⟩⟩
        · rw [unhide HA] at h1; cases h1
        · clear h1
          go_wp2_with fail
          refine (unhide HAL _).mono ?_
          rintro e w2 ⟨rfl, q, rfl⟩
          go_wp2
          go_region_with (go_at_call 47; refine (unhide HSI _).mono ?_; rintro e w3 ⟨rfl, q2, rfl⟩)
          all_goals go_wp2
          all_goals go_ret
          all_goals exact ⟨by rw [unhide HT]; rfl, AddX.stay (unhide HX) (belowDrew (Below.refl _ _) _) (by rw [unhide HT])⟩
      · have HT := hide (unhide HT3 rfl h4)
        clear HT0 HT2 HT3
        go_enter Tryz.func24, Tryz.ntmps24
        go_wp2_with fail
        refine (unhide HF).mono ?_
        rintro e w1 ⟨rfl, ⟨h1, rfl⟩ | ⟨h1, rfl⟩⟩
        · rw [unhide HA] at h1; cases h1
        · clear h1
          have hbase : base ≤ w1.heap.size := Nat.le_trans (unhide HX).le (Nat.le_of_lt (lt_of_block (unhide HX).block))
          go_wp2_with fail
          refine (unhide HAL _).mono ?_
          rintro e w2 ⟨rfl, q, rfl⟩
          go_wp2
          go_region_with (go_at_call 47; refine (unhide HSI _).mono ?_; rintro e w3 ⟨rfl, q2, rfl⟩)
          all_goals go_wp2_with (at_builtin; refine append_cell (base := base) rfl _ _ 74 69 rfl Tryz.underlying74 Tryz.infoClauseK rfl (by decide) (row_drew (unhide HX).row _) rfl rfl rfl (by omega) hbase ?_; intro g' cap' w4 hown4 hgr4 hloc; have HMID := hide (mid_of (unhide HX) (belowDrew (Below.refl _ _) _) hown4 hgr4 hloc); clear hown4 hgr4 hloc; have hc04 := (unhide HMID).cell0; have hc14 := (unhide HMID).cell1; have hf04 := (unhide HMID).free 0; have hf14 := (unhide HMID).free 1)
          all_goals go_region_with (go_at_call 47; refine (unhide HSI _).mono ?_; rintro e w5 ⟨rfl, q3, rfl⟩)
          all_goals go_wp2
          all_goals go_ret
          all_goals exact ⟨by rw [unhide HT]; rfl, AddX.grow (unhide HMID) (Mid.fin (unhide HMID) (unhide HX).le (belowDrew (Below.refl _ _) _) (by rw [unhide HSN]; omega) (lt_of_block (unhide HX).block)).1 (Mid.fin (unhide HMID) (unhide HX).le (belowDrew (Below.refl _ _) _) (by rw [unhide HSN]; omega) (lt_of_block (unhide HX).block)).2 (by rw [unhide HT])⟩
    · have HT := hide (unhide HT0 rfl)
      clear HT0 HT2 HT3
      go_enter Tryz.func24, Tryz.ntmps24
      go_wp2_with fail
      refine (unhide HF).mono ?_
      rintro e w1 ⟨rfl, ⟨h1, rfl⟩ | ⟨h1, rfl⟩⟩
      · rw [unhide HA] at h1; cases h1
      · clear h1
        go_wp2_with fail
        refine (unhide HAL _).mono ?_
        rintro e w2 ⟨rfl, q, rfl⟩
        go_wp2
        go_ret
        exact ⟨by rw [unhide HT]; rfl, AddX.stay (unhide HX) (belowDrew (Below.refl _ _) q) (by rw [unhide HT])⟩

end Go.Proofs.YtekkkoipcghlmaaGreatDoor

namespace Go.Proofs.YtekkkoipcghlmaaGreatDoor
open Go.RowKit

/-- The document's solver, at block y. -/
structure YAt (base : Nat) (w : World) (y : Nat) (lv : Value) (vs : List Value) (ms : List Nat) : Prop where
  block : w.heap[y]? = some (.cells #[lv] 93 (0, 0))
  le : base ≤ y
  row : w.ownsRow base 25 1 lv ms.length vs
  rows : RowsAt w base vs (ms.map Sp.litsOf)

def YFoot (F : Nat → Prop) (y : Nat) (lv : Value) (vs : List Value) : Prop := F y ∧ (∀ g, lv.ownBlock = some g → F g) ∧ ∀ v, v ∈ vs → ∀ g, v.ownBlock = some g → F g

theorem YAt.keep {base : Nat} {w w' : World} {y : Nat} {lv : Value} {vs : List Value} {ms : List Nat} (h : YAt base w y lv vs ms) {F : Nat → Prop} (hf : YFoot F y lv vs) (hk : ∀ k, F k → w'.heap[k]? = w.heap[k]?) : YAt base w' y lv vs ms :=
  ⟨(hk y hf.1).trans h.block, h.le, owns_at h.row (fun g hg => hk g (hf.2.1 g hg)), h.rows.1, fun i x c hx hc => owns_at (h.rows.2 i x c hx hc) (fun g hg => hk g (hf.2.2 x (List.mem_of_getElem? hx) g hg))⟩

/-- A side: the program's solver and the document's, with the same clauses, in the blocks F. -/
structure SideIs (base : Nat) (w : World) (F : Nat → Prop) (p x : Nat) (kv : Value) (y : Nat) (lv : Value) (vs : List Value) (ms : List Nat) (pv : Value) (pb : List UInt8) : Prop where
  block : ∃ pr gr la en, w.heap[p]? = some (.cells #[.pointer (some ⟨x, 0, none⟩), .pointer (some ⟨y, 0, none⟩), .string pr, .bool gr, .string la, .bool en] 95 (0, 0))
  le : base ≤ p
  prog : XAt base w x kv ms pv pb
  doc : YAt base w y lv vs ms
  fp : F p
  fx : XFoot F x kv pv
  fy : YFoot F y lv vs
  inn : ∀ k, F k → base ≤ k ∧ k < w.heap.size
  small : ∀ m, m ∈ ms → m < 2 ^ 24
def SideAt (base : Nat) (w : World) (F : Nat → Prop) (p : Nat) (ms : List Nat) : Prop := ∃ x kv y lv vs pv pb, SideIs base w F p x kv y lv vs ms pv pb

theorem SideAt.keep {base : Nat} {w w' : World} {F : Nat → Prop} {p : Nat} {ms : List Nat} (h : SideAt base w F p ms) (hs : w.heap.size ≤ w'.heap.size) (hk : ∀ k, F k → w'.heap[k]? = w.heap[k]?) : SideAt base w' F p ms := by
  obtain ⟨x, kv, y, lv, vs, pv, pb, h⟩ := h
  obtain ⟨pr, gr, la, en, hb⟩ := h.block
  exact ⟨x, kv, y, lv, vs, pv, pb, ⟨⟨pr, gr, la, en, (hk p h.fp).trans hb⟩, h.le, h.prog.keep h.fx hk, h.doc.keep h.fy hk, h.fp, h.fx, h.fy, fun k hf => ⟨(h.inn k hf).1, Nat.lt_of_lt_of_le (h.inn k hf).2 hs⟩, h.small⟩⟩

/-- The world of a play: at most four sides, apart. -/
structure WIs (base : Nat) (w : World) (B n : Nat) (lv : Value) (p : Nat → Nat) (F : Nat → Nat → Prop) (ms : Nat → List Nat) : Prop where
  block : w.heap[B]? = some (.cells #[lv, .slice none 0 0] 64 (0, 0))
  le : base ≤ B
  row : w.ownsRow base 90 1 lv n ((List.range n).map fun i => .pointer (some ⟨p i, 0, none⟩))
  sides : ∀ i, i < n → SideAt base w (F i) (p i) (ms i)
  apart : ∀ i j, i < n → j < n → i ≠ j → ∀ k, F i k → ¬ F j k
  notB : ∀ i, i < n → ¬ F i B
  notRow : ∀ i, i < n → ∀ g, lv.ownBlock = some g → ¬ F i g
  four : n ≤ 4
/-- L: how many clauses may be kept. -/
def KWAt (base : Nat) (w : World) (B n L : Nat) : Prop := ∃ lv p F ms, WIs base w B n lv p F ms ∧ ∀ i, i < n → (ms i).length ≤ L

/-- One side has changed. -/
theorem WIs.turn {base : Nat} {w w' : World} {B n : Nat} {lv : Value} {p : Nat → Nat} {F : Nat → Nat → Prop} {ms : Nat → List Nat} (h : WIs base w B n lv p F ms) {d : Nat} (hd : d < n) {F' : Nat → Prop} {ms' : List Nat}
    (ho : Only (F d) w w') (hs : SideAt base w' F' (p d) ms') (hF : ∀ k, F' k → F d k ∨ w.heap.size ≤ k) :
    WIs base w' B n lv p (fun i => if i = d then F' else F i) (fun i => if i = d then ms' else ms i) := by
  have hlt : ∀ i, i < n → ∀ k, F i k → k < w.heap.size := fun i hi k hk => by
    obtain ⟨x, kv, y, lv', vs, pv, pb, hh⟩ := h.sides i hi
    exact (hh.inn k hk).2
  have hBlt := lt_of_block h.block
  have hrow : ∀ g, lv.ownBlock = some g → g < w.heap.size := fun g hg => (h.row.lt g hg).2
  have key : ∀ i, i < n → i ≠ d → ∀ k, F i k → w'.heap[k]? = w.heap[k]? := fun i hi hid k hk => ho.block k (hlt i hi k hk) (h.apart i d hi hd hid k hk)
  have off : ∀ k, k < w.heap.size → ¬ F d k → ¬ F' k := fun k hk hn hf => by
    rcases hF k hf with h1 | h1
    · exact hn h1
    · omega
  refine ⟨(ho.block B hBlt (h.notB d hd)).trans h.block, h.le, owns_at h.row (fun g hg => ho.block g (hrow g hg) (h.notRow d hd g hg)), fun i hi => ?_, fun i j hi hj hij k hk => ?_, fun i hi => ?_, fun i hi g hg => ?_, h.four⟩
  · by_cases e : i = d
    · subst e; simp only [if_true]; exact hs
    · simp only [if_neg e]; exact (h.sides i hi).keep ho.size (key i hi e)
  · by_cases e : i = d
    · subst e
      simp only [if_true, if_neg (Ne.symm hij)] at hk ⊢
      intro hj'
      exact off k (hlt j hj k hj') (fun hf => h.apart i j hi hj hij k hf hj') hk
    · simp only [if_neg e] at hk
      by_cases e2 : j = d
      · subst e2
        simp only [if_true]
        exact off k (hlt i hi k hk) (h.apart i j hi hj hij k hk)
      · simp only [if_neg e2]; exact h.apart i j hi hj hij k hk
  · by_cases e : i = d
    · subst e; simp only [if_true]; exact off B hBlt (h.notB i hi)
    · simp only [if_neg e]; exact h.notB i hi
  · by_cases e : i = d
    · subst e; simp only [if_true]; exact off g (hrow g hg) (h.notRow i hi g hg)
    · simp only [if_neg e]; exact h.notRow i hi g hg

/-- Nothing that was there has changed. -/
theorem KWAt.below {base : Nat} {w w' : World} {B n L : Nat} (h : KWAt base w B n L) (hb : Below w.heap.size w w') : KWAt base w' B n L := by
  obtain ⟨lv, p, F, ms, h, hL⟩ := h
  refine ⟨lv, p, F, ms, ⟨(hb.block B (lt_of_block h.block)).trans h.block, h.le, owns_at h.row (fun g hg => hb.block g (h.row.lt g hg).2), fun i hi => (h.sides i hi).keep hb.size (fun k hk => ?_), h.apart, h.notB, h.notRow, h.four⟩, hL⟩
  obtain ⟨x, kv, y, lv', vs, pv, pb, hh⟩ := h.sides i hi
  exact hb.block k (hh.inn k hk).2
theorem KWAt.more {base : Nat} {w : World} {B n L L' : Nat} (h : KWAt base w B n L) (hl : L ≤ L') : KWAt base w B n L' := by
  obtain ⟨lv, p, F, ms, h, hL⟩ := h
  exact ⟨lv, p, F, ms, h, fun i hi => Nat.le_trans (hL i hi) hl⟩

end Go.Proofs.YtekkkoipcghlmaaGreatDoor
