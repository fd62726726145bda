import Derived.Test.YtekkkoipcghlmaaGreatDoorC47
import Derived.Test.YtekkkoipcghlmaaGreatDoorC43
set_option linter.all false
namespace Go.Proofs.YtekkkoipcghlmaaGreatDoor
open Go.RowKit

theorem pickK_big (c : Int) (n : Nat) (w : World) (h0 : -9223372036854775808 ≤ c) (h1 : c ≤ 9223372036854775807) (hn : 0 < n) (hn4 : n ≤ 1000000) :
    Calls Tryz.prog 14 #[.int .i64 c, .int .i64 n] w fun e w' => (∃ d : Nat, d < n ∧ e = .returned (.int .i64 d)) ∧ w' = w := by
  by_cases hc : c < 0
  · go_enter Tryz.func14, Tryz.ntmps14
    go_wp2
    go_ret
    have e1 : -(c + 1).tmod (n : Int) = (-(c + 1)) % (n : Int) := by rw [← Int.neg_tmod, Int.tmod_eq_emod_of_nonneg (by omega)]
    exact ⟨ret_lt (a := -(c + 1).tmod (n : Int)) (by rw [e1]; exact Int.emod_nonneg _ (by omega)) (by rw [e1]; exact Int.emod_lt_of_pos _ (by omega)), rfl⟩
  · go_enter Tryz.func14, Tryz.ntmps14
    go_wp2
    go_ret
    exact ⟨ret_lt (a := c % (n : Int)) (Int.emod_nonneg _ (by omega)) (Int.emod_lt_of_pos _ (by omega)), rfl⟩

theorem bit_test (b n : Nat) : ((((b : Int) / 2 ^ n).tmod 2 == 1)) = b.testBit n := by
  have e0 : (b : Int) / 2 ^ n = ((b / 2 ^ n : Nat) : Int) := by simp
  have e1 : ((b : Int) / 2 ^ n).tmod 2 = ((b / 2 ^ n % 2 : Nat) : Int) := by
    rw [e0, Int.tmod_eq_emod_of_nonneg (Int.natCast_nonneg _)]
    simp
  rw [e1, Nat.testBit_eq_decide_div_mod_eq]
  by_cases h : b / 2 ^ n % 2 = 1
  · rw [h]; rfl
  · have : b / 2 ^ n % 2 = 0 := by omega
    rw [this]; rfl

/-- The clause of the values k: its literals so far. -/
def oddLit (xs : List Int) (k i : Nat) : Int := if k.testBit i then -(xs.getD i 0) else xs.getD i 0
def oddC (xs : List Int) (k j : Nat) : List Int := (List.range j).map (oddLit xs k)
def oddN (k j : Nat) : Nat := ((List.range j).filter (fun i => k.testBit i)).length
def oddIn (even : Bool) (n k : Nat) : Bool := (oddN k n % 2 == 0) != even
def oddTo (xs : List Int) (even : Bool) (k : Nat) : List (List Int) := ((List.range k).filter (oddIn even xs.length)).map (fun b => oddC xs b xs.length)
theorem oddC_succ (xs : List Int) (k j : Nat) : oddC xs k (j + 1) = oddC xs k j ++ [oddLit xs k j] := by unfold oddC; rw [List.range_succ, List.map_append]; rfl
theorem oddC_len (xs : List Int) (k j : Nat) : (oddC xs k j).length = j := by simp [oddC]
theorem oddN_succ (k j : Nat) : oddN k (j + 1) = oddN k j + (if k.testBit j then 1 else 0) := by
  unfold oddN
  rw [List.range_succ, List.filter_append, List.length_append]
  cases h : k.testBit j <;> simp [List.filter, h]
theorem oddN_le (k j : Nat) : oddN k j ≤ j := by
  unfold oddN
  exact Nat.le_trans (List.length_filter_le _ _) (by simp)
theorem oddTo_yes (xs : List Int) (even : Bool) (k : Nat) (h : oddIn even xs.length k = true) : oddTo xs even (k + 1) = oddTo xs even k ++ [oddC xs k xs.length] := by
  unfold oddTo
  rw [List.range_succ, List.filter_append, List.map_append]
  simp [List.filter, h]
theorem oddTo_no (xs : List Int) (even : Bool) (k : Nat) (h : oddIn even xs.length k = false) : oddTo xs even (k + 1) = oddTo xs even k := by
  unfold oddTo
  rw [List.range_succ, List.filter_append, List.map_append]
  simp [List.filter, h]
theorem oddTo_len (xs : List Int) (even : Bool) (k : Nat) : (oddTo xs even k).length ≤ k := by
  unfold oddTo
  rw [List.length_map]
  exact Nat.le_trans (List.length_filter_le _ _) (by simp)

set_option maxRecDepth 100000 in
set_option maxHeartbeats 3200000 in
theorem oddK (x y : Int) (even : Bool) (g : Nat) (w : World) (hx : 1 ≤ x ∧ x ≤ 12) (hy : 1 ≤ y ∧ y ≤ 12) (hv : Lies w (.slice (some ⟨g, 0, none⟩) 2 2) (ints [x, y])) :
    Calls Tryz.prog 34 #[.slice (some ⟨g, 0, none⟩) 2 2, .bool even] w fun e w' => ∃ ov vs, e = .returned ov ∧ HI w w' ov vs (oddTo [x, y] even 4) := by
  have hcl : ∀ i, i < 2 → ∃ z, w.cell? ⟨g, i, none⟩ = some (.int .i64 z) ∧ z = ([x, y] : List Int).getD i 0 ∧ 1 ≤ z ∧ z ≤ 12 := by
    intro i hi
    rcases hv with ⟨h0, _⟩ | ⟨b, off, cap, hp, hvv, hb, hc⟩
    · simp [ints] at h0
    · simp only [Value.slice.injEq, Option.some.injEq, Addr.mk.injEq] at hvv
      obtain ⟨⟨rfl, rfl, -⟩, -, rfl⟩ := hvv
      have : i = 0 ∨ i = 1 := by omega
      rcases this with rfl | rfl
      · exact ⟨x, by simpa using hc 0 (.int .i64 x) rfl, rfl, hx.1, hx.2⟩
      · exact ⟨y, by simpa using hc 1 (.int .i64 y) rfl, rfl, hy.1, hy.2⟩
  have hgw : g < w.heap.size := by
    rcases hv with ⟨h0, _⟩ | ⟨b, off, cap, hp, hvv, hb, hc⟩
    · simp [ints] at h0
    · simp only [Value.slice.injEq, Option.some.injEq, Addr.mk.injEq] at hvv
      obtain ⟨⟨rfl, rfl, -⟩, -, rfl⟩ := hvv
      exact hb
  obtain ⟨xs, hxs⟩ : ∃ xs : List Int, xs = [x, y] := ⟨_, rfl⟩
  have hxl : xs.length = 2 := by rw [hxs]; rfl
  have HXL := hide hxl
  have HCL : Hid (∀ i wi, i < 2 → Below w.heap.size w wi → ∃ z, wi.cell? ⟨g, i, none⟩ = some (.int .i64 z) ∧ z = xs.getD i 0 ∧ 1 ≤ z ∧ z ≤ 12) := hide (fun i wi hi hb => by
    obtain ⟨z, h1, h2, h3, h4⟩ := hcl i hi
    exact ⟨z, (hb.cell (p := ⟨g, i, none⟩) hgw).trans h1, by rw [hxs]; exact h2, h3, h4⟩)
  rw [← hxs]
  clear hv hcl hx hy hxs hxl
  go_enter Tryz.func34, Tryz.ntmps34
  go_wp2_with fail
  go_loopw [5, 6, 7, 8, 9] (fun o b _ _ _ wr => ∃ (k : Nat) (vs : List Value) (oo : Option Addr) (oc : Nat) (L : List (List Int)), k ≤ 4 ∧ b = .int .i64 k ∧ o = .slice oo L.length oc ∧ Hid (L = oddTo xs even k) ∧ Hid (HI w wr (.slice oo L.length oc) vs L)) (fun _ b _ _ _ _ => 4 - (intOf b).toNat)
  case atStart => exact ⟨0, [], none, 0, [], by omega, rfl, rfl, hide (by simp [oddTo]), hide (HI.nil w)⟩
  case round =>
    obtain ⟨k, vs, oo, oc, L, hk, rfl, rfl, HL, HV⟩ := hrel
    have hll : L.length ≤ 4 := by rw [unhide HL]; have := oddTo_len xs even k; omega
    by_cases hlt : k < 4
    · have hdk : decide ((k : Int) < 4) = true := decide_eq_true (by omega)
      have HC0 := hide (unhide HV).start
      clear HV
      go_wp2_with fail
      go_loopw [7, 8, 9] (fun c n i wi => ∃ (j : Nat) (co : Option Addr) (cn : Nat), j ≤ 2 ∧ i = .int .i64 j ∧ n = .int .i64 (oddN k j : Nat) ∧ c = .slice co j cn ∧ Hid (HC w wi (.slice oo L.length oc) (.slice co j cn) vs L (oddC xs k j))) (fun _ _ i _ => 2 - (intOf i).toNat)
      case atStart => exact ⟨0, none, 0, by omega, rfl, rfl, rfl, HC0⟩
      case round =>
        obtain ⟨j, co, cn, hj, rfl, rfl, rfl, HCJ⟩ := hrel
        have hsz := (unhide HCJ).inv.below.size
        have hnl := oddN_le k j
        clear HC0
        by_cases hjl : j < 2
        · obtain ⟨z, hz, hzx, hz1, hz2⟩ := unhide HCL j wr hjl (unhide HCJ).inv.below
          have HCR : Hid (wr.ownsRow w.heap.size 3 1 (.slice co j cn) j (ints (oddC xs k j))) := hide (by have := (unhide HCJ).crow; rw [oddC_len] at this; exact this)
          have HS := hide (oddC_succ xs k j)
          have HN := hide (oddN_succ k j)
          have HBT := bit_test k j
          have HLT : Hid (oddLit xs k j = if k.testBit j then -z else z) := hide (by unfold oddLit; rw [← hzx])
          rw [unhide HLT] at HS
          clear hzx HLT
          generalize oddN k j = nb at *
          cases hb : k.testBit j
          · rw [hb] at HBT HS HN
            simp only [Bool.false_eq_true, if_false, Nat.add_zero] at HS HN
            clear hb
            go_wp2_with (at_builtin; refine append_cellS (base := w.heap.size) rfl _ _ 25 3 rfl Tryz.underlying25 Tryz.infoIntW rfl (by decide) (unhide HCR) rfl rfl rfl (by omega) hsz ?_; intro g' cap1 w3 hown3 hgr3 hloc3; have HG := hide ((unhide HCJ).grow (oddC_len xs k j).symm hown3 hgr3 hloc3); clear hown3 hgr3 hloc3)
            go_roundw
            case rel => exact ⟨j + 1, _, _, by omega, by go_num, by rw [unhide HN], rfl, by rw [unhide HS]; exact HG⟩
            case measure => simp [intOf]; omega
          · rw [hb] at HBT HS HN
            simp only [if_true] at HS HN
            clear hb
            go_wp2_with (at_builtin; refine append_cellS (base := w.heap.size) rfl _ _ 25 3 rfl Tryz.underlying25 Tryz.infoIntW rfl (by decide) (unhide HCR) rfl rfl rfl (by omega) hsz ?_; intro g' cap1 w3 hown3 hgr3 hloc3; have HG := hide ((unhide HCJ).grow (oddC_len xs k j).symm hown3 hgr3 hloc3); clear hown3 hgr3 hloc3)
            go_roundw
            case rel => exact ⟨j + 1, _, _, by omega, by go_num, by rw [unhide HN]; simp, rfl, by rw [unhide HS]; exact HG⟩
            case measure => simp [intOf]; omega
        · have hj2 : j = 2 := by omega
          subst hj2
          have HIN : Hid (∀ b : Bool, ((((oddN k 2 : Nat) : Int).tmod 2 == 0) != even) = b → oddIn even xs.length k = b) := hide (fun b hb => by
            rw [← hb]
            unfold oddIn
            rw [unhide HXL, Int.tmod_eq_emod_of_nonneg (by omega)]
            congr 1
            by_cases h0 : oddN k 2 % 2 = 0
            · have : ((oddN k 2 : Nat) : Int) % 2 = 0 := by omega
              rw [h0, this]; rfl
            · have h1 : oddN k 2 % 2 = 1 := by omega
              have : ((oddN k 2 : Nat) : Int) % 2 = 1 := by omega
              rw [h1, this]; rfl)
          have HYES := hide (oddTo_yes xs even k)
          have HNO := hide (oddTo_no xs even k)
          have HRW := hide (unhide HCJ).inv.row
          have HLX : Hid (oddC xs k 2 = oddC xs k xs.length) := hide (by rw [unhide HXL])
          generalize oddN k 2 = nb at *
          have hpar : ((nb : Nat) : Int).tmod 2 = 0 ∨ ((nb : Nat) : Int).tmod 2 = 1 := by
            rw [Int.tmod_eq_emod_of_nonneg (by omega)]
            omega
          rcases hpar with ht | ht
          · have ht2 : ((nb : Nat) : Int) % 2 = 0 := by rw [← Int.tmod_eq_emod_of_nonneg (by omega)]; exact ht
            cases even
            · have HI1 := hide (unhide HIN true (by rw [ht]; rfl))
              clear HIN
              go_wp2_with (at_builtin; refine append_cellS (base := w.heap.size) rfl _ _ 27 25 rfl Tryz.underlying27 Tryz.infoInts rfl (by decide) (unhide HRW) rfl rfl rfl (by omega) hsz ?_; intro g2 cap2 w5 hown5 hgr5 hloc5; have HP5 := hide ((unhide HCJ).push rfl hown5 hgr5); clear hown5 hgr5 hloc5)
              go_roundw
              case rel => exact ⟨k + 1, _, _, _, L ++ [oddC xs k 2], by omega, by go_num, by rw [List.length_append, List.length_singleton], hide (by rw [unhide HYES (unhide HI1), ← unhide HL, unhide HLX]), by rw [List.length_append, List.length_singleton]; exact HP5⟩
              case measure => simp [intOf]; omega
            · have HI0 := hide (unhide HIN false (by rw [ht]; rfl))
              have HINV := hide (unhide HCJ).inv
              clear HIN
              go_wp2
              go_roundw
              case rel => exact ⟨k + 1, vs, oo, oc, L, by omega, by go_num, rfl, hide (by rw [unhide HNO (unhide HI0)]; exact unhide HL), HINV⟩
              case measure => simp [intOf]; omega
          · have ht2 : ((nb : Nat) : Int) % 2 = 1 := by rw [← Int.tmod_eq_emod_of_nonneg (by omega)]; exact ht
            cases even
            · have HI0 := hide (unhide HIN false (by rw [ht]; rfl))
              have HINV := hide (unhide HCJ).inv
              clear HIN
              go_wp2
              go_roundw
              case rel => exact ⟨k + 1, vs, oo, oc, L, by omega, by go_num, rfl, hide (by rw [unhide HNO (unhide HI0)]; exact unhide HL), HINV⟩
              case measure => simp [intOf]; omega
            · have HI1 := hide (unhide HIN true (by rw [ht]; rfl))
              clear HIN
              go_wp2_with (at_builtin; refine append_cellS (base := w.heap.size) rfl _ _ 27 25 rfl Tryz.underlying27 Tryz.infoInts rfl (by decide) (unhide HRW) rfl rfl rfl (by omega) hsz ?_; intro g2 cap2 w5 hown5 hgr5 hloc5; have HP5 := hide ((unhide HCJ).push rfl hown5 hgr5); clear hown5 hgr5 hloc5)
              go_roundw
              case rel => exact ⟨k + 1, _, _, _, L ++ [oddC xs k 2], by omega, by go_num, by rw [List.length_append, List.length_singleton], hide (by rw [unhide HYES (unhide HI1), ← unhide HL, unhide HLX]), by rw [List.length_append, List.length_singleton]; exact HP5⟩
              case measure => simp [intOf]; omega
    · have hk4 : k = 4 := by omega
      subst hk4
      go_wp2
      go_ret
      exact ⟨_, vs, rfl, by rw [← unhide HL]; exact unhide HV⟩

end Go.Proofs.YtekkkoipcghlmaaGreatDoor

namespace Go.Proofs.YtekkkoipcghlmaaGreatDoor
open Go.RowKit

/-- How many neighbours are unlike, so far. -/
def ringN (m i : Nat) : Nat := ((List.range i).filter (fun j => m.testBit j)).length
theorem ringN_succ (m i : Nat) : ringN m (i + 1) = ringN m i + (if m.testBit i then 1 else 0) := oddN_succ m i
theorem ringN_le (m i : Nat) : ringN m i ≤ i := oddN_le m i
def ringC (n m i : Nat) : List (List Int) := oddTo [1 + (i : Int), 1 + (((i + 1) % n : Nat) : Int)] (!m.testBit i) 4
def ringTo (n m k : Nat) : List (List Int) := (List.range k).flatMap (ringC n m)
theorem ringTo_succ (n m k : Nat) : ringTo n m (k + 1) = ringTo n m k ++ ringC n m k := by unfold ringTo; rw [List.range_succ, List.flatMap_append]; simp
theorem odd_lits (x y : Int) (k : Nat) : oddC [x, y] k 2 = [if k.testBit 0 then -x else x, if k.testBit 1 then -y else y] := rfl
theorem odd_two (x y : Int) (even : Bool) : oddTo [x, y] even 4 = if even then [[-x, y], [x, -y]] else [[x, y], [-x, -y]] := by
  cases even
  · have e : (List.range 4).filter (oddIn false 2) = [0, 3] := by decide
    show ((List.range 4).filter (oddIn false 2)).map (fun b => oddC [x, y] b 2) = [[x, y], [-x, -y]]
    rw [e]
    show [oddC [x, y] 0 2, oddC [x, y] 3 2] = _
    rw [odd_lits, odd_lits, if_neg (by decide), if_neg (by decide), if_pos (by decide), if_pos (by decide)]
  · have e : (List.range 4).filter (oddIn true 2) = [1, 2] := by decide
    show ((List.range 4).filter (oddIn true 2)).map (fun b => oddC [x, y] b 2) = [[-x, y], [x, -y]]
    rw [e]
    show [oddC [x, y] 1 2, oddC [x, y] 2 2] = _
    rw [odd_lits, odd_lits, if_pos (by decide), if_neg (by decide), if_neg (by decide), if_pos (by decide)]
theorem ringC_len (n m i : Nat) : (ringC n m i).length = 2 := by
  unfold ringC
  rw [odd_two]
  split <;> rfl
theorem ringTo_len (n m k : Nat) : (ringTo n m k).length = 2 * k := by
  induction k with
  | zero => rfl
  | succ k ih => rw [ringTo_succ, List.length_append, ih, ringC_len]; omega
theorem ringC_lits {n m i : Nat} (hi : i < n) (hn : n ≤ 12) : ∀ c, c ∈ ringC n m i → Lits c ∧ c.length ≤ 3 := by
  have h1 : (i + 1) % n < n := Nat.mod_lt _ (by omega)
  intro c hc
  unfold ringC at hc
  rw [odd_two] at hc
  have hl : ∀ a b : Int, a ≠ 0 ∧ -12 ≤ a ∧ a ≤ 12 → b ≠ 0 ∧ -12 ≤ b ∧ b ≤ 12 → Lits [a, b] ∧ [a, b].length ≤ 3 := fun a b ha hb => ⟨fun x hx => by simp at hx; rcases hx with rfl | rfl <;> assumption, by simp⟩
  split at hc
  · simp only [List.mem_cons, List.not_mem_nil, or_false] at hc
    rcases hc with rfl | rfl
    · exact hl _ _ (by omega) (by omega)
    · exact hl _ _ (by omega) (by omega)
  · simp only [List.mem_cons, List.not_mem_nil, or_false] at hc
    rcases hc with rfl | rfl
    · exact hl _ _ (by omega) (by omega)
    · exact hl _ _ (by omega) (by omega)
theorem ringTo_lits {n m : Nat} (hn : n ≤ 12) : ∀ c, c ∈ ringTo n m n → Lits c ∧ c.length ≤ 3 := by
  intro c hc
  unfold ringTo at hc
  rw [List.mem_flatMap] at hc
  obtain ⟨i, hi, hc⟩ := hc
  exact ringC_lits (List.mem_range.1 hi) hn c hc
theorem tru_var (b i : Nat) : tru b (1 + (i : Int)) = b.testBit i := by
  unfold tru
  rw [show (1 + (i : Int)).natAbs - 1 = i from by omega, decide_eq_true (by omega)]
  cases b.testBit i <;> rfl
/-- Like or unlike neighbours. -/
theorem ringC_holds {n m i b : Nat} : (∀ c, c ∈ ringC n m i → holdsOf b c = true) ↔ b.testBit ((i + 1) % n) = (b.testBit i ^^ m.testBit i) := by
  unfold ringC
  rw [odd_two]
  have t1 := tru_var b i
  have t2 := tru_var b ((i + 1) % n)
  have n1 : tru b (-(1 + (i : Int))) = !b.testBit i := by rw [tru_neg b (by omega), t1]
  have n2 : tru b (-(1 + (((i + 1) % n : Nat) : Int))) = !b.testBit ((i + 1) % n) := by rw [tru_neg b (by omega), t2]
  cases hm : m.testBit i
  · simp only [Bool.not_false, if_true, List.mem_cons, List.not_mem_nil, or_false, forall_eq_or_imp, forall_eq, holdsOf, List.any_cons, List.any_nil, Bool.or_false, t1, t2, n1, n2]
    cases b.testBit i <;> cases b.testBit ((i + 1) % n) <;> simp
  · simp only [Bool.not_true, Bool.false_eq_true, if_false, List.mem_cons, List.not_mem_nil, or_false, forall_eq_or_imp, forall_eq, holdsOf, List.any_cons, List.any_nil, Bool.or_false, t1, t2, n1, n2]
    cases b.testBit i <;> cases b.testBit ((i + 1) % n) <;> simp
theorem ringTo_holds {n m b : Nat} : (∀ c, c ∈ ringTo n m n → holdsOf b c = true) ↔ ∀ i, i < n → b.testBit ((i + 1) % n) = (b.testBit i ^^ m.testBit i) := by
  constructor
  · intro h i hi
    exact ringC_holds.1 (fun c hc => h c (by unfold ringTo; rw [List.mem_flatMap]; exact ⟨i, List.mem_range.2 hi, hc⟩))
  · intro h c hc
    unfold ringTo at hc
    rw [List.mem_flatMap] at hc
    obtain ⟨i, hi, hc⟩ := hc
    exact ringC_holds.2 (h i (List.mem_range.1 hi)) c hc
def par (k : Nat) : Bool := k % 2 == 1
theorem par_succ (m i : Nat) : par (ringN m (i + 1)) = (par (ringN m i) ^^ m.testBit i) := by
  rw [ringN_succ]
  unfold par
  cases m.testBit i
  · simp
  · simp only [if_true, Bool.xor_true]
    by_cases h : ringN m i % 2 = 1
    · rw [h, show (ringN m i + 1) % 2 = 0 from by omega]; rfl
    · rw [show ringN m i % 2 = 0 from by omega, show (ringN m i + 1) % 2 = 1 from by omega]; rfl
theorem bits_of (f : Nat → Bool) : ∀ n, ∃ b : Nat, ∀ i, i < n → b.testBit i = f i := by
  intro n
  induction n with
  | zero => exact ⟨0, fun i hi => by omega⟩
  | succ n ih =>
    obtain ⟨b, hb⟩ := ih
    refine ⟨b % 2 ^ n ||| (if f n then 2 ^ n else 0), fun i hi => ?_⟩
    rw [Nat.testBit_or, Nat.testBit_mod_two_pow]
    by_cases h : i < n
    · rw [decide_eq_true h, Bool.true_and, hb i h]
      cases f n
      · simp
      · rw [if_pos rfl, Nat.testBit_two_pow, decide_eq_false (by omega), Bool.or_false]
    · have : i = n := by omega
      subst this
      rw [decide_eq_false h, Bool.false_and, Bool.false_or]
      cases f i
      · simp
      · rw [if_pos rfl, Nat.testBit_two_pow]; simp
theorem ring_sat {n m : Nat} (hn : 0 < n) (h : ringN m n % 2 = 0) : ∃ b, ∀ c, c ∈ ringTo n m n → holdsOf b c = true := by
  obtain ⟨b, hb⟩ := bits_of (fun i => par (ringN m i)) n
  refine ⟨b, ringTo_holds.2 (fun i hi => ?_)⟩
  rw [hb i hi, ← par_succ]
  by_cases hl : i + 1 < n
  · rw [Nat.mod_eq_of_lt hl, hb _ hl]
  · have e : i + 1 = n := by omega
    rw [e, Nat.mod_self, hb 0 hn]
    unfold par
    rw [h]
    rfl
theorem ring_unsat {n m b : Nat} (hn : 0 < n) (h : ringN m n % 2 ≠ 0) : ¬ ∀ c, c ∈ ringTo n m n → holdsOf b c = true := fun hb => by
  have hi := ringTo_holds.1 hb
  have key : ∀ i, i < n → b.testBit i = (b.testBit 0 ^^ par (ringN m i)) := by
    intro i
    induction i with
    | zero => intro _; show b.testBit 0 = (b.testBit 0 ^^ par 0); unfold par; simp
    | succ i ih =>
      intro h1
      have := hi i (by omega)
      rw [Nat.mod_eq_of_lt h1, ih (by omega)] at this
      rw [this, par_succ, Bool.xor_assoc]
  have hl := hi (n - 1) (by omega)
  rw [show n - 1 + 1 = n from by omega, Nat.mod_self, key (n - 1) (by omega), Bool.xor_assoc, ← par_succ, show n - 1 + 1 = n from by omega] at hl
  have : par (ringN m n) = true := by unfold par; rw [show ringN m n % 2 = 1 from by omega]; rfl
  rw [this] at hl
  cases hx : b.testBit 0 <;> rw [hx] at hl <;> cases hl

/-- A list of clauses behind another. -/
theorem append_twoR {ops : Array Oper} {rest : List Oper} {o : Oper} {a : Act} {Q : Exit → Act → World → Prop} {w w1 wr : World} {v ov : Value} {vs ws : List Value} {L C : List (List Int)} {n m g cap : Nat}
    (h : HI w wr v vs L) (h2 : HI w1 wr ov ws C) (hw : w.heap.size ≤ w1.heap.size) (hov : ov = .slice (some ⟨g, 0, none⟩) m cap) (hn : n = L.length) (hm : m = C.length) (hm0 : 0 < m) (hl : L.length + C.length ≤ 1000) (hgd : o.guard = none) (s z : Operand) (ho : o.op = .call { callee := .builtin .append, args := #[s, z], argTypes := #[27, 27] })
    (hs : a.eval s = v) (hz : a.eval z = .slice (some ⟨g, 0, none⟩) m cap)
    (hk : ∀ (g' cap' : Nat) (w' : World), Hid (HI w w' (.slice (some ⟨g', 0, none⟩) (n + m) cap') (vs ++ ws) (L ++ C)) → wpList Tryz.prog ops Q rest (a.put o.dst (.slice (some ⟨g', 0, none⟩) (n + m) cap')) w') :
    wpList Tryz.prog ops Q (o :: rest) a wr := by
  obtain ⟨i0, hi0, hz0, hz1, hz2⟩ := info_parts Tryz.infoInts
  have hsz := h.below.size
  have hwl : ws.length = m := by rw [hm]; exact h2.rows.1
  have hrow2 : wr.ownsRow w1.heap.size 25 1 (.slice (some ⟨g, 0, none⟩) m cap) m ws := by rw [← hov, hm]; exact h2.row
  refine wpList_append_lies (P := Tryz.prog) _ hgd s z 27 ho w.heap.size 25 i0 _ 1 24 Tryz.underlying27 hi0 hz0 hz1 hz2 rfl (by decide) v n vs hs (by rw [hn]; exact h.row) ⟨g, 0, none⟩ m cap ws hz (by omega) (fun j u hu => hrow2.cells (g := g) rfl j u hu) ?_ hm0 (by unfold maxLen; omega) (by omega) hsz _ rfl ?_
  · intro u hu
    obtain ⟨i, hi⟩ := List.getElem?_of_mem hu
    have hil : i < ws.length := (List.getElem?_eq_some_iff.1 hi).1
    have hic : i < C.length := by rw [← h2.rows.1]; exact hil
    obtain ⟨ao, cp, hsh⟩ := owns_shape (h2.rows.2 i u _ hi (List.getElem?_eq_getElem hic))
    rw [hsh]; rfl
  · intro g' cap' w' h1 hg _ _
    refine hk g' cap' w' (hide ⟨by rw [List.length_append, ← hn, ← hm]; exact h1, ?_, h.below.grown hg hsz (fun j hj => (h.row.lt j hj).1)⟩)
    have hr2 : RowsAt wr w.heap.size ws C := ⟨h2.rows.1, fun i x c hx hc => owns_mono (h2.rows.2 i x c hx hc) hw⟩
    have hall : RowsAt wr w.heap.size (vs ++ ws) (L ++ C) := by
      refine ⟨by rw [List.length_append, List.length_append, h.rows.1, hr2.1], fun i x c hx hc => ?_⟩
      by_cases hi : i < vs.length
      · rw [List.getElem?_append_left hi] at hx
        rw [List.getElem?_append_left (by rw [← h.rows.1]; exact hi)] at hc
        exact h.rows.2 i x c hx hc
      · rw [List.getElem?_append_right (by omega)] at hx
        rw [List.getElem?_append_right (by rw [← h.rows.1]; omega), ← h.rows.1] at hc
        exact hr2.2 _ x c hx hc
    exact hall.grown h.row hg

set_option maxRecDepth 100000 in
set_option maxHeartbeats 6400000 in
theorem rings_walk (size unlike : Int) (w : World) (h0 : -9223372036854775808 ≤ size) (h1 : size ≤ 9223372036854775807) (h2 : -9223372036854775808 ≤ unlike) (h3 : unlike ≤ 9223372036854775807) (he : Env w) :
    Calls Tryz.prog 11 #[.int .i64 size, .int .i64 unlike] w fun e w' => e = .returned (.bool true) ∧ Below w.heap.size w w' := by
  have HP1 : Hid (Calls Tryz.prog 14 #[.int .i64 size, .int .i64 10] w fun e w' => (∃ d : Nat, d < 10 ∧ e = .returned (.int .i64 d)) ∧ w' = w) := hide (pickK_any size 10 w h0 h1 (by decide) (by decide))
  have HP2 : Hid (∀ N : Nat, 0 < N → N ≤ 4096 → Calls Tryz.prog 14 #[.int .i64 unlike, .int .i64 (N : Int)] w fun e w' => (∃ d : Nat, d < N ∧ e = .returned (.int .i64 d)) ∧ w' = w) := hide (fun N h1 h4 => pickK_big unlike N w h2 h3 h1 (by omega))
  go_enter Tryz.func11, Tryz.ntmps11
  go_wp2_with fail
  refine (unhide HP1).mono ?_
  rintro e w1 ⟨⟨d, hd, rfl⟩, rfl⟩
  obtain ⟨n, hn⟩ : ∃ n : Nat, n = d + 3 := ⟨_, rfl⟩
  have en : (3 + (d : Int)) = (n : Int) := by omega
  have hn12 : n ≤ 12 := by omega
  have hn3 : 3 ≤ n := by omega
  have hpn := pow_in n hn12
  have hpos := Nat.two_pow_pos n
  have e2 : ((2 : Int) ^ n) = ((2 ^ n : Nat) : Int) := by simp
  have hsh : wrap64 ((2 : Int) ^ n) = ((2 ^ n : Nat) : Int) := by
    rw [e2]
    generalize 2 ^ n = p at *
    exact (IntWalk.i64_left _).symm.trans (IntWalk.i64_in _ ⟨by omega, by omega⟩)
  have HP3 := hide (unhide HP2 (2 ^ n) hpos hpn)
  generalize 2 ^ n = N at *
  clear HP1 HP2 hn e2
  go_wp2_with fail
  refine (unhide HP3).mono ?_
  rintro e w2 ⟨⟨m, hm, rfl⟩, rfl⟩
  clear HP3
  go_wp2_with fail
  go_loopw [6, 7, 8, 9, 10] (fun lv c i _ _ wr => ∃ (k : Nat) (L : List (List Int)) (vs : List Value) (lo : Option Addr) (lc : Nat), k ≤ n ∧ i = .int .i64 k ∧ c = .int .i64 (ringN m k : Nat) ∧ lv = .slice lo L.length lc ∧ Hid (L = ringTo n m k) ∧ Hid (HI w2 wr (.slice lo L.length lc) vs L)) (fun _ _ i _ _ _ => n - (intOf i).toNat)
  case atStart => exact ⟨0, [], [], none, 0, Nat.zero_le _, rfl, rfl, rfl, hide rfl, hide (HI.nil w2)⟩
  case round =>
    obtain ⟨k, L, vs, lo, lc, hk, rfl, rfl, rfl, HL, HV⟩ := hrel
    have hrn := ringN_le m k
    have hll : L.length ≤ 24 := by rw [unhide HL, ringTo_len]; omega
    by_cases hlt : k < n
    · have hsz := (unhide HV).below.size
      have hmodl : (k + 1) % n < n := Nat.mod_lt _ (by omega)
      have hmod : ((k : Int) + 1).tmod (n : Int) = (((k + 1) % n : Nat) : Int) := by
        rw [Int.tmod_eq_emod_of_nonneg (by omega)]
        simp
      have HBT := bit_test m k
      have HN := hide (ringN_succ m k)
      have HT := hide (ringTo_succ n m k)
      have HLC : Hid ((ringC n m k).length = 2) := hide (ringC_len n m k)
      have HOD : Hid (Calls Tryz.prog 34 #[.slice (some ⟨wr.heap.size, 0, none⟩) 2 2, .bool (!m.testBit k)] (wr.alloc (.cells #[.int .i64 (1 + (k : Int)), .int .i64 (1 + (((k + 1) % n : Nat) : Int))] 3)) fun e w' => ∃ g cap ws, e = .returned (.slice (some ⟨g, 0, none⟩) 2 cap) ∧ Hid (HI (wr.alloc (.cells #[.int .i64 (1 + (k : Int)), .int .i64 (1 + (((k + 1) % n : Nat) : Int))] 3)) w' (.slice (some ⟨g, 0, none⟩) 2 cap) ws (ringC n m k))) := hide ((oddK _ _ _ wr.heap.size _ (by omega) (by omega) (lies_new wr [1 + (k : Int), 1 + (((k + 1) % n : Nat) : Int)] (by simp))).mono (fun e w' h => by
        obtain ⟨ov, ws, h1, h2⟩ := h
        have hr := h2.row
        rw [show (oddTo [1 + (k : Int), 1 + (((k + 1) % n : Nat) : Int)] (!m.testBit k) 4).length = 2 from ringC_len n m k] at hr
        rcases hr.2 with ⟨_, h0⟩ | ⟨g, cap, cur, hv, _⟩
        · omega
        · subst hv
          exact ⟨g, cap, ws, h1, hide h2⟩))
      have hz1 : (wr.alloc (.cells #[.int .i64 (1 + (k : Int)), .int .i64 (1 + (((k + 1) % n : Nat) : Int))] 3)).heap.size = wr.heap.size + 1 := by simp
      have HVB : Hid (∀ w', Below (wr.alloc (.cells #[.int .i64 (1 + (k : Int)), .int .i64 (1 + (((k + 1) % n : Nat) : Int))] 3)).heap.size (wr.alloc (.cells #[.int .i64 (1 + (k : Int)), .int .i64 (1 + (((k + 1) % n : Nat) : Int))] 3)) w' → HI w2 w' (.slice lo L.length lc) vs L) := hide (fun w' hb => by
        have hb' : Below wr.heap.size wr w' := (below_new wr _).trans (hb.mono (by rw [hz1]; omega))
        exact ⟨owns_below (unhide HV).row hb', (unhide HV).rows.below hb', (unhide HV).below.trans (hb'.mono hsz)⟩)
      have HSZ : Hid (w2.heap.size ≤ (wr.alloc (.cells #[.int .i64 (1 + (k : Int)), .int .i64 (1 + (((k + 1) % n : Nat) : Int))] 3)).heap.size) := hide (by rw [hz1]; omega)
      generalize ringN m k = rn at *
      generalize (k + 1) % n = kn at *
      clear HV hz1
      cases hb : m.testBit k
      · rw [hb] at HBT HN HOD
        simp only [Bool.false_eq_true, if_false, Nat.add_zero, Bool.not_false] at HN HOD
        clear hb
        go_wp2_with fail
        refine (unhide HOD).mono ?_
        rintro e w3 ⟨g, cap, ws, rfl, HO⟩
        have HV3 := hide (unhide HVB w3 (unhide HO).below)
        go_wp2_with (at_builtin; refine append_twoR (unhide HV3) (unhide HO) (unhide HSZ) rfl rfl (unhide HLC).symm (by decide) (by rw [unhide HLC]; omega) rfl _ _ rfl rfl rfl ?_; intro g2 cap2 w5 HP5)
        go_roundw
        case rel => exact ⟨k + 1, L ++ ringC n m k, _, _, _, by omega, by go_num, by rw [unhide HN], by rw [List.length_append, unhide HLC], hide (by rw [unhide HT, ← unhide HL]), by rw [List.length_append, unhide HLC]; exact HP5⟩
        case measure => simp [intOf]; omega
      · rw [hb] at HBT HN HOD
        simp only [if_true, Bool.not_true] at HN HOD
        clear hb
        go_wp2_with fail
        refine (unhide HOD).mono ?_
        rintro e w3 ⟨g, cap, ws, rfl, HO⟩
        have HV3 := hide (unhide HVB w3 (unhide HO).below)
        go_wp2_with (at_builtin; refine append_twoR (unhide HV3) (unhide HO) (unhide HSZ) rfl rfl (unhide HLC).symm (by decide) (by rw [unhide HLC]; omega) rfl _ _ rfl rfl rfl ?_; intro g2 cap2 w5 HP5)
        go_roundw
        case rel => exact ⟨k + 1, L ++ ringC n m k, _, _, _, by omega, by go_num, by rw [unhide HN]; simp, by rw [List.length_append, unhide HLC], hide (by rw [unhide HT, ← unhide HL]), by rw [List.length_append, unhide HLC]; exact HP5⟩
        case measure => simp [intOf]; omega
    · have hkn : k = n := by omega
      subst hkn
      have HLS : Hid (∀ c, c ∈ L → Lits c ∧ c.length ≤ 3) := hide (by rw [unhide HL]; exact ringTo_lits hn12)
      have HSV := hide (solverK_any (.slice lo L.length lc) L wr (by omega) (fun c hc => by have := (unhide HLS c hc).2; omega) (unhide HV).units.rows (kept_adds (unhide HLS) (by omega)))
      have hbr := (unhide HV).below
      have HSAT : Hid (ringN m k % 2 = 0 → ∃ b, ∀ c, c ∈ L → holdsOf b c = true) := hide (fun h => by rw [unhide HL]; exact ring_sat (by omega) h)
      have HUN : Hid (ringN m k % 2 ≠ 0 → ∀ b, ¬ ∀ c, c ∈ L → holdsOf b c = true) := hide (fun h b => by rw [unhide HL]; exact ring_unsat (by omega) h)
      generalize ringN m k = rn at *
      go_wp2_with fail
      refine (unhide HSV).mono ?_
      rintro e w3 ⟨kv, rfl, hX, hb3⟩
      have hs := hbr.size
      have hB3 : Below w2.heap.size w2 w3 := hbr.trans (hb3.mono hbr.size)
      have HENV : Hid (∀ wx, Below w2.heap.size w2 wx → EnvFrom wr.heap.size wx ∧ Env wx) := hide (fun wx hb => ⟨⟨w2, he.toEnvT, hs, hb⟩, he.below hb⟩)
      have HVD := hide (verdictP hX (unhide HENV w3 hB3).1 (unhide HLS) (by omega))
      clear HSV hX HV
      go_wp2_with fail
      refine (unhide HVD).mono ?_
      rintro e w4 ⟨kind, rfl, HB4, hk4⟩
      have hB4 := hB3.trans ((unhide HB4).mono hs)
      clear HVD
      by_cases hpar : rn % 2 = 0
      · have hk1 : kind = 1 := by
          rcases hk4 with ⟨h1, -⟩ | ⟨-, h2, -⟩
          · exact h1
          · exfalso
            obtain ⟨b, hb⟩ := unhide HSAT hpar
            exact h2 b hb
        have ht : ((rn : Nat) : Int).tmod 2 = 0 := by rw [Int.tmod_eq_emod_of_nonneg (by omega)]; omega
        have ht2 : ((rn : Nat) : Int) % 2 = 0 := by omega
        subst hk1
        clear hk4 hpar
        go_wp2
        go_ret
        exact ⟨rfl, hB4⟩
      · have hk2 : kind = 2 ∧ Hid (∃ pv' pb', XAt wr.heap.size w4 wr.heap.size kv (keptTo L L.length) pv' pb' ∧ Accepted (keptTo L L.length) pb' ∧ pb'.length ≤ 100000000000 ∧ ∃ U, pb' = linesText U ++ [10]) := by
          rcases hk4 with ⟨-, b, h1⟩ | ⟨h1, -, h2⟩
          · exact absurd h1 (unhide HUN hpar b)
          · exact ⟨h1, h2⟩
        obtain ⟨rfl, HK⟩ := hk2
        obtain ⟨pv', pb', hX4, hA4, hp4', hU4⟩ := unhide HK
        have HFO := hide (followedK hX4 (kept_fine (unhide HLS) (by omega)) (maskText_small (unhide HLS) (by omega)) hA4 (by omega) hU4 (unhide HENV w4 hB4).2)
        have ht : ((rn : Nat) : Int).tmod 2 = 1 := by rw [Int.tmod_eq_emod_of_nonneg (by omega)]; omega
        have ht2 : ((rn : Nat) : Int) % 2 = 1 := by omega
        clear hk4 hX4 hA4 HK hU4 hpar
        go_wp2_with fail
        refine (unhide HFO).mono ?_
        rintro e w5 ⟨rfl, hb5⟩
        go_wp2
        go_ret
        exact ⟨rfl, hB4.trans (hb5.mono hB4.size)⟩

theorem rings_all (n0 n1 : Int) (w : World) (b0 : ArgI n0) (b1 : ArgI n1) (he : Env w) :
    Calls Tryz.prog 11 #[.int .i64 n0, .int .i64 n1] w fun e w' => e = .returned (.bool true) ∧ Below w.heap.size w w' :=
  rings_walk n0 n1 w b0.1 b0.2 b1.1 b1.2 he

end Go.Proofs.YtekkkoipcghlmaaGreatDoor

namespace Go.Proofs.YtekkkoipcghlmaaGreatDoor
open Go.ChangeShapes Go.WideShapes Go.ChangeAt Go.RowKit Go.Deep

set_option maxRecDepth 100000 in
theorem rings_contract (H : Type) (enc : TypeId × Value → H) (W : World) (base : Nat) (args : Array Value) (ds gs : List (DataW H)) (before : List MemPlace)
    (hval : ∀ (j : Nat) t v, Tryz.f11.params[j]? = some t → args[j]? = some v → Value.okWide Tryz.prog W .any base t v)
    (hW : DataW.Whole enc Tryz.prog Tryz.f11.params.toList Rows.ringsSpec.vars false W args.toList ds gs before) (hL : laidMetH Tryz.prog Rows.ringsRow.laid W) (hS : W.ShapedOpen Tryz.prog) :
    Calls Tryz.prog 11 args W fun e W' => ∃ v, e = .returned v ∧ Rows.ringsSpec.post enc Tryz.prog Tryz.f11 false true false false W args v W' := by
  have he := env_of hL hS
  have hW' := hW
  obtain ⟨p, q, hA0, hV, rfl, hfz, hnd⟩ := hW
  have hA : DataW.TrodAll enc Tryz.prog W 0 (fun _ => true) true Tryz.f11.params.toList args.toList ds p := hA0
  rw [Tryz.params11] at hA hval
  obtain ⟨v0, vs0, d0, ds0, p0, q0, hargs, rfl, rfl, t0, r0⟩ := trodAll_cons hA
  obtain ⟨v1, vs1, d1, ds1, p1, q1, rfl, rfl, rfl, t1, r1⟩ := trodAll_cons r0
  obtain ⟨rfl, rfl, rfl⟩ := trodAll_nil r1
  obtain rfl : args = #[v0, v1] := by cases args; simp_all
  obtain ⟨rfl, rfl⟩ := trodVars_none hV
  obtain ⟨n0, rfl, rfl, rfl, hw0⟩ := open_int Tryz.underlying3 (hval 0 3 v0 rfl rfl) t0
  obtain ⟨n1, rfl, rfl, rfl, hw1⟩ := open_int Tryz.underlying3 (hval 1 3 v1 rfl rfl) t1
  clear hA0
  simp only [List.append_nil, List.nil_append] at hW'
  refine (rings_all n0 n1 W (wf_bdS hw0) (wf_bdS hw1) he).mono fun e W' ⟨hr, hb'⟩ => ?_
  subst hr
  exact ⟨_, rfl, _, _, _, [], [] ++ ([] ++ ([])), [], hW', trodAll_mk1 (shut_bool Tryz.underlying4 _), trodAll_cons_mk (shut_int Tryz.underlying3 hw0) (trodAll_cons_mk (shut_int Tryz.underlying3 hw1) (trodAll_mk0)), rfl, hb'.frame _, fun h => by cases h⟩

theorem rings_start_met (os : Os) : laidMet Tryz.prog Rows.ringsRow.laid ((World.laidAll Tryz.prog os Rows.ringsRow.laid).forCall (fun _ _ => 0) ⟨#[], #[.int .i64 0, .int .i64 0], []⟩).memory :=
  laidMet_laidAll _ (by kernel_rfl) (by kernel_rfl)
theorem rings_start_reads (os : Os) {H : Type} (enc : TypeId × Value → H) : ∃ places, DataW.whole enc Tryz.prog ((World.laidAll Tryz.prog os Rows.ringsRow.laid).forCall (fun _ _ => 0) ⟨#[], #[.int .i64 0, .int .i64 0], []⟩).memory Tryz.f11.params.toList Rows.ringsSpec.vars false #[Value.int .i64 0, Value.int .i64 0].toList 8 = some ([.lit (.int .i64 0), .lit (.int .i64 0)], [], places) :=
  ⟨[], by kernel_rfl⟩

set_option maxRecDepth 100000 in
theorem rings_lifted (os : Os) (started : os.Started) (H : Type) (enc : TypeId × Value → H) (F : Stop.Interp) :
    ReturnsInHanded {} Tryz.checked os 11 .any ((OpenSpec.ofChange Rows.ringsSpec).preRow enc Tryz.prog Tryz.f11 Rows.ringsRow.domain false Rows.ringsRow.laid) (((OpenSpec.ofChange Rows.ringsSpec).at F).post enc Tryz.prog Tryz.f11 false true false false) := by
  obtain ⟨places, hx⟩ := rings_start_reads os enc
  refine returnsInHanded_of_row (C := Tryz.checked) (s := OpenSpec.ofChange Rows.ringsSpec) Tryz.ownKnob started (by kernel_rfl) Tryz.func11
    ⟨World.laidAll Tryz.prog os Rows.ringsRow.laid, fun _ _ => 0, ⟨#[], #[.int .i64 0, .int .i64 0], []⟩, World.laidAll_os _ _ _, World.shaped_of_ZipB (by kernel_rfl) (by kernel_rfl), rfl, (Input.okWide_of_okWideB (by kernel_rfl)).2,
      OpenSpec.preRow_of_cond 8 hx (by kernel_rfl) (fun k hk => by cases hk) (by kernel_rfl) (rings_start_met os), by simp [Assume.holds]⟩ ?_
  intro W base args ds gs before hval hW _ _ _ hL hS _
  exact rings_contract H enc W base args ds gs before hval hW hL hS

theorem rings_said : Rows.RingsSaid :=
  OpenClaim.holds_of_cond 11 Tryz.f11 rfl rfl rfl rfl rfl rfl rfl ⟨rfl, rfl, rfl, rfl, rfl⟩ rfl rfl rfl rfl rfl (by kernel_rfl) Tryz.func11 (by kernel_rfl)
    (of_decide_eq_true (by kernel_rfl)) (by unfold Func.isWrapper; first | (rw [if_pos (by decide +kernel)]; kernel_rfl) | (rw [if_neg (by decide +kernel)]; exact ⟨rfl, rfl⟩))
    (fun os started H enc _ F => by rw [OpenClaim.pre_eq_preRow]; exact rings_lifted os started H enc F)

theorem rings_plain (f : FuncId) (fn : Func) (hf : Tryz.pinned.checked.prog.funcNamed "knots/knotskeep.Rings" = some f) (hfn : Tryz.pinned.checked.prog.funcs[f]? = some fn) :
    true = Tryz.pinned.checked.prog.looks [] ∧ ∀ (j : Nat) t, fn.params[j]? = some t → Tryz.pinned.checked.prog.wantsStandIn t = false := by
  obtain rfl : f = 11 := Option.some.inj ((show Tryz.prog.funcNamed "knots/knotskeep.Rings" = some 11 by kernel_rfl).symm.trans hf) |>.symm
  obtain rfl : fn = Tryz.f11 := (Option.some.inj (Tryz.func11.symm.trans hfn)).symm
  refine ⟨by kernel_rfl, fun j t ht => ?_⟩
  rw [Tryz.params11] at ht
  have hm : t = 25 ∨ t = 3 := by
    have := Array.mem_of_getElem? ht
    simp at this
    first | omega | exact .inl this | exact .inr this | exact .inl this.symm | exact .inr this.symm
  rcases hm with rfl | rfl
  · exact (show Tryz.prog.wantsStandIn 25 = false by kernel_rfl)
  · exact (show Tryz.prog.wantsStandIn 3 = false by kernel_rfl)

theorem rings_card : Rows.RingsCardSaid :=
  Claim7.holds_tied_plain_at .later [] _ _ _ _ rings_said (fun _ h => by cases h) (by kernel_rfl) (fun _ h => by cases h) rings_row_tie rfl ⟨rfl, rfl⟩ (by kernel_rfl) rfl rings_plain (by kernel_rfl)
#print axioms rings_card

end Go.Proofs.YtekkkoipcghlmaaGreatDoor
