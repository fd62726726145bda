import Derived.Test.YtekkkoipcghlmaaGreatDoorJ03
import Derived.Test.YtekkkoipcghlmaaGreatDoorJ02
namespace Go.Proofs.YtekkkoipcghlmaaGreatDoor
open Go.RowKit

theorem bits_or_u32 (a b : Nat) (ha : a < 4294967296) (hb : b < 4294967296) : bits .or .u32 (a : Int) (b : Int) = ((a ||| b : Nat) : Int) := by
  have hx : a ||| b < 2 ^ 32 := Nat.or_lt_two_pow (by omega) (by omega)
  have h1 : (BitVec.ofInt 32 (a : Int)).toNat = a := by
    rw [BitVec.ofInt_natCast, BitVec.toNat_ofNat]; exact Nat.mod_eq_of_lt (by omega)
  have h2 : (BitVec.ofInt 32 (b : Int)).toNat = b := by
    rw [BitVec.ofInt_natCast, BitVec.toNat_ofNat]; exact Nat.mod_eq_of_lt (by omega)
  show IntKind.u32.wrap ((BitVec.ofInt 32 (a : Int) ||| BitVec.ofInt 32 (b : Int)).toNat : Int) = _
  rw [BitVec.toNat_or, h1, h2, wrap_u32']
  omega

set_option maxRecDepth 100000 in
set_option maxHeartbeats 400000 in
theorem unionS_any (v : Value) (ws : List (List UInt8)) (w : World) (hl : ws.length ≤ 10000000) (hw : ∀ x, x ∈ ws → x.length ≤ 6000) (hv : Lies w v (strs ws)) (he : Env w) :
    Calls Tryz.prog 176 #[v, .func (.func 177) #[] #[]] w fun e w' => Below w.heap.size w w' ∧
      ((allLit ws = false ∧ e = .returned (.tuple #[.int .u32 0, .bool false])) ∨ (allLit ws = true ∧ e = .returned (.tuple #[.int .u32 (Sp.maskOf (ws.map Sp.lit) : Int), .bool true]))) := by
  rcases hv with ⟨h0, ao, cap, rfl⟩ | ⟨b, off, cap, hp, rfl, hb, hc⟩
  · have hx0 : ws = [] := by simpa [strs] using h0
    subst hx0
    go_enter Tryz.func176, Tryz.ntmps176
    go_wp2
    refine wp_loop_rounds 1 ?_
    rw [rounds_succ]
    go_wp2
    go_ret2
    exact ⟨Below.refl _ _, .inr ⟨rfl, rfl⟩⟩
  · have hlen : (strs ws).length = ws.length := by simp [strs]
    rw [hlen] at hp ⊢
    go_enter Tryz.func176, Tryz.ntmps176
    go_wp2
    go_loopw [6, 13] (fun m i wr => ∃ k : Nat, k ≤ ws.length ∧ i = .int .i64 k ∧ m = .int .u32 (Sp.maskOf ((ws.take k).map Sp.lit) : Int) ∧ Below w.heap.size w wr ∧ Hid (allLit (ws.take k) = true)) (fun _ i _ => ws.length - (intOf i).toNat)
    case atStart => exact ⟨0, Nat.zero_le _, rfl, rfl, Below.refl _ _, rfl⟩
    case round =>
      obtain ⟨k, hk, rfl, rfl, hbel, HA⟩ := hrel
      by_cases hlt : k < ws.length
      · have hcell : wr.cell? ⟨b, off + k, none⟩ = some (.string (bs ws[k])) := (hbel.cell (p := ⟨b, off + k, none⟩) hb).trans (hc k (.string (bs ws[k])) (by simp [strs, hlt]))
        have hxl := hw ws[k] (List.getElem_mem hlt)
        have HM : Hid (ws[k] ∈ ws) := hide (List.getElem_mem hlt)
        have HS : Hid (ws.take (k + 1) = ws.take k ++ [ws[k]]) := hide (List.take_succ_eq_append_getElem hlt)
        generalize ws[k] = x at hcell HS hxl HM
        clear hc hw
        have HW := hide (fromWord_any x wr hxl (he.below hbel))
        have hbd := Sp.lit_bd x
        by_cases hz : Sp.lit x = 0
        · rw [(fw_no hz).1, (fw_no hz).2] at HW
          have HZ := hide hz
          clear hz
          go_wp2_with fail
          refine (unhide HW).mono ?_
          rintro e w1 ⟨hb1, rfl⟩
          go_wp2
          go_ret2
          have hfalse : allLit ws = false := by
            rw [allLit, List.all_eq_false]
            exact ⟨x, unhide HM, by simp [unhide HZ]⟩
          exact ⟨hbel.trans (hb1.mono hbel.size), .inl ⟨hfalse, rfl⟩⟩
        · rw [(fw_yes hz).1, (fw_yes hz).2] at HW
          have HZ := hide hz
          clear hz
          have HMB : Hid (Sp.maskOf ((ws.take (k + 1)).map Sp.lit) = Sp.maskOf ((ws.take k).map Sp.lit) ||| Sp.bit (Sp.lit x)) := hide (by rw [unhide HS, List.map_append, ← Sp.maskOf_snoc]; rfl)
          have hm1 : Sp.maskOf ((ws.take k).map Sp.lit) < 2 ^ 24 := Sp.maskOf_lt _ (fun y hy => by obtain ⟨z, _, rfl⟩ := List.mem_map.1 hy; exact Sp.lit_bd z)
          have hm2 : Sp.bit (Sp.lit x) < 2 ^ 24 := Nat.pow_lt_pow_right (by decide) (Sp.bitIx_lt _ hbd)
          generalize Sp.maskOf ((ws.take k).map Sp.lit) = m1 at *
          generalize Sp.bit (Sp.lit x) = m2 at *
          have HOR : Hid (bits BinOp.or IntKind.u32 (m1 : Int) (m2 : Int) = ((m1 ||| m2 : Nat) : Int)) := hide (bits_or_u32 m1 m2 (Nat.lt_trans hm1 (by decide)) (Nat.lt_trans hm2 (by decide)))
          go_wp2_with fail
          refine (unhide HW).mono ?_
          rintro e w1 ⟨hb1, rfl⟩
          go_wp2
          go_roundw
          case rel => exact ⟨k + 1, by omega, by go_num, by rw [unhide HMB, ← unhide HOR], hbel.trans (hb1.mono hbel.size), hide (by rw [unhide HS]; have := unhide HA; simp [allLit] at this ⊢; exact ⟨this, unhide HZ⟩)⟩
          case measure => simp [intOf]; omega
      · have HT : Hid (ws.take k = ws) := hide (List.take_of_length_le (by omega))
        go_wp2
        go_ret2
        have htrue : allLit ws = true := by rw [← unhide HT]; exact unhide HA
        exact ⟨hbel, .inr ⟨htrue, by rw [unhide HT]; rfl⟩⟩

set_option maxRecDepth 100000 in
set_option maxHeartbeats 400000 in
theorem fromWords_any (v : Value) (ws : List (List UInt8)) (w : World) (hl : ws.length ≤ 10000000) (hw : ∀ x, x ∈ ws → x.length ≤ 6000) (hv : Lies w v (strs ws)) (he : Env w) :
    Calls Tryz.prog 135 #[v] w fun e w' => Below w.heap.size w w' ∧
      ((allLit ws = false ∧ e = .returned (.tuple #[.int .u32 0, .bool false])) ∨ (allLit ws = true ∧ e = .returned (.tuple #[.int .u32 (Sp.maskOf (ws.map Sp.lit) : Int), .bool true]))) := by
  have HU := hide (unionS_any v ws w hl hw hv he)
  generalize allLit ws = al at *
  generalize Sp.maskOf (ws.map Sp.lit) = mk at *
  clear hw hv hl
  go_enter Tryz.func135, Tryz.ntmps135
  go_wp2_with fail
  refine (unhide HU).mono ?_
  rintro e w1 ⟨hb1, ⟨h1, rfl⟩ | ⟨h1, rfl⟩⟩
  · have H1 := hide h1
    clear h1
    go_wp2
    go_ret2
    exact ⟨hb1, .inl ⟨unhide H1, rfl⟩⟩
  · have H1 := hide h1
    clear h1
    go_wp2
    go_ret2
    exact ⟨hb1, .inr ⟨unhide H1, rfl⟩⟩

end Go.Proofs.YtekkkoipcghlmaaGreatDoor

namespace Go.Proofs.YtekkkoipcghlmaaGreatDoor
open Go.RowKit

/-- May a number be a literal? -/
def isLit (x : Int) : Bool := x != 0 && decide (-12 ≤ x) && decide (x ≤ 12)
theorem isLit_iff {x : Int} : isLit x = true ↔ x ≠ 0 ∧ -12 ≤ x ∧ x ≤ 12 := by simp [isLit, and_assoc]
def allInt (xs : List Int) : Bool := xs.all isLit

set_option maxRecDepth 100000 in
set_option maxHeartbeats 400000 in
theorem unionI_any (v : Value) (xs : List Int) (w : World) (hl : xs.length ≤ 10000000) (hv : Lies w v (ints xs)) :
    Calls Tryz.prog 61 #[v, .func (.func 62) #[] #[]] w fun e w' => w' = w ∧
      ((allInt xs = false ∧ e = .returned (.tuple #[.int .u32 0, .bool false])) ∨ (allInt xs = true ∧ e = .returned (.tuple #[.int .u32 (Sp.maskOf xs : Int), .bool true]))) := by
  rcases hv with ⟨h0, ao, cap, rfl⟩ | ⟨b, off, cap, hp, rfl, hb, hc⟩
  · have hx0 : xs = [] := by simpa [ints] using h0
    subst hx0
    go_enter Tryz.func61, Tryz.ntmps61
    go_wp2
    refine wp_loop_rounds 1 ?_
    rw [rounds_succ]
    go_wp2
    go_ret2
    exact ⟨rfl, .inr ⟨rfl, rfl⟩⟩
  · have hlen : (ints xs).length = xs.length := by simp [ints]
    rw [hlen] at hp ⊢
    go_enter Tryz.func61, Tryz.ntmps61
    go_wp2
    go_loop [6, 13] (fun m i => ∃ k : Nat, k ≤ xs.length ∧ i = .int .i64 k ∧ m = .int .u32 (Sp.maskOf (xs.take k) : Int) ∧ Hid (allInt (xs.take k) = true)) (fun _ i => xs.length - (intOf i).toNat)
    case atStart => exact ⟨0, Nat.zero_le _, rfl, rfl, rfl⟩
    case round =>
      obtain ⟨k, hk, rfl, rfl, HA⟩ := hrel
      by_cases hlt : k < xs.length
      · have hcell := hc k (.int .i64 xs[k]) (by simp [ints, hlt])
        have HM : Hid (xs[k] ∈ xs) := hide (List.getElem_mem hlt)
        have HS : Hid (xs.take (k + 1) = xs.take k ++ [xs[k]]) := hide (List.take_succ_eq_append_getElem hlt)
        generalize xs[k] = x at hcell HS HM
        clear hc
        cases hz : isLit x
        · have HW := hide (fun wx => of_no x wx (by
            have : ¬ (x ≠ 0 ∧ -12 ≤ x ∧ x ≤ 12) := fun h => by rw [isLit_iff.2 h] at hz; cases hz
            omega))
          have HZ := hide hz
          clear hz
          go_wp2_with fail
          refine (unhide HW _).mono ?_
          rintro e w1 ⟨rfl, rfl⟩
          go_wp2
          go_ret2
          have hfalse : allInt xs = false := by
            rw [allInt, List.all_eq_false]
            exact ⟨x, unhide HM, by rw [unhide HZ]; decide⟩
          exact ⟨rfl, .inl ⟨hfalse, rfl⟩⟩
        · have hbd := isLit_iff.1 hz
          have HW := hide (fun wx => of_yes x wx hbd.2.1 hbd.2.2 hbd.1)
          have HZ := hide hz
          clear hz
          have HMB : Hid (Sp.maskOf (xs.take (k + 1)) = Sp.maskOf (xs.take k) ||| Sp.bit x) := hide (by rw [unhide HS, ← Sp.maskOf_snoc])
          have hm1 : Sp.maskOf (xs.take k) < 2 ^ 24 := Sp.maskOf_lt _ (fun y hy => by
            have h1 := unhide HA
            rw [allInt, List.all_eq_true] at h1
            have := isLit_iff.1 (h1 y hy)
            omega)
          have hm2 : Sp.bit x < 2 ^ 24 := Nat.pow_lt_pow_right (by decide) (Sp.bitIx_lt _ (by omega))
          generalize Sp.maskOf (xs.take k) = m1 at *
          generalize Sp.bit x = m2 at *
          have HOR : Hid (bits BinOp.or IntKind.u32 (m1 : Int) (m2 : Int) = ((m1 ||| m2 : Nat) : Int)) := hide (bits_or_u32 m1 m2 (Nat.lt_trans hm1 (by decide)) (Nat.lt_trans hm2 (by decide)))
          go_wp2_with fail
          refine (unhide HW _).mono ?_
          rintro e w1 ⟨rfl, rfl⟩
          go_wp2
          go_round
          case rel => exact ⟨k + 1, by omega, by go_num, by rw [unhide HMB, ← unhide HOR], hide (by rw [unhide HS]; have := unhide HA; simp [allInt] at this ⊢; exact ⟨this, unhide HZ⟩)⟩
          case measure => simp [intOf]; omega
      · have HT : Hid (xs.take k = xs) := hide (List.take_of_length_le (by omega))
        go_wp2
        go_ret2
        have htrue : allInt xs = true := by rw [← unhide HT]; exact unhide HA
        exact ⟨rfl, .inr ⟨htrue, by rw [unhide HT]; rfl⟩⟩

set_option maxRecDepth 100000 in
set_option maxHeartbeats 400000 in
theorem fromNumbers_any (v : Value) (xs : List Int) (w : World) (hl : xs.length ≤ 10000000) (hv : Lies w v (ints xs)) :
    Calls Tryz.prog 38 #[v] w fun e w' => w' = w ∧
      ((allInt xs = false ∧ e = .returned (.tuple #[.int .u32 0, .bool false])) ∨ (allInt xs = true ∧ e = .returned (.tuple #[.int .u32 (Sp.maskOf xs : Int), .bool true]))) := by
  have HU := hide (unionI_any v xs w hl hv)
  generalize allInt xs = al at *
  generalize Sp.maskOf xs = mk at *
  clear hv hl
  go_enter Tryz.func38, Tryz.ntmps38
  go_wp2_with fail
  refine (unhide HU).mono ?_
  rintro e w1 ⟨rfl, ⟨h1, rfl⟩ | ⟨h1, rfl⟩⟩
  · have H1 := hide h1
    clear h1
    go_wp2
    go_ret2
    exact ⟨rfl, .inl ⟨unhide H1, rfl⟩⟩
  · have H1 := hide h1
    clear h1
    go_wp2
    go_ret2
    exact ⟨rfl, .inr ⟨unhide H1, rfl⟩⟩

end Go.Proofs.YtekkkoipcghlmaaGreatDoor

namespace Go.Proofs.YtekkkoipcghlmaaGreatDoor.Sp

/-- The opposite literal's place. -/
def opp (i : Nat) : Nat := if i % 2 = 0 then i + 1 else i - 1
theorem opp_opp (i : Nat) : opp (opp i) = i := by unfold opp; split <;> split <;> omega
theorem opp_ne (i : Nat) : opp i ≠ i := by unfold opp; split <;> omega
theorem opp_lt {i : Nat} (h : i < 24) : opp i < 24 := by unfold opp; split <;> omega
theorem litAt_opp (i : Nat) : litAt (opp i) = - litAt i := by
  unfold litAt opp
  by_cases h : i % 2 = 0
  · rw [if_pos h, if_neg (by omega), if_pos h, show (i + 1) / 2 = i / 2 from by omega]
  · rw [if_neg h, if_pos (by omega), if_neg h, show (i - 1) / 2 = i / 2 from by omega, Int.neg_neg]
theorem litAt_inj {i j : Nat} (h : litAt i = litAt j) : i = j := by
  unfold litAt at h
  split at h <;> split at h <;> omega

/-- Sets of literals, by their places: U is closed under what comes of the clauses L, and there is no conflict. -/
def Stable (L : List Nat) (U : Nat → Prop) : Prop :=
  ∀ c, c ∈ L → (∃ i, c.testBit i = true ∧ ¬ U i) ∧ ∀ i, c.testBit i = true → ¬ U i → (∀ j, c.testBit j = true → j ≠ i → U j) → U (opp i)

/-- A clause m follows from the clauses L. -/
def Fol (L : List Nat) (m : Nat) : Prop :=
  (∃ i, m.testBit i = true ∧ m.testBit (opp i) = true) ∨ ∀ U : Nat → Prop, (∀ i, m.testBit i = true → U i) → ¬ Stable L U

theorem Stable.perm {L L' : List Nat} {U : Nat → Prop} (h : ∀ c, c ∈ L ↔ c ∈ L') (hs : Stable L U) : Stable L' U := fun c hc => hs c ((h c).2 hc)
theorem Fol.perm {L L' : List Nat} {m : Nat} (h : ∀ c, c ∈ L ↔ c ∈ L') (hf : Fol L m) : Fol L' m := by
  rcases hf with hf | hf
  · exact .inl hf
  · exact .inr fun U hU hs => hf U hU (hs.perm fun c => (h c).symm)

theorem mem_litsOf (m : Nat) (i : Nat) (hi : i < 24) : litAt i ∈ litsOf m ↔ m.testBit i = true := by
  unfold litsOf
  rw [List.mem_map]
  constructor
  · rintro ⟨j, hj, hl⟩
    have := litAt_inj hl
    subst this
    exact (List.mem_filter.1 hj).2
  · intro h
    exact ⟨i, List.mem_filter.2 ⟨List.mem_range.2 hi, h⟩, rfl⟩
theorem litsOf_mem {m : Nat} {x : Int} (h : x ∈ litsOf m) : ∃ i, i < 24 ∧ x = litAt i ∧ m.testBit i = true := by
  unfold litsOf at h
  obtain ⟨i, hi, rfl⟩ := List.mem_map.1 h
  have := List.mem_filter.1 hi
  exact ⟨i, List.mem_range.1 this.1, rfl, this.2⟩
theorem litsOf_inj {m m' : Nat} (h1 : m < 2 ^ 24) (h2 : m' < 2 ^ 24) (h : litsOf m = litsOf m') : m = m' := by
  apply Nat.eq_of_testBit_eq
  intro i
  by_cases hi : i < 24
  · rw [Bool.eq_iff_iff, ← mem_litsOf m i hi, ← mem_litsOf m' i hi, h]
  · rw [Nat.testBit_lt_two_pow (Nat.lt_of_lt_of_le h1 (Nat.pow_le_pow_right (by decide) (by omega))), Nat.testBit_lt_two_pow (Nat.lt_of_lt_of_le h2 (Nat.pow_le_pow_right (by decide) (by omega)))]

/-- The step of a line: does a clause go; its words. -/
def stepOf (y : List UInt8) : Bool × List (List UInt8) :=
  match words y with
  | w0 :: r => if w0 = [100] then (true, r) else (false, w0 :: r)
  | [] => (false, [])
def stepMask (y : List UInt8) : Nat := maskOf ((stepOf y).2.map lit)
def stepOk (x : List UInt8 × Bool) : Bool := ((stepOf x.1).2.all fun w => lit w != 0) && x.2

/-- What a proof comes to, step by step: the error, and the step's number. -/
def Outcome (L : List Nat) (n : Nat) : List (List UInt8 × Bool) → Int × Int → Prop
  | [], r => r = (0, 0)
  | x :: rest, r =>
    (stepOk x = false ∧ r = (6, (n : Int) + 1)) ∨
    (stepOk x = true ∧
      (((stepOf x.1).1 = true ∧ ((stepMask x.1 ∈ L ∧ Outcome (L.erase (stepMask x.1)) (n + 1) rest r) ∨ (stepMask x.1 ∉ L ∧ r = (7, (n : Int) + 1)))) ∨
       ((stepOf x.1).1 = false ∧ ((Fol L (stepMask x.1) ∧ Outcome (L ++ [stepMask x.1]) (n + 1) rest r) ∨ (¬ Fol L (stepMask x.1) ∧ r = (8, (n : Int) + 1))))))

theorem Outcome.unique (xs : List (List UInt8 × Bool)) : ∀ (L : List Nat) (n : Nat) (r r' : Int × Int), Outcome L n xs r → Outcome L n xs r' → r = r' := by
  induction xs with
  | nil => intro L n r r' h h'; unfold Outcome at h h'; rw [h, h']
  | cons x rest ih =>
    intro L n r r' h h'
    unfold Outcome at h h'
    rcases h with ⟨h1, h2⟩ | ⟨h1, h2⟩ <;> rcases h' with ⟨g1, g2⟩ | ⟨g1, g2⟩
    · rw [h2, g2]
    · rw [h1] at g1; cases g1
    · rw [h1] at g1; cases g1
    · rcases h2 with ⟨h3, h4⟩ | ⟨h3, h4⟩ <;> rcases g2 with ⟨g3, g4⟩ | ⟨g3, g4⟩
      · rcases h4 with ⟨h5, h6⟩ | ⟨h5, h6⟩ <;> rcases g4 with ⟨g5, g6⟩ | ⟨g5, g6⟩
        · exact ih _ _ _ _ h6 g6
        · exact absurd h5 g5
        · exact absurd g5 h5
        · rw [h6, g6]
      · rw [h3] at g3; cases g3
      · rw [h3] at g3; cases g3
      · rcases h4 with ⟨h5, h6⟩ | ⟨h5, h6⟩ <;> rcases g4 with ⟨g5, g6⟩ | ⟨g5, g6⟩
        · exact ih _ _ _ _ h6 g6
        · exact absurd h5 g5
        · exact absurd g5 h5
        · rw [h6, g6]

end Go.Proofs.YtekkkoipcghlmaaGreatDoor.Sp
