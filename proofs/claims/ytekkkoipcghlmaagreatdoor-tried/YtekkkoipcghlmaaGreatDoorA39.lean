import Derived.Test.YtekkkoipcghlmaaGreatDoorA04
import Derived.Test.YtekkkoipcghlmaaGreatDoorA01
import Derived.Test.YtekkkoipcghlmaaGreatDoorProg
import Derived.Lib.AtoiAll
import Derived.Lib.ItoaNum
import Derived.Test.YtekkkoipcghlmaaGreatDoorShelf
import Derived.Lib.Join
import Derived.Lib.BitFns
set_option linter.all false
namespace Go.Proofs.YtekkkoipcghlmaaGreatDoor
open Go.RowKit

/-- How many literals clauses have. -/
def sizes (ms : List Nat) : Nat := (ms.map fun m => (Sp.litsOf m).length).sum
theorem sizes_snoc (ms : List Nat) (m : Nat) : sizes (ms ++ [m]) = sizes ms + (Sp.litsOf m).length := by simp [sizes]

/-- Bytes as cells. -/
def bytesV (pb : List UInt8) : List Value := pb.map (fun b => Value.int .u8 (b.toNat : Int))
/-- The program's solver, at block x: the clauses that it keeps, and its proof. -/
structure XAt (base : Nat) (w : World) (x : Nat) (kv : Value) (ms : List Nat) (pv : Value) (pb : List UInt8) : Prop where
  block : w.heap[x]? = some (.cells #[kv, .int .i64 (sizes ms : Int), pv] 77 (0, 0))
  le : base ≤ x
  row : w.ownsRow base 69 1 kv ms.length (us ms)
  prow : w.ownsRow base 5 1 pv pb.length (bytesV pb)
def XFoot (F : Nat → Prop) (x : Nat) (kv pv : Value) : Prop := F x ∧ (∀ g, kv.ownBlock = some g → F g) ∧ ∀ g, pv.ownBlock = some g → F g
theorem XAt.keep {base : Nat} {w w' : World} {x : Nat} {kv pv : Value} {ms : List Nat} {pb : List UInt8} (h : XAt base w x kv ms pv pb) {F : Nat → Prop} (hf : XFoot F x kv pv) (hk : ∀ k, F k → w'.heap[k]? = w.heap[k]?) : XAt base w' x kv ms pv pb :=
  ⟨(hk x hf.1).trans h.block, h.le, owns_at h.row (fun g hg => hk g (hf.2.1 g hg)), owns_at h.prow (fun g hg => hk g (hf.2.2 g hg))⟩

end Go.Proofs.YtekkkoipcghlmaaGreatDoor

namespace Go.Proofs.YtekkkoipcghlmaaGreatDoor
open Go.RowKit

theorem pow_plus (n : Int) (h1 : 1 ≤ n) (h2 : n ≤ 12) : (2 : Int) ^ (2 * (n - 1)).toNat % 4294967296 = (Sp.bit n : Int) := by
  have : n = 1 ∨ n = 2 ∨ n = 3 ∨ n = 4 ∨ n = 5 ∨ n = 6 ∨ n = 7 ∨ n = 8 ∨ n = 9 ∨ n = 10 ∨ n = 11 ∨ n = 12 := by omega
  rcases this with rfl | rfl | rfl | rfl | rfl | rfl | rfl | rfl | rfl | rfl | rfl | rfl <;> decide
theorem pow_minus (n : Int) (h1 : -12 ≤ n) (h2 : n ≤ -1) : (2 : Int) * 2 ^ (2 * (-n - 1)).toNat % 4294967296 = (Sp.bit n : Int) := by
  have : n = -1 ∨ n = -2 ∨ n = -3 ∨ n = -4 ∨ n = -5 ∨ n = -6 ∨ n = -7 ∨ n = -8 ∨ n = -9 ∨ n = -10 ∨ n = -11 ∨ n = -12 := by omega
  rcases this with rfl | rfl | rfl | rfl | rfl | rfl | rfl | rfl | rfl | rfl | rfl | rfl <;> decide

theorem ret_bit {a b : Int} (h : a = b) : Ending.returned (.tuple #[.int .u32 a, .bool true]) = .returned (.tuple #[.int .u32 b, .bool true]) := by rw [h]

set_option maxRecDepth 100000 in
set_option maxHeartbeats 400000 in
theorem of_yes (n : Int) (w : World) (h1 : -12 ≤ n) (h2 : n ≤ 12) (h0 : n ≠ 0) :
    Calls Tryz.prog 62 #[.int .i64 n] w fun e w' => e = .returned (.tuple #[.int .u32 (Sp.bit n : Int), .bool true]) ∧ w' = w := by
  by_cases hp : 0 < n
  · have h1' : 1 ≤ n := by omega
    have HP := hide (pow_plus n h1' h2)
    go_enter Tryz.func62, Tryz.ntmps62
    go_wp2
    go_ret2
    exact ⟨ret_bit (unhide HP), rfl⟩
  · have h1' : n ≤ -1 := by omega
    have HP := hide (pow_minus n h1 h1')
    go_enter Tryz.func62, Tryz.ntmps62
    go_wp2
    go_ret2
    exact ⟨ret_bit (unhide HP), rfl⟩

set_option maxRecDepth 100000 in
set_option maxHeartbeats 400000 in
theorem of_no (n : Int) (w : World) (h1 : n = 0 ∨ n < -12 ∨ 12 < n) :
    Calls Tryz.prog 62 #[.int .i64 n] w fun e w' => e = .returned (.tuple #[.int .u32 0, .bool false]) ∧ w' = w := by
  rcases h1 with rfl | h | h
  · go_enter Tryz.func62, Tryz.ntmps62
    go_wp2
    go_ret2
    exact ⟨rfl, rfl⟩
  · go_enter Tryz.func62, Tryz.ntmps62
    go_wp2
    go_ret2
    exact ⟨rfl, rfl⟩
  · go_enter Tryz.func62, Tryz.ntmps62
    go_wp2
    go_ret2
    exact ⟨rfl, rfl⟩

end Go.Proofs.YtekkkoipcghlmaaGreatDoor

namespace Go.Proofs.YtekkkoipcghlmaaGreatDoor.Sp

theorem dec12 (u : Nat) (h1 : 1 ≤ u) (h2 : u ≤ 12) : Lib.decDigits u = digs u := by
  by_cases h : u < 10
  · rw [Lib.decDigits, dif_pos h, digs, if_pos h]
  · rw [Lib.decDigits, dif_neg h, Lib.decDigits, dif_pos (by omega), digs, if_neg h, show u / 10 = 1 from by omega, show 48 + u % 10 = 38 + u from by omega]; rfl
theorem itoa_lw (x : Int) (h0 : x ≠ 0) (h1 : -12 ≤ x) (h2 : x ≤ 12) : Lib.itoa x = lw x := by
  unfold Lib.itoa lw
  split
  · rw [dec12 _ (by omega) (by omega)]
  · rw [dec12 _ (by omega) (by omega), show x.toNat = x.natAbs from by omega]

end Go.Proofs.YtekkkoipcghlmaaGreatDoor.Sp

namespace Go.Proofs.YtekkkoipcghlmaaGreatDoor
open Go.RowKit

theorem var_below {P : Program} {w w' : World} {n : String} {g : Nat} {cs : Array Value} (hg : P.globalNamed n = some g) (hv : w.var? P n = some cs) (hb : Below w.heap.size w w') : w'.var? P n = some cs := by
  unfold World.var? at hv ⊢
  rw [hg] at hv ⊢
  simp only [Option.bind_some] at hv ⊢
  have hlt : g < w.heap.size := by
    rcases Nat.lt_or_ge g w.heap.size with h' | h'
    · exact h'
    · rw [Array.getElem?_eq_none h'] at hv; cases hv
  rw [hb.block g hlt]
  exact hv

/-- The package's variables that the road reads. -/
structure EnvT (w : World) : Prop where
  tab : Lib.TabIs Tryz.prog w "internal/strconv.uint64pow10" .u64 Lib.pow10Tab
  brj : 0 < w.heap.size ∧ TabAt 0 Lib.deBruijn32tab w
theorem Tryz.gTab : Tryz.prog.globalNamed "internal/strconv.uint64pow10" = some 1 := by kernel_rfl
theorem EnvT.below {w w' : World} (h : EnvT w) (hb : Below w.heap.size w w') : EnvT w' :=
  ⟨var_below Tryz.gTab h.tab hb, ⟨Nat.lt_of_lt_of_le h.brj.1 hb.size, fun j hj => (hb.cell (p := ⟨0, j, none⟩) h.brj.1).trans (h.brj.2 j hj)⟩⟩
theorem bs_data (l : List UInt8) : (bs l).data.toList = l := by simp [bs]

theorem below_grow2 (w : World) (k : Nat) (os : Array Obj) : Below w.heap.size w (Sort.grow (w.drewN k) os) :=
  ⟨rfl, rfl, rfl, by show w.heap.size ≤ (w.heap ++ os).size; simp, fun j hj => by show (w.heap ++ os)[j]? = w.heap[j]?; rw [Array.getElem?_append_left hj]⟩

theorem itoa_any (n : Int) (h0 : -9223372036854775808 ≤ n) (h1 : n ≤ 9223372036854775807) (w : World) (he : EnvT w) :
    Calls Tryz.prog 90 #[.int .i64 n] w fun e w' => e = .returned (.string (bs (Lib.itoa n))) ∧ Below w.heap.size w w' := by
  refine (Tryz.strconv_Itoa n h0 h1 w he.tab).mono ?_
  rintro e w' ⟨rfl, k, os, rfl⟩
  exact ⟨rfl, below_grow2 w k os⟩

end Go.Proofs.YtekkkoipcghlmaaGreatDoor

namespace Go.Proofs.YtekkkoipcghlmaaGreatDoor
open Go.RowKit

theorem bits_or_u32 (a b : Nat) (ha : a < 4294967296) (hb : b < 4294967296) : bits .or .u32 (a : Int) (b : Int) = ((a ||| b : Nat) : Int) := by
  have hx : a ||| b < 2 ^ 32 := Nat.or_lt_two_pow (by omega) (by omega)
  have h1 : (BitVec.ofInt 32 (a : Int)).toNat = a := by
    rw [BitVec.ofInt_natCast, BitVec.toNat_ofNat]; exact Nat.mod_eq_of_lt (by omega)
  have h2 : (BitVec.ofInt 32 (b : Int)).toNat = b := by
    rw [BitVec.ofInt_natCast, BitVec.toNat_ofNat]; exact Nat.mod_eq_of_lt (by omega)
  show IntKind.u32.wrap ((BitVec.ofInt 32 (a : Int) ||| BitVec.ofInt 32 (b : Int)).toNat : Int) = _
  rw [BitVec.toNat_or, h1, h2, wrap_u32']
  omega

end Go.Proofs.YtekkkoipcghlmaaGreatDoor

namespace Go.Proofs.YtekkkoipcghlmaaGreatDoor
open Go.RowKit

/-- May a number be a literal? -/
def isLit (x : Int) : Bool := x != 0 && decide (-12 ≤ x) && decide (x ≤ 12)
theorem isLit_iff {x : Int} : isLit x = true ↔ x ≠ 0 ∧ -12 ≤ x ∧ x ≤ 12 := by simp [isLit, and_assoc]
def allInt (xs : List Int) : Bool := xs.all isLit

set_option maxRecDepth 100000 in
set_option maxHeartbeats 400000 in
theorem unionI_any (v : Value) (xs : List Int) (w : World) (hl : xs.length ≤ 10000000) (hv : Lies w v (ints xs)) :
    Calls Tryz.prog 61 #[v, .func (.func 62) #[] #[]] w fun e w' => w' = w ∧
      ((allInt xs = false ∧ e = .returned (.tuple #[.int .u32 0, .bool false])) ∨ (allInt xs = true ∧ e = .returned (.tuple #[.int .u32 (Sp.maskOf xs : Int), .bool true]))) := by
  rcases hv with ⟨h0, ao, cap, rfl⟩ | ⟨b, off, cap, hp, rfl, hb, hc⟩
  · have hx0 : xs = [] := by simpa [ints] using h0
    subst hx0
    go_enter Tryz.func61, Tryz.ntmps61
    go_wp2
    refine wp_loop_rounds 1 ?_
    rw [rounds_succ]
    go_wp2
    go_ret2
    exact ⟨rfl, .inr ⟨rfl, rfl⟩⟩
  · have hlen : (ints xs).length = xs.length := by simp [ints]
    rw [hlen] at hp ⊢
    go_enter Tryz.func61, Tryz.ntmps61
    go_wp2
    go_loop [6, 13] (fun m i => ∃ k : Nat, k ≤ xs.length ∧ i = .int .i64 k ∧ m = .int .u32 (Sp.maskOf (xs.take k) : Int) ∧ Hid (allInt (xs.take k) = true)) (fun _ i => xs.length - (intOf i).toNat)
    case atStart => exact ⟨0, Nat.zero_le _, rfl, rfl, rfl⟩
    case round =>
      obtain ⟨k, hk, rfl, rfl, HA⟩ := hrel
      by_cases hlt : k < xs.length
      · have hcell := hc k (.int .i64 xs[k]) (by simp [ints, hlt])
        have HM : Hid (xs[k] ∈ xs) := hide (List.getElem_mem hlt)
        have HS : Hid (xs.take (k + 1) = xs.take k ++ [xs[k]]) := hide (List.take_succ_eq_append_getElem hlt)
        generalize xs[k] = x at hcell HS HM
        clear hc
        cases hz : isLit x
        · have HW := hide (fun wx => of_no x wx (by
            have : ¬ (x ≠ 0 ∧ -12 ≤ x ∧ x ≤ 12) := fun h => by rw [isLit_iff.2 h] at hz; cases hz
            omega))
          have HZ := hide hz
          clear hz
          go_wp2_with fail
          refine (unhide HW _).mono ?_
          rintro e w1 ⟨rfl, rfl⟩
          go_wp2
          go_ret2
          have hfalse : allInt xs = false := by
            rw [allInt, List.all_eq_false]
            exact ⟨x, unhide HM, by rw [unhide HZ]; decide⟩
          exact ⟨rfl, .inl ⟨hfalse, rfl⟩⟩
        · have hbd := isLit_iff.1 hz
          have HW := hide (fun wx => of_yes x wx hbd.2.1 hbd.2.2 hbd.1)
          have HZ := hide hz
          clear hz
          have HMB : Hid (Sp.maskOf (xs.take (k + 1)) = Sp.maskOf (xs.take k) ||| Sp.bit x) := hide (by rw [unhide HS, ← Sp.maskOf_snoc])
          have hm1 : Sp.maskOf (xs.take k) < 2 ^ 24 := Sp.maskOf_lt _ (fun y hy => by
            have h1 := unhide HA
            rw [allInt, List.all_eq_true] at h1
            have := isLit_iff.1 (h1 y hy)
            omega)
          have hm2 : Sp.bit x < 2 ^ 24 := Nat.pow_lt_pow_right (by decide) (Sp.bitIx_lt _ (by omega))
          generalize Sp.maskOf (xs.take k) = m1 at *
          generalize Sp.bit x = m2 at *
          have HOR : Hid (bits BinOp.or IntKind.u32 (m1 : Int) (m2 : Int) = ((m1 ||| m2 : Nat) : Int)) := hide (bits_or_u32 m1 m2 (Nat.lt_trans hm1 (by decide)) (Nat.lt_trans hm2 (by decide)))
          go_wp2_with fail
          refine (unhide HW _).mono ?_
          rintro e w1 ⟨rfl, rfl⟩
          go_wp2
          go_round
          case rel => exact ⟨k + 1, by omega, by go_num, by rw [unhide HMB, ← unhide HOR], hide (by rw [unhide HS]; have := unhide HA; simp [allInt] at this ⊢; exact ⟨this, unhide HZ⟩)⟩
          case measure => simp [intOf]; omega
      · have HT : Hid (xs.take k = xs) := hide (List.take_of_length_le (by omega))
        go_wp2
        go_ret2
        have htrue : allInt xs = true := by rw [← unhide HT]; exact unhide HA
        exact ⟨rfl, .inr ⟨htrue, by rw [unhide HT]; rfl⟩⟩

set_option maxRecDepth 100000 in
set_option maxHeartbeats 400000 in
theorem fromNumbers_any (v : Value) (xs : List Int) (w : World) (hl : xs.length ≤ 10000000) (hv : Lies w v (ints xs)) :
    Calls Tryz.prog 38 #[v] w fun e w' => w' = w ∧
      ((allInt xs = false ∧ e = .returned (.tuple #[.int .u32 0, .bool false])) ∨ (allInt xs = true ∧ e = .returned (.tuple #[.int .u32 (Sp.maskOf xs : Int), .bool true]))) := by
  have HU := hide (unionI_any v xs w hl hv)
  generalize allInt xs = al at *
  generalize Sp.maskOf xs = mk at *
  clear hv hl
  go_enter Tryz.func38, Tryz.ntmps38
  go_wp2_with fail
  refine (unhide HU).mono ?_
  rintro e w1 ⟨rfl, ⟨h1, rfl⟩ | ⟨h1, rfl⟩⟩
  · have H1 := hide h1
    clear h1
    go_wp2
    go_ret2
    exact ⟨rfl, .inl ⟨unhide H1, rfl⟩⟩
  · have H1 := hide h1
    clear h1
    go_wp2
    go_ret2
    exact ⟨rfl, .inr ⟨unhide H1, rfl⟩⟩

end Go.Proofs.YtekkkoipcghlmaaGreatDoor

namespace Go.Proofs.YtekkkoipcghlmaaGreatDoor
open Go.RowKit

theorem litAt_div (k : Nat) : Sp.litAt k = if k % 2 = 1 then -((k : Int) / 2 + 1) else (k : Int) / 2 + 1 := by
  unfold Sp.litAt
  by_cases h : k % 2 = 0
  · rw [if_pos h, if_neg (by omega)]; omega
  · rw [if_neg h, if_pos (by omega)]; omega

theorem ret_int64 {a b : Int} (h : a = b) : Ending.returned (.int .i64 a) = .returned (.int .i64 b) := by rw [h]

set_option maxRecDepth 100000 in
set_option maxHeartbeats 400000 in
theorem pfirst_any (m : Nat) (w : World) (hm : m < 2 ^ 24) (he : EnvT w) :
    Calls Tryz.prog 70 #[.int .u32 m] w fun e w' => e = .returned (.int .i64 (Sp.litAt (Lib.ctz 32 m))) ∧ w' = w := by
  have HT := hide (Any7.bits_TrailingZeros32 Tryz.lays7n28 m (Nat.lt_trans hm (by decide)) w (fun _ => he.brj.2))
  have HT : Hid (Calls Tryz.prog 115 #[.int .u32 m] w fun e w' => e = .returned (.int .i64 (Lib.ctz 32 m)) ∧ w' = w) := HT
  have HL := hide (litAt_div (Lib.ctz 32 m))
  have hc : Lib.ctz 32 m ≤ 32 := by
    by_cases h0 : m = 0
    · subst h0; decide
    · exact Nat.le_of_lt (Lib.lowest_bit 32 m h0 (Nat.lt_trans hm (by decide))).2
  generalize Lib.ctz 32 m = k at *
  by_cases h1 : k % 2 = 1
  · have hq : ((k : Int) % 2 == 1) = true := by rw [beq_iff_eq]; omega
    have H1 := hide h1
    clear h1
    go_enter Tryz.func70, Tryz.ntmps70
    go_wp2_with fail
    refine (unhide HT).mono ?_
    rintro e w1 ⟨rfl, rfl⟩
    go_wp2
    go_ret
    exact ⟨ret_int64 (by rw [unhide HL, if_pos (unhide H1)]), rfl⟩
  · have hq : ((k : Int) % 2 == 1) = false := by rw [beq_eq_false_iff_ne]; omega
    have H1 := hide h1
    clear h1
    go_enter Tryz.func70, Tryz.ntmps70
    go_wp2_with fail
    refine (unhide HT).mono ?_
    rintro e w1 ⟨rfl, rfl⟩
    go_wp2
    go_ret
    exact ⟨ret_int64 (by rw [unhide HL, if_neg (unhide H1)]), rfl⟩

end Go.Proofs.YtekkkoipcghlmaaGreatDoor

namespace Go.Proofs.YtekkkoipcghlmaaGreatDoor
open Go.RowKit

theorem Tryz.infoStr : (Tryz.prog.info? 9).map (fun i => (i.zero, i.size, i.bytes)) = some (some (.string ⟨#[]⟩), 1, 16) := by kernel_rfl

end Go.Proofs.YtekkkoipcghlmaaGreatDoor

namespace Go.Proofs.YtekkkoipcghlmaaGreatDoor
open Go.RowKit

theorem digs_len (n : Nat) : (Sp.digs n).length ≤ 2 := by unfold Sp.digs; split <;> simp
theorem lw_len (x : Int) : (Sp.lw x).length ≤ 3 := by
  unfold Sp.lw; have := digs_len x.natAbs; split <;> simp <;> omega
theorem toldBody_len (l : List Int) : (Sp.toldBody l).length ≤ 4 * l.length := by
  unfold Sp.toldBody
  induction l with
  | nil => simp [Sp.join]
  | cons a r ih =>
    have := lw_len a
    cases r with
    | nil => simp [Sp.join]; omega
    | cons b r => simp [Sp.join] at ih ⊢; omega

end Go.Proofs.YtekkkoipcghlmaaGreatDoor

namespace Go.Proofs.YtekkkoipcghlmaaGreatDoor
open Go.RowKit

theorem Tryz.infoIntW : (Tryz.prog.info? 3).map (fun i => (i.zero, i.size, i.bytes)) = some (some (.int .i64 0), 1, 8) := by kernel_rfl

end Go.Proofs.YtekkkoipcghlmaaGreatDoor

namespace Go.Proofs.YtekkkoipcghlmaaGreatDoor
open Go.RowKit

theorem join_lib (xs : List (List UInt8)) : Lib.join xs [32] = Sp.join xs := by
  unfold Lib.join
  induction xs with
  | nil => rfl
  | cons a r ih =>
    cases r with
    | nil => simp [Sp.join, List.intercalate]
    | cons b r =>
      rw [Sp.join, ← ih]
      simp [List.intercalate]

theorem litsOf_len (m : Nat) : (Sp.litsOf m).length ≤ 24 := by
  unfold Sp.litsOf
  rw [List.length_map]
  exact Nat.le_trans (List.length_filter_le _ _) (by simp)
theorem litAt_bd (k : Nat) (h : k < 24) : Sp.litAt k ≠ 0 ∧ -12 ≤ Sp.litAt k ∧ Sp.litAt k ≤ 12 := by
  rw [litAt_div]; split <;> omega

theorem map_data (ws : List (List UInt8)) : (ws.map bs).map (·.data.toList) = ws := by
  induction ws with
  | nil => rfl
  | cons a r ih => simp only [List.map_cons, bs_data] at ih ⊢; rw [ih]

theorem join_any (v : Value) (ws : List (List UInt8)) (w : World) (base : Nat) (hown : w.ownsRow base 9 1 v ws.length (strs ws)) (hlen : (Sp.join ws).length ≤ 100000) (hn : ws.length ≤ 100000) :
    Calls Tryz.prog 131 #[v, .string ⟨#[32]⟩] w fun e w' => e = .returned (.string (bs (Sp.join ws))) ∧ Below w.heap.size w w' := by
  have e2 : (ByteArray.mk #[32]).data.toList = [32] := rfl
  rcases hown.2 with ⟨rfl, h0⟩ | ⟨g, cap, cur, rfl, _, hg, hc, _⟩
  · have hw : ws = [] := List.length_eq_zero_iff.1 h0
    subst hw
    refine (Tryz.strings_Join_none none 0 ⟨#[32]⟩ w).mono ?_
    rintro e w1 ⟨rfl, rfl⟩
    exact ⟨rfl, Below.refl _ _⟩
  · have hlt := (hown.lt g rfl).2
    have hcells : ∀ (j : Nat) x, (ws.map bs)[j]? = some x → w.cell? ⟨g, 0 + j, none⟩ = some (.string x) := fun j x hx => by
      have hj : j < ws.length := by
        have := (List.getElem?_eq_some_iff.1 hx).1
        simpa using this
      rw [Nat.zero_add, hown.cellAt j (by omega), strs, List.getElem?_map]
      rw [List.getElem?_map] at hx
      cases hj2 : ws[j]? with
      | none => rw [hj2] at hx; cases hx
      | some y => rw [hj2] at hx; simp at hx ⊢; rw [hx]
    have := Tryz.strings_Join g 0 cap (ws.map bs) ⟨#[32]⟩ w hcells hlt (by simp; omega) (by simpa using hc) (by rw [map_data, e2, join_lib]; omega)
    rw [map_data, e2, join_lib, List.length_map] at this
    exact this

set_option maxRecDepth 100000 in
set_option maxHeartbeats 800000 in
theorem cliterals_any (m : Nat) (w : World) (hm : m < 2 ^ 24) (he : EnvT w) :
    Calls Tryz.prog 41 #[.int .u32 m] w fun e w' => ∃ v, e = .returned v ∧ w'.ownsRow w.heap.size 3 1 v (Sp.litsOf m).length (ints (Sp.litsOf m)) ∧ Below w.heap.size w w' := by
  go_enter Tryz.func41, Tryz.ntmps41
  go_wp2_with fail
  go_loopw [3, 4] (fun v r wr => ∃ (q : Nat) (L : List Int), r = .int .u32 q ∧ q < 2 ^ 24 ∧ wr.ownsRow w.heap.size 3 1 v L.length (ints L) ∧ Below w.heap.size w wr ∧ Hid (L ++ Sp.litsOf q = Sp.litsOf m))
    (fun _ r _ => (Sp.litsOf (intOf r).toNat).length)
  case atStart => exact ⟨m, [], rfl, hm, World.ownsRow_nil _ _ _ _, Below.refl _ _, rfl⟩
  case round =>
    obtain ⟨q, L, rfl, hq, hown, hbel, HI⟩ := hrel
    have hLl : L.length ≤ 24 := by have h1 := litsOf_len m; rw [← unhide HI, List.length_append] at h1; omega
    have HE := hide (he.below hbel)
    by_cases h0 : q = 0
    · have hz : ((q : Int) == 0) = true := by rw [beq_iff_eq]; omega
      have HZ := hide h0
      clear h0
      have HLL : Hid (L = Sp.litsOf m) := hide (by have := unhide HI; rw [unhide HZ, Sp.litsOf_zero, List.append_nil] at this; exact this)
      go_wp2
      go_ret
      exact ⟨_, rfl, by rw [← unhide HLL]; exact hown, hbel⟩
    · have hz : ((q : Int) == 0) = false := by rw [beq_eq_false_iff_ne]; omega
      have hpos : 1 ≤ q := by omega
      obtain ⟨hst, hk⟩ := Sp.litsOf_step q h0 hq
      have HST := hide hst
      have hxb := litAt_bd _ hk
      have HF := hide (pfirst_any q wr hq (unhide HE))
      clear hst h0
      have hand : bits BinOp.and IntKind.u32 (q : Int) ((q : Int) - 1) = ((q &&& (q - 1) : Nat) : Int) := by
        have := bits_and_u32_nat q (q - 1) (Nat.lt_trans hq (by decide)) (by have : (2 : Nat) ^ 24 < 4294967296 := by decide
                                                                             omega)
        rwa [show ((q - 1 : Nat) : Int) = (q : Int) - 1 from by omega] at this
      have HAND := hide hand
      clear hand
      have hq2 : q &&& (q - 1) < 2 ^ 24 := Nat.lt_of_le_of_lt Nat.and_le_left hq
      generalize Sp.litAt (Lib.ctz 32 q) = x at *
      generalize q &&& (q - 1) = q2 at *
      go_wp2_with fail
      refine (unhide HF).mono ?_
      rintro e w1 ⟨rfl, rfl⟩
      go_wp2_with (at_builtin; refine append_one rfl _ _ 25 3 rfl Tryz.underlying25 Tryz.infoIntW rfl (by decide) hown rfl rfl rfl (by omega) (Nat.le_refl _) hbel ?_; intro v' w3 hown' hbel' _)
      go_roundw
      case rel => exact ⟨q2, L ++ [x], by rw [unhide HAND], hq2, by simpa [ints] using hown', hbel', hide (by rw [← unhide HI, unhide HST]; simp)⟩
      case measure => rw [unhide HAND]; simp [intOf, unhide HST]

theorem litsOf_bd (m : Nat) : ∀ x, x ∈ Sp.litsOf m → x ≠ 0 ∧ -12 ≤ x ∧ x ≤ 12 := by
  intro x hx
  unfold Sp.litsOf at hx
  obtain ⟨k, hk, rfl⟩ := List.mem_map.1 hx
  have := (List.mem_filter.1 hk).1
  exact litAt_bd k (by simpa using this)

set_option maxRecDepth 100000 in
set_option maxHeartbeats 800000 in
theorem line_any (m : Nat) (w : World) (hm : m < 2 ^ 24) (he : EnvT w) :
    Calls Tryz.prog 86 #[.int .u32 m] w fun e w' => e = .returned (.string (bs (Sp.told (Sp.litsOf m)))) ∧ Below w.heap.size w w' := by
  have HL := hide (cliterals_any m w hm he)
  have hLl := litsOf_len m
  have hbdx := litsOf_bd m
  generalize Sp.litsOf m = K at *
  go_enter Tryz.func86, Tryz.ntmps86
  go_wp2_with fail
  refine (unhide HL).mono ?_
  rintro e w0 ⟨v0, rfl, hown0, hb0⟩
  have hlies := lies_of_owns hown0 (by simp [ints])
  obtain ⟨ao, cp, rfl⟩ := owns_shape hown0
  clear hown0
  go_wp2_with fail
  go_loopw [3, 9] (fun v r wr => ∃ (k : Nat), k ≤ K.length ∧ r = .int .i64 k ∧ wr.ownsRow w0.heap.size 9 1 v k (strs ((K.take k).map Sp.lw)) ∧ Below w0.heap.size w0 wr)
    (fun _ r _ => K.length - (intOf r).toNat)
  case atStart => exact ⟨0, Nat.zero_le _, rfl, World.ownsRow_nil _ _ _ _, Below.refl _ _⟩
  case round =>
    obtain ⟨k, hk, rfl, hown, hbel0⟩ := hrel
    have hbel := hb0.trans (hbel0.mono hb0.size)
    have HE := hide (he.below hbel)
    by_cases hlt : k < K.length
    · have hne : ints K ≠ [] := by
        intro h; have := congrArg List.length h; simp [ints] at this; rw [this] at hlt; simp at hlt
      rcases hlies with ⟨h0, -⟩ | ⟨b, off, cap', hp, hv, hbb, hc⟩
      · exact absurd h0 hne
      · simp only [Value.slice.injEq] at hv
        obtain ⟨rfl, hv2, rfl⟩ := hv
        clear hv2
        have hcell : wr.cell? ⟨b, off + k, none⟩ = some (.int .i64 K[k]) := (hbel0.cell (p := ⟨b, off + k, none⟩) hbb).trans (hc k (.int .i64 K[k]) (by simp [ints, hlt]))
        have hxb := hbdx K[k] (List.getElem_mem hlt)
        have HS : Hid (K.take (k + 1) = K.take k ++ [K[k]]) := hide (List.take_succ_eq_append_getElem hlt)
        generalize K[k] = x at hcell HS hxb
        clear hc hbdx hne
        have HIT := hide (itoa_any x (by omega) (by omega) wr (unhide HE))
        rw [Sp.itoa_lw _ hxb.1 hxb.2.1 hxb.2.2] at HIT
        go_wp2_with fail
        refine (unhide HIT).mono ?_
        rintro e w2 ⟨rfl, hb2⟩
        have hown2 := owns_below hown hb2
        have hbel02 := hbel0.trans (hb2.mono hbel0.size)
        have hsz0 := hb0.size
        go_wp2_with (at_builtin; refine append_one rfl _ _ 177 9 rfl Tryz.underlying177 Tryz.infoStr rfl (by decide) hown2 rfl rfl rfl (by omega) (Nat.le_refl _) hbel02 ?_; intro v' w3 hown' hbel' hgr)
        go_roundw
        case rel => exact ⟨k + 1, by omega, by go_num, by rw [unhide HS]; simpa [strs] using hown', hbel'⟩
        case measure => simp [intOf]; omega
    · have HLL : Hid (K.take k = K) := hide (List.take_of_length_le (by omega))
      have hbl := toldBody_len K
      have HJ := hide (join_any _ (K.map Sp.lw) wr w0.heap.size (by rw [List.length_map]; have := hown; rw [unhide HLL, show k = K.length from by omega] at this; exact this) (by unfold Sp.toldBody at hbl; omega) (by simp; omega))
      have HJ : Hid (Calls Tryz.prog 131 #[_, .string ⟨#[32]⟩] wr fun e w' => e = .returned (.string (bs (Sp.toldBody K))) ∧ Below wr.heap.size wr w') := HJ
      have hadd : ∀ wx, (Op.stringOp .add (bs (Sp.toldBody K)) ⟨#[10]⟩).run Tryz.prog wx = .ok (.string (bs (Sp.toldBody K ++ [10]))) wx := fun wx => add_bs (Sp.toldBody K) [10] (by simp; omega) wx
      clear hown hlies hbdx
      go_wp2_with fail
      refine (unhide HJ).mono ?_
      rintro e w1 ⟨rfl, hb1⟩
      go_wp2
      go_ret
      exact ⟨rfl, hbel.trans (hb1.mono hbel.size)⟩

end Go.Proofs.YtekkkoipcghlmaaGreatDoor

namespace Go.Proofs.YtekkkoipcghlmaaGreatDoor
open Go.RowKit

/-- How many bits, by the three bytes. -/
def onesOf (m : Nat) : Nat := Lib.onesCount (m / 65536 % 256) + Lib.onesCount (m / 256 % 256) + Lib.onesCount (m % 256)

theorem and_byte (x : Nat) (h : x < 4294967296) : bits .and .u32 (x : Int) 255 = ((x % 256 : Nat) : Int) := by
  have := bits_and_u32_nat x 255 h (by decide)
  rw [show ((255 : Nat) : Int) = 255 from rfl] at this
  rw [this, show (255 : Nat) = 2 ^ 8 - 1 from rfl, Nat.and_two_pow_sub_one_eq_mod]

theorem pop_byte (a : Nat) (h : a < 256) : ∃ p : Nat, Lib.pop8 (a : Int) = (p : Int) ∧ p ≤ 8 ∧ p = Lib.onesCount a :=
  ⟨Lib.onesCount a, Lib.pop8_eq ⟨a, h⟩, Lib.onesCount_le8 ⟨a, h⟩, rfl⟩

theorem ret_i64 {a b : Int} (h : a = b) : Ending.returned (.int .i64 a) = .returned (.int .i64 b) := by rw [h]

set_option maxRecDepth 100000 in
theorem ones_any (m : Nat) (w : World) (hm : m < 2 ^ 24) :
    Calls Tryz.prog 87 #[.int .u32 m] w fun e w' => e = .returned (.int .i64 (onesOf m : Nat)) ∧ ∃ q, w' = w.drewN q := by
  have h24 : (m : Int) / 16777216 = 0 := by omega
  have e16 : bits .and .u32 ((m : Int) / 65536) 255 = ((m / 65536 % 256 : Nat) : Int) := by
    have := and_byte (m / 65536) (by omega)
    rwa [Int.natCast_ediv] at this
  have e8 : bits .and .u32 ((m : Int) / 256) 255 = ((m / 256 % 256 : Nat) : Int) := by
    have := and_byte (m / 256) (by omega)
    rwa [Int.natCast_ediv] at this
  have e0 : bits .and .u32 (m : Int) 255 = ((m % 256 : Nat) : Int) := and_byte m (by omega)
  have HO : Hid (onesOf m = Lib.onesCount (m / 65536 % 256) + Lib.onesCount (m / 256 % 256) + Lib.onesCount (m % 256)) := rfl
  have l16 : m / 65536 % 256 < 256 := by omega
  have l8 : m / 256 % 256 < 256 := by omega
  have l0 : m % 256 < 256 := by omega
  generalize m / 65536 % 256 = a at *
  generalize m / 256 % 256 = b at *
  generalize m % 256 = c at *
  have p00 : Lib.pop8 0 = 0 := by decide
  obtain ⟨pa, ha, ha8, hae⟩ := pop_byte a l16
  obtain ⟨pb, hb, hb8, hbe⟩ := pop_byte b l8
  obtain ⟨pc, hc, hc8, hce⟩ := pop_byte c l0
  rw [← hae, ← hbe, ← hce] at HO
  have ia : (a : Int) ≤ 255 := by omega
  have ib : (b : Int) ≤ 255 := by omega
  have ic : (c : Int) ≤ 255 := by omega
  clear hae hbe hce
  go_enter Tryz.func87, Tryz.ntmps87
  go_wp2
  go_quiet (fail)
  go_wp2
  go_ret
  refine ⟨ret_i64 ?_, _, rfl⟩
  rw [unhide HO]
  omega

/-- The opposites. -/
def oppMask (m : Nat) : Nat := (m &&& 5592405) * 2 ||| (m / 2 &&& 5592405)
theorem third_bit (i : Nat) (h : i < 24) : (5592405 : Nat).testBit i = (i % 2 == 0) := by
  have : ∀ k : Fin 24, (5592405 : Nat).testBit k.val = (k.val % 2 == 0) := by decide
  exact this ⟨i, h⟩
theorem oppMask_lt {m : Nat} (_hm : m < 2 ^ 24) : oppMask m < 2 ^ 24 := by
  have h1 : m &&& 5592405 ≤ 5592405 := Nat.and_le_right
  have h2 : m / 2 &&& 5592405 ≤ 5592405 := Nat.and_le_right
  exact Nat.or_lt_two_pow (by omega) (by omega)
theorem oppMask_bit {m : Nat} (_hm : m < 2 ^ 24) (i : Nat) (hi : i < 24) : (oppMask m).testBit i = m.testBit (Sp.opp i) := by
  unfold oppMask
  have e1 : (m &&& 5592405) * 2 = (m &&& 5592405) <<< 1 := by rw [Nat.shiftLeft_eq]
  have e2 : m / 2 = m >>> 1 := by rw [Nat.shiftRight_eq_div_pow]
  rw [e1, e2, Nat.testBit_or, Nat.testBit_shiftLeft, Nat.testBit_and, Nat.testBit_and, Nat.testBit_shiftRight]
  unfold Sp.opp
  by_cases he : i % 2 = 0
  · rw [if_pos he, third_bit i hi]
    have : (decide (i ≥ 1) && (m.testBit (i - 1) && (5592405 : Nat).testBit (i - 1))) = false := by
      by_cases h0 : i = 0
      · subst h0; simp
      · rw [third_bit (i - 1) (by omega)]
        have : ((i - 1) % 2 == 0) = false := by rw [beq_eq_false_iff_ne]; omega
        rw [this]; simp
    rw [this]
    have he' : (i % 2 == 0) = true := by simpa using he
    rw [he', Nat.add_comm 1 i]; simp
  · rw [if_neg he, third_bit i hi, third_bit (i - 1) (by omega)]
    have h1 : (i % 2 == 0) = false := by simpa using he
    have h2 : ((i - 1) % 2 == 0) = true := by rw [beq_iff_eq]; omega
    rw [h1, h2]
    have h3 : decide (i ≥ 1) = true := decide_eq_true (by omega)
    rw [h3]; simp
set_option maxRecDepth 100000 in
theorem opposites_any (m : Nat) (w : World) (hm : m < 2 ^ 24) :
    Calls Tryz.prog 85 #[.int .u32 m] w fun e w' => e = .returned (.int .u32 (oppMask m : Nat)) ∧ w' = w := by
  have h1 : m &&& 5592405 ≤ 5592405 := Nat.and_le_right
  have h2 : m / 2 &&& 5592405 ≤ 5592405 := Nat.and_le_right
  have e1 : bits .and .u32 (m : Int) 5592405 = ((m &&& 5592405 : Nat) : Int) := bits_and_u32_nat m 5592405 (by omega) (by decide)
  have e2 : bits .and .u32 ((m : Int) / 2) 5592405 = ((m / 2 &&& 5592405 : Nat) : Int) := by
    have := bits_and_u32_nat (m / 2) 5592405 (by omega) (by decide)
    rwa [Int.natCast_ediv] at this
  have e3 : ((m &&& 5592405 : Nat) : Int) * 2 % 4294967296 = (((m &&& 5592405) * 2 : Nat) : Int) := by omega
  have e4 : bits .or .u32 (((m &&& 5592405) * 2 : Nat) : Int) ((m / 2 &&& 5592405 : Nat) : Int) = (oppMask m : Nat) := bits_or_u32 _ _ (by omega) (by omega)
  go_enter Tryz.func85, Tryz.ntmps85
  go_wp2_with fail
  go_ret
  refine ⟨?_, rfl⟩
  show Ending.returned (.int .u32 _) = _
  rw [← e4, show (((m &&& 5592405) * 2 : Nat) : Int) = ((m &&& 5592405 : Nat) : Int) * 2 from by omega]

end Go.Proofs.YtekkkoipcghlmaaGreatDoor
