import Derived.Test.YtekkkoipcghlmabDoorJ07
import Derived.Test.YtekkkoipcghlmabDoorShelf
import Derived.Test.YtekkkoipcghlmabDoorJ01
import Derived.Lib.SplitLaws
namespace Go.Proofs.YtekkkoipcghlmabDoor
open Go.RowKit

theorem var_below {P : Program} {w w' : World} {n : String} {g : Nat} {cs : Array Value} (hg : P.globalNamed n = some g) (hv : w.var? P n = some cs) (hb : Below w.heap.size w w') : w'.var? P n = some cs := by
  unfold World.var? at hv ⊢
  rw [hg] at hv ⊢
  simp only [Option.bind_some] at hv ⊢
  have hlt : g < w.heap.size := by
    rcases Nat.lt_or_ge g w.heap.size with h' | h'
    · exact h'
    · rw [Array.getElem?_eq_none h'] at hv; cases hv
  rw [hb.block g hlt]
  exact hv

/-- The package's variables that the road reads. -/
structure Env (w : World) : Prop where
  tab : Lib.TabIs Tryd.prog w "internal/strconv.uint64pow10" .u64 Lib.pow10Tab
  syn : ∃ tp p, w.var? Tryd.prog "strconv.ErrSyntax" = some #[.iface tp p]
  rng : ∃ tp p, w.var? Tryd.prog "strconv.ErrRange" = some #[.iface tp p]
  len : 1 < w.heap.size ∧ ∃ m, w.cell? ⟨1, 0, none⟩ = some (.int .i64 m)
  brj : 2 < w.heap.size ∧ TabAt 2 Lib.deBruijn32tab w

theorem Tryd.gTab : Tryd.prog.globalNamed "internal/strconv.uint64pow10" = some 0 := by kernel_rfl
theorem Tryd.gSyn : Tryd.prog.globalNamed "strconv.ErrSyntax" = some 4 := by kernel_rfl
theorem Tryd.gRng : Tryd.prog.globalNamed "strconv.ErrRange" = some 5 := by kernel_rfl

theorem Env.below {w w' : World} (h : Env w) (hb : Below w.heap.size w w') : Env w' := by
  obtain ⟨t, p, hs⟩ := h.syn
  obtain ⟨t2, p2, hr⟩ := h.rng
  obtain ⟨hl, m, hm⟩ := h.len
  exact ⟨var_below Tryd.gTab h.tab hb, ⟨t, p, var_below Tryd.gSyn hs hb⟩, ⟨t2, p2, var_below Tryd.gRng hr hb⟩,
    ⟨Nat.lt_of_lt_of_le hl hb.size, m, (hb.cell (p := ⟨1, 0, none⟩) hl).trans hm⟩,
    ⟨Nat.lt_of_lt_of_le h.brj.1 hb.size, fun j hj => (hb.cell (p := ⟨2, j, none⟩) h.brj.1).trans (h.brj.2 j hj)⟩⟩

theorem bs_data (l : List UInt8) : (bs l).data.toList = l := by simp [bs]

theorem below_grow2 (w : World) (k : Nat) (os : Array Obj) : Below w.heap.size w (Sort.grow (w.drewN k) os) :=
  ⟨rfl, rfl, rfl, by show w.heap.size ≤ (w.heap ++ os).size; simp, fun j hj => by show (w.heap ++ os)[j]? = w.heap[j]?; rw [Array.getElem?_append_left hj]⟩

theorem itoa_any (n : Int) (h0 : -9223372036854775808 ≤ n) (h1 : n ≤ 9223372036854775807) (w : World) (he : Env w) :
    Calls Tryd.prog 12 #[.int .i64 n] w fun e w' => e = .returned (.string (bs (Lib.itoa n))) ∧ Below w.heap.size w w' := by
  refine (Tryd.strconv_Itoa n h0 h1 w he.tab).mono ?_
  rintro e w' ⟨rfl, k, os, rfl⟩
  exact ⟨rfl, below_grow2 w k os⟩

/-- What strconv.Atoi hands back. -/
theorem atoi_any (s : List UInt8) (w : World) (hs : s.length ≤ 6000) (he : Env w) :
    Calls Tryd.prog 40 #[.string (bs s)] w fun e w' => Below w.heap.size w w' ∧
      ((∃ v, Lib.atoiAll s = .ok v ∧ e = .returned (.tuple #[.int .i64 v, .nilIface])) ∨
       ((∀ v, Lib.atoiAll s ≠ .ok v) ∧ ∃ (v : Int) (N : Nat), e = .returned (.tuple #[.int .i64 v, .iface 104 (.pointer (some ⟨N, 0, none⟩))]))) := by
  have hd := bs_data s
  have hz := bs_size s
  rcases h : Lib.atoiAll s with v | _ | _
  · refine (Any.strconv_Atoi_ok Tryd.laysC172 (bs s) (by omega) v (by rw [hd]; exact h) w).mono ?_
    rintro e w' ⟨rfl, rfl | ⟨t, rfl⟩⟩
    · exact ⟨Below.refl _ _, .inl ⟨v, rfl, rfl⟩⟩
    · exact ⟨Lib.bytesWorld_below _ _ _, .inl ⟨v, rfl, rfl⟩⟩
  · obtain ⟨tp, p, hv⟩ := he.syn
    refine (Any.strconv_Atoi_syntax_var Tryd.laysC172 (bs s) (by omega) (by rw [hd]; exact h) tp p w hv).mono ?_
    rintro e w' ⟨N, rfl, _, _, hb⟩
    exact ⟨hb, .inr ⟨fun v hv => (by cases hv), 0, N, rfl⟩⟩
  · obtain ⟨tp, p, hv⟩ := he.rng
    refine (Any.strconv_Atoi_range_var Tryd.laysC172 (bs s) (by omega) (by rw [hd]; exact h) tp p w hv).mono ?_
    rintro e w' ⟨N, rfl, _, _, hb⟩
    exact ⟨hb, .inr ⟨fun v hv => (by cases hv), _, N, rfl⟩⟩

theorem atoi_bd {s : List UInt8} {v : Int} (h : Lib.atoiAll s = .ok v) : -9223372036854775808 ≤ v ∧ v ≤ 9223372036854775807 := by
  unfold Lib.atoiAll at h
  split at h
  · cases h
  · simp only at h
    split at h
    · cases h
    · cases h
    · split at h
      · cases h
      · split at h
        · cases h
        · injection h with h
          subst h
          split <;> omega

/-- The bit of a word's literal, and whether it is one. -/
def fw (s : List UInt8) : Int := if Sp.lit s = 0 then 0 else (Sp.bit (Sp.lit s) : Int)
def fwOk (s : List UInt8) : Bool := Sp.lit s != 0
theorem fw_no {s : List UInt8} (h : Sp.lit s = 0) : fw s = 0 ∧ fwOk s = false := by unfold fw fwOk; rw [h]; exact ⟨rfl, rfl⟩
theorem fw_yes {s : List UInt8} (h : Sp.lit s ≠ 0) : fw s = (Sp.bit (Sp.lit s) : Int) ∧ fwOk s = true := by unfold fw fwOk; exact ⟨if_neg h, by simpa using h⟩

set_option maxRecDepth 100000 in
set_option maxHeartbeats 400000 in
theorem fromWord_any (s : List UInt8) (w : World) (hs : s.length ≤ 6000) (he : Env w) :
    Calls Tryd.prog 30 #[.string (bs s)] w fun e w' => Below w.heap.size w w' ∧
      e = .returned (.tuple #[.int .u32 (fw s), .bool (fwOk s)]) := by
  have HA := hide (atoi_any s w hs he)
  go_enter Tryd.func30, Tryd.ntmps30
  go_wp2_with fail
  refine (unhide HA).mono ?_
  rintro e w1 ⟨hb1, ⟨v, hv, rfl⟩ | ⟨hno, v, N, rfl⟩⟩
  · have HE := hide (he.below hb1)
    have hbd := atoi_bd hv
    have HV := hide hv
    clear hv
    go_wp2_with fail
    refine (itoa_any v hbd.1 hbd.2 w1 (unhide HE)).mono ?_
    rintro e w2 ⟨rfl, hb2⟩
    by_cases hi : Lib.itoa v = s
    · have ht : ((bs (Lib.itoa v)).toList == (bs s).toList) = true := by rw [hi]; simp
      have HI := hide hi
      have HF := hide (Sp.fromWord_ok s v (unhide HV) hi)
      clear hi
      by_cases hr : -12 ≤ v ∧ v ≤ 12
      · rw [if_pos hr] at HF
        by_cases h0 : v = 0
        · have HO := hide (of_no v w2 (.inl h0))
          have HZ := hide ((unhide HF).trans h0)
          clear h0
          go_wp2_with fail
          refine (unhide HO).mono ?_
          rintro e w3 ⟨rfl, rfl⟩
          go_wp2
          go_ret2
          exact ⟨hb1.trans (hb2.mono hb1.size), by rw [(fw_no (unhide HZ)).1, (fw_no (unhide HZ)).2]; rfl⟩
        · have HO := hide (of_yes v w2 hr.1 hr.2 h0)
          have HZ : Hid (Sp.lit s ≠ 0) := hide (by rw [unhide HF]; exact h0)
          clear h0
          go_wp2_with fail
          refine (unhide HO).mono ?_
          rintro e w3 ⟨rfl, rfl⟩
          go_wp2
          go_ret2
          exact ⟨hb1.trans (hb2.mono hb1.size), by rw [(fw_yes (unhide HZ)).1, (fw_yes (unhide HZ)).2, unhide HF]; rfl⟩
      · rw [if_neg hr] at HF
        have HO := hide (of_no v w2 (by omega))
        clear hr
        go_wp2_with fail
        refine (unhide HO).mono ?_
        rintro e w3 ⟨rfl, rfl⟩
        go_wp2
        go_ret2
        exact ⟨hb1.trans (hb2.mono hb1.size), by rw [(fw_no (unhide HF)).1, (fw_no (unhide HF)).2]; rfl⟩
    · have ht : ((bs (Lib.itoa v)).toList == (bs s).toList) = false := by rw [bs_toList, bs_toList]; simpa using hi
      have HF := hide (Sp.fromWord_other s v (unhide HV) hi)
      clear hi
      go_wp2
      go_ret2
      exact ⟨hb1.trans (hb2.mono hb1.size), by rw [(fw_no (unhide HF)).1, (fw_no (unhide HF)).2]; rfl⟩
  · have HF := hide (Sp.fromWord_bad s hno)
    clear hno
    go_wp2
    go_ret2
    exact ⟨hb1, by rw [(fw_no (unhide HF)).1, (fw_no (unhide HF)).2]; rfl⟩

end Go.Proofs.YtekkkoipcghlmabDoor

namespace Go.Proofs.YtekkkoipcghlmabDoor
open Go.RowKit

theorem bits_or_u32 (a b : Nat) (ha : a < 4294967296) (hb : b < 4294967296) : bits .or .u32 (a : Int) (b : Int) = ((a ||| b : Nat) : Int) := by
  have hx : a ||| b < 2 ^ 32 := Nat.or_lt_two_pow (by omega) (by omega)
  have h1 : (BitVec.ofInt 32 (a : Int)).toNat = a := by
    rw [BitVec.ofInt_natCast, BitVec.toNat_ofNat]; exact Nat.mod_eq_of_lt (by omega)
  have h2 : (BitVec.ofInt 32 (b : Int)).toNat = b := by
    rw [BitVec.ofInt_natCast, BitVec.toNat_ofNat]; exact Nat.mod_eq_of_lt (by omega)
  show IntKind.u32.wrap ((BitVec.ofInt 32 (a : Int) ||| BitVec.ofInt 32 (b : Int)).toNat : Int) = _
  rw [BitVec.toNat_or, h1, h2, wrap_u32']
  omega

set_option maxRecDepth 100000 in
set_option maxHeartbeats 400000 in
theorem unionS_any (v : Value) (ws : List (List UInt8)) (w : World) (hl : ws.length ≤ 10000000) (hw : ∀ x, x ∈ ws → x.length ≤ 6000) (hv : Lies w v (strs ws)) (he : Env w) :
    Calls Tryd.prog 29 #[v, .func (.func 30) #[] #[]] w fun e w' => Below w.heap.size w w' ∧
      ((allLit ws = false ∧ e = .returned (.tuple #[.int .u32 0, .bool false])) ∨ (allLit ws = true ∧ e = .returned (.tuple #[.int .u32 (Sp.maskOf (ws.map Sp.lit) : Int), .bool true]))) := by
  rcases hv with ⟨h0, ao, cap, rfl⟩ | ⟨b, off, cap, hp, rfl, hb, hc⟩
  · have hx0 : ws = [] := by simpa [strs] using h0
    subst hx0
    go_enter Tryd.func29, Tryd.ntmps29
    go_wp2
    refine wp_loop_rounds 1 ?_
    rw [rounds_succ]
    go_wp2
    go_ret2
    exact ⟨Below.refl _ _, .inr ⟨rfl, rfl⟩⟩
  · have hlen : (strs ws).length = ws.length := by simp [strs]
    rw [hlen] at hp ⊢
    go_enter Tryd.func29, Tryd.ntmps29
    go_wp2
    go_loopw [6, 13] (fun m i wr => ∃ k : Nat, k ≤ ws.length ∧ i = .int .i64 k ∧ m = .int .u32 (Sp.maskOf ((ws.take k).map Sp.lit) : Int) ∧ Below w.heap.size w wr ∧ Hid (allLit (ws.take k) = true)) (fun _ i _ => ws.length - (intOf i).toNat)
    case atStart => exact ⟨0, Nat.zero_le _, rfl, rfl, Below.refl _ _, rfl⟩
    case round =>
      obtain ⟨k, hk, rfl, rfl, hbel, HA⟩ := hrel
      by_cases hlt : k < ws.length
      · have hcell : wr.cell? ⟨b, off + k, none⟩ = some (.string (bs ws[k])) := (hbel.cell (p := ⟨b, off + k, none⟩) hb).trans (hc k (.string (bs ws[k])) (by simp [strs, hlt]))
        have hxl := hw ws[k] (List.getElem_mem hlt)
        have HM : Hid (ws[k] ∈ ws) := hide (List.getElem_mem hlt)
        have HS : Hid (ws.take (k + 1) = ws.take k ++ [ws[k]]) := hide (List.take_succ_eq_append_getElem hlt)
        generalize ws[k] = x at hcell HS hxl HM
        clear hc hw
        have HW := hide (fromWord_any x wr hxl (he.below hbel))
        have hbd := Sp.lit_bd x
        by_cases hz : Sp.lit x = 0
        · rw [(fw_no hz).1, (fw_no hz).2] at HW
          have HZ := hide hz
          clear hz
          go_wp2_with fail
          refine (unhide HW).mono ?_
          rintro e w1 ⟨hb1, rfl⟩
          go_wp2
          go_ret2
          have hfalse : allLit ws = false := by
            rw [allLit, List.all_eq_false]
            exact ⟨x, unhide HM, by simp [unhide HZ]⟩
          exact ⟨hbel.trans (hb1.mono hbel.size), .inl ⟨hfalse, rfl⟩⟩
        · rw [(fw_yes hz).1, (fw_yes hz).2] at HW
          have HZ := hide hz
          clear hz
          have HMB : Hid (Sp.maskOf ((ws.take (k + 1)).map Sp.lit) = Sp.maskOf ((ws.take k).map Sp.lit) ||| Sp.bit (Sp.lit x)) := hide (by rw [unhide HS, List.map_append, ← Sp.maskOf_snoc]; rfl)
          have hm1 : Sp.maskOf ((ws.take k).map Sp.lit) < 2 ^ 24 := Sp.maskOf_lt _ (fun y hy => by obtain ⟨z, _, rfl⟩ := List.mem_map.1 hy; exact Sp.lit_bd z)
          have hm2 : Sp.bit (Sp.lit x) < 2 ^ 24 := Nat.pow_lt_pow_right (by decide) (Sp.bitIx_lt _ hbd)
          generalize Sp.maskOf ((ws.take k).map Sp.lit) = m1 at *
          generalize Sp.bit (Sp.lit x) = m2 at *
          have HOR : Hid (bits BinOp.or IntKind.u32 (m1 : Int) (m2 : Int) = ((m1 ||| m2 : Nat) : Int)) := hide (bits_or_u32 m1 m2 (Nat.lt_trans hm1 (by decide)) (Nat.lt_trans hm2 (by decide)))
          go_wp2_with fail
          refine (unhide HW).mono ?_
          rintro e w1 ⟨hb1, rfl⟩
          go_wp2
          go_roundw
          case rel => exact ⟨k + 1, by omega, by go_num, by rw [unhide HMB, ← unhide HOR], hbel.trans (hb1.mono hbel.size), hide (by rw [unhide HS]; have := unhide HA; simp [allLit] at this ⊢; exact ⟨this, unhide HZ⟩)⟩
          case measure => simp [intOf]; omega
      · have HT : Hid (ws.take k = ws) := hide (List.take_of_length_le (by omega))
        go_wp2
        go_ret2
        have htrue : allLit ws = true := by rw [← unhide HT]; exact unhide HA
        exact ⟨hbel, .inr ⟨htrue, by rw [unhide HT]; rfl⟩⟩

set_option maxRecDepth 100000 in
set_option maxHeartbeats 400000 in
theorem fromWords_any (v : Value) (ws : List (List UInt8)) (w : World) (hl : ws.length ≤ 10000000) (hw : ∀ x, x ∈ ws → x.length ≤ 6000) (hv : Lies w v (strs ws)) (he : Env w) :
    Calls Tryd.prog 19 #[v] w fun e w' => Below w.heap.size w w' ∧
      ((allLit ws = false ∧ e = .returned (.tuple #[.int .u32 0, .bool false])) ∨ (allLit ws = true ∧ e = .returned (.tuple #[.int .u32 (Sp.maskOf (ws.map Sp.lit) : Int), .bool true]))) := by
  have HU := hide (unionS_any v ws w hl hw hv he)
  generalize allLit ws = al at *
  generalize Sp.maskOf (ws.map Sp.lit) = mk at *
  clear hw hv hl
  go_enter Tryd.func19, Tryd.ntmps19
  go_wp2_with fail
  refine (unhide HU).mono ?_
  rintro e w1 ⟨hb1, ⟨h1, rfl⟩ | ⟨h1, rfl⟩⟩
  · have H1 := hide h1
    clear h1
    go_wp2
    go_ret2
    exact ⟨hb1, .inl ⟨unhide H1, rfl⟩⟩
  · have H1 := hide h1
    clear h1
    go_wp2
    go_ret2
    exact ⟨hb1, .inr ⟨unhide H1, rfl⟩⟩

end Go.Proofs.YtekkkoipcghlmabDoor

namespace Go.Proofs.YtekkkoipcghlmabDoor
open Go.RowKit

theorem words_index (x : List UInt8) : (Lib.index x [32] = -1 ∧ ∀ cur, Sp.wordsAux cur x = [cur ++ x]) ∨
    ∃ i : Nat, Lib.index x [32] = i ∧ i < x.length ∧ ∀ cur, Sp.wordsAux cur x = (cur ++ x.take i) :: Sp.wordsAux [] (x.drop (i + 1)) := by
  induction x with
  | nil => exact .inl ⟨rfl, fun cur => by simp [Sp.wordsAux]⟩
  | cons b l ih =>
    by_cases hb : b = 32
    · subst hb
      exact .inr ⟨0, by simp [Lib.index], by simp, fun cur => by simp [Sp.wordsAux]⟩
    · have hp : ([32] : List UInt8).isPrefixOf (b :: l) = false := by
        simp [List.isPrefixOf]; exact fun h => hb h.symm
      rcases ih with ⟨h1, h2⟩ | ⟨i, h1, h2, h3⟩
      · refine .inl ⟨by unfold Lib.index; rw [hp, h1]; rfl, fun cur => ?_⟩
        unfold Sp.wordsAux
        rw [if_neg hb, h2]
        simp
      · refine .inr ⟨i + 1, ?_, by simp; omega, fun cur => ?_⟩
        · unfold Lib.index
          rw [hp, h1]
          have : ((i : Int) == -1) = false := by rw [beq_eq_false_iff_ne]; omega
          simp [this]
        · conv => lhs; unfold Sp.wordsAux
          rw [if_neg hb, h3]
          simp

theorem indexB_bs (x y : List UInt8) : Lib.indexB (bs x) (bs y) = Lib.index x y := by
  show Lib.index (bs x).data.toList (bs y).data.toList = _
  simp [bs]

theorem split_bs : ∀ (n : Nat) (x : List UInt8), x.length ≤ n → Lib.splitB (bs [32]) 0 (Lib.countB (bs x) (bs [32])) (bs x) = (Sp.wordsAux [] x).map bs := by
  intro n
  have h1 : 1 ≤ (bs [32]).size := by rw [bs_size]; simp
  have hz : (bs [32]).size = 1 := by rw [bs_size]; simp
  induction n with
  | zero =>
    intro x hx
    have : x = [] := List.length_eq_zero_iff.1 (by omega)
    subst this
    have hi : Lib.indexB (bs []) (bs [32]) = -1 := by rw [indexB_bs]; rfl
    rw [Lib.countB_miss _ _ hi, Lib.splitB_miss _ _ _ _ hi]; rfl
  | succ n ih =>
    intro x hx
    rcases words_index x with ⟨h2, h3⟩ | ⟨i, h2, h3, h4⟩
    · have hi : Lib.indexB (bs x) (bs [32]) = -1 := by rw [indexB_bs]; exact h2
      rw [Lib.splitB_miss _ _ _ _ hi, h3]
      simp
    · have hi : Lib.indexB (bs x) (bs [32]) = i := by rw [indexB_bs]; exact h2
      have hcut : (bs x).extract (i + 1) (bs x).size = bs (x.drop (i + 1)) := by
        rw [bs_extract, bs_size, List.take_of_length_le (by simp)]
      rw [Lib.countB_hit _ _ i h1 hi, hz, hcut, Nat.add_comm 1]
      unfold Lib.splitB
      have : ((i : Int) == -1) = false := by rw [beq_eq_false_iff_ne]; omega
      rw [hi, this]
      simp only [Bool.false_eq_true, if_false, Int.toNat_natCast, Nat.add_zero, hz]
      rw [hcut, ih _ (by simp; omega), h4, bs_extract]
      simp

end Go.Proofs.YtekkkoipcghlmabDoor
