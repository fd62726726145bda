import Derived.Test.YtekkkoipcghlmaaGreatDoorV01
import Derived.Test.YtekkkoipcghlmaaGreatDoorShelf
import Derived.Lib.BitFns
set_option linter.all false
namespace Go.Proofs.YtekkkoipcghlmaaGreatDoor
open Go.RowKit

theorem var_below {P : Program} {w w' : World} {n : String} {g : Nat} {cs : Array Value} (hg : P.globalNamed n = some g) (hv : w.var? P n = some cs) (hb : Below w.heap.size w w') : w'.var? P n = some cs := by
  unfold World.var? at hv ⊢
  rw [hg] at hv ⊢
  simp only [Option.bind_some] at hv ⊢
  have hlt : g < w.heap.size := by
    rcases Nat.lt_or_ge g w.heap.size with h' | h'
    · exact h'
    · rw [Array.getElem?_eq_none h'] at hv; cases hv
  rw [hb.block g hlt]
  exact hv

/-- The package's variables that the road reads. -/
structure EnvT (w : World) : Prop where
  tab : Lib.TabIs Tryz.prog w "internal/strconv.uint64pow10" .u64 Lib.pow10Tab
  brj : 0 < w.heap.size ∧ TabAt 0 Lib.deBruijn32tab w
structure Env (w : World) : Prop extends EnvT w where
  syn : ∃ tp p, w.var? Tryz.prog "strconv.ErrSyntax" = some #[.iface tp p]
  rng : ∃ tp p, w.var? Tryz.prog "strconv.ErrRange" = some #[.iface tp p]
  len : 2 < w.heap.size ∧ ∃ m, w.cell? ⟨2, 0, none⟩ = some (.int .i64 m)

theorem Tryz.gTab : Tryz.prog.globalNamed "internal/strconv.uint64pow10" = some 1 := by kernel_rfl
theorem Tryz.gSyn : Tryz.prog.globalNamed "strconv.ErrSyntax" = some 4 := by kernel_rfl
theorem Tryz.gRng : Tryz.prog.globalNamed "strconv.ErrRange" = some 5 := by kernel_rfl

theorem EnvT.below {w w' : World} (h : EnvT w) (hb : Below w.heap.size w w') : EnvT w' :=
  ⟨var_below Tryz.gTab h.tab hb, ⟨Nat.lt_of_lt_of_le h.brj.1 hb.size, fun j hj => (hb.cell (p := ⟨0, j, none⟩) h.brj.1).trans (h.brj.2 j hj)⟩⟩
theorem Env.below {w w' : World} (h : Env w) (hb : Below w.heap.size w w') : Env w' := by
  obtain ⟨t, p, hs⟩ := h.syn
  obtain ⟨t2, p2, hr⟩ := h.rng
  obtain ⟨hl, m, hm⟩ := h.len
  exact ⟨h.toEnvT.below hb, ⟨t, p, var_below Tryz.gSyn hs hb⟩, ⟨t2, p2, var_below Tryz.gRng hr hb⟩,
    ⟨Nat.lt_of_lt_of_le hl hb.size, m, (hb.cell (p := ⟨2, 0, none⟩) hl).trans hm⟩⟩

theorem bs_data (l : List UInt8) : (bs l).data.toList = l := by simp [bs]

theorem below_grow2 (w : World) (k : Nat) (os : Array Obj) : Below w.heap.size w (Sort.grow (w.drewN k) os) :=
  ⟨rfl, rfl, rfl, by show w.heap.size ≤ (w.heap ++ os).size; simp, fun j hj => by show (w.heap ++ os)[j]? = w.heap[j]?; rw [Array.getElem?_append_left hj]⟩

theorem itoa_any (n : Int) (h0 : -9223372036854775808 ≤ n) (h1 : n ≤ 9223372036854775807) (w : World) (he : EnvT w) :
    Calls Tryz.prog 90 #[.int .i64 n] w fun e w' => e = .returned (.string (bs (Lib.itoa n))) ∧ Below w.heap.size w w' := by
  refine (Tryz.strconv_Itoa n h0 h1 w he.tab).mono ?_
  rintro e w' ⟨rfl, k, os, rfl⟩
  exact ⟨rfl, below_grow2 w k os⟩

/-- What strconv.Atoi hands back. -/
theorem atoi_any (s : List UInt8) (w : World) (hs : s.length ≤ 6000) (he : Env w) :
    Calls Tryz.prog 194 #[.string (bs s)] w fun e w' => Below w.heap.size w w' ∧
      ((∃ v, Lib.atoiAll s = .ok v ∧ e = .returned (.tuple #[.int .i64 v, .nilIface])) ∨
       ((∀ v, Lib.atoiAll s ≠ .ok v) ∧ ∃ (v : Int) (N : Nat), e = .returned (.tuple #[.int .i64 v, .iface 249 (.pointer (some ⟨N, 0, none⟩))]))) := by
  have hd := bs_data s
  have hz := bs_size s
  rcases h : Lib.atoiAll s with v | _ | _
  · refine (Any.strconv_Atoi_ok Tryz.laysC172 (bs s) (by omega) v (by rw [hd]; exact h) w).mono ?_
    rintro e w' ⟨rfl, rfl | ⟨t, rfl⟩⟩
    · exact ⟨Below.refl _ _, .inl ⟨v, rfl, rfl⟩⟩
    · exact ⟨Lib.bytesWorld_below _ _ _, .inl ⟨v, rfl, rfl⟩⟩
  · obtain ⟨tp, p, hv⟩ := he.syn
    refine (Any.strconv_Atoi_syntax_var Tryz.laysC172 (bs s) (by omega) (by rw [hd]; exact h) tp p w hv).mono ?_
    rintro e w' ⟨N, rfl, _, _, hb⟩
    exact ⟨hb, .inr ⟨fun v hv => (by cases hv), 0, N, rfl⟩⟩
  · obtain ⟨tp, p, hv⟩ := he.rng
    refine (Any.strconv_Atoi_range_var Tryz.laysC172 (bs s) (by omega) (by rw [hd]; exact h) tp p w hv).mono ?_
    rintro e w' ⟨N, rfl, _, _, hb⟩
    exact ⟨hb, .inr ⟨fun v hv => (by cases hv), _, N, rfl⟩⟩

theorem atoi_bd {s : List UInt8} {v : Int} (h : Lib.atoiAll s = .ok v) : -9223372036854775808 ≤ v ∧ v ≤ 9223372036854775807 := by
  unfold Lib.atoiAll at h
  split at h
  · cases h
  · simp only at h
    split at h
    · cases h
    · cases h
    · split at h
      · cases h
      · split at h
        · cases h
        · injection h with h
          subst h
          split <;> omega

/-- The bit of a word's literal, and whether it is one. -/
def fw (s : List UInt8) : Int := if Sp.lit s = 0 then 0 else (Sp.bit (Sp.lit s) : Int)
def fwOk (s : List UInt8) : Bool := Sp.lit s != 0
theorem fw_no {s : List UInt8} (h : Sp.lit s = 0) : fw s = 0 ∧ fwOk s = false := by unfold fw fwOk; rw [h]; exact ⟨rfl, rfl⟩
theorem fw_yes {s : List UInt8} (h : Sp.lit s ≠ 0) : fw s = (Sp.bit (Sp.lit s) : Int) ∧ fwOk s = true := by unfold fw fwOk; exact ⟨if_neg h, by simpa using h⟩

set_option maxRecDepth 100000 in
set_option maxHeartbeats 400000 in
theorem fromWord_any (s : List UInt8) (w : World) (hs : s.length ≤ 6000) (he : Env w) :
    Calls Tryz.prog 177 #[.string (bs s)] w fun e w' => Below w.heap.size w w' ∧
      e = .returned (.tuple #[.int .u32 (fw s), .bool (fwOk s)]) := by
  have HA := hide (atoi_any s w hs he)
  go_enter Tryz.func177, Tryz.ntmps177
  go_wp2_with fail
  refine (unhide HA).mono ?_
  rintro e w1 ⟨hb1, ⟨v, hv, rfl⟩ | ⟨hno, v, N, rfl⟩⟩
  · have HE := hide (he.below hb1)
    have hbd := atoi_bd hv
    have HV := hide hv
    clear hv
    go_wp2_with fail
    refine (itoa_any v hbd.1 hbd.2 w1 (unhide HE).toEnvT).mono ?_
    rintro e w2 ⟨rfl, hb2⟩
    by_cases hi : Lib.itoa v = s
    · have ht : ((bs (Lib.itoa v)).toList == (bs s).toList) = true := by rw [hi]; simp
      have HI := hide hi
      have HF := hide (Sp.fromWord_ok s v (unhide HV) hi)
      clear hi
      by_cases hr : -12 ≤ v ∧ v ≤ 12
      · rw [if_pos hr] at HF
        by_cases h0 : v = 0
        · have HO := hide (of_no v w2 (.inl h0))
          have HZ := hide ((unhide HF).trans h0)
          clear h0
          go_wp2_with fail
          refine (unhide HO).mono ?_
          rintro e w3 ⟨rfl, rfl⟩
          go_wp2
          go_ret2
          exact ⟨hb1.trans (hb2.mono hb1.size), by rw [(fw_no (unhide HZ)).1, (fw_no (unhide HZ)).2]; rfl⟩
        · have HO := hide (of_yes v w2 hr.1 hr.2 h0)
          have HZ : Hid (Sp.lit s ≠ 0) := hide (by rw [unhide HF]; exact h0)
          clear h0
          go_wp2_with fail
          refine (unhide HO).mono ?_
          rintro e w3 ⟨rfl, rfl⟩
          go_wp2
          go_ret2
          exact ⟨hb1.trans (hb2.mono hb1.size), by rw [(fw_yes (unhide HZ)).1, (fw_yes (unhide HZ)).2, unhide HF]; rfl⟩
      · rw [if_neg hr] at HF
        have HO := hide (of_no v w2 (by omega))
        clear hr
        go_wp2_with fail
        refine (unhide HO).mono ?_
        rintro e w3 ⟨rfl, rfl⟩
        go_wp2
        go_ret2
        exact ⟨hb1.trans (hb2.mono hb1.size), by rw [(fw_no (unhide HF)).1, (fw_no (unhide HF)).2]; rfl⟩
    · have ht : ((bs (Lib.itoa v)).toList == (bs s).toList) = false := by rw [bs_toList, bs_toList]; simpa using hi
      have HF := hide (Sp.fromWord_other s v (unhide HV) hi)
      clear hi
      go_wp2
      go_ret2
      exact ⟨hb1.trans (hb2.mono hb1.size), by rw [(fw_no (unhide HF)).1, (fw_no (unhide HF)).2]; rfl⟩
  · have HF := hide (Sp.fromWord_bad s hno)
    clear hno
    go_wp2
    go_ret2
    exact ⟨hb1, by rw [(fw_no (unhide HF)).1, (fw_no (unhide HF)).2]; rfl⟩

end Go.Proofs.YtekkkoipcghlmaaGreatDoor

namespace Go.Proofs.YtekkkoipcghlmaaGreatDoor
open Go.RowKit

theorem bits_or_u32 (a b : Nat) (ha : a < 4294967296) (hb : b < 4294967296) : bits .or .u32 (a : Int) (b : Int) = ((a ||| b : Nat) : Int) := by
  have hx : a ||| b < 2 ^ 32 := Nat.or_lt_two_pow (by omega) (by omega)
  have h1 : (BitVec.ofInt 32 (a : Int)).toNat = a := by
    rw [BitVec.ofInt_natCast, BitVec.toNat_ofNat]; exact Nat.mod_eq_of_lt (by omega)
  have h2 : (BitVec.ofInt 32 (b : Int)).toNat = b := by
    rw [BitVec.ofInt_natCast, BitVec.toNat_ofNat]; exact Nat.mod_eq_of_lt (by omega)
  show IntKind.u32.wrap ((BitVec.ofInt 32 (a : Int) ||| BitVec.ofInt 32 (b : Int)).toNat : Int) = _
  rw [BitVec.toNat_or, h1, h2, wrap_u32']
  omega

set_option maxRecDepth 100000 in
set_option maxHeartbeats 400000 in
theorem unionS_any (v : Value) (ws : List (List UInt8)) (w : World) (hl : ws.length ≤ 10000000) (hw : ∀ x, x ∈ ws → x.length ≤ 6000) (hv : Lies w v (strs ws)) (he : Env w) :
    Calls Tryz.prog 176 #[v, .func (.func 177) #[] #[]] w fun e w' => Below w.heap.size w w' ∧
      ((allLit ws = false ∧ e = .returned (.tuple #[.int .u32 0, .bool false])) ∨ (allLit ws = true ∧ e = .returned (.tuple #[.int .u32 (Sp.maskOf (ws.map Sp.lit) : Int), .bool true]))) := by
  rcases hv with ⟨h0, ao, cap, rfl⟩ | ⟨b, off, cap, hp, rfl, hb, hc⟩
  · have hx0 : ws = [] := by simpa [strs] using h0
    subst hx0
    go_enter Tryz.func176, Tryz.ntmps176
    go_wp2
    refine wp_loop_rounds 1 ?_
    rw [rounds_succ]
    go_wp2
    go_ret2
    exact ⟨Below.refl _ _, .inr ⟨rfl, rfl⟩⟩
  · have hlen : (strs ws).length = ws.length := by simp [strs]
    rw [hlen] at hp ⊢
    go_enter Tryz.func176, Tryz.ntmps176
    go_wp2
    go_loopw [6, 13] (fun m i wr => ∃ k : Nat, k ≤ ws.length ∧ i = .int .i64 k ∧ m = .int .u32 (Sp.maskOf ((ws.take k).map Sp.lit) : Int) ∧ Below w.heap.size w wr ∧ Hid (allLit (ws.take k) = true)) (fun _ i _ => ws.length - (intOf i).toNat)
    case atStart => exact ⟨0, Nat.zero_le _, rfl, rfl, Below.refl _ _, rfl⟩
    case round =>
      obtain ⟨k, hk, rfl, rfl, hbel, HA⟩ := hrel
      by_cases hlt : k < ws.length
      · have hcell : wr.cell? ⟨b, off + k, none⟩ = some (.string (bs ws[k])) := (hbel.cell (p := ⟨b, off + k, none⟩) hb).trans (hc k (.string (bs ws[k])) (by simp [strs, hlt]))
        have hxl := hw ws[k] (List.getElem_mem hlt)
        have HM : Hid (ws[k] ∈ ws) := hide (List.getElem_mem hlt)
        have HS : Hid (ws.take (k + 1) = ws.take k ++ [ws[k]]) := hide (List.take_succ_eq_append_getElem hlt)
        generalize ws[k] = x at hcell HS hxl HM
        clear hc hw
        have HW := hide (fromWord_any x wr hxl (he.below hbel))
        have hbd := Sp.lit_bd x
        by_cases hz : Sp.lit x = 0
        · rw [(fw_no hz).1, (fw_no hz).2] at HW
          have HZ := hide hz
          clear hz
          go_wp2_with fail
          refine (unhide HW).mono ?_
          rintro e w1 ⟨hb1, rfl⟩
          go_wp2
          go_ret2
          have hfalse : allLit ws = false := by
            rw [allLit, List.all_eq_false]
            exact ⟨x, unhide HM, by simp [unhide HZ]⟩
          exact ⟨hbel.trans (hb1.mono hbel.size), .inl ⟨hfalse, rfl⟩⟩
        · rw [(fw_yes hz).1, (fw_yes hz).2] at HW
          have HZ := hide hz
          clear hz
          have HMB : Hid (Sp.maskOf ((ws.take (k + 1)).map Sp.lit) = Sp.maskOf ((ws.take k).map Sp.lit) ||| Sp.bit (Sp.lit x)) := hide (by rw [unhide HS, List.map_append, ← Sp.maskOf_snoc]; rfl)
          have hm1 : Sp.maskOf ((ws.take k).map Sp.lit) < 2 ^ 24 := Sp.maskOf_lt _ (fun y hy => by obtain ⟨z, _, rfl⟩ := List.mem_map.1 hy; exact Sp.lit_bd z)
          have hm2 : Sp.bit (Sp.lit x) < 2 ^ 24 := Nat.pow_lt_pow_right (by decide) (Sp.bitIx_lt _ hbd)
          generalize Sp.maskOf ((ws.take k).map Sp.lit) = m1 at *
          generalize Sp.bit (Sp.lit x) = m2 at *
          have HOR : Hid (bits BinOp.or IntKind.u32 (m1 : Int) (m2 : Int) = ((m1 ||| m2 : Nat) : Int)) := hide (bits_or_u32 m1 m2 (Nat.lt_trans hm1 (by decide)) (Nat.lt_trans hm2 (by decide)))
          go_wp2_with fail
          refine (unhide HW).mono ?_
          rintro e w1 ⟨hb1, rfl⟩
          go_wp2
          go_roundw
          case rel => exact ⟨k + 1, by omega, by go_num, by rw [unhide HMB, ← unhide HOR], hbel.trans (hb1.mono hbel.size), hide (by rw [unhide HS]; have := unhide HA; simp [allLit] at this ⊢; exact ⟨this, unhide HZ⟩)⟩
          case measure => simp [intOf]; omega
      · have HT : Hid (ws.take k = ws) := hide (List.take_of_length_le (by omega))
        go_wp2
        go_ret2
        have htrue : allLit ws = true := by rw [← unhide HT]; exact unhide HA
        exact ⟨hbel, .inr ⟨htrue, by rw [unhide HT]; rfl⟩⟩

set_option maxRecDepth 100000 in
set_option maxHeartbeats 400000 in
theorem fromWords_any (v : Value) (ws : List (List UInt8)) (w : World) (hl : ws.length ≤ 10000000) (hw : ∀ x, x ∈ ws → x.length ≤ 6000) (hv : Lies w v (strs ws)) (he : Env w) :
    Calls Tryz.prog 135 #[v] w fun e w' => Below w.heap.size w w' ∧
      ((allLit ws = false ∧ e = .returned (.tuple #[.int .u32 0, .bool false])) ∨ (allLit ws = true ∧ e = .returned (.tuple #[.int .u32 (Sp.maskOf (ws.map Sp.lit) : Int), .bool true]))) := by
  have HU := hide (unionS_any v ws w hl hw hv he)
  generalize allLit ws = al at *
  generalize Sp.maskOf (ws.map Sp.lit) = mk at *
  clear hw hv hl
  go_enter Tryz.func135, Tryz.ntmps135
  go_wp2_with fail
  refine (unhide HU).mono ?_
  rintro e w1 ⟨hb1, ⟨h1, rfl⟩ | ⟨h1, rfl⟩⟩
  · have H1 := hide h1
    clear h1
    go_wp2
    go_ret2
    exact ⟨hb1, .inl ⟨unhide H1, rfl⟩⟩
  · have H1 := hide h1
    clear h1
    go_wp2
    go_ret2
    exact ⟨hb1, .inr ⟨unhide H1, rfl⟩⟩

end Go.Proofs.YtekkkoipcghlmaaGreatDoor

namespace Go.Proofs.YtekkkoipcghlmaaGreatDoor
open Go.RowKit

/-- May a number be a literal? -/
def isLit (x : Int) : Bool := x != 0 && decide (-12 ≤ x) && decide (x ≤ 12)
theorem isLit_iff {x : Int} : isLit x = true ↔ x ≠ 0 ∧ -12 ≤ x ∧ x ≤ 12 := by simp [isLit, and_assoc]
def allInt (xs : List Int) : Bool := xs.all isLit

set_option maxRecDepth 100000 in
set_option maxHeartbeats 400000 in
theorem unionI_any (v : Value) (xs : List Int) (w : World) (hl : xs.length ≤ 10000000) (hv : Lies w v (ints xs)) :
    Calls Tryz.prog 61 #[v, .func (.func 62) #[] #[]] w fun e w' => w' = w ∧
      ((allInt xs = false ∧ e = .returned (.tuple #[.int .u32 0, .bool false])) ∨ (allInt xs = true ∧ e = .returned (.tuple #[.int .u32 (Sp.maskOf xs : Int), .bool true]))) := by
  rcases hv with ⟨h0, ao, cap, rfl⟩ | ⟨b, off, cap, hp, rfl, hb, hc⟩
  · have hx0 : xs = [] := by simpa [ints] using h0
    subst hx0
    go_enter Tryz.func61, Tryz.ntmps61
    go_wp2
    refine wp_loop_rounds 1 ?_
    rw [rounds_succ]
    go_wp2
    go_ret2
    exact ⟨rfl, .inr ⟨rfl, rfl⟩⟩
  · have hlen : (ints xs).length = xs.length := by simp [ints]
    rw [hlen] at hp ⊢
    go_enter Tryz.func61, Tryz.ntmps61
    go_wp2
    go_loop [6, 13] (fun m i => ∃ k : Nat, k ≤ xs.length ∧ i = .int .i64 k ∧ m = .int .u32 (Sp.maskOf (xs.take k) : Int) ∧ Hid (allInt (xs.take k) = true)) (fun _ i => xs.length - (intOf i).toNat)
    case atStart => exact ⟨0, Nat.zero_le _, rfl, rfl, rfl⟩
    case round =>
      obtain ⟨k, hk, rfl, rfl, HA⟩ := hrel
      by_cases hlt : k < xs.length
      · have hcell := hc k (.int .i64 xs[k]) (by simp [ints, hlt])
        have HM : Hid (xs[k] ∈ xs) := hide (List.getElem_mem hlt)
        have HS : Hid (xs.take (k + 1) = xs.take k ++ [xs[k]]) := hide (List.take_succ_eq_append_getElem hlt)
        generalize xs[k] = x at hcell HS HM
        clear hc
        cases hz : isLit x
        · have HW := hide (fun wx => of_no x wx (by
            have : ¬ (x ≠ 0 ∧ -12 ≤ x ∧ x ≤ 12) := fun h => by rw [isLit_iff.2 h] at hz; cases hz
            omega))
          have HZ := hide hz
          clear hz
          go_wp2_with fail
          refine (unhide HW _).mono ?_
          rintro e w1 ⟨rfl, rfl⟩
          go_wp2
          go_ret2
          have hfalse : allInt xs = false := by
            rw [allInt, List.all_eq_false]
            exact ⟨x, unhide HM, by rw [unhide HZ]; decide⟩
          exact ⟨rfl, .inl ⟨hfalse, rfl⟩⟩
        · have hbd := isLit_iff.1 hz
          have HW := hide (fun wx => of_yes x wx hbd.2.1 hbd.2.2 hbd.1)
          have HZ := hide hz
          clear hz
          have HMB : Hid (Sp.maskOf (xs.take (k + 1)) = Sp.maskOf (xs.take k) ||| Sp.bit x) := hide (by rw [unhide HS, ← Sp.maskOf_snoc])
          have hm1 : Sp.maskOf (xs.take k) < 2 ^ 24 := Sp.maskOf_lt _ (fun y hy => by
            have h1 := unhide HA
            rw [allInt, List.all_eq_true] at h1
            have := isLit_iff.1 (h1 y hy)
            omega)
          have hm2 : Sp.bit x < 2 ^ 24 := Nat.pow_lt_pow_right (by decide) (Sp.bitIx_lt _ (by omega))
          generalize Sp.maskOf (xs.take k) = m1 at *
          generalize Sp.bit x = m2 at *
          have HOR : Hid (bits BinOp.or IntKind.u32 (m1 : Int) (m2 : Int) = ((m1 ||| m2 : Nat) : Int)) := hide (bits_or_u32 m1 m2 (Nat.lt_trans hm1 (by decide)) (Nat.lt_trans hm2 (by decide)))
          go_wp2_with fail
          refine (unhide HW _).mono ?_
          rintro e w1 ⟨rfl, rfl⟩
          go_wp2
          go_round
          case rel => exact ⟨k + 1, by omega, by go_num, by rw [unhide HMB, ← unhide HOR], hide (by rw [unhide HS]; have := unhide HA; simp [allInt] at this ⊢; exact ⟨this, unhide HZ⟩)⟩
          case measure => simp [intOf]; omega
      · have HT : Hid (xs.take k = xs) := hide (List.take_of_length_le (by omega))
        go_wp2
        go_ret2
        have htrue : allInt xs = true := by rw [← unhide HT]; exact unhide HA
        exact ⟨rfl, .inr ⟨htrue, by rw [unhide HT]; rfl⟩⟩

set_option maxRecDepth 100000 in
set_option maxHeartbeats 400000 in
theorem fromNumbers_any (v : Value) (xs : List Int) (w : World) (hl : xs.length ≤ 10000000) (hv : Lies w v (ints xs)) :
    Calls Tryz.prog 38 #[v] w fun e w' => w' = w ∧
      ((allInt xs = false ∧ e = .returned (.tuple #[.int .u32 0, .bool false])) ∨ (allInt xs = true ∧ e = .returned (.tuple #[.int .u32 (Sp.maskOf xs : Int), .bool true]))) := by
  have HU := hide (unionI_any v xs w hl hv)
  generalize allInt xs = al at *
  generalize Sp.maskOf xs = mk at *
  clear hv hl
  go_enter Tryz.func38, Tryz.ntmps38
  go_wp2_with fail
  refine (unhide HU).mono ?_
  rintro e w1 ⟨rfl, ⟨h1, rfl⟩ | ⟨h1, rfl⟩⟩
  · have H1 := hide h1
    clear h1
    go_wp2
    go_ret2
    exact ⟨rfl, .inl ⟨unhide H1, rfl⟩⟩
  · have H1 := hide h1
    clear h1
    go_wp2
    go_ret2
    exact ⟨rfl, .inr ⟨unhide H1, rfl⟩⟩

end Go.Proofs.YtekkkoipcghlmaaGreatDoor

namespace Go.Proofs.YtekkkoipcghlmaaGreatDoor.Sp

/-- The opposite literal's place. -/
def opp (i : Nat) : Nat := if i % 2 = 0 then i + 1 else i - 1
theorem opp_lt {i : Nat} (h : i < 24) : opp i < 24 := by unfold opp; split <;> omega
theorem litAt_opp (i : Nat) : litAt (opp i) = - litAt i := by
  unfold litAt opp
  by_cases h : i % 2 = 0
  · rw [if_pos h, if_neg (by omega), if_pos h, show (i + 1) / 2 = i / 2 from by omega]
  · rw [if_neg h, if_pos (by omega), if_neg h, show (i - 1) / 2 = i / 2 from by omega, Int.neg_neg]
theorem litAt_inj {i j : Nat} (h : litAt i = litAt j) : i = j := by
  unfold litAt at h
  split at h <;> split at h <;> omega

/-- Sets of literals, by their places: U is closed under what comes of the clauses L, and there is no conflict. -/
def Stable (L : List Nat) (U : Nat → Prop) : Prop :=
  ∀ c, c ∈ L → (∃ i, c.testBit i = true ∧ ¬ U i) ∧ ∀ i, c.testBit i = true → ¬ U i → (∀ j, c.testBit j = true → j ≠ i → U j) → U (opp i)

/-- A clause m follows from the clauses L. -/
def Fol (L : List Nat) (m : Nat) : Prop :=
  (∃ i, m.testBit i = true ∧ m.testBit (opp i) = true) ∨ ∀ U : Nat → Prop, (∀ i, m.testBit i = true → U i) → ¬ Stable L U

theorem mem_litsOf (m : Nat) (i : Nat) (hi : i < 24) : litAt i ∈ litsOf m ↔ m.testBit i = true := by
  unfold litsOf
  rw [List.mem_map]
  constructor
  · rintro ⟨j, hj, hl⟩
    have := litAt_inj hl
    subst this
    exact (List.mem_filter.1 hj).2
  · intro h
    exact ⟨i, List.mem_filter.2 ⟨List.mem_range.2 hi, h⟩, rfl⟩
theorem litsOf_mem {m : Nat} {x : Int} (h : x ∈ litsOf m) : ∃ i, i < 24 ∧ x = litAt i ∧ m.testBit i = true := by
  unfold litsOf at h
  obtain ⟨i, hi, rfl⟩ := List.mem_map.1 h
  have := List.mem_filter.1 hi
  exact ⟨i, List.mem_range.1 this.1, rfl, this.2⟩
theorem litsOf_inj {m m' : Nat} (h1 : m < 2 ^ 24) (h2 : m' < 2 ^ 24) (h : litsOf m = litsOf m') : m = m' := by
  apply Nat.eq_of_testBit_eq
  intro i
  by_cases hi : i < 24
  · rw [Bool.eq_iff_iff, ← mem_litsOf m i hi, ← mem_litsOf m' i hi, h]
  · rw [Nat.testBit_lt_two_pow (Nat.lt_of_lt_of_le h1 (Nat.pow_le_pow_right (by decide) (by omega))), Nat.testBit_lt_two_pow (Nat.lt_of_lt_of_le h2 (Nat.pow_le_pow_right (by decide) (by omega)))]

/-- The step of a line: does a clause go; its words. -/
def stepOf (y : List UInt8) : Bool × List (List UInt8) :=
  match words y with
  | w0 :: r => if w0 = [100] then (true, r) else (false, w0 :: r)
  | [] => (false, [])
def stepMask (y : List UInt8) : Nat := maskOf ((stepOf y).2.map lit)
def stepOk (x : List UInt8 × Bool) : Bool := ((stepOf x.1).2.all fun w => lit w != 0) && x.2

/-- What a proof comes to, step by step: the error, and the step's number. -/
def Outcome (L : List Nat) (n : Nat) : List (List UInt8 × Bool) → Int × Int → Prop
  | [], r => r = (0, 0)
  | x :: rest, r =>
    (stepOk x = false ∧ r = (6, (n : Int) + 1)) ∨
    (stepOk x = true ∧
      (((stepOf x.1).1 = true ∧ ((stepMask x.1 ∈ L ∧ Outcome (L.erase (stepMask x.1)) (n + 1) rest r) ∨ (stepMask x.1 ∉ L ∧ r = (7, (n : Int) + 1)))) ∨
       ((stepOf x.1).1 = false ∧ ((Fol L (stepMask x.1) ∧ Outcome (L ++ [stepMask x.1]) (n + 1) rest r) ∨ (¬ Fol L (stepMask x.1) ∧ r = (8, (n : Int) + 1))))))

theorem Outcome.unique (xs : List (List UInt8 × Bool)) : ∀ (L : List Nat) (n : Nat) (r r' : Int × Int), Outcome L n xs r → Outcome L n xs r' → r = r' := by
  induction xs with
  | nil => intro L n r r' h h'; unfold Outcome at h h'; rw [h, h']
  | cons x rest ih =>
    intro L n r r' h h'
    unfold Outcome at h h'
    rcases h with ⟨h1, h2⟩ | ⟨h1, h2⟩ <;> rcases h' with ⟨g1, g2⟩ | ⟨g1, g2⟩
    · rw [h2, g2]
    · rw [h1] at g1; cases g1
    · rw [h1] at g1; cases g1
    · rcases h2 with ⟨h3, h4⟩ | ⟨h3, h4⟩ <;> rcases g2 with ⟨g3, g4⟩ | ⟨g3, g4⟩
      · rcases h4 with ⟨h5, h6⟩ | ⟨h5, h6⟩ <;> rcases g4 with ⟨g5, g6⟩ | ⟨g5, g6⟩
        · exact ih _ _ _ _ h6 g6
        · exact absurd h5 g5
        · exact absurd g5 h5
        · rw [h6, g6]
      · rw [h3] at g3; cases g3
      · rw [h3] at g3; cases g3
      · rcases h4 with ⟨h5, h6⟩ | ⟨h5, h6⟩ <;> rcases g4 with ⟨g5, g6⟩ | ⟨g5, g6⟩
        · exact ih _ _ _ _ h6 g6
        · exact absurd h5 g5
        · exact absurd g5 h5
        · rw [h6, g6]

end Go.Proofs.YtekkkoipcghlmaaGreatDoor.Sp

namespace Go.Proofs.YtekkkoipcghlmaaGreatDoor
open Go.RowKit

/-- How many bits, by the three bytes. -/
def onesOf (m : Nat) : Nat := Lib.onesCount (m / 65536 % 256) + Lib.onesCount (m / 256 % 256) + Lib.onesCount (m % 256)

theorem and_byte (x : Nat) (h : x < 4294967296) : bits .and .u32 (x : Int) 255 = ((x % 256 : Nat) : Int) := by
  have := bits_and_u32_nat x 255 h (by decide)
  rw [show ((255 : Nat) : Int) = 255 from rfl] at this
  rw [this, show (255 : Nat) = 2 ^ 8 - 1 from rfl, Nat.and_two_pow_sub_one_eq_mod]

theorem pop_byte (a : Nat) (h : a < 256) : ∃ p : Nat, Lib.pop8 (a : Int) = (p : Int) ∧ p ≤ 8 ∧ p = Lib.onesCount a :=
  ⟨Lib.onesCount a, Lib.pop8_eq ⟨a, h⟩, Lib.onesCount_le8 ⟨a, h⟩, rfl⟩

theorem ret_i64 {a b : Int} (h : a = b) : Ending.returned (.int .i64 a) = .returned (.int .i64 b) := by rw [h]

set_option maxRecDepth 100000 in
theorem ones_any (m : Nat) (w : World) (hm : m < 2 ^ 24) :
    Calls Tryz.prog 87 #[.int .u32 m] w fun e w' => e = .returned (.int .i64 (onesOf m : Nat)) ∧ ∃ q, w' = w.drewN q := by
  have h24 : (m : Int) / 16777216 = 0 := by omega
  have e16 : bits .and .u32 ((m : Int) / 65536) 255 = ((m / 65536 % 256 : Nat) : Int) := by
    have := and_byte (m / 65536) (by omega)
    rwa [Int.natCast_ediv] at this
  have e8 : bits .and .u32 ((m : Int) / 256) 255 = ((m / 256 % 256 : Nat) : Int) := by
    have := and_byte (m / 256) (by omega)
    rwa [Int.natCast_ediv] at this
  have e0 : bits .and .u32 (m : Int) 255 = ((m % 256 : Nat) : Int) := and_byte m (by omega)
  have HO : Hid (onesOf m = Lib.onesCount (m / 65536 % 256) + Lib.onesCount (m / 256 % 256) + Lib.onesCount (m % 256)) := rfl
  have l16 : m / 65536 % 256 < 256 := by omega
  have l8 : m / 256 % 256 < 256 := by omega
  have l0 : m % 256 < 256 := by omega
  generalize m / 65536 % 256 = a at *
  generalize m / 256 % 256 = b at *
  generalize m % 256 = c at *
  have p00 : Lib.pop8 0 = 0 := by decide
  obtain ⟨pa, ha, ha8, hae⟩ := pop_byte a l16
  obtain ⟨pb, hb, hb8, hbe⟩ := pop_byte b l8
  obtain ⟨pc, hc, hc8, hce⟩ := pop_byte c l0
  rw [← hae, ← hbe, ← hce] at HO
  have ia : (a : Int) ≤ 255 := by omega
  have ib : (b : Int) ≤ 255 := by omega
  have ic : (c : Int) ≤ 255 := by omega
  clear hae hbe hce
  go_enter Tryz.func87, Tryz.ntmps87
  go_wp2
  go_quiet (fail)
  go_wp2
  go_ret
  refine ⟨ret_i64 ?_, _, rfl⟩
  rw [unhide HO]
  omega

/-- The opposites. -/
def oppMask (m : Nat) : Nat := (m &&& 5592405) * 2 ||| (m / 2 &&& 5592405)
theorem third_bit (i : Nat) (h : i < 24) : (5592405 : Nat).testBit i = (i % 2 == 0) := by
  have : ∀ k : Fin 24, (5592405 : Nat).testBit k.val = (k.val % 2 == 0) := by decide
  exact this ⟨i, h⟩
theorem oppMask_lt {m : Nat} (_hm : m < 2 ^ 24) : oppMask m < 2 ^ 24 := by
  have h1 : m &&& 5592405 ≤ 5592405 := Nat.and_le_right
  have h2 : m / 2 &&& 5592405 ≤ 5592405 := Nat.and_le_right
  exact Nat.or_lt_two_pow (by omega) (by omega)
theorem oppMask_bit {m : Nat} (_hm : m < 2 ^ 24) (i : Nat) (hi : i < 24) : (oppMask m).testBit i = m.testBit (Sp.opp i) := by
  unfold oppMask
  have e1 : (m &&& 5592405) * 2 = (m &&& 5592405) <<< 1 := by rw [Nat.shiftLeft_eq]
  have e2 : m / 2 = m >>> 1 := by rw [Nat.shiftRight_eq_div_pow]
  rw [e1, e2, Nat.testBit_or, Nat.testBit_shiftLeft, Nat.testBit_and, Nat.testBit_and, Nat.testBit_shiftRight]
  unfold Sp.opp
  by_cases he : i % 2 = 0
  · rw [if_pos he, third_bit i hi]
    have : (decide (i ≥ 1) && (m.testBit (i - 1) && (5592405 : Nat).testBit (i - 1))) = false := by
      by_cases h0 : i = 0
      · subst h0; simp
      · rw [third_bit (i - 1) (by omega)]
        have : ((i - 1) % 2 == 0) = false := by rw [beq_eq_false_iff_ne]; omega
        rw [this]; simp
    rw [this]
    have he' : (i % 2 == 0) = true := by simpa using he
    rw [he', Nat.add_comm 1 i]; simp
  · rw [if_neg he, third_bit i hi, third_bit (i - 1) (by omega)]
    have h1 : (i % 2 == 0) = false := by simpa using he
    have h2 : ((i - 1) % 2 == 0) = true := by rw [beq_iff_eq]; omega
    rw [h1, h2]
    have h3 : decide (i ≥ 1) = true := decide_eq_true (by omega)
    rw [h3]; simp
theorem opp_single {i : Nat} (hi : i < 24) : oppMask (2 ^ i) = 2 ^ (Sp.opp i) := by
  have : ∀ k : Fin 24, oppMask (2 ^ k.val) = 2 ^ (Sp.opp k.val) := by decide
  exact this ⟨i, hi⟩

set_option maxRecDepth 100000 in
theorem opposites_any (m : Nat) (w : World) (hm : m < 2 ^ 24) :
    Calls Tryz.prog 85 #[.int .u32 m] w fun e w' => e = .returned (.int .u32 (oppMask m : Nat)) ∧ w' = w := by
  have h1 : m &&& 5592405 ≤ 5592405 := Nat.and_le_right
  have h2 : m / 2 &&& 5592405 ≤ 5592405 := Nat.and_le_right
  have e1 : bits .and .u32 (m : Int) 5592405 = ((m &&& 5592405 : Nat) : Int) := bits_and_u32_nat m 5592405 (by omega) (by decide)
  have e2 : bits .and .u32 ((m : Int) / 2) 5592405 = ((m / 2 &&& 5592405 : Nat) : Int) := by
    have := bits_and_u32_nat (m / 2) 5592405 (by omega) (by decide)
    rwa [Int.natCast_ediv] at this
  have e3 : ((m &&& 5592405 : Nat) : Int) * 2 % 4294967296 = (((m &&& 5592405) * 2 : Nat) : Int) := by omega
  have e4 : bits .or .u32 (((m &&& 5592405) * 2 : Nat) : Int) ((m / 2 &&& 5592405 : Nat) : Int) = (oppMask m : Nat) := bits_or_u32 _ _ (by omega) (by omega)
  go_enter Tryz.func85, Tryz.ntmps85
  go_wp2_with fail
  go_ret
  refine ⟨?_, rfl⟩
  show Ending.returned (.int .u32 _) = _
  rw [← e4, show (((m &&& 5592405) * 2 : Nat) : Int) = ((m &&& 5592405 : Nat) : Int) * 2 from by omega]

end Go.Proofs.YtekkkoipcghlmaaGreatDoor

namespace Go.Proofs.YtekkkoipcghlmaaGreatDoor
open Go.RowKit

theorem byte_zero (a : Nat) (h : a < 256) : Lib.onesCount a = 0 → a = 0 := by
  have : ∀ k : Fin 256, Lib.onesCount k.val = 0 → k.val = 0 := by decide +kernel
  exact this ⟨a, h⟩
theorem byte_one (a : Nat) (h : a < 256) : Lib.onesCount a = 1 → ∃ j : Fin 8, a = 2 ^ j.val := by
  have : ∀ k : Fin 256, Lib.onesCount k.val = 1 → ∃ j : Fin 8, k.val = 2 ^ j.val := by decide +kernel
  exact this ⟨a, h⟩
theorem ones_one {m : Nat} (hm : m < 2 ^ 24) : onesOf m = 1 ↔ ∃ k, k < 24 ∧ m = 2 ^ k := by
  constructor
  · intro h
    unfold onesOf at h
    have l16 : m / 65536 % 256 < 256 := by omega
    have l8 : m / 256 % 256 < 256 := by omega
    have l0 : m % 256 < 256 := by omega
    have hd : m = m / 65536 % 256 * 65536 + m / 256 % 256 * 256 + m % 256 := by omega
    generalize m / 65536 % 256 = a at *
    generalize m / 256 % 256 = b at *
    generalize m % 256 = c at *
    have hz := byte_zero a l16; have hz2 := byte_zero b l8; have hz3 := byte_zero c l0
    rcases Nat.eq_zero_or_pos (Lib.onesCount a) with ha | ha
    · rcases Nat.eq_zero_or_pos (Lib.onesCount b) with hb | hb
      · obtain ⟨j, hj⟩ := byte_one c l0 (by omega)
        refine ⟨j.val, by omega, ?_⟩
        rw [hd, hz ha, hz2 hb, hj]; simp
      · obtain ⟨j, hj⟩ := byte_one b l8 (by omega)
        refine ⟨j.val + 8, by omega, ?_⟩
        rw [hd, hz ha, hz3 (by omega), hj, Nat.pow_add]; simp
    · obtain ⟨j, hj⟩ := byte_one a l16 (by omega)
      refine ⟨j.val + 16, by omega, ?_⟩
      rw [hd, hz2 (by omega), hz3 (by omega), hj, Nat.pow_add]; simp
  · rintro ⟨k, hk, rfl⟩
    have : ∀ k : Fin 24, onesOf (2 ^ k.val) = 1 := by decide +kernel
    exact this ⟨k, hk⟩

def oneBit (m : Nat) : Bool := onesOf m == 1
def alwaysMask (m : Nat) : Bool := m &&& oppMask m != 0

theorem ret_bool {a b : Bool} (h : a = b) : Ending.returned (.bool a) = .returned (.bool b) := by rw [h]

set_option maxRecDepth 100000 in
theorem size_any (m : Nat) (w : World) (hm : m < 2 ^ 24) :
    Calls Tryz.prog 47 #[.int .u32 m] w fun e w' => e = .returned (.int .i64 (onesOf m)) ∧ ∃ q, w' = w.drewN q := by
  have hmod : (m : Int) % 4294967296 = m := by omega
  have HO := hide (fun wx => ones_any m wx hm)
  generalize onesOf m = on at *
  go_enter Tryz.func47, Tryz.ntmps47
  go_wp2_with fail
  refine (unhide HO _).mono ?_
  rintro e w1 ⟨rfl, q, rfl⟩
  go_wp2
  go_ret
  exact ⟨rfl, q, rfl⟩

set_option maxRecDepth 100000 in
theorem single_any (m : Nat) (w : World) (hm : m < 2 ^ 24) :
    Calls Tryz.prog 196 #[.int .u32 m] w fun e w' => e = .returned (.bool (oneBit m)) ∧ ∃ q, w' = w.drewN q := by
  have HO := hide (fun wx => size_any m wx hm)
  have HB : Hid (((onesOf m : Int) == 1) = oneBit m) := hide (by
    unfold oneBit
    by_cases h : onesOf m = 1
    · rw [h]; rfl
    · have h1 : ((onesOf m : Int) == 1) = false := by rw [beq_eq_false_iff_ne]; omega
      have h2 : (onesOf m == 1) = false := by rw [beq_eq_false_iff_ne]; exact h
      rw [h1, h2])
  generalize oneBit m = ob at *
  generalize onesOf m = on at *
  go_enter Tryz.func196, Tryz.ntmps196
  go_wp2_with fail
  refine (unhide HO _).mono ?_
  rintro e w1 ⟨rfl, q, rfl⟩
  go_wp2
  go_ret
  exact ⟨ret_bool (unhide HB), q, rfl⟩

set_option maxRecDepth 100000 in
theorem alwaysTrue_any (m : Nat) (w : World) (hm : m < 2 ^ 24) :
    Calls Tryz.prog 46 #[.int .u32 m] w fun e w' => e = .returned (.bool (alwaysMask m)) ∧ ∃ q, w' = w.drewN q := by
  have hol := oppMask_lt hm
  have HO := hide (fun wx => opposites_any m wx hm)
  have e1 := bits_and_u32_nat m (oppMask m) (by omega) (by omega)
  have HB : Hid ((!((m &&& oppMask m : Nat) : Int) == 0) = alwaysMask m) := hide (by
    unfold alwaysMask
    by_cases h : m &&& oppMask m = 0
    · rw [h]; rfl
    · have h1 : (((m &&& oppMask m : Nat) : Int) == 0) = false := by rw [beq_eq_false_iff_ne]; omega
      have h2 : (m &&& oppMask m != 0) = true := by simpa using h
      rw [h1, h2]; rfl)
  generalize m &&& oppMask m = a at *
  generalize alwaysMask m = ob at *
  generalize oppMask m = on at *
  go_enter Tryz.func46, Tryz.ntmps46
  go_wp2_with fail
  refine (unhide HO _).mono ?_
  rintro e w1 ⟨rfl, rfl⟩
  go_wp2
  go_ret
  exact ⟨ret_bool (unhide HB), 0, rfl⟩

theorem alwaysMask_iff {m : Nat} (hm : m < 2 ^ 24) : alwaysMask m = true ↔ ∃ i, m.testBit i = true ∧ m.testBit (Sp.opp i) = true := by
  have h24 : ∀ i, m.testBit i = true → i < 24 := fun i hi => by
    rcases Nat.lt_or_ge i 24 with h | h
    · exact h
    · rw [Nat.testBit_lt_two_pow (Nat.lt_of_lt_of_le hm (Nat.pow_le_pow_right (by decide) h))] at hi; cases hi
  unfold alwaysMask
  constructor
  · intro h
    have hne : m &&& oppMask m ≠ 0 := by simpa using h
    obtain ⟨i, hi⟩ := Nat.exists_testBit_of_ne_zero hne
    rw [Nat.testBit_and, Bool.and_eq_true] at hi
    refine ⟨i, hi.1, ?_⟩
    rw [← oppMask_bit hm i (h24 i hi.1)]
    exact hi.2
  · rintro ⟨i, h1, h2⟩
    have hne : m &&& oppMask m ≠ 0 := by
      intro h0
      have : (m &&& oppMask m).testBit i = true := by rw [Nat.testBit_and, h1, oppMask_bit hm i (h24 i h1), h2]; rfl
      rw [h0] at this
      simp at this
    simpa using hne

/-- What is left of a clause. -/
def leftMask (c u : Nat) : Nat := c ^^^ (c &&& u)
theorem leftMask_bit (c u i : Nat) : (leftMask c u).testBit i = (c.testBit i && !u.testBit i) := by
  unfold leftMask
  rw [Nat.testBit_xor, Nat.testBit_and]
  cases c.testBit i <;> cases u.testBit i <;> rfl
theorem leftMask_lt {c : Nat} (u : Nat) (hc : c < 2 ^ 24) : leftMask c u < 2 ^ 24 := by
  unfold leftMask
  refine Nat.xor_lt_two_pow hc (Nat.lt_of_le_of_lt Nat.and_le_left hc)
theorem bits_left (c u : Nat) (hc : c < 4294967296) (hu : u < 4294967296) : bits .andNot .u32 (c : Int) (u : Int) = (leftMask c u : Nat) := by
  have h1 : (BitVec.ofInt 32 (c : Int)).toNat = c := by
    rw [BitVec.ofInt_natCast, BitVec.toNat_ofNat]; exact Nat.mod_eq_of_lt (by omega)
  have h2 : (BitVec.ofInt 32 (u : Int)).toNat = u := by
    rw [BitVec.ofInt_natCast, BitVec.toNat_ofNat]; exact Nat.mod_eq_of_lt (by omega)
  show IntKind.u32.wrap ((BitVec.ofInt 32 (c : Int) &&& ~~~ BitVec.ofInt 32 (u : Int)).toNat : Int) = _
  have h3 : (BitVec.ofInt 32 (c : Int) &&& ~~~ BitVec.ofInt 32 (u : Int)).toNat = leftMask c u := by
    apply Nat.eq_of_testBit_eq
    intro i
    rw [leftMask_bit, ← BitVec.getLsbD, BitVec.getLsbD_and, BitVec.getLsbD_not]
    unfold BitVec.getLsbD
    rw [h1, h2]
    by_cases hi : i < 32
    · simp [hi]
    · have : c.testBit i = false := Nat.testBit_lt_two_pow (Nat.lt_of_lt_of_le hc (by rw [show (4294967296 : Nat) = 2 ^ 32 from rfl]; exact Nat.pow_le_pow_right (by decide) (by omega)))
      rw [this]; simp
  rw [h3, wrap_u32']
  have : leftMask c u < 4294967296 := by
    unfold leftMask
    exact Nat.xor_lt_two_pow (n := 32) hc (Nat.lt_of_le_of_lt Nat.and_le_left hc)
  omega

end Go.Proofs.YtekkkoipcghlmaaGreatDoor
