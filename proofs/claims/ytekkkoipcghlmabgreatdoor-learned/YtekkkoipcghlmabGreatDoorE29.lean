import Derived.Test.YtekkkoipcghlmabGreatDoorE01
import Derived.Lib.AtoiAll
import Derived.Lib.ItoaNum
import Derived.Test.YtekkkoipcghlmabGreatDoorE28
import Derived.Test.YtekkkoipcghlmabGreatDoorShelf
import Derived.Test.YtekkkoipcghlmabGreatDoorProg
import Derived.Lib.Join
set_option linter.all false
namespace Go.Proofs.YtekkkoipcghlmabGreatDoor.Sp

theorem dec12 (u : Nat) (h1 : 1 ≤ u) (h2 : u ≤ 12) : Lib.decDigits u = digs u := by
  by_cases h : u < 10
  · rw [Lib.decDigits, dif_pos h, digs, if_pos h]
  · rw [Lib.decDigits, dif_neg h, Lib.decDigits, dif_pos (by omega), digs, if_neg h, show u / 10 = 1 from by omega, show 48 + u % 10 = 38 + u from by omega]; rfl
theorem itoa_lw (x : Int) (h0 : x ≠ 0) (h1 : -12 ≤ x) (h2 : x ≤ 12) : Lib.itoa x = lw x := by
  unfold Lib.itoa lw
  split
  · rw [dec12 _ (by omega) (by omega)]
  · rw [dec12 _ (by omega) (by omega), show x.toNat = x.natAbs from by omega]

theorem all24 (p : Int → Prop) (h : ∀ k : Fin 12, p ((k.val : Int) + 1) ∧ p (-((k.val : Int) + 1))) (x : Int) (h0 : x ≠ 0) (h1 : -12 ≤ x) (h2 : x ≤ 12) : p x := by
  by_cases hp : 0 < x
  · have := (h ⟨(x - 1).toNat, by omega⟩).1
    simp only at this
    rwa [show (((x - 1).toNat : Nat) : Int) + 1 = x from by omega] at this
  · have := (h ⟨(-x - 1).toNat, by omega⟩).2
    simp only at this
    rwa [show -((((-x - 1).toNat : Nat) : Int) + 1) = x from by omega] at this

theorem lit_lw (x : Int) (h0 : x ≠ 0) (h1 : -12 ≤ x) (h2 : x ≤ 12) : lit (lw x) = x := all24 (fun x => lit (lw x) = x) (by decide) x h0 h1 h2
theorem atoi_lw (x : Int) (h0 : x ≠ 0) (h1 : -12 ≤ x) (h2 : x ≤ 12) : Lib.atoiAll (lw x) = .ok x := all24 (fun x => Lib.atoiAll (lw x) = .ok x) (by decide) x h0 h1 h2

theorem num_digs (r : List UInt8) (h : num r ≠ 0) : r = digs (num r).toNat := by
  unfold num at h ⊢
  split at h
  · rename_i a
    split at h
    · rename_i hh
      simp only [hh, and_self, if_true]
      rw [digs, if_pos (by omega)]
      congr 1
      apply UInt8.toNat_inj.1
      rw [UInt8.toNat_ofNat']
      omega
    · exact absurd rfl h
  · rename_i a b
    split at h
    · rename_i hh
      simp only [hh, and_self, if_true]
      rw [digs, if_neg (by omega)]
      congr 1
      · apply UInt8.toNat_inj.1
        rw [hh.1]; rfl
      · congr 1
        apply UInt8.toNat_inj.1
        rw [UInt8.toNat_ofNat']
        omega
    · exact absurd rfl h
  · exact absurd rfl h

theorem lw_lit (s : List UInt8) (h : lit s ≠ 0) : s = lw (lit s) := by
  rcases s with _ | ⟨a, r⟩
  · exact absurd rfl h
  · have hb := num_bd r
    have hb2 := num_bd (a :: r)
    unfold lit at h ⊢
    simp only at h ⊢
    split at h
    · rename_i ha
      subst ha
      simp only [if_true]
      have hn : num r ≠ 0 := by omega
      unfold lw
      rw [if_pos (by omega), show (-num r).natAbs = (num r).toNat from by omega, ← num_digs r hn]
    · rename_i ha
      rw [if_neg ha]
      unfold lw
      rw [if_neg (by omega), show (num (a :: r)).natAbs = (num (a :: r)).toNat from by omega]
      exact num_digs (a :: r) h

/-- What fromWord hands back, by how Atoi ends. -/
theorem fromWord_ok (s : List UInt8) (v : Int) (h : Lib.atoiAll s = .ok v) (hi : Lib.itoa v = s) : lit s = if -12 ≤ v ∧ v ≤ 12 then v else 0 := by
  split
  · rename_i hr
    by_cases h0 : v = 0
    · subst h0
      rw [← hi]
      show lit (Lib.itoa 0) = 0
      unfold Lib.itoa
      rw [if_neg (by omega), Lib.decDigits, dif_pos (by decide)]
      decide
    · rw [← hi, itoa_lw v h0 hr.1 hr.2, lit_lw v h0 hr.1 hr.2]
  · rename_i hr
    by_cases h0 : lit s = 0
    · exact h0
    · exfalso
      have hb := lit_bd s
      have := lw_lit s h0
      have ha := atoi_lw (lit s) h0 hb.1 hb.2
      rw [← this, h] at ha
      injection ha with ha
      exact hr (by omega)
theorem fromWord_other (s : List UInt8) (v : Int) (h : Lib.atoiAll s = .ok v) (hi : ¬ Lib.itoa v = s) : lit s = 0 := by
  by_cases h0 : lit s = 0
  · exact h0
  · exfalso
    have hb := lit_bd s
    have hs := lw_lit s h0
    have ha := atoi_lw (lit s) h0 hb.1 hb.2
    rw [← hs, h] at ha
    injection ha with ha
    rw [ha, itoa_lw _ h0 hb.1 hb.2] at hi
    exact hi hs.symm
theorem fromWord_bad (s : List UInt8) (h : ∀ v, Lib.atoiAll s ≠ .ok v) : lit s = 0 := by
  by_cases h0 : lit s = 0
  · exact h0
  · exfalso
    have hb := lit_bd s
    have hs := lw_lit s h0
    have ha := atoi_lw (lit s) h0 hb.1 hb.2
    rw [← hs] at ha
    exact h _ ha

end Go.Proofs.YtekkkoipcghlmabGreatDoor.Sp

namespace Go.Proofs.YtekkkoipcghlmabGreatDoor
open Go.RowKit

theorem var_below {P : Program} {w w' : World} {n : String} {g : Nat} {cs : Array Value} (hg : P.globalNamed n = some g) (hv : w.var? P n = some cs) (hb : Below w.heap.size w w') : w'.var? P n = some cs := by
  unfold World.var? at hv ⊢
  rw [hg] at hv ⊢
  simp only [Option.bind_some] at hv ⊢
  have hlt : g < w.heap.size := by
    rcases Nat.lt_or_ge g w.heap.size with h' | h'
    · exact h'
    · rw [Array.getElem?_eq_none h'] at hv; cases hv
  rw [hb.block g hlt]
  exact hv

/-- The package's variables that the road reads. -/
structure EnvT (w : World) : Prop where
  tab : Lib.TabIs Tryz.prog w "internal/strconv.uint64pow10" .u64 Lib.pow10Tab
  brj : 0 < w.heap.size ∧ TabAt 0 Lib.deBruijn32tab w
structure Env (w : World) : Prop extends EnvT w where
  syn : ∃ tp p, w.var? Tryz.prog "strconv.ErrSyntax" = some #[.iface tp p]
  rng : ∃ tp p, w.var? Tryz.prog "strconv.ErrRange" = some #[.iface tp p]
  len : 1 < w.heap.size ∧ ∃ m, w.cell? ⟨1, 0, none⟩ = some (.int .i64 m)

theorem Tryz.gTab : Tryz.prog.globalNamed "internal/strconv.uint64pow10" = some 2 := by kernel_rfl
theorem Tryz.gSyn : Tryz.prog.globalNamed "strconv.ErrSyntax" = some 3 := by kernel_rfl
theorem Tryz.gRng : Tryz.prog.globalNamed "strconv.ErrRange" = some 4 := by kernel_rfl

theorem EnvT.below {w w' : World} (h : EnvT w) (hb : Below w.heap.size w w') : EnvT w' :=
  ⟨var_below Tryz.gTab h.tab hb, ⟨Nat.lt_of_lt_of_le h.brj.1 hb.size, fun j hj => (hb.cell (p := ⟨0, j, none⟩) h.brj.1).trans (h.brj.2 j hj)⟩⟩
theorem Env.below {w w' : World} (h : Env w) (hb : Below w.heap.size w w') : Env w' := by
  obtain ⟨t, p, hs⟩ := h.syn
  obtain ⟨t2, p2, hr⟩ := h.rng
  obtain ⟨hl, m, hm⟩ := h.len
  exact ⟨h.toEnvT.below hb, ⟨t, p, var_below Tryz.gSyn hs hb⟩, ⟨t2, p2, var_below Tryz.gRng hr hb⟩,
    ⟨Nat.lt_of_lt_of_le hl hb.size, m, (hb.cell (p := ⟨1, 0, none⟩) hl).trans hm⟩⟩

theorem bs_data (l : List UInt8) : (bs l).data.toList = l := by simp [bs]

theorem below_grow2 (w : World) (k : Nat) (os : Array Obj) : Below w.heap.size w (Sort.grow (w.drewN k) os) :=
  ⟨rfl, rfl, rfl, by show w.heap.size ≤ (w.heap ++ os).size; simp, fun j hj => by show (w.heap ++ os)[j]? = w.heap[j]?; rw [Array.getElem?_append_left hj]⟩

theorem itoa_any (n : Int) (h0 : -9223372036854775808 ≤ n) (h1 : n ≤ 9223372036854775807) (w : World) (he : EnvT w) :
    Calls Tryz.prog 73 #[.int .i64 n] w fun e w' => e = .returned (.string (bs (Lib.itoa n))) ∧ Below w.heap.size w w' := by
  refine (Tryz.strconv_Itoa n h0 h1 w he.tab).mono ?_
  rintro e w' ⟨rfl, k, os, rfl⟩
  exact ⟨rfl, below_grow2 w k os⟩

/-- What strconv.Atoi hands back. -/
theorem atoi_any (s : List UInt8) (w : World) (hs : s.length ≤ 6000) (he : Env w) :
    Calls Tryz.prog 135 #[.string (bs s)] w fun e w' => Below w.heap.size w w' ∧
      ((∃ v, Lib.atoiAll s = .ok v ∧ e = .returned (.tuple #[.int .i64 v, .nilIface])) ∨
       ((∀ v, Lib.atoiAll s ≠ .ok v) ∧ ∃ (v : Int) (N : Nat), e = .returned (.tuple #[.int .i64 v, .iface 206 (.pointer (some ⟨N, 0, none⟩))]))) := by
  have hd := bs_data s
  have hz := bs_size s
  rcases h : Lib.atoiAll s with v | _ | _
  · refine (Any.strconv_Atoi_ok Tryz.laysC172 (bs s) (by omega) v (by rw [hd]; exact h) w).mono ?_
    rintro e w' ⟨rfl, rfl | ⟨t, rfl⟩⟩
    · exact ⟨Below.refl _ _, .inl ⟨v, rfl, rfl⟩⟩
    · exact ⟨Lib.bytesWorld_below _ _ _, .inl ⟨v, rfl, rfl⟩⟩
  · obtain ⟨tp, p, hv⟩ := he.syn
    refine (Any.strconv_Atoi_syntax_var Tryz.laysC172 (bs s) (by omega) (by rw [hd]; exact h) tp p w hv).mono ?_
    rintro e w' ⟨N, rfl, _, _, hb⟩
    exact ⟨hb, .inr ⟨fun v hv => (by cases hv), 0, N, rfl⟩⟩
  · obtain ⟨tp, p, hv⟩ := he.rng
    refine (Any.strconv_Atoi_range_var Tryz.laysC172 (bs s) (by omega) (by rw [hd]; exact h) tp p w hv).mono ?_
    rintro e w' ⟨N, rfl, _, _, hb⟩
    exact ⟨hb, .inr ⟨fun v hv => (by cases hv), _, N, rfl⟩⟩

theorem atoi_bd {s : List UInt8} {v : Int} (h : Lib.atoiAll s = .ok v) : -9223372036854775808 ≤ v ∧ v ≤ 9223372036854775807 := by
  unfold Lib.atoiAll at h
  split at h
  · cases h
  · simp only at h
    split at h
    · cases h
    · cases h
    · split at h
      · cases h
      · split at h
        · cases h
        · injection h with h
          subst h
          split <;> omega

/-- The bit of a word's literal, and whether it is one. -/
def fw (s : List UInt8) : Int := if Sp.lit s = 0 then 0 else (Sp.bit (Sp.lit s) : Int)
def fwOk (s : List UInt8) : Bool := Sp.lit s != 0
theorem fw_no {s : List UInt8} (h : Sp.lit s = 0) : fw s = 0 ∧ fwOk s = false := by unfold fw fwOk; rw [h]; exact ⟨rfl, rfl⟩
theorem fw_yes {s : List UInt8} (h : Sp.lit s ≠ 0) : fw s = (Sp.bit (Sp.lit s) : Int) ∧ fwOk s = true := by unfold fw fwOk; exact ⟨if_neg h, by simpa using h⟩

set_option maxRecDepth 100000 in
set_option maxHeartbeats 400000 in
theorem fromWord_any (s : List UInt8) (w : World) (hs : s.length ≤ 6000) (he : Env w) :
    Calls Tryz.prog 110 #[.string (bs s)] w fun e w' => Below w.heap.size w w' ∧
      e = .returned (.tuple #[.int .u32 (fw s), .bool (fwOk s)]) := by
  have HA := hide (atoi_any s w hs he)
  go_enter Tryz.func110, Tryz.ntmps110
  go_wp2_with fail
  refine (unhide HA).mono ?_
  rintro e w1 ⟨hb1, ⟨v, hv, rfl⟩ | ⟨hno, v, N, rfl⟩⟩
  · have HE := hide (he.below hb1)
    have hbd := atoi_bd hv
    have HV := hide hv
    clear hv
    go_wp2_with fail
    refine (itoa_any v hbd.1 hbd.2 w1 (unhide HE).toEnvT).mono ?_
    rintro e w2 ⟨rfl, hb2⟩
    by_cases hi : Lib.itoa v = s
    · have ht : ((bs (Lib.itoa v)).toList == (bs s).toList) = true := by rw [hi]; simp
      have HI := hide hi
      have HF := hide (Sp.fromWord_ok s v (unhide HV) hi)
      clear hi
      by_cases hr : -12 ≤ v ∧ v ≤ 12
      · rw [if_pos hr] at HF
        by_cases h0 : v = 0
        · have HO := hide (of_no v w2 (.inl h0))
          have HZ := hide ((unhide HF).trans h0)
          clear h0
          go_wp2_with fail
          refine (unhide HO).mono ?_
          rintro e w3 ⟨rfl, rfl⟩
          go_wp2
          go_ret2
          exact ⟨hb1.trans (hb2.mono hb1.size), by rw [(fw_no (unhide HZ)).1, (fw_no (unhide HZ)).2]; rfl⟩
        · have HO := hide (of_yes v w2 hr.1 hr.2 h0)
          have HZ : Hid (Sp.lit s ≠ 0) := hide (by rw [unhide HF]; exact h0)
          clear h0
          go_wp2_with fail
          refine (unhide HO).mono ?_
          rintro e w3 ⟨rfl, rfl⟩
          go_wp2
          go_ret2
          exact ⟨hb1.trans (hb2.mono hb1.size), by rw [(fw_yes (unhide HZ)).1, (fw_yes (unhide HZ)).2, unhide HF]; rfl⟩
      · rw [if_neg hr] at HF
        have HO := hide (of_no v w2 (by omega))
        clear hr
        go_wp2_with fail
        refine (unhide HO).mono ?_
        rintro e w3 ⟨rfl, rfl⟩
        go_wp2
        go_ret2
        exact ⟨hb1.trans (hb2.mono hb1.size), by rw [(fw_no (unhide HF)).1, (fw_no (unhide HF)).2]; rfl⟩
    · have ht : ((bs (Lib.itoa v)).toList == (bs s).toList) = false := by rw [bs_toList, bs_toList]; simpa using hi
      have HF := hide (Sp.fromWord_other s v (unhide HV) hi)
      clear hi
      go_wp2
      go_ret2
      exact ⟨hb1.trans (hb2.mono hb1.size), by rw [(fw_no (unhide HF)).1, (fw_no (unhide HF)).2]; rfl⟩
  · have HF := hide (Sp.fromWord_bad s hno)
    clear hno
    go_wp2
    go_ret2
    exact ⟨hb1, by rw [(fw_no (unhide HF)).1, (fw_no (unhide HF)).2]; rfl⟩

end Go.Proofs.YtekkkoipcghlmabGreatDoor

namespace Go.Proofs.YtekkkoipcghlmabGreatDoor
open Go.RowKit

theorem bits_or_u32 (a b : Nat) (ha : a < 4294967296) (hb : b < 4294967296) : bits .or .u32 (a : Int) (b : Int) = ((a ||| b : Nat) : Int) := by
  have hx : a ||| b < 2 ^ 32 := Nat.or_lt_two_pow (by omega) (by omega)
  have h1 : (BitVec.ofInt 32 (a : Int)).toNat = a := by
    rw [BitVec.ofInt_natCast, BitVec.toNat_ofNat]; exact Nat.mod_eq_of_lt (by omega)
  have h2 : (BitVec.ofInt 32 (b : Int)).toNat = b := by
    rw [BitVec.ofInt_natCast, BitVec.toNat_ofNat]; exact Nat.mod_eq_of_lt (by omega)
  show IntKind.u32.wrap ((BitVec.ofInt 32 (a : Int) ||| BitVec.ofInt 32 (b : Int)).toNat : Int) = _
  rw [BitVec.toNat_or, h1, h2, wrap_u32']
  omega

set_option maxRecDepth 100000 in
set_option maxHeartbeats 400000 in
theorem unionS_any (v : Value) (ws : List (List UInt8)) (w : World) (hl : ws.length ≤ 10000000) (hw : ∀ x, x ∈ ws → x.length ≤ 6000) (hv : Lies w v (strs ws)) (he : Env w) :
    Calls Tryz.prog 109 #[v, .func (.func 110) #[] #[]] w fun e w' => Below w.heap.size w w' ∧
      ((allLit ws = false ∧ e = .returned (.tuple #[.int .u32 0, .bool false])) ∨ (allLit ws = true ∧ e = .returned (.tuple #[.int .u32 (Sp.maskOf (ws.map Sp.lit) : Int), .bool true]))) := by
  rcases hv with ⟨h0, ao, cap, rfl⟩ | ⟨b, off, cap, hp, rfl, hb, hc⟩
  · have hx0 : ws = [] := by simpa [strs] using h0
    subst hx0
    go_enter Tryz.func109, Tryz.ntmps109
    go_wp2
    refine wp_loop_rounds 1 ?_
    rw [rounds_succ]
    go_wp2
    go_ret2
    exact ⟨Below.refl _ _, .inr ⟨rfl, rfl⟩⟩
  · have hlen : (strs ws).length = ws.length := by simp [strs]
    rw [hlen] at hp ⊢
    go_enter Tryz.func109, Tryz.ntmps109
    go_wp2
    go_loopw [6, 13] (fun m i wr => ∃ k : Nat, k ≤ ws.length ∧ i = .int .i64 k ∧ m = .int .u32 (Sp.maskOf ((ws.take k).map Sp.lit) : Int) ∧ Below w.heap.size w wr ∧ Hid (allLit (ws.take k) = true)) (fun _ i _ => ws.length - (intOf i).toNat)
    case atStart => exact ⟨0, Nat.zero_le _, rfl, rfl, Below.refl _ _, rfl⟩
    case round =>
      obtain ⟨k, hk, rfl, rfl, hbel, HA⟩ := hrel
      by_cases hlt : k < ws.length
      · have hcell : wr.cell? ⟨b, off + k, none⟩ = some (.string (bs ws[k])) := (hbel.cell (p := ⟨b, off + k, none⟩) hb).trans (hc k (.string (bs ws[k])) (by simp [strs, hlt]))
        have hxl := hw ws[k] (List.getElem_mem hlt)
        have HM : Hid (ws[k] ∈ ws) := hide (List.getElem_mem hlt)
        have HS : Hid (ws.take (k + 1) = ws.take k ++ [ws[k]]) := hide (List.take_succ_eq_append_getElem hlt)
        generalize ws[k] = x at hcell HS hxl HM
        clear hc hw
        have HW := hide (fromWord_any x wr hxl (he.below hbel))
        have hbd := Sp.lit_bd x
        by_cases hz : Sp.lit x = 0
        · rw [(fw_no hz).1, (fw_no hz).2] at HW
          have HZ := hide hz
          clear hz
          go_wp2_with fail
          refine (unhide HW).mono ?_
          rintro e w1 ⟨hb1, rfl⟩
          go_wp2
          go_ret2
          have hfalse : allLit ws = false := by
            rw [allLit, List.all_eq_false]
            exact ⟨x, unhide HM, by simp [unhide HZ]⟩
          exact ⟨hbel.trans (hb1.mono hbel.size), .inl ⟨hfalse, rfl⟩⟩
        · rw [(fw_yes hz).1, (fw_yes hz).2] at HW
          have HZ := hide hz
          clear hz
          have HMB : Hid (Sp.maskOf ((ws.take (k + 1)).map Sp.lit) = Sp.maskOf ((ws.take k).map Sp.lit) ||| Sp.bit (Sp.lit x)) := hide (by rw [unhide HS, List.map_append, ← Sp.maskOf_snoc]; rfl)
          have hm1 : Sp.maskOf ((ws.take k).map Sp.lit) < 2 ^ 24 := Sp.maskOf_lt _ (fun y hy => by obtain ⟨z, _, rfl⟩ := List.mem_map.1 hy; exact Sp.lit_bd z)
          have hm2 : Sp.bit (Sp.lit x) < 2 ^ 24 := Nat.pow_lt_pow_right (by decide) (Sp.bitIx_lt _ hbd)
          generalize Sp.maskOf ((ws.take k).map Sp.lit) = m1 at *
          generalize Sp.bit (Sp.lit x) = m2 at *
          have HOR : Hid (bits BinOp.or IntKind.u32 (m1 : Int) (m2 : Int) = ((m1 ||| m2 : Nat) : Int)) := hide (bits_or_u32 m1 m2 (Nat.lt_trans hm1 (by decide)) (Nat.lt_trans hm2 (by decide)))
          go_wp2_with fail
          refine (unhide HW).mono ?_
          rintro e w1 ⟨hb1, rfl⟩
          go_wp2
          go_roundw
          case rel => exact ⟨k + 1, by omega, by go_num, by rw [unhide HMB, ← unhide HOR], hbel.trans (hb1.mono hbel.size), hide (by rw [unhide HS]; have := unhide HA; simp [allLit] at this ⊢; exact ⟨this, unhide HZ⟩)⟩
          case measure => simp [intOf]; omega
      · have HT : Hid (ws.take k = ws) := hide (List.take_of_length_le (by omega))
        go_wp2
        go_ret2
        have htrue : allLit ws = true := by rw [← unhide HT]; exact unhide HA
        exact ⟨hbel, .inr ⟨htrue, by rw [unhide HT]; rfl⟩⟩

set_option maxRecDepth 100000 in
set_option maxHeartbeats 400000 in
theorem fromWords_any (v : Value) (ws : List (List UInt8)) (w : World) (hl : ws.length ≤ 10000000) (hw : ∀ x, x ∈ ws → x.length ≤ 6000) (hv : Lies w v (strs ws)) (he : Env w) :
    Calls Tryz.prog 72 #[v] w fun e w' => Below w.heap.size w w' ∧
      ((allLit ws = false ∧ e = .returned (.tuple #[.int .u32 0, .bool false])) ∨ (allLit ws = true ∧ e = .returned (.tuple #[.int .u32 (Sp.maskOf (ws.map Sp.lit) : Int), .bool true]))) := by
  have HU := hide (unionS_any v ws w hl hw hv he)
  generalize allLit ws = al at *
  generalize Sp.maskOf (ws.map Sp.lit) = mk at *
  clear hw hv hl
  go_enter Tryz.func72, Tryz.ntmps72
  go_wp2_with fail
  refine (unhide HU).mono ?_
  rintro e w1 ⟨hb1, ⟨h1, rfl⟩ | ⟨h1, rfl⟩⟩
  · have H1 := hide h1
    clear h1
    go_wp2
    go_ret2
    exact ⟨hb1, .inl ⟨unhide H1, rfl⟩⟩
  · have H1 := hide h1
    clear h1
    go_wp2
    go_ret2
    exact ⟨hb1, .inr ⟨unhide H1, rfl⟩⟩

end Go.Proofs.YtekkkoipcghlmabGreatDoor

namespace Go.Proofs.YtekkkoipcghlmabGreatDoor
open Go.RowKit

/-- May a number be a literal? -/
def isLit (x : Int) : Bool := x != 0 && decide (-12 ≤ x) && decide (x ≤ 12)
theorem isLit_iff {x : Int} : isLit x = true ↔ x ≠ 0 ∧ -12 ≤ x ∧ x ≤ 12 := by simp [isLit, and_assoc]
def allInt (xs : List Int) : Bool := xs.all isLit

set_option maxRecDepth 100000 in
set_option maxHeartbeats 400000 in
theorem unionI_any (v : Value) (xs : List Int) (w : World) (hl : xs.length ≤ 10000000) (hv : Lies w v (ints xs)) :
    Calls Tryz.prog 39 #[v, .func (.func 40) #[] #[]] w fun e w' => w' = w ∧
      ((allInt xs = false ∧ e = .returned (.tuple #[.int .u32 0, .bool false])) ∨ (allInt xs = true ∧ e = .returned (.tuple #[.int .u32 (Sp.maskOf xs : Int), .bool true]))) := by
  rcases hv with ⟨h0, ao, cap, rfl⟩ | ⟨b, off, cap, hp, rfl, hb, hc⟩
  · have hx0 : xs = [] := by simpa [ints] using h0
    subst hx0
    go_enter Tryz.func39, Tryz.ntmps39
    go_wp2
    refine wp_loop_rounds 1 ?_
    rw [rounds_succ]
    go_wp2
    go_ret2
    exact ⟨rfl, .inr ⟨rfl, rfl⟩⟩
  · have hlen : (ints xs).length = xs.length := by simp [ints]
    rw [hlen] at hp ⊢
    go_enter Tryz.func39, Tryz.ntmps39
    go_wp2
    go_loop [6, 13] (fun m i => ∃ k : Nat, k ≤ xs.length ∧ i = .int .i64 k ∧ m = .int .u32 (Sp.maskOf (xs.take k) : Int) ∧ Hid (allInt (xs.take k) = true)) (fun _ i => xs.length - (intOf i).toNat)
    case atStart => exact ⟨0, Nat.zero_le _, rfl, rfl, rfl⟩
    case round =>
      obtain ⟨k, hk, rfl, rfl, HA⟩ := hrel
      by_cases hlt : k < xs.length
      · have hcell := hc k (.int .i64 xs[k]) (by simp [ints, hlt])
        have HM : Hid (xs[k] ∈ xs) := hide (List.getElem_mem hlt)
        have HS : Hid (xs.take (k + 1) = xs.take k ++ [xs[k]]) := hide (List.take_succ_eq_append_getElem hlt)
        generalize xs[k] = x at hcell HS HM
        clear hc
        cases hz : isLit x
        · have HW := hide (fun wx => of_no x wx (by
            have : ¬ (x ≠ 0 ∧ -12 ≤ x ∧ x ≤ 12) := fun h => by rw [isLit_iff.2 h] at hz; cases hz
            omega))
          have HZ := hide hz
          clear hz
          go_wp2_with fail
          refine (unhide HW _).mono ?_
          rintro e w1 ⟨rfl, rfl⟩
          go_wp2
          go_ret2
          have hfalse : allInt xs = false := by
            rw [allInt, List.all_eq_false]
            exact ⟨x, unhide HM, by rw [unhide HZ]; decide⟩
          exact ⟨rfl, .inl ⟨hfalse, rfl⟩⟩
        · have hbd := isLit_iff.1 hz
          have HW := hide (fun wx => of_yes x wx hbd.2.1 hbd.2.2 hbd.1)
          have HZ := hide hz
          clear hz
          have HMB : Hid (Sp.maskOf (xs.take (k + 1)) = Sp.maskOf (xs.take k) ||| Sp.bit x) := hide (by rw [unhide HS, ← Sp.maskOf_snoc])
          have hm1 : Sp.maskOf (xs.take k) < 2 ^ 24 := Sp.maskOf_lt _ (fun y hy => by
            have h1 := unhide HA
            rw [allInt, List.all_eq_true] at h1
            have := isLit_iff.1 (h1 y hy)
            omega)
          have hm2 : Sp.bit x < 2 ^ 24 := Nat.pow_lt_pow_right (by decide) (Sp.bitIx_lt _ (by omega))
          generalize Sp.maskOf (xs.take k) = m1 at *
          generalize Sp.bit x = m2 at *
          have HOR : Hid (bits BinOp.or IntKind.u32 (m1 : Int) (m2 : Int) = ((m1 ||| m2 : Nat) : Int)) := hide (bits_or_u32 m1 m2 (Nat.lt_trans hm1 (by decide)) (Nat.lt_trans hm2 (by decide)))
          go_wp2_with fail
          refine (unhide HW _).mono ?_
          rintro e w1 ⟨rfl, rfl⟩
          go_wp2
          go_round
          case rel => exact ⟨k + 1, by omega, by go_num, by rw [unhide HMB, ← unhide HOR], hide (by rw [unhide HS]; have := unhide HA; simp [allInt] at this ⊢; exact ⟨this, unhide HZ⟩)⟩
          case measure => simp [intOf]; omega
      · have HT : Hid (xs.take k = xs) := hide (List.take_of_length_le (by omega))
        go_wp2
        go_ret2
        have htrue : allInt xs = true := by rw [← unhide HT]; exact unhide HA
        exact ⟨rfl, .inr ⟨htrue, by rw [unhide HT]; rfl⟩⟩

set_option maxRecDepth 100000 in
set_option maxHeartbeats 400000 in
theorem fromNumbers_any (v : Value) (xs : List Int) (w : World) (hl : xs.length ≤ 10000000) (hv : Lies w v (ints xs)) :
    Calls Tryz.prog 25 #[v] w fun e w' => w' = w ∧
      ((allInt xs = false ∧ e = .returned (.tuple #[.int .u32 0, .bool false])) ∨ (allInt xs = true ∧ e = .returned (.tuple #[.int .u32 (Sp.maskOf xs : Int), .bool true]))) := by
  have HU := hide (unionI_any v xs w hl hv)
  generalize allInt xs = al at *
  generalize Sp.maskOf xs = mk at *
  clear hv hl
  go_enter Tryz.func25, Tryz.ntmps25
  go_wp2_with fail
  refine (unhide HU).mono ?_
  rintro e w1 ⟨rfl, ⟨h1, rfl⟩ | ⟨h1, rfl⟩⟩
  · have H1 := hide h1
    clear h1
    go_wp2
    go_ret2
    exact ⟨rfl, .inl ⟨unhide H1, rfl⟩⟩
  · have H1 := hide h1
    clear h1
    go_wp2
    go_ret2
    exact ⟨rfl, .inr ⟨unhide H1, rfl⟩⟩

end Go.Proofs.YtekkkoipcghlmabGreatDoor

namespace Go.Proofs.YtekkkoipcghlmabGreatDoor
open Go.RowKit

theorem litAt_div (k : Nat) : Sp.litAt k = if k % 2 = 1 then -((k : Int) / 2 + 1) else (k : Int) / 2 + 1 := by
  unfold Sp.litAt
  by_cases h : k % 2 = 0
  · rw [if_pos h, if_neg (by omega)]; omega
  · rw [if_neg h, if_pos (by omega)]; omega

theorem ret_int64 {a b : Int} (h : a = b) : Ending.returned (.int .i64 a) = .returned (.int .i64 b) := by rw [h]

set_option maxRecDepth 100000 in
set_option maxHeartbeats 400000 in
theorem pfirst_any (m : Nat) (w : World) (hm : m < 2 ^ 24) (he : EnvT w) :
    Calls Tryz.prog 50 #[.int .u32 m] w fun e w' => e = .returned (.int .i64 (Sp.litAt (Lib.ctz 32 m))) ∧ w' = w := by
  have HT := hide (Any7.bits_TrailingZeros32 Tryz.lays7n28 m (Nat.lt_trans hm (by decide)) w (fun _ => he.brj.2))
  have HT : Hid (Calls Tryz.prog 83 #[.int .u32 m] w fun e w' => e = .returned (.int .i64 (Lib.ctz 32 m)) ∧ w' = w) := HT
  have HL := hide (litAt_div (Lib.ctz 32 m))
  have hc : Lib.ctz 32 m ≤ 32 := by
    by_cases h0 : m = 0
    · subst h0; decide
    · exact Nat.le_of_lt (Lib.lowest_bit 32 m h0 (Nat.lt_trans hm (by decide))).2
  generalize Lib.ctz 32 m = k at *
  by_cases h1 : k % 2 = 1
  · have hq : ((k : Int) % 2 == 1) = true := by rw [beq_iff_eq]; omega
    have H1 := hide h1
    clear h1
    go_enter Tryz.func50, Tryz.ntmps50
    go_wp2_with fail
    refine (unhide HT).mono ?_
    rintro e w1 ⟨rfl, rfl⟩
    go_wp2
    go_ret
    exact ⟨ret_int64 (by rw [unhide HL, if_pos (unhide H1)]), rfl⟩
  · have hq : ((k : Int) % 2 == 1) = false := by rw [beq_eq_false_iff_ne]; omega
    have H1 := hide h1
    clear h1
    go_enter Tryz.func50, Tryz.ntmps50
    go_wp2_with fail
    refine (unhide HT).mono ?_
    rintro e w1 ⟨rfl, rfl⟩
    go_wp2
    go_ret
    exact ⟨ret_int64 (by rw [unhide HL, if_neg (unhide H1)]), rfl⟩

end Go.Proofs.YtekkkoipcghlmabGreatDoor

namespace Go.Proofs.YtekkkoipcghlmabGreatDoor
open Go.RowKit

theorem Tryz.infoStr : (Tryz.prog.info? 9).map (fun i => (i.zero, i.size, i.bytes)) = some (some (.string ⟨#[]⟩), 1, 16) := by kernel_rfl

end Go.Proofs.YtekkkoipcghlmabGreatDoor

namespace Go.Proofs.YtekkkoipcghlmabGreatDoor
open Go.RowKit

theorem digs_len (n : Nat) : (Sp.digs n).length ≤ 2 := by unfold Sp.digs; split <;> simp
theorem lw_len (x : Int) : (Sp.lw x).length ≤ 3 := by
  unfold Sp.lw; have := digs_len x.natAbs; split <;> simp <;> omega
theorem toldBody_len (l : List Int) : (Sp.toldBody l).length ≤ 4 * l.length := by
  unfold Sp.toldBody
  induction l with
  | nil => simp [Sp.join]
  | cons a r ih =>
    have := lw_len a
    cases r with
    | nil => simp [Sp.join]; omega
    | cons b r => simp [Sp.join] at ih ⊢; omega

end Go.Proofs.YtekkkoipcghlmabGreatDoor

namespace Go.Proofs.YtekkkoipcghlmabGreatDoor
open Go.RowKit

theorem Tryz.infoIntW : (Tryz.prog.info? 3).map (fun i => (i.zero, i.size, i.bytes)) = some (some (.int .i64 0), 1, 8) := by kernel_rfl

end Go.Proofs.YtekkkoipcghlmabGreatDoor

namespace Go.Proofs.YtekkkoipcghlmabGreatDoor
open Go.RowKit

theorem join_lib (xs : List (List UInt8)) : Lib.join xs [32] = Sp.join xs := by
  unfold Lib.join
  induction xs with
  | nil => rfl
  | cons a r ih =>
    cases r with
    | nil => simp [Sp.join, List.intercalate]
    | cons b r =>
      rw [Sp.join, ← ih]
      simp [List.intercalate]

theorem litsOf_len (m : Nat) : (Sp.litsOf m).length ≤ 24 := by
  unfold Sp.litsOf
  rw [List.length_map]
  exact Nat.le_trans (List.length_filter_le _ _) (by simp)
theorem litAt_bd (k : Nat) (h : k < 24) : Sp.litAt k ≠ 0 ∧ -12 ≤ Sp.litAt k ∧ Sp.litAt k ≤ 12 := by
  rw [litAt_div]; split <;> omega

theorem map_data (ws : List (List UInt8)) : (ws.map bs).map (·.data.toList) = ws := by
  induction ws with
  | nil => rfl
  | cons a r ih => simp only [List.map_cons, bs_data] at ih ⊢; rw [ih]

theorem join_any (v : Value) (ws : List (List UInt8)) (w : World) (base : Nat) (hown : w.ownsRow base 9 1 v ws.length (strs ws)) (hlen : (Sp.join ws).length ≤ 100000) (hn : ws.length ≤ 100000) :
    Calls Tryz.prog 99 #[v, .string ⟨#[32]⟩] w fun e w' => e = .returned (.string (bs (Sp.join ws))) ∧ Below w.heap.size w w' := by
  have e2 : (ByteArray.mk #[32]).data.toList = [32] := rfl
  rcases hown.2 with ⟨rfl, h0⟩ | ⟨g, cap, cur, rfl, _, hg, hc, _⟩
  · have hw : ws = [] := List.length_eq_zero_iff.1 h0
    subst hw
    refine (Tryz.strings_Join_none none 0 ⟨#[32]⟩ w).mono ?_
    rintro e w1 ⟨rfl, rfl⟩
    exact ⟨rfl, Below.refl _ _⟩
  · have hlt := (hown.lt g rfl).2
    have hcells : ∀ (j : Nat) x, (ws.map bs)[j]? = some x → w.cell? ⟨g, 0 + j, none⟩ = some (.string x) := fun j x hx => by
      have hj : j < ws.length := by
        have := (List.getElem?_eq_some_iff.1 hx).1
        simpa using this
      rw [Nat.zero_add, hown.cellAt j (by omega), strs, List.getElem?_map]
      rw [List.getElem?_map] at hx
      cases hj2 : ws[j]? with
      | none => rw [hj2] at hx; cases hx
      | some y => rw [hj2] at hx; simp at hx ⊢; rw [hx]
    have := Tryz.strings_Join g 0 cap (ws.map bs) ⟨#[32]⟩ w hcells hlt (by simp; omega) (by simpa using hc) (by rw [map_data, e2, join_lib]; omega)
    rw [map_data, e2, join_lib, List.length_map] at this
    exact this

set_option maxRecDepth 100000 in
set_option maxHeartbeats 800000 in
theorem cliterals_any (m : Nat) (w : World) (hm : m < 2 ^ 24) (he : EnvT w) :
    Calls Tryz.prog 30 #[.int .u32 m] w fun e w' => ∃ v, e = .returned v ∧ w'.ownsRow w.heap.size 3 1 v (Sp.litsOf m).length (ints (Sp.litsOf m)) ∧ Below w.heap.size w w' := by
  go_enter Tryz.func30, Tryz.ntmps30
  go_wp2_with fail
  go_loopw [3, 4] (fun v r wr => ∃ (q : Nat) (L : List Int), r = .int .u32 q ∧ q < 2 ^ 24 ∧ wr.ownsRow w.heap.size 3 1 v L.length (ints L) ∧ Below w.heap.size w wr ∧ Hid (L ++ Sp.litsOf q = Sp.litsOf m))
    (fun _ r _ => (Sp.litsOf (intOf r).toNat).length)
  case atStart => exact ⟨m, [], rfl, hm, World.ownsRow_nil _ _ _ _, Below.refl _ _, rfl⟩
  case round =>
    obtain ⟨q, L, rfl, hq, hown, hbel, HI⟩ := hrel
    have hLl : L.length ≤ 24 := by have h1 := litsOf_len m; rw [← unhide HI, List.length_append] at h1; omega
    have HE := hide (he.below hbel)
    by_cases h0 : q = 0
    · have hz : ((q : Int) == 0) = true := by rw [beq_iff_eq]; omega
      have HZ := hide h0
      clear h0
      have HLL : Hid (L = Sp.litsOf m) := hide (by have := unhide HI; rw [unhide HZ, Sp.litsOf_zero, List.append_nil] at this; exact this)
      go_wp2
      go_ret
      exact ⟨_, rfl, by rw [← unhide HLL]; exact hown, hbel⟩
    · have hz : ((q : Int) == 0) = false := by rw [beq_eq_false_iff_ne]; omega
      have hpos : 1 ≤ q := by omega
      obtain ⟨hst, hk⟩ := Sp.litsOf_step q h0 hq
      have HST := hide hst
      have hxb := litAt_bd _ hk
      have HF := hide (pfirst_any q wr hq (unhide HE))
      clear hst h0
      have hand : bits BinOp.and IntKind.u32 (q : Int) ((q : Int) - 1) = ((q &&& (q - 1) : Nat) : Int) := by
        have := bits_and_u32_nat q (q - 1) (Nat.lt_trans hq (by decide)) (by have : (2 : Nat) ^ 24 < 4294967296 := by decide
                                                                             omega)
        rwa [show ((q - 1 : Nat) : Int) = (q : Int) - 1 from by omega] at this
      have HAND := hide hand
      clear hand
      have hq2 : q &&& (q - 1) < 2 ^ 24 := Nat.lt_of_le_of_lt Nat.and_le_left hq
      generalize Sp.litAt (Lib.ctz 32 q) = x at *
      generalize q &&& (q - 1) = q2 at *
      go_wp2_with fail
      refine (unhide HF).mono ?_
      rintro e w1 ⟨rfl, rfl⟩
      go_wp2_with (at_builtin; refine append_one rfl _ _ 22 3 rfl Tryz.underlying22 Tryz.infoIntW rfl (by decide) hown rfl rfl rfl (by omega) (Nat.le_refl _) hbel ?_; intro v' w3 hown' hbel' _)
      go_roundw
      case rel => exact ⟨q2, L ++ [x], by rw [unhide HAND], hq2, by simpa [ints] using hown', hbel', hide (by rw [← unhide HI, unhide HST]; simp)⟩
      case measure => rw [unhide HAND]; simp [intOf, unhide HST]

theorem litsOf_bd (m : Nat) : ∀ x, x ∈ Sp.litsOf m → x ≠ 0 ∧ -12 ≤ x ∧ x ≤ 12 := by
  intro x hx
  unfold Sp.litsOf at hx
  obtain ⟨k, hk, rfl⟩ := List.mem_map.1 hx
  have := (List.mem_filter.1 hk).1
  exact litAt_bd k (by simpa using this)

set_option maxRecDepth 100000 in
set_option maxHeartbeats 800000 in
theorem line_any (m : Nat) (w : World) (hm : m < 2 ^ 24) (he : EnvT w) :
    Calls Tryz.prog 65 #[.int .u32 m] w fun e w' => e = .returned (.string (bs (Sp.told (Sp.litsOf m)))) ∧ Below w.heap.size w w' := by
  have HL := hide (cliterals_any m w hm he)
  have hLl := litsOf_len m
  have hbdx := litsOf_bd m
  generalize Sp.litsOf m = K at *
  go_enter Tryz.func65, Tryz.ntmps65
  go_wp2_with fail
  refine (unhide HL).mono ?_
  rintro e w0 ⟨v0, rfl, hown0, hb0⟩
  have hlies := lies_of_owns hown0 (by simp [ints])
  obtain ⟨ao, cp, rfl⟩ := owns_shape hown0
  clear hown0
  go_wp2_with fail
  go_loopw [3, 9] (fun v r wr => ∃ (k : Nat), k ≤ K.length ∧ r = .int .i64 k ∧ wr.ownsRow w0.heap.size 9 1 v k (strs ((K.take k).map Sp.lw)) ∧ Below w0.heap.size w0 wr)
    (fun _ r _ => K.length - (intOf r).toNat)
  case atStart => exact ⟨0, Nat.zero_le _, rfl, World.ownsRow_nil _ _ _ _, Below.refl _ _⟩
  case round =>
    obtain ⟨k, hk, rfl, hown, hbel0⟩ := hrel
    have hbel := hb0.trans (hbel0.mono hb0.size)
    have HE := hide (he.below hbel)
    by_cases hlt : k < K.length
    · have hne : ints K ≠ [] := by
        intro h; have := congrArg List.length h; simp [ints] at this; rw [this] at hlt; simp at hlt
      rcases hlies with ⟨h0, -⟩ | ⟨b, off, cap', hp, hv, hbb, hc⟩
      · exact absurd h0 hne
      · simp only [Value.slice.injEq] at hv
        obtain ⟨rfl, hv2, rfl⟩ := hv
        clear hv2
        have hcell : wr.cell? ⟨b, off + k, none⟩ = some (.int .i64 K[k]) := (hbel0.cell (p := ⟨b, off + k, none⟩) hbb).trans (hc k (.int .i64 K[k]) (by simp [ints, hlt]))
        have hxb := hbdx K[k] (List.getElem_mem hlt)
        have HS : Hid (K.take (k + 1) = K.take k ++ [K[k]]) := hide (List.take_succ_eq_append_getElem hlt)
        generalize K[k] = x at hcell HS hxb
        clear hc hbdx hne
        have HIT := hide (itoa_any x (by omega) (by omega) wr (unhide HE))
        rw [Sp.itoa_lw _ hxb.1 hxb.2.1 hxb.2.2] at HIT
        go_wp2_with fail
        refine (unhide HIT).mono ?_
        rintro e w2 ⟨rfl, hb2⟩
        have hown2 := owns_below hown hb2
        have hbel02 := hbel0.trans (hb2.mono hbel0.size)
        have hsz0 := hb0.size
        go_wp2_with (at_builtin; refine append_one rfl _ _ 44 9 rfl Tryz.underlying44 Tryz.infoStr rfl (by decide) hown2 rfl rfl rfl (by omega) (Nat.le_refl _) hbel02 ?_; intro v' w3 hown' hbel' hgr)
        go_roundw
        case rel => exact ⟨k + 1, by omega, by go_num, by rw [unhide HS]; simpa [strs] using hown', hbel'⟩
        case measure => simp [intOf]; omega
    · have HLL : Hid (K.take k = K) := hide (List.take_of_length_le (by omega))
      have hbl := toldBody_len K
      have HJ := hide (join_any _ (K.map Sp.lw) wr w0.heap.size (by rw [List.length_map]; have := hown; rw [unhide HLL, show k = K.length from by omega] at this; exact this) (by unfold Sp.toldBody at hbl; omega) (by simp; omega))
      have HJ : Hid (Calls Tryz.prog 99 #[_, .string ⟨#[32]⟩] wr fun e w' => e = .returned (.string (bs (Sp.toldBody K))) ∧ Below wr.heap.size wr w') := HJ
      have hadd : ∀ wx, (Op.stringOp .add (bs (Sp.toldBody K)) ⟨#[10]⟩).run Tryz.prog wx = .ok (.string (bs (Sp.toldBody K ++ [10]))) wx := fun wx => add_bs (Sp.toldBody K) [10] (by simp; omega) wx
      clear hown hlies hbdx
      go_wp2_with fail
      refine (unhide HJ).mono ?_
      rintro e w1 ⟨rfl, hb1⟩
      go_wp2
      go_ret
      exact ⟨rfl, hbel.trans (hb1.mono hbel.size)⟩

end Go.Proofs.YtekkkoipcghlmabGreatDoor
