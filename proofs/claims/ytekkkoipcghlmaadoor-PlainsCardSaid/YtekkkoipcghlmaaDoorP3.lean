import Derived.Test.YtekkkoipcghlmaaDoorP2
namespace Go.Proofs.YtekkkoipcghlmaaDoor
open Go.RowKit

theorem bits_or_u32 (a b : Nat) (ha : a < 4294967296) (hb : b < 4294967296) : bits .or .u32 (a : Int) (b : Int) = ((a ||| b : Nat) : Int) := by
  have hx : a ||| b < 2 ^ 32 := Nat.or_lt_two_pow (by omega) (by omega)
  have h1 : (BitVec.ofInt 32 (a : Int)).toNat = a := by
    rw [BitVec.ofInt_natCast, BitVec.toNat_ofNat]; exact Nat.mod_eq_of_lt (by omega)
  have h2 : (BitVec.ofInt 32 (b : Int)).toNat = b := by
    rw [BitVec.ofInt_natCast, BitVec.toNat_ofNat]; exact Nat.mod_eq_of_lt (by omega)
  show IntKind.u32.wrap ((BitVec.ofInt 32 (a : Int) ||| BitVec.ofInt 32 (b : Int)).toNat : Int) = _
  rw [BitVec.toNat_or, h1, h2, wrap_u32']
  omega

set_option maxRecDepth 100000 in
set_option maxHeartbeats 400000 in
theorem unionS_any (v : Value) (ws : List (List UInt8)) (w : World) (hl : ws.length ≤ 10000000) (hw : ∀ x, x ∈ ws → x.length ≤ 6000) (hv : Lies w v (strs ws)) (he : Env w) :
    Calls Tryd.prog 35 #[v, .func (.func 36) #[] #[]] w fun e w' => Below w.heap.size w w' ∧
      ((allLit ws = false ∧ e = .returned (.tuple #[.int .u32 0, .bool false])) ∨ (allLit ws = true ∧ e = .returned (.tuple #[.int .u32 (Sp.maskOf (ws.map Sp.lit) : Int), .bool true]))) := by
  rcases hv with ⟨h0, ao, cap, rfl⟩ | ⟨b, off, cap, hp, rfl, hb, hc⟩
  · have hx0 : ws = [] := by simpa [strs] using h0
    subst hx0
    go_enter Tryd.func35, Tryd.ntmps35
    go_wp2
    refine wp_loop_rounds 1 ?_
    rw [rounds_succ]
    go_wp2
    go_ret2
    exact ⟨Below.refl _ _, .inr ⟨rfl, rfl⟩⟩
  · have hlen : (strs ws).length = ws.length := by simp [strs]
    rw [hlen] at hp ⊢
    go_enter Tryd.func35, Tryd.ntmps35
    go_wp2
    go_loopw [6, 13] (fun m i wr => ∃ k : Nat, k ≤ ws.length ∧ i = .int .i64 k ∧ m = .int .u32 (Sp.maskOf ((ws.take k).map Sp.lit) : Int) ∧ Below w.heap.size w wr ∧ Hid (allLit (ws.take k) = true)) (fun _ i _ => ws.length - (intOf i).toNat)
    case atStart => exact ⟨0, Nat.zero_le _, rfl, rfl, Below.refl _ _, rfl⟩
    case round =>
      obtain ⟨k, hk, rfl, rfl, hbel, HA⟩ := hrel
      by_cases hlt : k < ws.length
      · have hcell : wr.cell? ⟨b, off + k, none⟩ = some (.string (bs ws[k])) := (hbel.cell (p := ⟨b, off + k, none⟩) hb).trans (hc k (.string (bs ws[k])) (by simp [strs, hlt]))
        have hxl := hw ws[k] (List.getElem_mem hlt)
        have HM : Hid (ws[k] ∈ ws) := hide (List.getElem_mem hlt)
        have HS : Hid (ws.take (k + 1) = ws.take k ++ [ws[k]]) := hide (List.take_succ_eq_append_getElem hlt)
        generalize ws[k] = x at hcell HS hxl HM
        clear hc hw
        have HW := hide (fromWord_any x wr hxl (he.below hbel))
        have hbd := Sp.lit_bd x
        by_cases hz : Sp.lit x = 0
        · rw [(fw_no hz).1, (fw_no hz).2] at HW
          have HZ := hide hz
          clear hz
          go_wp2_with fail
          refine (unhide HW).mono ?_
          rintro e w1 ⟨hb1, rfl⟩
          go_wp2
          go_ret2
          have hfalse : allLit ws = false := by
            rw [allLit, List.all_eq_false]
            exact ⟨x, unhide HM, by simp [unhide HZ]⟩
          exact ⟨hbel.trans (hb1.mono hbel.size), .inl ⟨hfalse, rfl⟩⟩
        · rw [(fw_yes hz).1, (fw_yes hz).2] at HW
          have HZ := hide hz
          clear hz
          have HMB : Hid (Sp.maskOf ((ws.take (k + 1)).map Sp.lit) = Sp.maskOf ((ws.take k).map Sp.lit) ||| Sp.bit (Sp.lit x)) := hide (by rw [unhide HS, List.map_append, ← Sp.maskOf_snoc]; rfl)
          have hm1 : Sp.maskOf ((ws.take k).map Sp.lit) < 2 ^ 24 := Sp.maskOf_lt _ (fun y hy => by obtain ⟨z, _, rfl⟩ := List.mem_map.1 hy; exact Sp.lit_bd z)
          have hm2 : Sp.bit (Sp.lit x) < 2 ^ 24 := Nat.pow_lt_pow_right (by decide) (Sp.bitIx_lt _ hbd)
          generalize Sp.maskOf ((ws.take k).map Sp.lit) = m1 at *
          generalize Sp.bit (Sp.lit x) = m2 at *
          have HOR : Hid (bits BinOp.or IntKind.u32 (m1 : Int) (m2 : Int) = ((m1 ||| m2 : Nat) : Int)) := hide (bits_or_u32 m1 m2 (Nat.lt_trans hm1 (by decide)) (Nat.lt_trans hm2 (by decide)))
          go_wp2_with fail
          refine (unhide HW).mono ?_
          rintro e w1 ⟨hb1, rfl⟩
          go_wp2
          go_roundw
          case rel => exact ⟨k + 1, by omega, by go_num, by rw [unhide HMB, ← unhide HOR], hbel.trans (hb1.mono hbel.size), hide (by rw [unhide HS]; have := unhide HA; simp [allLit] at this ⊢; exact ⟨this, unhide HZ⟩)⟩
          case measure => simp [intOf]; omega
      · have HT : Hid (ws.take k = ws) := hide (List.take_of_length_le (by omega))
        go_wp2
        go_ret2
        have htrue : allLit ws = true := by rw [← unhide HT]; exact unhide HA
        exact ⟨hbel, .inr ⟨htrue, by rw [unhide HT]; rfl⟩⟩

set_option maxRecDepth 100000 in
set_option maxHeartbeats 400000 in
theorem fromWords_any (v : Value) (ws : List (List UInt8)) (w : World) (hl : ws.length ≤ 10000000) (hw : ∀ x, x ∈ ws → x.length ≤ 6000) (hv : Lies w v (strs ws)) (he : Env w) :
    Calls Tryd.prog 19 #[v] w fun e w' => Below w.heap.size w w' ∧
      ((allLit ws = false ∧ e = .returned (.tuple #[.int .u32 0, .bool false])) ∨ (allLit ws = true ∧ e = .returned (.tuple #[.int .u32 (Sp.maskOf (ws.map Sp.lit) : Int), .bool true]))) := by
  have HU := hide (unionS_any v ws w hl hw hv he)
  generalize allLit ws = al at *
  generalize Sp.maskOf (ws.map Sp.lit) = mk at *
  clear hw hv hl
  go_enter Tryd.func19, Tryd.ntmps19
  go_wp2_with fail
  refine (unhide HU).mono ?_
  rintro e w1 ⟨hb1, ⟨h1, rfl⟩ | ⟨h1, rfl⟩⟩
  · have H1 := hide h1
    clear h1
    go_wp2
    go_ret2
    exact ⟨hb1, .inl ⟨unhide H1, rfl⟩⟩
  · have H1 := hide h1
    clear h1
    go_wp2
    go_ret2
    exact ⟨hb1, .inr ⟨unhide H1, rfl⟩⟩

end Go.Proofs.YtekkkoipcghlmaaDoor
