import Derived.Test.YtekkkoipcghlmaaGreatDoorJ03
import Derived.Test.YtekkkoipcghlmaaGreatDoorJ07
import Derived.Test.YtekkkoipcghlmaaGreatDoorJ06
import Derived.Lib.Join
namespace Go.Proofs.YtekkkoipcghlmaaGreatDoor
open Go.RowKit

theorem litAt_div (k : Nat) : Sp.litAt k = if k % 2 = 1 then -((k : Int) / 2 + 1) else (k : Int) / 2 + 1 := by
  unfold Sp.litAt
  by_cases h : k % 2 = 0
  · rw [if_pos h, if_neg (by omega)]; omega
  · rw [if_neg h, if_pos (by omega)]; omega

theorem ret_int64 {a b : Int} (h : a = b) : Ending.returned (.int .i64 a) = .returned (.int .i64 b) := by rw [h]

set_option maxRecDepth 100000 in
set_option maxHeartbeats 400000 in
theorem first_any (m : Nat) (w : World) (hm : m < 2 ^ 24) (he : Env w) :
    Calls Tryz.prog 70 #[.int .u32 m] w fun e w' => e = .returned (.int .i64 (Sp.litAt (Lib.ctz 32 m))) ∧ w' = w := by
  have HT := hide (Any7.bits_TrailingZeros32 Tryz.lays7n28 m (Nat.lt_trans hm (by decide)) w (fun _ => he.brj.2))
  have HT : Hid (Calls Tryz.prog 115 #[.int .u32 m] w fun e w' => e = .returned (.int .i64 (Lib.ctz 32 m)) ∧ w' = w) := HT
  have HL := hide (litAt_div (Lib.ctz 32 m))
  have hc : Lib.ctz 32 m ≤ 32 := by
    by_cases h0 : m = 0
    · subst h0; decide
    · exact Nat.le_of_lt (Lib.lowest_bit 32 m h0 (Nat.lt_trans hm (by decide))).2
  generalize Lib.ctz 32 m = k at *
  by_cases h1 : k % 2 = 1
  · have hq : ((k : Int) % 2 == 1) = true := by rw [beq_iff_eq]; omega
    have H1 := hide h1
    clear h1
    go_enter Tryz.func70, Tryz.ntmps70
    go_wp2_with fail
    refine (unhide HT).mono ?_
    rintro e w1 ⟨rfl, rfl⟩
    go_wp2
    go_ret
    exact ⟨ret_int64 (by rw [unhide HL, if_pos (unhide H1)]), rfl⟩
  · have hq : ((k : Int) % 2 == 1) = false := by rw [beq_eq_false_iff_ne]; omega
    have H1 := hide h1
    clear h1
    go_enter Tryz.func70, Tryz.ntmps70
    go_wp2_with fail
    refine (unhide HT).mono ?_
    rintro e w1 ⟨rfl, rfl⟩
    go_wp2
    go_ret
    exact ⟨ret_int64 (by rw [unhide HL, if_neg (unhide H1)]), rfl⟩

end Go.Proofs.YtekkkoipcghlmaaGreatDoor

namespace Go.Proofs.YtekkkoipcghlmaaGreatDoor
open Go.RowKit

theorem join_lib (xs : List (List UInt8)) : Lib.join xs [32] = Sp.join xs := by
  unfold Lib.join
  induction xs with
  | nil => rfl
  | cons a r ih =>
    cases r with
    | nil => simp [Sp.join, List.intercalate]
    | cons b r =>
      rw [Sp.join, ← ih]
      simp [List.intercalate]

theorem litsOf_len (m : Nat) : (Sp.litsOf m).length ≤ 24 := by
  unfold Sp.litsOf
  rw [List.length_map]
  exact Nat.le_trans (List.length_filter_le _ _) (by simp)
theorem litAt_bd (k : Nat) (h : k < 24) : Sp.litAt k ≠ 0 ∧ -12 ≤ Sp.litAt k ∧ Sp.litAt k ≤ 12 := by
  rw [litAt_div]; split <;> omega

theorem map_data (ws : List (List UInt8)) : (ws.map bs).map (·.data.toList) = ws := by
  induction ws with
  | nil => rfl
  | cons a r ih => simp only [List.map_cons, bs_data] at ih ⊢; rw [ih]

theorem join_any (v : Value) (ws : List (List UInt8)) (w : World) (base : Nat) (hown : w.ownsRow base 9 1 v ws.length (strs ws)) (hlen : (Sp.join ws).length ≤ 100000) (hn : ws.length ≤ 100000) :
    Calls Tryz.prog 131 #[v, .string ⟨#[32]⟩] w fun e w' => e = .returned (.string (bs (Sp.join ws))) ∧ Below w.heap.size w w' := by
  have e2 : (ByteArray.mk #[32]).data.toList = [32] := rfl
  rcases hown.2 with ⟨rfl, h0⟩ | ⟨g, cap, cur, rfl, _, hg, hc, _⟩
  · have hw : ws = [] := List.length_eq_zero_iff.1 h0
    subst hw
    refine (Tryz.strings_Join_none none 0 ⟨#[32]⟩ w).mono ?_
    rintro e w1 ⟨rfl, rfl⟩
    exact ⟨rfl, Below.refl _ _⟩
  · have hlt := (hown.lt g rfl).2
    have hcells : ∀ (j : Nat) x, (ws.map bs)[j]? = some x → w.cell? ⟨g, 0 + j, none⟩ = some (.string x) := fun j x hx => by
      have hj : j < ws.length := by
        have := (List.getElem?_eq_some_iff.1 hx).1
        simpa using this
      rw [Nat.zero_add, hown.cellAt j (by omega), strs, List.getElem?_map]
      rw [List.getElem?_map] at hx
      cases hj2 : ws[j]? with
      | none => rw [hj2] at hx; cases hx
      | some y => rw [hj2] at hx; simp at hx ⊢; rw [hx]
    have := Tryz.strings_Join g 0 cap (ws.map bs) ⟨#[32]⟩ w hcells hlt (by simp; omega) (by simpa using hc) (by rw [map_data, e2, join_lib]; omega)
    rw [map_data, e2, join_lib, List.length_map] at this
    exact this

set_option maxRecDepth 100000 in
set_option maxHeartbeats 800000 in
theorem literals_any (m : Nat) (w : World) (hm : m < 2 ^ 24) (he : Env w) :
    Calls Tryz.prog 41 #[.int .u32 m] w fun e w' => ∃ v, e = .returned v ∧ w'.ownsRow w.heap.size 3 1 v (Sp.litsOf m).length (ints (Sp.litsOf m)) ∧ Below w.heap.size w w' := by
  go_enter Tryz.func41, Tryz.ntmps41
  go_wp2_with fail
  go_loopw [3, 4] (fun v r wr => ∃ (q : Nat) (L : List Int), r = .int .u32 q ∧ q < 2 ^ 24 ∧ wr.ownsRow w.heap.size 3 1 v L.length (ints L) ∧ Below w.heap.size w wr ∧ Hid (L ++ Sp.litsOf q = Sp.litsOf m))
    (fun _ r _ => (Sp.litsOf (intOf r).toNat).length)
  case atStart => exact ⟨m, [], rfl, hm, World.ownsRow_nil _ _ _ _, Below.refl _ _, rfl⟩
  case round =>
    obtain ⟨q, L, rfl, hq, hown, hbel, HI⟩ := hrel
    have hLl : L.length ≤ 24 := by have h1 := litsOf_len m; rw [← unhide HI, List.length_append] at h1; omega
    have HE := hide (he.below hbel)
    by_cases h0 : q = 0
    · have hz : ((q : Int) == 0) = true := by rw [beq_iff_eq]; omega
      have HZ := hide h0
      clear h0
      have HLL : Hid (L = Sp.litsOf m) := hide (by have := unhide HI; rw [unhide HZ, Sp.litsOf_zero, List.append_nil] at this; exact this)
      go_wp2
      go_ret
      exact ⟨_, rfl, by rw [← unhide HLL]; exact hown, hbel⟩
    · have hz : ((q : Int) == 0) = false := by rw [beq_eq_false_iff_ne]; omega
      have hpos : 1 ≤ q := by omega
      obtain ⟨hst, hk⟩ := Sp.litsOf_step q h0 hq
      have HST := hide hst
      have hxb := litAt_bd _ hk
      have HF := hide (first_any q wr hq (unhide HE))
      clear hst h0
      have hand : bits BinOp.and IntKind.u32 (q : Int) ((q : Int) - 1) = ((q &&& (q - 1) : Nat) : Int) := by
        have := bits_and_u32_nat q (q - 1) (Nat.lt_trans hq (by decide)) (by have : (2 : Nat) ^ 24 < 4294967296 := by decide
                                                                             omega)
        rwa [show ((q - 1 : Nat) : Int) = (q : Int) - 1 from by omega] at this
      have HAND := hide hand
      clear hand
      have hq2 : q &&& (q - 1) < 2 ^ 24 := Nat.lt_of_le_of_lt Nat.and_le_left hq
      generalize Sp.litAt (Lib.ctz 32 q) = x at *
      generalize q &&& (q - 1) = q2 at *
      go_wp2_with fail
      refine (unhide HF).mono ?_
      rintro e w1 ⟨rfl, rfl⟩
      go_wp2_with (at_builtin; refine append_one rfl _ _ 25 3 rfl Tryz.underlying25 Tryz.infoInt rfl (by decide) hown rfl rfl rfl (by omega) (Nat.le_refl _) hbel ?_; intro v' w3 hown' hbel' _)
      go_roundw
      case rel => exact ⟨q2, L ++ [x], by rw [unhide HAND], hq2, by simpa [ints] using hown', hbel', hide (by rw [← unhide HI, unhide HST]; simp)⟩
      case measure => rw [unhide HAND]; simp [intOf, unhide HST]

theorem litsOf_bd (m : Nat) : ∀ x, x ∈ Sp.litsOf m → x ≠ 0 ∧ -12 ≤ x ∧ x ≤ 12 := by
  intro x hx
  unfold Sp.litsOf at hx
  obtain ⟨k, hk, rfl⟩ := List.mem_map.1 hx
  have := (List.mem_filter.1 hk).1
  exact litAt_bd k (by simpa using this)

set_option maxRecDepth 100000 in
set_option maxHeartbeats 800000 in
theorem line_any (m : Nat) (w : World) (hm : m < 2 ^ 24) (he : Env w) :
    Calls Tryz.prog 86 #[.int .u32 m] w fun e w' => e = .returned (.string (bs (Sp.told (Sp.litsOf m)))) ∧ Below w.heap.size w w' := by
  have HL := hide (literals_any m w hm he)
  have hLl := litsOf_len m
  have hbdx := litsOf_bd m
  generalize Sp.litsOf m = K at *
  go_enter Tryz.func86, Tryz.ntmps86
  go_wp2_with fail
  refine (unhide HL).mono ?_
  rintro e w0 ⟨v0, rfl, hown0, hb0⟩
  have hlies := lies_of_owns hown0 (by simp [ints])
  obtain ⟨ao, cp, rfl⟩ := owns_shape hown0
  clear hown0
  go_wp2_with fail
  go_loopw [3, 9] (fun v r wr => ∃ (k : Nat), k ≤ K.length ∧ r = .int .i64 k ∧ wr.ownsRow w0.heap.size 9 1 v k (strs ((K.take k).map Sp.lw)) ∧ Below w0.heap.size w0 wr)
    (fun _ r _ => K.length - (intOf r).toNat)
  case atStart => exact ⟨0, Nat.zero_le _, rfl, World.ownsRow_nil _ _ _ _, Below.refl _ _⟩
  case round =>
    obtain ⟨k, hk, rfl, hown, hbel0⟩ := hrel
    have hbel := hb0.trans (hbel0.mono hb0.size)
    have HE := hide (he.below hbel)
    by_cases hlt : k < K.length
    · have hne : ints K ≠ [] := by
        intro h; have := congrArg List.length h; simp [ints] at this; rw [this] at hlt; simp at hlt
      rcases hlies with ⟨h0, -⟩ | ⟨b, off, cap', hp, hv, hbb, hc⟩
      · exact absurd h0 hne
      · simp only [Value.slice.injEq] at hv
        obtain ⟨rfl, hv2, rfl⟩ := hv
        clear hv2
        have hcell : wr.cell? ⟨b, off + k, none⟩ = some (.int .i64 K[k]) := (hbel0.cell (p := ⟨b, off + k, none⟩) hbb).trans (hc k (.int .i64 K[k]) (by simp [ints, hlt]))
        have hxb := hbdx K[k] (List.getElem_mem hlt)
        have HS : Hid (K.take (k + 1) = K.take k ++ [K[k]]) := hide (List.take_succ_eq_append_getElem hlt)
        generalize K[k] = x at hcell HS hxb
        clear hc hbdx hne
        have HIT := hide (itoa_any x (by omega) (by omega) wr (unhide HE))
        rw [Sp.itoa_lw _ hxb.1 hxb.2.1 hxb.2.2] at HIT
        go_wp2_with fail
        refine (unhide HIT).mono ?_
        rintro e w2 ⟨rfl, hb2⟩
        have hown2 := owns_below hown hb2
        have hbel02 := hbel0.trans (hb2.mono hbel0.size)
        have hsz0 := hb0.size
        go_wp2_with (at_builtin; refine append_one rfl _ _ 177 9 rfl Tryz.underlying177 Tryz.infoStr rfl (by decide) hown2 rfl rfl rfl (by omega) (Nat.le_refl _) hbel02 ?_; intro v' w3 hown' hbel' hgr)
        go_roundw
        case rel => exact ⟨k + 1, by omega, by go_num, by rw [unhide HS]; simpa [strs] using hown', hbel'⟩
        case measure => simp [intOf]; omega
    · have HLL : Hid (K.take k = K) := hide (List.take_of_length_le (by omega))
      have hbl := toldBody_len K
      have HJ := hide (join_any _ (K.map Sp.lw) wr w0.heap.size (by rw [List.length_map]; have := hown; rw [unhide HLL, show k = K.length from by omega] at this; exact this) (by unfold Sp.toldBody at hbl; omega) (by simp; omega))
      have HJ : Hid (Calls Tryz.prog 131 #[_, .string ⟨#[32]⟩] wr fun e w' => e = .returned (.string (bs (Sp.toldBody K))) ∧ Below wr.heap.size wr w') := HJ
      have hadd : ∀ wx, (Op.stringOp .add (bs (Sp.toldBody K)) ⟨#[10]⟩).run Tryz.prog wx = .ok (.string (bs (Sp.toldBody K ++ [10]))) wx := fun wx => add_bs (Sp.toldBody K) [10] (by simp; omega) wx
      clear hown hlies hbdx
      go_wp2_with fail
      refine (unhide HJ).mono ?_
      rintro e w1 ⟨rfl, hb1⟩
      go_wp2
      go_ret
      exact ⟨rfl, hbel.trans (hb1.mono hbel.size)⟩

end Go.Proofs.YtekkkoipcghlmaaGreatDoor

namespace Go.Proofs.YtekkkoipcghlmaaGreatDoor
open Go.RowKit

theorem Tryz.laysWS : Lays.n166 Tryz.prog Tryz.lays156_ren := {
  mixed := Tryz.lays156.mixed
  f166 := Tryz.lays156.f166
  f240 := Tryz.lays156.f240
  f276 := Tryz.lays156.f276
  t0 := Tryz.lays156.t0
  a0 := Tryz.lays156.a0
  z0 := Tryz.lays156.z0
  v0 := Tryz.lays156.v0
  t3 := Tryz.lays156.t3
  a3 := Tryz.lays156.a3
  z3 := Tryz.lays156.z3
  v3 := Tryz.lays156.v3
  t4 := Tryz.lays156.t4
  a4 := Tryz.lays156.a4
  z4 := Tryz.lays156.z4
  v4 := Tryz.lays156.v4
  t9 := Tryz.lays156.t9
  a9 := Tryz.lays156.a9
  z9 := Tryz.lays156.z9
  v9 := Tryz.lays156.v9
  t20 := Tryz.lays156.t20
  a20 := Tryz.lays156.a20
  z20 := Tryz.lays156.z20
  v20 := Tryz.lays156.v20
  t37 := Tryz.lays156.t37
  a37 := Tryz.lays156.a37
  z37 := Tryz.lays156.z37
  v37 := Tryz.lays156.v37
  t70 := Tryz.lays156.t70
  a70 := Tryz.lays156.a70
  z70 := Tryz.lays156.z70
  v70 := Tryz.lays156.v70
  t72 := Tryz.lays156.t72
  a72 := Tryz.lays156.a72
  z72 := Tryz.lays156.z72
  v72 := Tryz.lays156.v72
  t75 := Tryz.lays156.t75
  a75 := Tryz.lays156.a75
  z75 := Tryz.lays156.z75
  v75 := Tryz.lays156.v75
  t164 := Tryz.lays156.t164
  a164 := Tryz.lays156.a164
  z164 := Tryz.lays156.z164
  v164 := Tryz.lays156.v164 }

theorem Tryz.laysST : Lays.n169 Tryz.prog Tryz.lays156_ren := {
  mixed := Tryz.lays156.mixed
  f169 := Tryz.lays156.f169
  t0 := Tryz.lays156.t0
  a0 := Tryz.lays156.a0
  z0 := Tryz.lays156.z0
  v0 := Tryz.lays156.v0
  t3 := Tryz.lays156.t3
  a3 := Tryz.lays156.a3
  z3 := Tryz.lays156.z3
  v3 := Tryz.lays156.v3
  t9 := Tryz.lays156.t9
  a9 := Tryz.lays156.a9
  z9 := Tryz.lays156.z9
  v9 := Tryz.lays156.v9
  t37 := Tryz.lays156.t37
  a37 := Tryz.lays156.a37
  z37 := Tryz.lays156.z37
  v37 := Tryz.lays156.v37
  t70 := Tryz.lays156.t70
  a70 := Tryz.lays156.a70
  z70 := Tryz.lays156.z70
  v70 := Tryz.lays156.v70
  t72 := Tryz.lays156.t72
  a72 := Tryz.lays156.a72
  z72 := Tryz.lays156.z72
  v72 := Tryz.lays156.v72
  t127 := Tryz.lays156.t127
  a127 := Tryz.lays156.a127
  z127 := Tryz.lays156.z127
  v127 := Tryz.lays156.v127 }

theorem IsBuilder.below {T e : TypeId} {B b : Nat} {cs : List Value} {w w' : World} (h : Lib.IsBuilder T e B b cs w) (hb : Below w.heap.size w w') : Lib.IsBuilder T e B b cs w' := by
  have key : ∀ p, Lib.BuilderAt T e B b p cs w → Lib.BuilderAt T e B b p cs w' := by
    rintro p ⟨h1, v, h2, h3, h4⟩
    have hlt := (Array.getElem?_eq_some_iff.1 h2).1
    exact ⟨h1, v, (hb.block b hlt).trans h2, owns_below h3 hb, h4⟩
  rcases h with h | h
  · exact .inl (key _ h)
  · exact .inr (key _ h)

def maskText (ms : List Nat) : List UInt8 := ms.flatMap (fun m => Sp.told (Sp.litsOf m))
theorem maskText_snoc (ms : List Nat) (m : Nat) : maskText (ms ++ [m]) = maskText ms ++ Sp.told (Sp.litsOf m) := by
  unfold maskText; rw [List.flatMap_append]; simp
theorem maskTold_len (m : Nat) : (Sp.told (Sp.litsOf m)).length ≤ 97 := by
  have h1 := toldBody_len (Sp.litsOf m); have h2 := litsOf_len m
  simp [Sp.told]; omega
theorem maskText_len (ms : List Nat) : (maskText ms).length ≤ 97 * ms.length := by
  induction ms with
  | nil => simp [maskText]
  | cons a r ih =>
    have h1 := maskTold_len a
    simp only [maskText, List.flatMap_cons, List.length_append, List.length_cons] at ih ⊢
    omega

theorem writeString_any (B b : Nat) (l t : List UInt8) (w : World) (h : Lib.IsBuilder 138 5 B b (Lib.byteCells l) w) (hlen : l.length + t.length ≤ 140737488355328) (hBw : B ≤ w.heap.size) :
    Calls Tryz.prog 88 #[.pointer (some ⟨b, 0, none⟩), .string (bs t)] w fun e w' => ∃ n : Int, e = .returned (.tuple #[.int .i64 n, .nilIface]) ∧ Lib.IsBuilder 138 5 B b (Lib.byteCells (l ++ t)) w' ∧ Below B w w' := by
  refine (Any.Builder_WriteString Tryz.laysWS Tryz.Builder_Extra_156 B b (Lib.byteCells l) (bs t) w h (by rw [Lib.byteCells_length, bs_size]; exact hlen) hBw).mono ?_
  rintro e w' ⟨rfl, hb, hbel⟩
  refine ⟨_, rfl, .inr ?_, hbel⟩
  have e1 : Lib.byteCells l ++ Lib.strCells (bs t) = Lib.byteCells (l ++ t) := by
    rw [Lib.strCells_eq, bs_data]; simp [Lib.byteCells]
  rw [e1] at hb
  exact hb

theorem builderString_any (B b : Nat) (l : List UInt8) (w : World) (h : Lib.IsBuilder 138 5 B b (Lib.byteCells l) w) (hBw : B ≤ w.heap.size) :
    Calls Tryz.prog 89 #[.pointer (some ⟨b, 0, none⟩)] w fun e w' => e = .returned (.string (bs l)) ∧ Below B w w' :=
  Any.Builder_String_any Tryz.laysST Tryz.Builder_Extra_156 B b l w h hBw

set_option maxRecDepth 100000 in
set_option maxHeartbeats 800000 in
theorem clausePlain_any (v : Value) (ms : List Nat) (w : World) (hl : ms.length ≤ 10000000) (hm : ∀ m, m ∈ ms → m < 2 ^ 24) (hv : Lies w v (us ms)) (he : Env w) :
    Calls Tryz.prog 48 #[v] w fun e w' => e = .returned (.string (bs (maskText ms))) ∧ Below w.heap.size w w' := by
  have hfresh := hide (Lib.fresh_isBuilder 138 5 w)
  have hb0 : Below w.heap.size w (w.alloc (.cells #[.pointer none, .slice none 0 0] 138)) := (Below.refl _ _).alloc (Nat.le_refl _) _
  rcases hv with ⟨h0, ao, cap, rfl⟩ | ⟨b, off, cap, hp, rfl, hb, hc⟩
  · have hx : ms = [] := by simpa [us] using h0
    subst hx
    go_enter Tryz.func48, Tryz.ntmps48
    go_wp2
    refine wp_loop_rounds 1 ?_
    rw [rounds_succ]
    go_wp2_with fail
    refine (builderString_any w.heap.size w.heap.size [] _ (unhide hfresh) (by simp)).mono ?_
    rintro e w1 ⟨rfl, hb1⟩
    go_wp2
    go_ret
    exact ⟨rfl, hb0.trans hb1⟩
  · have hlen : (us ms).length = ms.length := by simp [us]
    rw [hlen] at hp ⊢
    go_enter Tryz.func48, Tryz.ntmps48
    go_wp2
    go_loopw [8] (fun i wr => ∃ k : Nat, k ≤ ms.length ∧ i = .int .i64 k ∧ Lib.IsBuilder 138 5 w.heap.size w.heap.size (Lib.byteCells (maskText (ms.take k))) wr ∧ Below w.heap.size w wr) (fun i _ => ms.length - (intOf i).toNat)
    case atStart => exact ⟨0, Nat.zero_le _, rfl, unhide hfresh, hb0⟩
    case round =>
      obtain ⟨k, hk, rfl, hbu, hbel⟩ := hrel
      have HB := hide hbu
      clear hbu
      have hml := maskText_len (ms.take k)
      have hml2 : (ms.take k).length ≤ k := List.length_take_le _ _
      by_cases hlt : k < ms.length
      · have hcell : wr.cell? ⟨b, off + k, none⟩ = some (.int .u32 (ms[k] : Int)) := (hbel.cell (p := ⟨b, off + k, none⟩) hb).trans (hc k (.int .u32 (ms[k] : Int)) (by simp [us, hlt]))
        have hmm := hm ms[k] (List.getElem_mem hlt)
        have HS : Hid (ms.take (k + 1) = ms.take k ++ [ms[k]]) := hide (List.take_succ_eq_append_getElem hlt)
        generalize ms[k] = m at hcell HS hmm
        clear hc hm
        have htl := maskTold_len m
        have HL := hide (line_any m wr hmm (he.below hbel))
        have HSN := hide (maskText_snoc (ms.take k) m)
        go_wp2_with fail
        refine (unhide HL).mono ?_
        rintro e w1 ⟨rfl, hb1⟩
        have hsz := hbel.size
        have hsz1 := hb1.size
        have HW := hide (writeString_any w.heap.size w.heap.size (maskText (ms.take k)) (Sp.told (Sp.litsOf m)) w1 (IsBuilder.below (unhide HB) hb1) (by omega) (by omega))
        go_wp2_with fail
        refine (unhide HW).mono ?_
        rintro e w2 ⟨n, rfl, hbu2, hb2⟩
        have HB2 := hide hbu2
        clear hbu2
        go_wp2
        go_roundw
        case rel => exact ⟨k + 1, by omega, by go_num, by rw [unhide HS, unhide HSN]; exact unhide HB2, (hbel.trans (hb1.mono hbel.size)).trans hb2⟩
        case measure => simp [intOf]; omega
      · have HT : Hid (ms.take k = ms) := hide (List.take_of_length_le (by omega))
        have hsz := hbel.size
        have HSt := hide (builderString_any w.heap.size w.heap.size (maskText (ms.take k)) wr (unhide HB) (by omega))
        go_wp2_with fail
        refine (unhide HSt).mono ?_
        rintro e w1 ⟨rfl, hb1⟩
        go_wp2
        go_ret
        exact ⟨by rw [unhide HT]; rfl, hbel.trans hb1⟩

end Go.Proofs.YtekkkoipcghlmaaGreatDoor
