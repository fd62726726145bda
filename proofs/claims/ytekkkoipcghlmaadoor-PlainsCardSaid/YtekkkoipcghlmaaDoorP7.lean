import Derived.Test.YtekkkoipcghlmaaDoorP6
namespace Go.Proofs.YtekkkoipcghlmaaDoor
open Go.RowKit

theorem Tryd.laysWS : Lays.n166 Tryd.prog Tryd.lays156_ren := {
  mixed := Tryd.lays156.mixed
  f166 := Tryd.lays156.f166
  f240 := Tryd.lays156.f240
  f276 := Tryd.lays156.f276
  t0 := Tryd.lays156.t0
  a0 := Tryd.lays156.a0
  z0 := Tryd.lays156.z0
  v0 := Tryd.lays156.v0
  t3 := Tryd.lays156.t3
  a3 := Tryd.lays156.a3
  z3 := Tryd.lays156.z3
  v3 := Tryd.lays156.v3
  t4 := Tryd.lays156.t4
  a4 := Tryd.lays156.a4
  z4 := Tryd.lays156.z4
  v4 := Tryd.lays156.v4
  t9 := Tryd.lays156.t9
  a9 := Tryd.lays156.a9
  z9 := Tryd.lays156.z9
  v9 := Tryd.lays156.v9
  t20 := Tryd.lays156.t20
  a20 := Tryd.lays156.a20
  z20 := Tryd.lays156.z20
  v20 := Tryd.lays156.v20
  t37 := Tryd.lays156.t37
  a37 := Tryd.lays156.a37
  z37 := Tryd.lays156.z37
  v37 := Tryd.lays156.v37
  t70 := Tryd.lays156.t70
  a70 := Tryd.lays156.a70
  z70 := Tryd.lays156.z70
  v70 := Tryd.lays156.v70
  t72 := Tryd.lays156.t72
  a72 := Tryd.lays156.a72
  z72 := Tryd.lays156.z72
  v72 := Tryd.lays156.v72
  t75 := Tryd.lays156.t75
  a75 := Tryd.lays156.a75
  z75 := Tryd.lays156.z75
  v75 := Tryd.lays156.v75
  t164 := Tryd.lays156.t164
  a164 := Tryd.lays156.a164
  z164 := Tryd.lays156.z164
  v164 := Tryd.lays156.v164 }

theorem Tryd.laysST : Lays.n169 Tryd.prog Tryd.lays156_ren := {
  mixed := Tryd.lays156.mixed
  f169 := Tryd.lays156.f169
  t0 := Tryd.lays156.t0
  a0 := Tryd.lays156.a0
  z0 := Tryd.lays156.z0
  v0 := Tryd.lays156.v0
  t3 := Tryd.lays156.t3
  a3 := Tryd.lays156.a3
  z3 := Tryd.lays156.z3
  v3 := Tryd.lays156.v3
  t9 := Tryd.lays156.t9
  a9 := Tryd.lays156.a9
  z9 := Tryd.lays156.z9
  v9 := Tryd.lays156.v9
  t37 := Tryd.lays156.t37
  a37 := Tryd.lays156.a37
  z37 := Tryd.lays156.z37
  v37 := Tryd.lays156.v37
  t70 := Tryd.lays156.t70
  a70 := Tryd.lays156.a70
  z70 := Tryd.lays156.z70
  v70 := Tryd.lays156.v70
  t72 := Tryd.lays156.t72
  a72 := Tryd.lays156.a72
  z72 := Tryd.lays156.z72
  v72 := Tryd.lays156.v72
  t127 := Tryd.lays156.t127
  a127 := Tryd.lays156.a127
  z127 := Tryd.lays156.z127
  v127 := Tryd.lays156.v127 }

theorem IsBuilder.below {T e : TypeId} {B b : Nat} {cs : List Value} {w w' : World} (h : Lib.IsBuilder T e B b cs w) (hb : Below w.heap.size w w') : Lib.IsBuilder T e B b cs w' := by
  have key : ∀ p, Lib.BuilderAt T e B b p cs w → Lib.BuilderAt T e B b p cs w' := by
    rintro p ⟨h1, v, h2, h3, h4⟩
    have hlt := (Array.getElem?_eq_some_iff.1 h2).1
    exact ⟨h1, v, (hb.block b hlt).trans h2, owns_below h3 hb, h4⟩
  rcases h with h | h
  · exact .inl (key _ h)
  · exact .inr (key _ h)

def maskText (ms : List Nat) : List UInt8 := ms.flatMap (fun m => Sp.told (Sp.litsOf m))
theorem maskText_snoc (ms : List Nat) (m : Nat) : maskText (ms ++ [m]) = maskText ms ++ Sp.told (Sp.litsOf m) := by
  unfold maskText; rw [List.flatMap_append]; simp
theorem maskTold_len (m : Nat) : (Sp.told (Sp.litsOf m)).length ≤ 97 := by
  have h1 := toldBody_len (Sp.litsOf m); have h2 := litsOf_len m
  simp [Sp.told]; omega
theorem maskText_len (ms : List Nat) : (maskText ms).length ≤ 97 * ms.length := by
  induction ms with
  | nil => simp [maskText]
  | cons a r ih =>
    have h1 := maskTold_len a
    simp only [maskText, List.flatMap_cons, List.length_append, List.length_cons] at ih ⊢
    omega

theorem writeString_any (B b : Nat) (l t : List UInt8) (w : World) (h : Lib.IsBuilder 56 5 B b (Lib.byteCells l) w) (hlen : l.length + t.length ≤ 140737488355328) (hBw : B ≤ w.heap.size) :
    Calls Tryd.prog 20 #[.pointer (some ⟨b, 0, none⟩), .string (bs t)] w fun e w' => ∃ n : Int, e = .returned (.tuple #[.int .i64 n, .nilIface]) ∧ Lib.IsBuilder 56 5 B b (Lib.byteCells (l ++ t)) w' ∧ Below B w w' := by
  refine (Any.Builder_WriteString Tryd.laysWS Tryd.Builder_Extra_156 B b (Lib.byteCells l) (bs t) w h (by rw [Lib.byteCells_length, bs_size]; exact hlen) hBw).mono ?_
  rintro e w' ⟨rfl, hb, hbel⟩
  refine ⟨_, rfl, .inr ?_, hbel⟩
  have e1 : Lib.byteCells l ++ Lib.strCells (bs t) = Lib.byteCells (l ++ t) := by
    rw [Lib.strCells_eq, bs_data]; simp [Lib.byteCells]
  rw [e1] at hb
  exact hb

theorem builderString_any (B b : Nat) (l : List UInt8) (w : World) (h : Lib.IsBuilder 56 5 B b (Lib.byteCells l) w) (hBw : B ≤ w.heap.size) :
    Calls Tryd.prog 22 #[.pointer (some ⟨b, 0, none⟩)] w fun e w' => e = .returned (.string (bs l)) ∧ Below B w w' :=
  Any.Builder_String_any Tryd.laysST Tryd.Builder_Extra_156 B b l w h hBw

set_option maxRecDepth 100000 in
set_option maxHeartbeats 800000 in
theorem clausePlain_any (v : Value) (ms : List Nat) (w : World) (hl : ms.length ≤ 10000000) (hm : ∀ m, m ∈ ms → m < 2 ^ 24) (hv : Lies w v (us ms)) (he : Env w) :
    Calls Tryd.prog 12 #[v] w fun e w' => e = .returned (.string (bs (maskText ms))) ∧ Below w.heap.size w w' := by
  have hfresh := hide (Lib.fresh_isBuilder 56 5 w)
  have hb0 : Below w.heap.size w (w.alloc (.cells #[.pointer none, .slice none 0 0] 56)) := (Below.refl _ _).alloc (Nat.le_refl _) _
  rcases hv with ⟨h0, ao, cap, rfl⟩ | ⟨b, off, cap, hp, rfl, hb, hc⟩
  · have hx : ms = [] := by simpa [us] using h0
    subst hx
    go_enter Tryd.func12, Tryd.ntmps12
    go_wp2
    refine wp_loop_rounds 1 ?_
    rw [rounds_succ]
    go_wp2_with fail
    refine (builderString_any w.heap.size w.heap.size [] _ (unhide hfresh) (by simp)).mono ?_
    rintro e w1 ⟨rfl, hb1⟩
    go_wp2
    go_ret
    exact ⟨rfl, hb0.trans hb1⟩
  · have hlen : (us ms).length = ms.length := by simp [us]
    rw [hlen] at hp ⊢
    go_enter Tryd.func12, Tryd.ntmps12
    go_wp2
    go_loopw [8] (fun i wr => ∃ k : Nat, k ≤ ms.length ∧ i = .int .i64 k ∧ Lib.IsBuilder 56 5 w.heap.size w.heap.size (Lib.byteCells (maskText (ms.take k))) wr ∧ Below w.heap.size w wr) (fun i _ => ms.length - (intOf i).toNat)
    case atStart => exact ⟨0, Nat.zero_le _, rfl, unhide hfresh, hb0⟩
    case round =>
      obtain ⟨k, hk, rfl, hbu, hbel⟩ := hrel
      have HB := hide hbu
      clear hbu
      have hml := maskText_len (ms.take k)
      have hml2 : (ms.take k).length ≤ k := List.length_take_le _ _
      by_cases hlt : k < ms.length
      · have hcell : wr.cell? ⟨b, off + k, none⟩ = some (.int .u32 (ms[k] : Int)) := (hbel.cell (p := ⟨b, off + k, none⟩) hb).trans (hc k (.int .u32 (ms[k] : Int)) (by simp [us, hlt]))
        have hmm := hm ms[k] (List.getElem_mem hlt)
        have HS : Hid (ms.take (k + 1) = ms.take k ++ [ms[k]]) := hide (List.take_succ_eq_append_getElem hlt)
        generalize ms[k] = m at hcell HS hmm
        clear hc hm
        have htl := maskTold_len m
        have HL := hide (line_any m wr hmm (he.below hbel))
        have HSN := hide (maskText_snoc (ms.take k) m)
        go_wp2_with fail
        refine (unhide HL).mono ?_
        rintro e w1 ⟨rfl, hb1⟩
        have hsz := hbel.size
        have hsz1 := hb1.size
        have HW := hide (writeString_any w.heap.size w.heap.size (maskText (ms.take k)) (Sp.told (Sp.litsOf m)) w1 (IsBuilder.below (unhide HB) hb1) (by omega) (by omega))
        go_wp2_with fail
        refine (unhide HW).mono ?_
        rintro e w2 ⟨n, rfl, hbu2, hb2⟩
        have HB2 := hide hbu2
        clear hbu2
        go_wp2
        go_roundw
        case rel => exact ⟨k + 1, by omega, by go_num, by rw [unhide HS, unhide HSN]; exact unhide HB2, (hbel.trans (hb1.mono hbel.size)).trans hb2⟩
        case measure => simp [intOf]; omega
      · have HT : Hid (ms.take k = ms) := hide (List.take_of_length_le (by omega))
        have hsz := hbel.size
        have HSt := hide (builderString_any w.heap.size w.heap.size (maskText (ms.take k)) wr (unhide HB) (by omega))
        go_wp2_with fail
        refine (unhide HSt).mono ?_
        rintro e w1 ⟨rfl, hb1⟩
        go_wp2
        go_ret
        exact ⟨by rw [unhide HT]; rfl, hbel.trans hb1⟩

end Go.Proofs.YtekkkoipcghlmaaDoor
