import Derived.Test.YtekkkoipcghlmaaGreatDoorA39
import Derived.Test.YtekkkoipcghlmaaGreatDoorA41
import Derived.Test.YtekkkoipcghlmaaGreatDoorA46
import Derived.Laws.BytesArg
import Derived.Laws.IdiomStrings
set_option linter.all false
namespace Go.Proofs.YtekkkoipcghlmaaGreatDoor
open Go.RowKit

theorem Tryz.laysWS : Lays.n166 Tryz.prog Tryz.lays156_ren := {
  mixed := Tryz.lays156.mixed
  f166 := Tryz.lays156.f166
  f240 := Tryz.lays156.f240
  f276 := Tryz.lays156.f276
  t0 := Tryz.lays156.t0
  a0 := Tryz.lays156.a0
  z0 := Tryz.lays156.z0
  v0 := Tryz.lays156.v0
  t3 := Tryz.lays156.t3
  a3 := Tryz.lays156.a3
  z3 := Tryz.lays156.z3
  v3 := Tryz.lays156.v3
  t4 := Tryz.lays156.t4
  a4 := Tryz.lays156.a4
  z4 := Tryz.lays156.z4
  v4 := Tryz.lays156.v4
  t9 := Tryz.lays156.t9
  a9 := Tryz.lays156.a9
  z9 := Tryz.lays156.z9
  v9 := Tryz.lays156.v9
  t20 := Tryz.lays156.t20
  a20 := Tryz.lays156.a20
  z20 := Tryz.lays156.z20
  v20 := Tryz.lays156.v20
  t37 := Tryz.lays156.t37
  a37 := Tryz.lays156.a37
  z37 := Tryz.lays156.z37
  v37 := Tryz.lays156.v37
  t70 := Tryz.lays156.t70
  a70 := Tryz.lays156.a70
  z70 := Tryz.lays156.z70
  v70 := Tryz.lays156.v70
  t72 := Tryz.lays156.t72
  a72 := Tryz.lays156.a72
  z72 := Tryz.lays156.z72
  v72 := Tryz.lays156.v72
  t75 := Tryz.lays156.t75
  a75 := Tryz.lays156.a75
  z75 := Tryz.lays156.z75
  v75 := Tryz.lays156.v75
  t164 := Tryz.lays156.t164
  a164 := Tryz.lays156.a164
  z164 := Tryz.lays156.z164
  v164 := Tryz.lays156.v164 }

theorem Tryz.laysST : Lays.n169 Tryz.prog Tryz.lays156_ren := {
  mixed := Tryz.lays156.mixed
  f169 := Tryz.lays156.f169
  t0 := Tryz.lays156.t0
  a0 := Tryz.lays156.a0
  z0 := Tryz.lays156.z0
  v0 := Tryz.lays156.v0
  t3 := Tryz.lays156.t3
  a3 := Tryz.lays156.a3
  z3 := Tryz.lays156.z3
  v3 := Tryz.lays156.v3
  t9 := Tryz.lays156.t9
  a9 := Tryz.lays156.a9
  z9 := Tryz.lays156.z9
  v9 := Tryz.lays156.v9
  t37 := Tryz.lays156.t37
  a37 := Tryz.lays156.a37
  z37 := Tryz.lays156.z37
  v37 := Tryz.lays156.v37
  t70 := Tryz.lays156.t70
  a70 := Tryz.lays156.a70
  z70 := Tryz.lays156.z70
  v70 := Tryz.lays156.v70
  t72 := Tryz.lays156.t72
  a72 := Tryz.lays156.a72
  z72 := Tryz.lays156.z72
  v72 := Tryz.lays156.v72
  t127 := Tryz.lays156.t127
  a127 := Tryz.lays156.a127
  z127 := Tryz.lays156.z127
  v127 := Tryz.lays156.v127 }

theorem IsBuilder.below {T e : TypeId} {B b : Nat} {cs : List Value} {w w' : World} (h : Lib.IsBuilder T e B b cs w) (hb : Below w.heap.size w w') : Lib.IsBuilder T e B b cs w' := by
  have key : ∀ p, Lib.BuilderAt T e B b p cs w → Lib.BuilderAt T e B b p cs w' := by
    rintro p ⟨h1, v, h2, h3, h4⟩
    have hlt := (Array.getElem?_eq_some_iff.1 h2).1
    exact ⟨h1, v, (hb.block b hlt).trans h2, owns_below h3 hb, h4⟩
  rcases h with h | h
  · exact .inl (key _ h)
  · exact .inr (key _ h)

def maskText (ms : List Nat) : List UInt8 := ms.flatMap (fun m => Sp.told (Sp.litsOf m))
theorem maskText_snoc (ms : List Nat) (m : Nat) : maskText (ms ++ [m]) = maskText ms ++ Sp.told (Sp.litsOf m) := by
  unfold maskText; rw [List.flatMap_append]; simp
theorem maskTold_len (m : Nat) : (Sp.told (Sp.litsOf m)).length ≤ 97 := by
  have h1 := toldBody_len (Sp.litsOf m); have h2 := litsOf_len m
  simp [Sp.told]; omega
theorem maskText_len (ms : List Nat) : (maskText ms).length ≤ 97 * ms.length := by
  induction ms with
  | nil => simp [maskText]
  | cons a r ih =>
    have h1 := maskTold_len a
    simp only [maskText, List.flatMap_cons, List.length_append, List.length_cons] at ih ⊢
    omega

theorem writeString_any (B b : Nat) (l t : List UInt8) (w : World) (h : Lib.IsBuilder 138 5 B b (Lib.byteCells l) w) (hlen : l.length + t.length ≤ 140737488355328) (hBw : B ≤ w.heap.size) :
    Calls Tryz.prog 88 #[.pointer (some ⟨b, 0, none⟩), .string (bs t)] w fun e w' => ∃ n : Int, e = .returned (.tuple #[.int .i64 n, .nilIface]) ∧ Lib.IsBuilder 138 5 B b (Lib.byteCells (l ++ t)) w' ∧ Below B w w' := by
  refine (Any.Builder_WriteString Tryz.laysWS Tryz.Builder_Extra_156 B b (Lib.byteCells l) (bs t) w h (by rw [Lib.byteCells_length, bs_size]; exact hlen) hBw).mono ?_
  rintro e w' ⟨rfl, hb, hbel⟩
  refine ⟨_, rfl, .inr ?_, hbel⟩
  have e1 : Lib.byteCells l ++ Lib.strCells (bs t) = Lib.byteCells (l ++ t) := by
    rw [Lib.strCells_eq, bs_data]; simp [Lib.byteCells]
  rw [e1] at hb
  exact hb

theorem builderString_any (B b : Nat) (l : List UInt8) (w : World) (h : Lib.IsBuilder 138 5 B b (Lib.byteCells l) w) (hBw : B ≤ w.heap.size) :
    Calls Tryz.prog 89 #[.pointer (some ⟨b, 0, none⟩)] w fun e w' => e = .returned (.string (bs l)) ∧ Below B w w' :=
  Any.Builder_String_any Tryz.laysST Tryz.Builder_Extra_156 B b l w h hBw

set_option maxRecDepth 100000 in
set_option maxHeartbeats 800000 in
theorem clausePlain_any (v : Value) (ms : List Nat) (w : World) (hl : ms.length ≤ 10000000) (hm : ∀ m, m ∈ ms → m < 2 ^ 24) (hv : Lies w v (us ms)) (he : EnvT w) :
    Calls Tryz.prog 48 #[v] w fun e w' => e = .returned (.string (bs (maskText ms))) ∧ Below w.heap.size w w' := by
  have hfresh := hide (Lib.fresh_isBuilder 138 5 w)
  have hb0 : Below w.heap.size w (w.alloc (.cells #[.pointer none, .slice none 0 0] 138)) := (Below.refl _ _).alloc (Nat.le_refl _) _
  rcases hv with ⟨h0, ao, cap, rfl⟩ | ⟨b, off, cap, hp, rfl, hb, hc⟩
  · have hx : ms = [] := by simpa [us] using h0
    subst hx
    go_enter Tryz.func48, Tryz.ntmps48
    go_wp2
    refine wp_loop_rounds 1 ?_
    rw [rounds_succ]
    go_wp2_with fail
    refine (builderString_any w.heap.size w.heap.size [] _ (unhide hfresh) (by simp)).mono ?_
    rintro e w1 ⟨rfl, hb1⟩
    go_wp2
    go_ret
    exact ⟨rfl, hb0.trans hb1⟩
  · have hlen : (us ms).length = ms.length := by simp [us]
    rw [hlen] at hp ⊢
    go_enter Tryz.func48, Tryz.ntmps48
    go_wp2
    go_loopw [8] (fun i wr => ∃ k : Nat, k ≤ ms.length ∧ i = .int .i64 k ∧ Lib.IsBuilder 138 5 w.heap.size w.heap.size (Lib.byteCells (maskText (ms.take k))) wr ∧ Below w.heap.size w wr) (fun i _ => ms.length - (intOf i).toNat)
    case atStart => exact ⟨0, Nat.zero_le _, rfl, unhide hfresh, hb0⟩
    case round =>
      obtain ⟨k, hk, rfl, hbu, hbel⟩ := hrel
      have HB := hide hbu
      clear hbu
      have hml := maskText_len (ms.take k)
      have hml2 : (ms.take k).length ≤ k := List.length_take_le _ _
      by_cases hlt : k < ms.length
      · have hcell : wr.cell? ⟨b, off + k, none⟩ = some (.int .u32 (ms[k] : Int)) := (hbel.cell (p := ⟨b, off + k, none⟩) hb).trans (hc k (.int .u32 (ms[k] : Int)) (by simp [us, hlt]))
        have hmm := hm ms[k] (List.getElem_mem hlt)
        have HS : Hid (ms.take (k + 1) = ms.take k ++ [ms[k]]) := hide (List.take_succ_eq_append_getElem hlt)
        generalize ms[k] = m at hcell HS hmm
        clear hc hm
        have htl := maskTold_len m
        have HL := hide (line_any m wr hmm (he.below hbel))
        have HSN := hide (maskText_snoc (ms.take k) m)
        go_wp2_with fail
        refine (unhide HL).mono ?_
        rintro e w1 ⟨rfl, hb1⟩
        have hsz := hbel.size
        have hsz1 := hb1.size
        have HW := hide (writeString_any w.heap.size w.heap.size (maskText (ms.take k)) (Sp.told (Sp.litsOf m)) w1 (IsBuilder.below (unhide HB) hb1) (by omega) (by omega))
        go_wp2_with fail
        refine (unhide HW).mono ?_
        rintro e w2 ⟨n, rfl, hbu2, hb2⟩
        have HB2 := hide hbu2
        clear hbu2
        go_wp2
        go_roundw
        case rel => exact ⟨k + 1, by omega, by go_num, by rw [unhide HS, unhide HSN]; exact unhide HB2, (hbel.trans (hb1.mono hbel.size)).trans hb2⟩
        case measure => simp [intOf]; omega
      · have HT : Hid (ms.take k = ms) := hide (List.take_of_length_le (by omega))
        have hsz := hbel.size
        have HSt := hide (builderString_any w.heap.size w.heap.size (maskText (ms.take k)) wr (unhide HB) (by omega))
        go_wp2_with fail
        refine (unhide HSt).mono ?_
        rintro e w1 ⟨rfl, hb1⟩
        go_wp2
        go_ret
        exact ⟨by rw [unhide HT]; rfl, hbel.trans hb1⟩

end Go.Proofs.YtekkkoipcghlmaaGreatDoor

namespace Go.Proofs.YtekkkoipcghlmaaGreatDoor
open Go.RowKit

set_option maxRecDepth 100000 in
theorem clausesX_any (base x : Nat) (kv : Value) (ms : List Nat) (w : World) (pv : Value) (pb : List UInt8) (hX : XAt base w x kv ms pv pb) (hms : ms.length ≤ 10000000) (hsm : ∀ m, m ∈ ms → m < 2 ^ 24) (he : EnvT w) :
    Calls Tryz.prog 27 #[.pointer (some ⟨x, 0, none⟩)] w fun e w' => e = .returned (.string (bs (maskText ms))) ∧ Below w.heap.size w w' := by
  have HP := hide (clausePlain_any kv ms w hms hsm (lies_of_owns hX.row (by simp [us])) he)
  have hc0 : w.cell? ⟨x, 0, none⟩ = some kv := by simp [World.cell?, hX.block]
  obtain ⟨ao, cp, hsh⟩ := owns_shape hX.row
  subst hsh
  clear hX
  go_enter Tryz.func27, Tryz.ntmps27
  go_wp2_with fail
  refine (unhide HP).mono ?_
  rintro e w1 ⟨rfl, hb1⟩
  go_wp2
  go_ret
  exact ⟨rfl, hb1⟩

set_option maxRecDepth 100000 in
theorem resetX_any (base x : Nat) (kv : Value) (ms : List Nat) (w : World) (pv : Value) (pb : List UInt8) (hX : XAt base w x kv ms pv pb) :
    Calls Tryz.prog 26 #[.pointer (some ⟨x, 0, none⟩)] w fun e w' => e = .returned (.tuple #[]) ∧ XAt base w' x (.slice none 0 0) [] (.slice none 0 0) [] ∧ Only (· = x) w w' := by
  have hc0 : w.cell? ⟨x, 0, none⟩ = some kv := by simp [World.cell?, hX.block]
  have hc1 : w.cell? ⟨x, 1, none⟩ = some (.int .i64 (sizes ms : Int)) := by simp [World.cell?, hX.block]
  have hf0 : w.frozen? ⟨x, 0, none⟩ = false := frozen_of_row w _ _ _ _ hX.block
  have hf1 : w.frozen? ⟨x, 1, none⟩ = false := frozen_of_row w _ _ _ _ hX.block
  have hc2 : w.cell? ⟨x, 2, none⟩ = some pv := by simp [World.cell?, hX.block]
  have hf2 : w.frozen? ⟨x, 2, none⟩ = false := frozen_of_row w _ _ _ _ hX.block
  have HX := hide hX
  clear hX
  go_enter Tryz.func26, Tryz.ntmps26
  go_wp2
  go_end0
  have h0 := heap_setCell_same w x 0 _ _ (.slice none 0 0) (unhide HX).block
  have h1 := heap_setCell_same _ x 1 _ _ (.int .i64 0) h0
  have h2 := heap_setCell_same _ x 2 _ _ (.slice none 0 0) h1
  exact ⟨rfl, ⟨by rw [h2]; rfl, (unhide HX).le, World.ownsRow_nil _ _ _ _, World.ownsRow_nil _ _ _ _⟩, (Only.setCell (F := (· = x)) (p := ⟨x, 0, none⟩) rfl _ _).trans ((Only.setCell (F := (· = x)) (p := ⟨x, 1, none⟩) rfl _ _).trans (Only.setCell (F := (· = x)) (p := ⟨x, 2, none⟩) rfl _ _))⟩

end Go.Proofs.YtekkkoipcghlmaaGreatDoor

namespace Go.Proofs.YtekkkoipcghlmaaGreatDoor
open Go.RowKit

theorem SolveRes.wide {base x : Nat} {kv pv vm vc : Value} {ms : List Nat} {pb : List UInt8} {A : List Int} {B kind cf : Int} {w wA wB w' : World} (h : SolveRes base x kv ms pv pb A B wA kind vm vc cf wB) (h1 : Below w.heap.size w wA) (h2 : Below wB.heap.size wB w') : SolveRes base x kv ms pv pb A B w kind vm vc cf w' := by
  obtain ⟨S, D, pv', core, hW, a1, a2, a3, a4, a5, a6⟩ := h
  refine ⟨S, D, pv', core, (hW.from h1).below h2, a1, a2, a3, a4, a5, ?_⟩
  rcases a6 with ⟨b1, b2, b, b3, b4, b5, b6⟩ | ⟨b1, b2, b3, b4, b5⟩ | b
  · exact .inl ⟨b1, b2, b, b3, b4, b5, owns_below (owns_mono b6 h1.size) h2⟩
  · exact .inr (.inl ⟨b1, b2, b3, owns_below (owns_mono b4 h1.size) h2, b5⟩)
  · exact .inr (.inr b)

/-- A question without a budget. -/
theorem askK {base x : Nat} {kv pv av : Value} {ms : List Nat} {pb : List UInt8} {A : List Int} {w : World} (hX : XAt base w x kv ms pv pb) (hms : KeptOK ms) (he : EnvFrom base w) (hA : Lits A) (hAl : A.length ≤ 10000000) (hv : Lies w av (ints A)) (hpb : pb.length ≤ 140000000000000) :
    Calls Tryz.prog 18 #[.pointer (some ⟨x, 0, none⟩), av, .int .i64 0] w fun e w' => ∃ kind ao k c ao2 k2 c2 cf, e = .returned (.tuple #[.agg #[.int .i64 kind, .slice ao k c, .slice ao2 k2 c2, .int .i64 cf], .int .i64 0]) ∧ SolveRes base x kv ms pv pb (once A) 0 w kind (.slice ao k c) (.slice ao2 k2 c2) cf w' := by
  refine (solve_any base x kv pv av _ pb A 0 w hX hms he hv hAl (by omega) (by omega) hpb).mono ?_
  have hall : allInt A = true := by
    rw [allInt, List.all_eq_true]
    exact fun x hx => isLit_iff.2 (hA x hx)
  rintro e w' (⟨h1, -⟩ | ⟨-, h1, -⟩ | ⟨-, -, kind, vm, vc, cf, rfl, hres⟩)
  · rw [hall] at h1; cases h1
  · omega
  · obtain ⟨⟨ao, k, c, rfl⟩, ao2, k2, c2, rfl⟩ := hres.vals
    exact ⟨kind, ao, k, c, ao2, k2, c2, cf, rfl, hres⟩

set_option maxRecDepth 100000 in
/-- verdict. -/
theorem verdictK {base x : Nat} {kv pv av : Value} {ms : List Nat} {pb : List UInt8} {A : List Int} {w : World} (hX : XAt base w x kv ms pv pb) (hms : KeptOK ms) (he : EnvFrom base w) (hA : Lits A) (hAl : A.length ≤ 10000000) (hv : Lies w av (ints A)) (hpb : pb.length ≤ 140000000000000) :
    Calls Tryz.prog 25 #[.pointer (some ⟨x, 0, none⟩), av] w fun e w' => ∃ kind vm vc cf, e = .returned (.int .i64 kind) ∧ SolveRes base x kv ms pv pb (once A) 0 w kind vm vc cf w' := by
  obtain ⟨ao, an, ac, hsh⟩ : ∃ a n c, av = .slice a n c := by
    obtain ⟨a, c, h⟩ := lies_shape hv; exact ⟨a, _, c, h⟩
  have HCO : Hid (Calls Tryz.prog 19 #[av] w fun e w' => ∃ co cn cc, e = .returned (.slice co cn cc) ∧ Hid (Lies w' (.slice co cn cc) (ints A)) ∧ Below w.heap.size w w') := hide ((copiedK_any _ A w hAl hv).mono (fun e w' h => by
    obtain ⟨v', h1, h2, h3⟩ := h
    obtain ⟨co, cc, rfl⟩ := owns_shape h2
    exact ⟨co, _, cc, h1, hide (lies_of_owns h2 (by simp [ints])), h3⟩))
  have HSOL : Hid (∀ wx co cn cc, Below w.heap.size w wx → Lies wx (.slice co cn cc) (ints A) → Calls Tryz.prog 18 #[.pointer (some ⟨x, 0, none⟩), .slice co cn cc, .int .i64 0] wx fun e w' => ∃ kind ao k c ao2 k2 c2 cf, e = .returned (.tuple #[.agg #[.int .i64 kind, .slice ao k c, .slice ao2 k2 c2, .int .i64 cf], .int .i64 0]) ∧ Hid (SolveRes base x kv ms pv pb (once A) 0 wx kind (.slice ao k c) (.slice ao2 k2 c2) cf w')) := hide (fun wx co cn cc hbx hlx =>
    askK (hX.below hbx) hms (he.below (hbx.mono (by have := hX.le; have := lt_of_block hX.block; omega))) hA hAl hlx hpb)
  subst hsh
  clear hX he hv
  go_enter Tryz.func25, Tryz.ntmps25
  go_wp2_with fail
  refine (unhide HCO).mono ?_
  rintro e w5 ⟨co, cn, cc, rfl, HL5, hb5⟩
  have HS5 := hide (unhide HSOL w5 co cn cc hb5 (unhide HL5))
  clear HSOL HCO
  go_wp2_with fail
  refine (unhide HS5).mono ?_
  rintro e w6 ⟨kind, mo, k, c, mo2, k2, c2, cf, rfl, HR⟩
  have hb7 : Below w6.heap.size w6 (w6.alloc (.cells #[.int .i64 kind, .slice mo k c, .slice mo2 k2 c2, .int .i64 cf] 34)) := (Below.refl _ _).alloc (Nat.le_refl _) _
  have HF := hide ((unhide HR).wide hb5 hb7)
  clear HS5 HR
  go_wp2
  go_ret
  exact ⟨kind, _, _, cf, rfl, unhide HF⟩

theorem Tryz.underByte : Tryz.prog.underlying 5 = some (.int .u8) := by kernel_rfl
set_option maxRecDepth 100000 in
theorem proofX_any (base x : Nat) (kv : Value) (ms : List Nat) (w : World) (pv : Value) (pb : List UInt8) (hX : XAt base w x kv ms pv pb) :
    Calls Tryz.prog 28 #[.pointer (some ⟨x, 0, none⟩)] w fun e w' => e = .returned (.string (bs pb)) ∧ w' = w := by
  have hc2 : w.cell? ⟨x, 2, none⟩ = some pv := by simp [World.cell?, hX.block]
  have hcv : (convert 75 9 pv).run Tryz.prog w = .ok (.string (bs pb)) w := by
    rcases hX.prow.2 with ⟨rfl, h0⟩ | ⟨g, cap, cur, rfl, hbg, hg, hle, hcm, hcs, htake⟩
    · have : pb = [] := List.length_eq_zero_iff.1 h0
      subst this
      exact run_convert_bytes_nil (P := Tryz.prog) (w := w) 75 5 Tryz.underlying75 Tryz.underByte 0 0 9 Tryz.underlying9
    · exact run_convert_bytes_back (P := Tryz.prog) w 75 9 5 ⟨g, 0, none⟩ cap pb Tryz.underlying75 Tryz.underByte Tryz.underlying9 (fun j hj => by
        have := hX.prow.cells (g := g) rfl j (.int .u8 (pb[j].toNat : Int)) (by simp [bytesV, hj])
        exact this)
  obtain ⟨po, pc, hsh⟩ := owns_shape hX.prow
  subst hsh
  clear hX
  go_enter Tryz.func28, Tryz.ntmps28
  go_wp2
  go_ret
  exact ⟨rfl, rfl⟩

end Go.Proofs.YtekkkoipcghlmaaGreatDoor
