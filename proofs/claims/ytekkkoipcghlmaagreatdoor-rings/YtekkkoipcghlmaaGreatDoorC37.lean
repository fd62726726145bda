import Derived.Test.YtekkkoipcghlmaaGreatDoorC36
import Derived.Laws.BytesArg
import Derived.Laws.IdiomStrings
import Derived.Test.YtekkkoipcghlmaaGreatDoorC01
import Derived.Test.YtekkkoipcghlmaaGreatDoorC33
import Derived.Lib.Bytealg
import Derived.Test.YtekkkoipcghlmaaGreatDoorC35
import Derived.Lib.SplitLaws
import Derived.Test.YtekkkoipcghlmaaGreatDoorC32
import Derived.RangeFuncNested
import Derived.RangeFuncWrites
import Derived.RangeFuncBound
import Derived.RangeFuncCalls
import Derived.RangeFuncLeaves
import Derived.Shelf.Abstract
import Derived.Shelf.RegionOpen
import Derived.OwnWalkIn
import Derived.TacticsInMore
import Derived.LoopNIn
import Derived.LoopIn
import Derived.RangeFuncBox
set_option linter.all false
namespace Go.Proofs.YtekkkoipcghlmaaGreatDoor
open Go.RowKit

theorem SolveRes.wide {base x : Nat} {kv pv vm vc : Value} {ms : List Nat} {pb : List UInt8} {A : List Int} {B kind cf : Int} {w wA wB w' : World} (h : SolveRes base x kv ms pv pb A B wA kind vm vc cf wB) (h1 : Below w.heap.size w wA) (h2 : Below wB.heap.size wB w') : SolveRes base x kv ms pv pb A B w kind vm vc cf w' := by
  obtain ⟨S, D, pv', core, hW, a1, a2, a3, a4, a5, a6⟩ := h
  refine ⟨S, D, pv', core, (hW.from h1).below h2, a1, a2, a3, a4, a5, ?_⟩
  rcases a6 with ⟨b1, b2, b, b3, b4, b5, b6⟩ | ⟨b1, b2, b3, b4, b5⟩ | b
  · exact .inl ⟨b1, b2, b, b3, b4, b5, owns_below (owns_mono b6 h1.size) h2⟩
  · exact .inr (.inl ⟨b1, b2, b3, owns_below (owns_mono b4 h1.size) h2, b5⟩)
  · exact .inr (.inr b)

/-- A question without a budget. -/
theorem askK {base x : Nat} {kv pv av : Value} {ms : List Nat} {pb : List UInt8} {A : List Int} {w : World} (hX : XAt base w x kv ms pv pb) (hms : KeptOK ms) (he : EnvFrom base w) (hA : Lits A) (hAl : A.length ≤ 10000000) (hv : Lies w av (ints A)) (hpb : pb.length ≤ 140000000000000) :
    Calls Tryz.prog 18 #[.pointer (some ⟨x, 0, none⟩), av, .int .i64 0] w fun e w' => ∃ kind ao k c ao2 k2 c2 cf, e = .returned (.tuple #[.agg #[.int .i64 kind, .slice ao k c, .slice ao2 k2 c2, .int .i64 cf], .int .i64 0]) ∧ SolveRes base x kv ms pv pb (once A) 0 w kind (.slice ao k c) (.slice ao2 k2 c2) cf w' := by
  refine (solve_any base x kv pv av _ pb A 0 w hX hms he hv hAl (by omega) (by omega) hpb).mono ?_
  have hall : allInt A = true := by
    rw [allInt, List.all_eq_true]
    exact fun x hx => isLit_iff.2 (hA x hx)
  rintro e w' (⟨h1, -⟩ | ⟨-, h1, -⟩ | ⟨-, -, kind, vm, vc, cf, rfl, hres⟩)
  · rw [hall] at h1; cases h1
  · omega
  · obtain ⟨⟨ao, k, c, rfl⟩, ao2, k2, c2, rfl⟩ := hres.vals
    exact ⟨kind, ao, k, c, ao2, k2, c2, cf, rfl, hres⟩

set_option maxRecDepth 100000 in
/-- verdict. -/
theorem verdictK {base x : Nat} {kv pv av : Value} {ms : List Nat} {pb : List UInt8} {A : List Int} {w : World} (hX : XAt base w x kv ms pv pb) (hms : KeptOK ms) (he : EnvFrom base w) (hA : Lits A) (hAl : A.length ≤ 10000000) (hv : Lies w av (ints A)) (hpb : pb.length ≤ 140000000000000) :
    Calls Tryz.prog 25 #[.pointer (some ⟨x, 0, none⟩), av] w fun e w' => ∃ kind vm vc cf, e = .returned (.int .i64 kind) ∧ SolveRes base x kv ms pv pb (once A) 0 w kind vm vc cf w' := by
  obtain ⟨ao, an, ac, hsh⟩ : ∃ a n c, av = .slice a n c := by
    obtain ⟨a, c, h⟩ := lies_shape hv; exact ⟨a, _, c, h⟩
  have HCO : Hid (Calls Tryz.prog 19 #[av] w fun e w' => ∃ co cn cc, e = .returned (.slice co cn cc) ∧ Hid (Lies w' (.slice co cn cc) (ints A)) ∧ Below w.heap.size w w') := hide ((copiedK_any _ A w hAl hv).mono (fun e w' h => by
    obtain ⟨v', h1, h2, h3⟩ := h
    obtain ⟨co, cc, rfl⟩ := owns_shape h2
    exact ⟨co, _, cc, h1, hide (lies_of_owns h2 (by simp [ints])), h3⟩))
  have HSOL : Hid (∀ wx co cn cc, Below w.heap.size w wx → Lies wx (.slice co cn cc) (ints A) → Calls Tryz.prog 18 #[.pointer (some ⟨x, 0, none⟩), .slice co cn cc, .int .i64 0] wx fun e w' => ∃ kind ao k c ao2 k2 c2 cf, e = .returned (.tuple #[.agg #[.int .i64 kind, .slice ao k c, .slice ao2 k2 c2, .int .i64 cf], .int .i64 0]) ∧ Hid (SolveRes base x kv ms pv pb (once A) 0 wx kind (.slice ao k c) (.slice ao2 k2 c2) cf w')) := hide (fun wx co cn cc hbx hlx =>
    askK (hX.below hbx) hms (he.below (hbx.mono (by have := hX.le; have := lt_of_block hX.block; omega))) hA hAl hlx hpb)
  subst hsh
  clear hX he hv
  go_enter Tryz.func25, Tryz.ntmps25
  go_wp2_with fail
  refine (unhide HCO).mono ?_
  rintro e w5 ⟨co, cn, cc, rfl, HL5, hb5⟩
  have HS5 := hide (unhide HSOL w5 co cn cc hb5 (unhide HL5))
  clear HSOL HCO
  go_wp2_with fail
  refine (unhide HS5).mono ?_
  rintro e w6 ⟨kind, mo, k, c, mo2, k2, c2, cf, rfl, HR⟩
  have hb7 : Below w6.heap.size w6 (w6.alloc (.cells #[.int .i64 kind, .slice mo k c, .slice mo2 k2 c2, .int .i64 cf] 34)) := (Below.refl _ _).alloc (Nat.le_refl _) _
  have HF := hide ((unhide HR).wide hb5 hb7)
  clear HS5 HR
  go_wp2
  go_ret
  exact ⟨kind, _, _, cf, rfl, unhide HF⟩

theorem Tryz.underByte : Tryz.prog.underlying 5 = some (.int .u8) := by kernel_rfl
set_option maxRecDepth 100000 in
theorem proofX_any (base x : Nat) (kv : Value) (ms : List Nat) (w : World) (pv : Value) (pb : List UInt8) (hX : XAt base w x kv ms pv pb) :
    Calls Tryz.prog 28 #[.pointer (some ⟨x, 0, none⟩)] w fun e w' => e = .returned (.string (bs pb)) ∧ w' = w := by
  have hc2 : w.cell? ⟨x, 2, none⟩ = some pv := by simp [World.cell?, hX.block]
  have hcv : (convert 75 9 pv).run Tryz.prog w = .ok (.string (bs pb)) w := by
    rcases hX.prow.2 with ⟨rfl, h0⟩ | ⟨g, cap, cur, rfl, hbg, hg, hle, hcm, hcs, htake⟩
    · have : pb = [] := List.length_eq_zero_iff.1 h0
      subst this
      exact run_convert_bytes_nil (P := Tryz.prog) (w := w) 75 5 Tryz.underlying75 Tryz.underByte 0 0 9 Tryz.underlying9
    · exact run_convert_bytes_back (P := Tryz.prog) w 75 9 5 ⟨g, 0, none⟩ cap pb Tryz.underlying75 Tryz.underByte Tryz.underlying9 (fun j hj => by
        have := hX.prow.cells (g := g) rfl j (.int .u8 (pb[j].toNat : Int)) (by simp [bytesV, hj])
        exact this)
  obtain ⟨po, pc, hsh⟩ := owns_shape hX.prow
  subst hsh
  clear hX
  go_enter Tryz.func28, Tryz.ntmps28
  go_wp2
  go_ret
  exact ⟨rfl, rfl⟩

end Go.Proofs.YtekkkoipcghlmaaGreatDoor

namespace Go.Proofs.YtekkkoipcghlmaaGreatDoor
open Go.RowKit

/-- Who is to blame. -/
theorem SolveRes.core {base x : Nat} {kv pv vm vc : Value} {ms : List Nat} {pb : List UInt8} {A : List Int} {B kind cf : Int} {w w' : World} (h : SolveRes base x kv ms pv pb A B w kind vm vc cf w') (hA : ∀ y, y ∈ A → y ≠ 0) (hk : kind = 2) :
    ∃ core, (∃ p : Int → Bool, core = A.filter p) ∧ w'.ownsRow w.heap.size 3 1 vc core.length (ints core) ∧ ∀ b, (∀ g, g ∈ ms → holdsB b g) → ∃ y, y ∈ core ∧ tru b y = false := by
  obtain ⟨S, D, pv', core, -, hch, -, -, -, -, h6⟩ := h
  rcases h6 with ⟨h1, -⟩ | ⟨-, -, hp, hrow, hf⟩ | ⟨h1, -⟩
  · omega
  · refine ⟨core, hp, hrow, fun b hG => ?_⟩
    have := fol_ent hf (b := b) (fun c hc => (List.mem_append.1 hc).elim (hG c) (hch.ent hG c))
    have hne : ∀ y, y ∈ core.map (fun x => -x) → y ≠ 0 := fun y hy => by
      obtain ⟨z, hz, rfl⟩ := List.mem_map.1 hy
      obtain ⟨p, rfl⟩ := hp
      have := hA z (List.mem_filter.1 hz).1
      omega
    obtain ⟨y, hy, ht⟩ := holds_iff.1 ((holdsB_mask hne).1 this)
    obtain ⟨z, hz, rfl⟩ := List.mem_map.1 hy
    have hz0 : z ≠ 0 := fun e => hne _ hy (by rw [e]; rfl)
    rw [tru_neg b hz0] at ht
    exact ⟨z, hz, by simpa using ht⟩
  · omega

end Go.Proofs.YtekkkoipcghlmaaGreatDoor

namespace Go.Proofs.YtekkkoipcghlmaaGreatDoor
open Go.RowKit

def lenOf : Value → Nat | .slice _ n _ => n | _ => 0
def FolRes (L : List Nat) (m : Nat) (w : World) (e : Ending) (w' : World) : Prop := ∃ r : Bool, e = .returned (.bool r) ∧ (r = true ↔ Sp.Fol L m) ∧ Below w.heap.size w w'
end Go.Proofs.YtekkkoipcghlmaaGreatDoor

namespace Go.Proofs.YtekkkoipcghlmaaGreatDoor.Sp

/-- The lines of a text, each with whether it is ended. -/
def segsAux (cur : List UInt8) : List UInt8 → List (List UInt8 × Bool)
  | [] => if cur = [] then [] else [(cur, false)]
  | c :: r => if c = 10 then (cur, true) :: segsAux [] r else segsAux (cur ++ [c]) r
def segs (s : List UInt8) : List (List UInt8 × Bool) := segsAux [] s

def scanSegs : Nat → List (List UInt8 × Bool) → Option Nat
  | _, [] => none
  | n, x :: r => if !okLine x.1 || !x.2 then some (n + 1) else scanSegs (n + 1) r

theorem segsAux_no (r : List UInt8) : ∀ cur, (10 : UInt8) ∉ cur → ∀ x, x ∈ segsAux cur r → (10 : UInt8) ∉ x.1 := by
  induction r with
  | nil =>
    intro cur h x hx
    unfold segsAux at hx
    split at hx
    · cases hx
    · simp at hx; subst hx; exact h
  | cons c r ih =>
    intro cur h x hx
    unfold segsAux at hx
    split at hx
    · rcases List.mem_cons.1 hx with rfl | hx
      · exact h
      · exact ih [] (by simp) x hx
    · rename_i hc
      exact ih _ (by simp [h]; exact fun h' => hc h'.symm) x hx

theorem segsAux_len (r : List UInt8) : ∀ cur x, x ∈ segsAux cur r → x.1.length ≤ cur.length + r.length := by
  induction r with
  | nil =>
    intro cur x hx
    unfold segsAux at hx
    split at hx
    · cases hx
    · simp at hx; subst hx; simp
  | cons c r ih =>
    intro cur x hx
    unfold segsAux at hx
    split at hx
    · rcases List.mem_cons.1 hx with rfl | hx
      · simp
      · have := ih [] x hx; simp at this ⊢; omega
    · have := ih _ x hx; simp at this ⊢; omega
theorem segsAux_count (r : List UInt8) : ∀ cur, (segsAux cur r).length ≤ r.length + 1 := by
  induction r with
  | nil => intro cur; unfold segsAux; split <;> simp
  | cons c r ih =>
    intro cur
    unfold segsAux
    split
    · have := ih []; simp; omega
    · have := ih (cur ++ [c]); simp; omega

/-- How the next line is found. -/
theorem segs_index (x : List UInt8) : (Lib.indexByte x 10 = -1 ∧ ∀ cur, cur ++ x ≠ [] → segsAux cur x = [(cur ++ x, false)]) ∨
    ∃ i : Nat, Lib.indexByte x 10 = i ∧ i < x.length ∧ x.take (i + 1) = x.take i ++ [10] ∧ ∀ cur, segsAux cur x = (cur ++ x.take i, true) :: segsAux [] (x.drop (i + 1)) := by
  induction x with
  | nil => exact .inl ⟨rfl, fun cur h => by simp at h; simp [segsAux, h]⟩
  | cons b l ih =>
    by_cases hb : b = 10
    · subst hb
      exact .inr ⟨0, by simp [Lib.indexByte], by simp, by simp, fun cur => by simp [segsAux]⟩
    · have hp : (b == 10) = false := by simpa using hb
      rcases ih with ⟨h1, h2⟩ | ⟨i, h1, h2, h4, h3⟩
      · refine .inl ⟨by unfold Lib.indexByte; rw [hp, h1]; rfl, fun cur _ => ?_⟩
        unfold segsAux
        rw [if_neg hb, h2 _ (by simp)]
        simp
      · refine .inr ⟨i + 1, ?_, by simp; omega, by simp [h4], fun cur => ?_⟩
        · unfold Lib.indexByte
          rw [hp, h1]
          have : ((i : Int) == -1) = false := by rw [beq_eq_false_iff_ne]; omega
          simp [this]
        · conv => lhs; unfold segsAux
          rw [if_neg hb, h3]
          simp

end Go.Proofs.YtekkkoipcghlmaaGreatDoor.Sp

namespace Go.Proofs.YtekkkoipcghlmaaGreatDoor
open Go.RowKit

namespace Sp
theorem step_go (r : List UInt8) : stepOf (100 :: 32 :: r) = (true, wordsAux [] r) ∧ words (100 :: 32 :: r) = [100] :: wordsAux [] r := by
  have : words (100 :: 32 :: r) = [100] :: wordsAux [] r := by
    unfold words; rw [if_neg (by simp)]
    simp [wordsAux]
  refine ⟨?_, this⟩
  unfold stepOf
  rw [this]
  simp
end Sp

theorem stepMask_lt (y : List UInt8) : Sp.stepMask y < 2 ^ 24 := Sp.maskOf_lt _ fun x hx => by
  obtain ⟨s, _, rfl⟩ := List.mem_map.1 hx
  exact Sp.lit_bd s

theorem lies_tail {w : World} {n cap : Nat} {x : Value} {xs : List Value} {b off : Nat} (h : Lies w (.slice (some ⟨b, off, none⟩) n cap) (x :: xs)) (c' : Nat) : Lies w (.slice (some ⟨b, off + 1, none⟩) xs.length c') xs := by
  rcases h with ⟨h0, _⟩ | ⟨b', off', cap', hp, hv, hlt, hc⟩
  · cases h0
  · simp at hv
    obtain ⟨⟨rfl, rfl⟩, -, rfl⟩ := hv
    by_cases h0 : xs = []
    · subst h0; exact .inl ⟨rfl, _, _, rfl⟩
    · exact .inr ⟨b, off + 1, c', List.length_pos_iff.2 h0, rfl, hlt, fun k y hy => by
        have := hc (k + 1) y (by simpa using hy)
        rwa [show off + 1 + k = off + (k + 1) from by omega]⟩

def Small (M : List Nat) : Prop := ∀ c, c ∈ M → c < 2 ^ 24
theorem Small.erase {M : List Nat} (h : Small M) (m : Nat) : Small (M.erase m) := fun c hc => h c (List.mem_of_mem_erase hc)
theorem Small.snoc {M : List Nat} (h : Small M) {m : Nat} (hm : m < 2 ^ 24) : Small (M ++ [m]) := fun c hc => by
  rcases List.mem_append.1 hc with hc | hc
  · exact h c hc
  · simp at hc; subst hc; exact hm

theorem step_ok {x : List UInt8} {ws : List (List UInt8)} {g : Bool} (h : Sp.stepOf x = (g, ws)) (b : Bool) : Sp.stepOk (x, b) = (allLit ws && b) := by
  unfold Sp.stepOk; rw [h]; rfl

end Go.Proofs.YtekkkoipcghlmaaGreatDoor

namespace Go.Proofs.YtekkkoipcghlmaaGreatDoor
open Go.RowKit

theorem words_index (x : List UInt8) : (Lib.index x [32] = -1 ∧ ∀ cur, Sp.wordsAux cur x = [cur ++ x]) ∨
    ∃ i : Nat, Lib.index x [32] = i ∧ i < x.length ∧ ∀ cur, Sp.wordsAux cur x = (cur ++ x.take i) :: Sp.wordsAux [] (x.drop (i + 1)) := by
  induction x with
  | nil => exact .inl ⟨rfl, fun cur => by simp [Sp.wordsAux]⟩
  | cons b l ih =>
    by_cases hb : b = 32
    · subst hb
      exact .inr ⟨0, by simp [Lib.index], by simp, fun cur => by simp [Sp.wordsAux]⟩
    · have hp : ([32] : List UInt8).isPrefixOf (b :: l) = false := by
        simp [List.isPrefixOf]; exact fun h => hb h.symm
      rcases ih with ⟨h1, h2⟩ | ⟨i, h1, h2, h3⟩
      · refine .inl ⟨by unfold Lib.index; rw [hp, h1]; rfl, fun cur => ?_⟩
        unfold Sp.wordsAux
        rw [if_neg hb, h2]
        simp
      · refine .inr ⟨i + 1, ?_, by simp; omega, fun cur => ?_⟩
        · unfold Lib.index
          rw [hp, h1]
          have : ((i : Int) == -1) = false := by rw [beq_eq_false_iff_ne]; omega
          simp [this]
        · conv => lhs; unfold Sp.wordsAux
          rw [if_neg hb, h3]
          simp

theorem indexB_bs (x y : List UInt8) : Lib.indexB (bs x) (bs y) = Lib.index x y := by
  show Lib.index (bs x).data.toList (bs y).data.toList = _
  simp [bs]

theorem split_bs : ∀ (n : Nat) (x : List UInt8), x.length ≤ n → Lib.splitB (bs [32]) 0 (Lib.countB (bs x) (bs [32])) (bs x) = (Sp.wordsAux [] x).map bs := by
  intro n
  have h1 : 1 ≤ (bs [32]).size := by rw [bs_size]; simp
  have hz : (bs [32]).size = 1 := by rw [bs_size]; simp
  induction n with
  | zero =>
    intro x hx
    have : x = [] := List.length_eq_zero_iff.1 (by omega)
    subst this
    have hi : Lib.indexB (bs []) (bs [32]) = -1 := by rw [indexB_bs]; rfl
    rw [Lib.countB_miss _ _ hi, Lib.splitB_miss _ _ _ _ hi]; rfl
  | succ n ih =>
    intro x hx
    rcases words_index x with ⟨h2, h3⟩ | ⟨i, h2, h3, h4⟩
    · have hi : Lib.indexB (bs x) (bs [32]) = -1 := by rw [indexB_bs]; exact h2
      rw [Lib.splitB_miss _ _ _ _ hi, h3]
      simp
    · have hi : Lib.indexB (bs x) (bs [32]) = i := by rw [indexB_bs]; exact h2
      have hcut : (bs x).extract (i + 1) (bs x).size = bs (x.drop (i + 1)) := by
        rw [bs_extract, bs_size, List.take_of_length_le (by simp)]
      rw [Lib.countB_hit _ _ i h1 hi, hz, hcut, Nat.add_comm 1]
      unfold Lib.splitB
      have : ((i : Int) == -1) = false := by rw [beq_eq_false_iff_ne]; omega
      rw [hi, this]
      simp only [Bool.false_eq_true, if_false, Int.toNat_natCast, Nat.add_zero, hz]
      rw [hcut, ih _ (by simp; omega), h4, bs_extract]
      simp

end Go.Proofs.YtekkkoipcghlmaaGreatDoor

namespace Go.Proofs.YtekkkoipcghlmaaGreatDoor
open Go.RowKit

theorem lies_made {w : World} {vs : List Value} {t : TypeId} {cap : Nat} (h : 0 < vs.length) : Lies (w.alloc (.cells vs.toArray t)) (.slice (some ⟨w.heap.size, 0, none⟩) vs.length cap) vs := by
  refine .inr ⟨w.heap.size, 0, cap, h, rfl, by simp, fun k x hx => ?_⟩
  rw [Nat.zero_add, World.cell?_alloc_at _ _ _ _ rfl]
  simpa using hx

/-- A line's text: its inner part, and the newline if it is ended. -/
def lineOf (x : List UInt8) (e : Bool) : List UInt8 := if e then x ++ [10] else x

theorem line_cut (x : List UInt8) (e : Bool) (h : e = false → x.getLast? ≠ some 10) : Lib.trimSuffix (lineOf x e) [10] = x ∧ Lib.hasSuffix (lineOf x e) [10] = e := by
  have hs : Lib.hasSuffix (lineOf x e) [10] = e := by
    unfold Lib.hasSuffix lineOf
    cases e
    · rw [if_neg (by simp)]
      rw [Bool.eq_false_iff]
      intro hh
      rw [List.isSuffixOf_iff_suffix] at hh
      obtain ⟨t, ht⟩ := hh
      apply h rfl
      rw [← ht]; simp
    · rw [if_pos rfl, List.isSuffixOf_iff_suffix]
      exact ⟨x, rfl⟩
  refine ⟨?_, hs⟩
  unfold Lib.trimSuffix
  rw [hs]
  cases e
  · simp [lineOf]
  · simp [lineOf]

set_option maxRecDepth 100000 in
set_option maxHeartbeats 400000 in
theorem wordsGo_any (x : List UInt8) (en : Bool) (w : World) (hx : x.length ≤ 6000) (h : en = false → x.getLast? ≠ some 10) (he : Env w) :
    Calls Tryz.prog 134 #[.string (bs (lineOf x en))] w fun e w' => ∃ v, e = .returned (.tuple #[v, .bool en]) ∧ Lies w' v (strs (Sp.words x)) ∧ Below w.heap.size w w' := by
  have hll : (lineOf x en).length ≤ 6001 := by unfold lineOf; cases en <;> simp <;> omega
  have HC := hide (Tryz.strings_CutSuffix (bs (lineOf x en)) ⟨#[10]⟩ w (by rw [bs_size]; omega))
  have hd : (bs (lineOf x en)).data.toList = lineOf x en := bs_data _
  have hcut := line_cut x en h
  rw [hd] at HC
  have e1 : (ByteArray.mk #[10]).data.toList = [10] := rfl
  rw [e1, hcut.1, hcut.2] at HC
  clear e1 hcut hd
  have HC : Hid (Calls Tryz.prog 174 #[.string (bs (lineOf x en)), .string ⟨#[10]⟩] w fun e w' => e = .returned (.tuple #[.string (bs x), .bool en]) ∧ w' = w) := HC
  obtain ⟨m, hm⟩ := he.len.2
  generalize bs (lineOf x en) = line at *
  by_cases hne : x = []
  · have hemp : (bs x).toList.isEmpty = true := by rw [bs_toList, hne]; rfl
    have HN := hide hne
    clear hne
    go_enter Tryz.func134, Tryz.ntmps134
    go_wp2_with fail
    refine (unhide HC).mono ?_
    rintro e w1 ⟨rfl, rfl⟩
    go_wp2
    go_ret2
    exact ⟨_, rfl, by rw [unhide HN]; exact Lies.nil _, Below.refl _ _⟩
  · have hemp : (bs x).toList.isEmpty = false := bs_nonempty hne
    have HN := hide hne
    clear hne
    have HS := hide (Tryz.strings_Split (bs x) ⟨#[32]⟩ m w (by rw [bs_size]; omega) hm (by decide))
    go_enter Tryz.func134, Tryz.ntmps134
    go_wp2_with fail
    refine (unhide HC).mono ?_
    rintro e w1 ⟨rfl, rfl⟩
    go_wp2_with fail
    refine (unhide HS).mono ?_
    rintro e w2 ⟨rfl, rfl⟩
    go_wp2
    go_ret2
    have hsp : Lib.splitB ⟨#[32]⟩ 0 (Lib.countB (bs x) ⟨#[32]⟩) (bs x) = (Sp.wordsAux [] x).map bs := split_bs x.length x (Nat.le_refl _)
    have hln := Lib.splitB_all (bs [32]) (by rw [bs_size]; simp) 0 (Lib.countB (bs x) (bs [32])) (bs x) rfl
    have hw : Sp.words x = Sp.wordsAux [] x := by unfold Sp.words; rw [if_neg (unhide HN)]
    refine ⟨_, rfl, ?_, (Below.refl _ _).alloc (Nat.le_refl _) _⟩
    rw [hsp, hw]
    have hc : Lib.countB (bs x) (bs [32]) + 1 = (strs (Sp.wordsAux [] x)).length := by
      have := hln.symm
      rw [split_bs x.length x (Nat.le_refl _)] at this
      simpa [strs] using this
    rw [List.map_map]
    show Lies _ (.slice (some ⟨_, 0, none⟩) (Lib.countB (bs x) (bs [32]) + 1) _) _
    rw [hc]
    exact lies_made (vs := strs (Sp.wordsAux [] x)) (by omega)

end Go.Proofs.YtekkkoipcghlmaaGreatDoor

namespace Go.Proofs.YtekkkoipcghlmaaGreatDoor
open Go.RowKit
variable {F : Fence} {n : Nat} {P : Program}

/-- A loop over an iterator that keeps its place in a box of its own (block Bs, laid ahead of the loop): between two rounds it stores into that box, and draws. G: what is known of what comes. -/
theorem range_boxed {α : Type} {g : Operand} {ps : Array Tmp} {assign body : Code} {Q : Exit → Act → World → Prop} {a : Act} {w : World}
    (hro : F.round = none) (h1 : 1 ≤ n) {gf : Nat} {lb : Array Value} (hg : a.eval g = .func (.func gf) #[] lb) (hFg : F.fn gf) (eg : ∀ args w, (callFunc gf args).run P w = .ok (.enter gf args) w)
    {encs : α → Array Value} (Bs : Nat) (hBs : Bs < w.heap.size) {S : List α → Prop} {G : List α → α → Prop}
    (hseq : ∀ (l : Nat) (J Jx : List α → World → Prop) (W : World), W.heap[Bs]? = w.heap[Bs]? → (∀ s A v, J s A → J s (A.setCell ⟨Bs, 0, none⟩ v)) → (∀ s A, J s A → J s A.drew) →
      (∀ pre x W1, J pre W1 → G pre x → YieldAt F (n - 1 - 1) P l (encs x) W1 fun e W' =>
        (e = .returned (.bool true) ∧ J (pre ++ [x]) W' ∧ W'.heap[Bs]? = W1.heap[Bs]?) ∨ (e = .returned (.bool false) ∧ Jx (pre ++ [x]) W')) →
      J [] W →
      CallsIn F (n - 1) P gf (#[.func (.yield l) #[] #[]] ++ lb) W fun e W' => (∃ v, e = .returned v) ∧ ((∃ xs, S xs ∧ J xs W') ∨ (∃ pre, Jx pre W')))
    (hps : ∀ x, (encs x).size = ps.size)
    (I : List α → World → Prop) (Ix : List α → World → Prop) (hI : OwnFrom w.heap.size I) (hIx : OwnFrom w.heap.size Ix)
    (hIs : ∀ s A v, I s A → I s (A.setCell ⟨Bs, 0, none⟩ v)) (hId : ∀ s A, I s A → I s A.drew) (h0 : I [] w) (a₁ : α → Act)
    (hassign : ∀ (l : Nat) (x : α) (W : World) (K : Act → World → Prop), K (a₁ x) W →
      assign.wpIn (F.inRound l) (n - 1 - 1) P (Exit.then K (fun _ _ _ => False)) { tmps := (ps.zip (encs x)).foldl (fun t (p, v) => t.setIfInBounds p v) a.tmps, defers := [] } W)
    (hbody : ∀ (l : Nat) (pre : List α) (x : α) (W : World), I pre W → G pre x →
      body.wpIn (F.inRound l) (n - 1 - 1) P (ownPostG w.heap.size (fun A B => B.heap[Bs]? = A.heap[Bs]?) I (fun c xs W' => c = .ret ∧ Ix xs W') (pre ++ [x]) W) (a₁ x) W)
    (hdone : ∀ (D : Nat) (xs : List α) (W : World), w.heap.size ≤ D → S xs → I xs W → W.heap[D]? = some (.deferred (some [])) → Q .normal { a with defers := { target := .collected D, args := #[] } :: a.defers } W)
    (hstop : ∀ (D : Nat) (pre : List α) (W : World), w.heap.size ≤ D → Ix pre W → W.heap[D]? = some (.deferred (some [])) → Code.ret.wpIn F n P Q { a with defers := { target := .collected D, args := #[] } :: a.defers } W) :
    (Code.rangeFunc g ps assign body).wpIn F n P Q a w := by
  refine wpIn_rangeFunc fun fn hfn => ?_
  rw [hro]
  -- the loop's record, and the block of the rounds' deferred calls
  obtain ⟨R, hR⟩ : ∃ R : LoopState → Option Code → Loop, R = fun st pe => { state := st, pending := pe, fn, tmps := a.tmps, params := ps, assign, body, defers := w.heap.size } := ⟨_, rfl⟩
  obtain ⟨V, hV⟩ : ∃ V, (w.alloc (.deferred (some []))).alloc (.loop (R .ready none)) = V := ⟨_, rfl⟩
  have vL : V.heap[w.heap.size + 1]? = some (.loop (R .ready none)) := by
    rw [← hV]; have := World.alloc_heap_new (w.alloc (.deferred (some []))) (.loop (R .ready none)); rwa [World.size_alloc] at this
  have vD : V.heap[w.heap.size]? = some (.deferred (some [])) := by
    rw [← hV]; exact (Below.heap_alloc _ _ _ (by simp)).trans (World.alloc_heap_new w _)
  have vB : V.heap[Bs]? = w.heap[Bs]? := by
    rw [← hV]; exact (Below.heap_alloc _ _ _ (by simp; omega)).trans (Below.heap_alloc _ _ _ hBs)
  have vI : I [] V := by rw [← hV]; exact hI.alloc _ (hI.alloc _ h0)
  refine ⟨w.heap.size + 1, [{ target := .collected w.heap.size, args := #[] }], V, { target := .fn (.func gf) lb, args := #[.func (.yield (w.heap.size + 1)) #[] #[]] }, V, gf,
    #[.func (.yield (w.heap.size + 1)) #[] #[]] ++ lb, V, ?_, ?_, ?_, ?_, fun _ => h1, ?_⟩
  · rw [← hV, hR]; exact run_enterLoop_outer _ _ _ _ _
  · simp only [resolve, hg]
    simp [go_sem]
  · intro f' hf'; simp [Target.leads] at hf'; subst hf'; exact hFg
  · simp [invoke, go_sem, eg]
  · refine (hseq (w.heap.size + 1)
      (fun pre W => I pre W ∧ W.heap[w.heap.size + 1]? = some (.loop (R .ready none)) ∧ W.heap[w.heap.size]? = some (.deferred (some [])))
      (fun pre W => Ix pre W ∧ W.heap[w.heap.size + 1]? = some (.loop (R .done (some .ret))) ∧ W.heap[w.heap.size]? = some (.deferred (some [])))
      V vB
      (fun s A v hs => ⟨hIs s A v hs.1, (Below.heap_setCell A _ _ _ (by simp; omega)).trans hs.2.1, (Below.heap_setCell A _ _ _ (by simp; omega)).trans hs.2.2⟩)
      (fun s A hs => ⟨hId s A hs.1, hs.2.1, hs.2.2⟩)
      ?_ ⟨vI, vL, vD⟩).mono ?_
    · rintro pre x W ⟨hi, hl, hk⟩ hgx
      have hlt : w.heap.size + 1 < W.heap.size := (Array.getElem?_eq_some_iff.1 hl).1
      have hy := run_yield (P := P) (args := encs x) hl (by rw [hR]; exact hps x)
      rw [hR] at hy
      refine ⟨fn, _, assign, body, hy, roundIn_of_wpIn hfn (hassign _ x W _ ⟨_, run_beginRound hl (by rw [hR]), ?_⟩)⟩
      obtain ⟨X, hX⟩ : ∃ X, W.putObj (w.heap.size + 1) (.loop { R .ready none with state := .busy }) = X := ⟨_, rfl⟩
      have xL : X.heap[w.heap.size + 1]? = some (.loop { R .ready none with state := .busy }) := by rw [← hX]; exact World.putObj_heap_same hlt
      have xD : X.heap[w.heap.size]? = some (.deferred (some [])) := by rw [← hX]; exact (World.putObj_heap_other (by omega)).trans hk
      have xB : X.heap[Bs]? = W.heap[Bs]? := by rw [← hX]; exact World.putObj_heap_other (by omega)
      have xI : I pre X := by rw [← hX]; exact hI.putObj _ hi (by omega) hl rfl
      rw [hX]
      refine wpIn_mono (hbody _ pre x X xI hgx) ?_
      have fin : ∀ (jump : Option Code) (Y : World), KeepsFrom w.heap.size X Y →
          (Instr.endRound (w.heap.size + 1) jump).run P Y = .ok (.bool jump.isNone) (Y.putObj (w.heap.size + 1) (.loop (R (if jump.isNone then .ready else .done) jump))) ∧
          Y.heap[w.heap.size + 1]? = some (.loop { R .ready none with state := .busy }) ∧
          (Y.putObj (w.heap.size + 1) (.loop (R (if jump.isNone then .ready else .done) jump))).heap[w.heap.size + 1]? = some (.loop (R (if jump.isNone then .ready else .done) jump)) ∧
          (Y.putObj (w.heap.size + 1) (.loop (R (if jump.isNone then .ready else .done) jump))).heap[w.heap.size]? = some (.deferred (some [])) := fun jump Y hkY => by
        have yL := hkY.same _ _ (by omega) xL rfl
        have := run_endRound (P := P) jump yL
        rw [hR] at this ⊢
        exact ⟨this, by rw [hR] at yL; exact yL, World.putObj_heap_same (Array.getElem?_eq_some_iff.1 yL).1, (World.putObj_heap_other (by omega)).trans (hkY.same _ _ (Nat.le_refl _) xD rfl)⟩
      rintro e a3 Y hp
      cases e with
      | normal =>
        obtain ⟨k3, b3, i3⟩ := hp
        obtain ⟨hr, l3, l4, k4⟩ := fin none Y k3
        exact ⟨_, _, hr, .inl ⟨rfl, ⟨hI.putObj _ i3 (by omega) l3 rfl, l4, k4⟩, ((World.putObj_heap_other (by omega)).trans b3).trans xB⟩⟩
      | ret =>
        obtain ⟨k3, _, i3⟩ := hp
        obtain ⟨hr, l3, l4, k4⟩ := fin (some .ret) Y k3
        exact ⟨_, _, hr, .inr ⟨rfl, hIx.putObj _ i3 (by omega) l3 rfl, l4, k4⟩⟩
      | exit id => obtain ⟨_, hc, _⟩ := hp; cases hc
      | goto t => obtain ⟨_, hc, _⟩ := hp; cases hc
      | panic ch => exact hp.elim
      | outgrown => exact hp.elim
    · rintro e Y ⟨⟨v, rfl⟩, (⟨xs, hS, hi, hl, hk⟩ | ⟨pre, hi, hl, hk⟩)⟩
      · exact ⟨none, _, by have := run_endLoop (P := P) hl (by rw [hR]; simp); rw [hR] at this; exact this, hdone _ xs _ (Nat.le_refl _) hS (hI.putObj _ hi (by omega) hl rfl) ((World.putObj_heap_other (by omega)).trans hk)⟩
      · exact ⟨some .ret, _, by have := run_endLoop (P := P) hl (by rw [hR]; simp); rw [hR] at this; exact this, hstop _ pre _ (Nat.le_refl _) (hIx.putObj _ hi (by omega) hl rfl) ((World.putObj_heap_other (by omega)).trans hk)⟩

end Go.Proofs.YtekkkoipcghlmaaGreatDoor

namespace Go.Proofs.YtekkkoipcghlmaaGreatDoor
open Go.RowKit Go.Shelf
attribute [local go_sem] Oper.semAt_some

/-- How long is the text in a box. -/
def boxLen (w : World) (B : Nat) : Nat :=
  match w.cell? ⟨B, 0, none⟩ with
  | some (.string b) => b.size
  | _ => 0
theorem boxLen_of {w : World} {B : Nat} {b : ByteArray} (h : w.cell? ⟨B, 0, none⟩ = some (.string b)) : boxLen w B = b.size := by
  unfold boxLen; rw [h]

theorem slice_to_bs {P : Program} (t : TypeId) (hu : P.underlying t = some .string) (l : List UInt8) (j : Int) (b : Nat) (hj : j = b) (h2 : b ≤ l.length) (wx : World) :
    (Instr.slice t (.string (bs l)) none (some (.int .i64 j)) none).run P wx = .ok (.string (bs (l.take b))) wx := by
  subst hj
  rw [run_slice_string_to_if wx t (bs l) .i64 b hu, if_pos (by rw [bs_size]; omega)]
  simp only [Int.toNat_natCast, bs_extract]
  simp

set_option maxRecDepth 100000 in
set_option maxHeartbeats 10000000 in
theorem lines1_in (n l Bs : Nat) (s : List UInt8) (hs : s.length ≤ 6000) (J Jx : List (List UInt8 × Bool) → World → Prop)
    (hJs : ∀ p A v, J p A → J p (A.setCell ⟨Bs, 0, none⟩ v)) (hJd : ∀ p A, J p A → J p A.drew)
    (hY : ∀ pre x W, J pre W → pre ++ [x] <+: Sp.segs s → YieldAt Fence.wide (n - 1) Tryz.prog l #[.string (bs (lineOf x.1 x.2))] W fun e W' =>
      (e = .returned (.bool true) ∧ J (pre ++ [x]) W' ∧ W'.heap[Bs]? = W.heap[Bs]?) ∨ (e = .returned (.bool false) ∧ Jx (pre ++ [x]) W'))
    (W : World) (hc : W.cell? ⟨Bs, 0, none⟩ = some (.string (bs s))) (hf : W.frozen? ⟨Bs, 0, none⟩ = false) (h0 : J [] W) :
    CallsIn Fence.wide n Tryz.prog 137 #[.func (.yield l) #[] #[], .pointer (some ⟨Bs, 0, none⟩)] W fun e W' => (∃ v, e = .returned v) ∧
      (J (Sp.segs s) W' ∨ (∃ pre, Jx pre W')) := by
  refine callsIn_of_wp Tryz.func137 rfl trivial ?_ rfl
  simp only [Tryz.ntmps137, List.size_toArray, List.length_cons, List.length_nil, Nat.reduceAdd, Nat.reduceSub, Array.replicate_succ, Array.replicate_zero, List.push_toArray, List.append_toArray, List.nil_append, List.cons_append]
  gi_wp2
  gi_loopw [3] (fun _ wr => ∃ (pre : List (List UInt8 × Bool)) (rest : List UInt8), Hid (pre ++ Sp.segs rest = Sp.segs s) ∧ rest.length ≤ s.length ∧ wr.cell? ⟨Bs, 0, none⟩ = some (.string (bs rest)) ∧ wr.frozen? ⟨Bs, 0, none⟩ = false ∧ Hid (J pre wr))
    (fun _ wr => boxLen wr Bs)
  case atStart =>
    exact ⟨[], s, rfl, Nat.le_refl _, hc, hf, h0⟩
  case round =>
    obtain ⟨pre, rest, HX, hrl, hcell, hfr, HJ⟩ := hrel
    have hsz := bs_size rest
    by_cases hne : rest = []
    · have hz : ¬ (0 : Int) < (rest.length : Int) := by rw [hne]; simp
      have HN := hide hne
      clear hne
      gi_wp2
      go_end0
      refine ⟨⟨_, rfl⟩, .inl ?_⟩
      have hx := unhide HX
      rw [unhide HN] at hx
      rw [← hx]
      simpa [Sp.segs, Sp.segsAux] using unhide HJ
    · have hz : (0 : Int) < (rest.length : Int) := by have := List.length_pos_iff.2 hne; omega
      have HIB := hide (Tryz.strings_IndexByte (bs rest) 10 wr)
      rw [bs_data] at HIB
      rcases Sp.segs_index rest with ⟨hi, hseg⟩ | ⟨i, hi, hil, htk, hseg⟩
      · rw [show (10 : Int).toNat.toUInt8 = 10 from rfl, hi] at HIB
        have HSEG := hide (hseg [] (by simpa using hne))
        have HNE := hide hne
        clear hi hseg hne
        have hJ2 := hide (hJs _ _ (.string ⟨#[]⟩) (unhide HJ))
        have hY1 := hY pre (rest, false) _ (unhide hJ2) (by rw [← unhide HX]; show _ <+: pre ++ Sp.segsAux [] rest; rw [unhide HSEG]; exact ⟨[], by simp⟩)
        obtain ⟨fn, tmps, assign, body, hy, hR⟩ := hY1
        have HR := hide hR
        clear hR hJ2
        simp only [lineOf, Bool.false_eq_true, if_false] at hy
        gi_wp2_with fail
        refine ⟨trivial, fun h => (by cases h), ?_⟩
        refine (callsIn_wide.2 (unhide HIB)).mono ?_
        rintro e w' ⟨rfl, rfl⟩
        gi_wp2
        refine ⟨fun h => (by cases h), ?_⟩
        refine (unhide HR).mono ?_
        rintro e W3 (⟨rfl, hJ3, hk3⟩ | ⟨rfl, hJx3⟩)
        · have hc1 : (w'.setCell ⟨Bs, 0, none⟩ (.string ⟨#[]⟩)).cell? ⟨Bs, 0, none⟩ = some (.string (bs [])) := World.cell?_setCell_same' _ _ _ (by rw [hcell]; rfl)
          have hc3 : W3.cell? ⟨Bs, 0, none⟩ = some (.string (bs [])) := (World.cell?_of_block (a := ⟨Bs, 0, none⟩) hk3).trans hc1
          have hf3 : W3.frozen? ⟨Bs, 0, none⟩ = false := (World.frozen?_of_block (a := ⟨Bs, 0, none⟩) hk3).trans ((World.frozen?_setCell _ _ _ _).trans hfr)
          have HJ3 := hide hJ3
          clear hJ3 hk3 hc1
          gi_wp2
          go_roundw
          case rel => exact ⟨pre ++ [(rest, false)], [], hide (by rw [← unhide HX]; show _ = pre ++ Sp.segsAux [] rest; rw [unhide HSEG]; simp [Sp.segs, Sp.segsAux]), by simp, hc3, hf3, HJ3⟩
          case measure => rw [boxLen_of hc3, boxLen_of hcell, bs_size, bs_size]; simp; omega
        · have HJ3 := hide hJx3
          clear hJx3
          gi_wp2
          refine bodyPost_ret (results_none rfl _ _ _) rfl ?_
          exact ⟨⟨_, rfl⟩, .inr ⟨_, unhide HJ3⟩⟩
      · rw [show (10 : Int).toNat.toUInt8 = 10 from rfl, hi] at HIB
        have HSEG := hide (hseg [])
        clear hi hseg hne
        have hsl1 := fun wx => slice_to_bs (P := Tryz.prog) 9 Tryz.underlying9 rest ((i : Int) + 1) (i + 1) (by omega) (by omega) wx
        have hsl2 := fun wx => slice_from_bs (P := Tryz.prog) 9 Tryz.underlying9 rest ((i : Int) + 1) (i + 1) (by omega) (by omega) wx
        rw [htk] at hsl1
        have hJ2 := hide (hJd _ _ (hJs _ _ (.string (bs (rest.drop (i + 1)))) (unhide HJ)))
        have hY1 := hY pre (rest.take i, true) _ (unhide hJ2) (by rw [← unhide HX]; show _ <+: pre ++ Sp.segsAux [] rest; rw [unhide HSEG]; exact ⟨Sp.segsAux [] (rest.drop (i + 1)), by simp⟩)
        obtain ⟨fn, tmps, assign, body, hy, hR⟩ := hY1
        have HR := hide hR
        clear hR hJ2
        simp only [lineOf, if_true] at hy
        gi_wp2_with fail
        refine ⟨trivial, fun h => (by cases h), ?_⟩
        refine (callsIn_wide.2 (unhide HIB)).mono ?_
        rintro e w' ⟨rfl, rfl⟩
        gi_wp2
        gi_region
        gi_wp2
        refine ⟨fun h => (by cases h), ?_⟩
        refine (unhide HR).mono ?_
        rintro e W3 (⟨rfl, hJ3, hk3⟩ | ⟨rfl, hJx3⟩)
        · have hc1 : (w'.setCell ⟨Bs, 0, none⟩ (.string (bs (rest.drop (i + 1))))).cell? ⟨Bs, 0, none⟩ = some (.string (bs (rest.drop (i + 1)))) := World.cell?_setCell_same' _ _ _ (by rw [hcell]; rfl)
          have hc3 : W3.cell? ⟨Bs, 0, none⟩ = some (.string (bs (rest.drop (i + 1)))) := (World.cell?_of_block (a := ⟨Bs, 0, none⟩) hk3).trans hc1
          have hf3 : W3.frozen? ⟨Bs, 0, none⟩ = false := (World.frozen?_of_block (a := ⟨Bs, 0, none⟩) hk3).trans ((World.frozen?_setCell _ _ _ _).trans hfr)
          have HJ3 := hide hJ3
          clear hJ3 hk3 hc1
          gi_wp2
          go_roundw
          case rel => exact ⟨pre ++ [(rest.take i, true)], (rest.drop (i + 1)), hide (by rw [← unhide HX]; show _ = pre ++ Sp.segsAux [] rest; rw [unhide HSEG]; simp [Sp.segs]), by simp; omega, hc3, hf3, HJ3⟩
          case measure => rw [boxLen_of hc3, boxLen_of hcell, bs_size, bs_size]; simp; omega
        · have HJ3 := hide hJx3
          clear hJx3
          gi_wp2
          refine bodyPost_ret (results_none rfl _ _ _) rfl ?_
          exact ⟨⟨_, rfl⟩, .inr ⟨_, unhide HJ3⟩⟩

end Go.Proofs.YtekkkoipcghlmaaGreatDoor
