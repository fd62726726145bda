import Derived.Test.YtekkkoipcghlmaaDoorQC05
import Derived.Test.YtekkkoipcghlmaaDoorQC01
import Derived.Lib.SplitLaws
set_option linter.all false
namespace Go.Proofs.YtekkkoipcghlmaaDoor
open Go.RowKit

namespace Sp
/-- Lines with their ends. -/
def flag (e : Bool) : List (List UInt8) → List (List UInt8 × Bool)
  | [] => []
  | [x] => [(x, e)]
  | x :: y :: r => (x, true) :: flag e (y :: r)
theorem segs_flag (r : List UInt8) : ∀ cur, segsAux cur r = flag (endAux cur r) (linesAux cur r) := by
  induction r with
  | nil =>
    intro cur
    unfold segsAux linesAux endAux
    by_cases hc : cur = []
    · simp [hc, flag]
    · have : cur.isEmpty = false := by simpa using hc
      simp [hc, flag]
  | cons c r ih =>
    intro cur
    unfold segsAux linesAux endAux
    by_cases hc : c = 10
    · rw [if_pos hc, if_pos hc, if_pos hc, ih]
      cases hl : linesAux [] r with
      | nil => rw [lines_nil r [] hl]; rfl
      | cons y t => rfl
    · rw [if_neg hc, if_neg hc, if_neg hc]; exact ih _
theorem flag_len (e : Bool) : ∀ L, (flag e L).length = L.length
  | [] => rfl
  | [_] => rfl
  | _ :: y :: r => by simp [flag, flag_len e (y :: r)]
theorem flag_step (e : Bool) : ∀ (L : List (List UInt8)) (k : Nat) (h : k < L.length), (flag e L).drop k = (L[k], e || !decide (k + 1 = L.length)) :: (flag e L).drop (k + 1)
  | [], _, h => by simp at h
  | [x], k, h => by
    have : k = 0 := by simp at h; exact h
    subst this; simp [flag]
  | x :: y :: r, 0, h => by simp [flag]
  | x :: y :: r, k + 1, h => by
    have := flag_step e (y :: r) k (by simpa using h)
    simp only [flag, List.drop_succ_cons, List.getElem_cons_succ, List.length_cons] at this ⊢
    rw [this]
    congr 3
    simp

theorem wordsAux_head (l : List UInt8) : ∀ cur, ∃ t rest, wordsAux cur l = (cur ++ t) :: rest := by
  induction l with
  | nil => intro cur; exact ⟨[], [], by simp [wordsAux]⟩
  | cons c r ih =>
    intro cur
    unfold wordsAux
    split
    · exact ⟨[], wordsAux [] r, by simp⟩
    · obtain ⟨t, rest, h⟩ := ih (cur ++ [c])
      exact ⟨c :: t, rest, by rw [h]; simp⟩

/-- The four ways of a line. -/
theorem step_other {y : List UInt8} (h : ∀ r, y ≠ 100 :: r) : stepOf y = (false, words y) := by
  unfold stepOf
  split
  · rename_i w0 r hw
    have hne : w0 ≠ [100] := by
      rintro rfl
      match y, h, hw with
      | [], _, hw => simp [words] at hw
      | c :: q, h, hw =>
        have hc : c ≠ 100 := fun e => h q (by rw [e])
        unfold words at hw
        rw [if_neg (by simp)] at hw
        unfold wordsAux at hw
        split at hw
        · simp at hw
        · obtain ⟨t, rest, ht⟩ := wordsAux_head q ([] ++ [c])
          rw [ht] at hw
          simp at hw
          exact hc hw.1.1
    rw [if_neg hne, hw]
  · rename_i hw; rw [hw]
theorem step_d : stepOf [100] = (true, []) := by decide
theorem step_go (r : List UInt8) : stepOf (100 :: 32 :: r) = (true, wordsAux [] r) ∧ words (100 :: 32 :: r) = [100] :: wordsAux [] r := by
  have : words (100 :: 32 :: r) = [100] :: wordsAux [] r := by
    unfold words; rw [if_neg (by simp)]
    simp [wordsAux]
  refine ⟨?_, this⟩
  unfold stepOf
  rw [this]
  simp
theorem step_bad (c : UInt8) (r : List UInt8) (hc : c ≠ 32) (b : Bool) : stepOk (100 :: c :: r, b) = false := by
  obtain ⟨t, rest, ht⟩ := wordsAux_head r ([] ++ [100] ++ [c])
  have hw : words (100 :: c :: r) = (100 :: c :: t) :: rest := by
    unfold words; rw [if_neg (by simp)]
    have h1 : wordsAux [] (100 :: c :: r) = wordsAux ([] ++ [100] ++ [c]) r := by
      rw [wordsAux, if_neg (by decide), wordsAux, if_neg hc]
    rw [h1, ht]; simp
  unfold stepOk stepOf
  simp only [hw]
  rw [if_neg (by simp)]
  have hl : lit (100 :: c :: t) = 0 := by
    unfold lit
    simp only
    rw [if_neg (by decide)]
    unfold num
    split
    · rename_i h; simp at h
    · rename_i a b' h
      simp at h
      obtain ⟨rfl, -, -⟩ := h
      rw [if_neg (fun h' => absurd h'.1 (by decide))]
    · rfl
  simp [hl]
end Sp

theorem stepMask_lt (y : List UInt8) : Sp.stepMask y < 2 ^ 24 := Sp.maskOf_lt _ fun x hx => by
  obtain ⟨s, _, rfl⟩ := List.mem_map.1 hx
  exact Sp.lit_bd s

theorem lies_tail {w : World} {n cap : Nat} {x : Value} {xs : List Value} {b off : Nat} (h : Lies w (.slice (some ⟨b, off, none⟩) n cap) (x :: xs)) (c' : Nat) : Lies w (.slice (some ⟨b, off + 1, none⟩) xs.length c') xs := by
  rcases h with ⟨h0, _⟩ | ⟨b', off', cap', hp, hv, hlt, hc⟩
  · cases h0
  · simp at hv
    obtain ⟨⟨rfl, rfl⟩, -, rfl⟩ := hv
    by_cases h0 : xs = []
    · subst h0; exact .inl ⟨rfl, _, _, rfl⟩
    · exact .inr ⟨b, off + 1, c', List.length_pos_iff.2 h0, rfl, hlt, fun k y hy => by
        have := hc (k + 1) y (by simpa using hy)
        rwa [show off + 1 + k = off + (k + 1) from by omega]⟩

theorem owns_pos {w : World} {base : Nat} {e : TypeId} {v : Value} {n : Nat} {xs : List Value} (h : w.ownsRow base e 1 v n xs) (hn : 0 < n) : ∃ g cap, v = .slice (some ⟨g, 0, none⟩) n cap := by
  rcases h.2 with ⟨h', h0⟩ | ⟨g, cap, cur, h1, _⟩
  · omega
  · exact ⟨_, _, h1⟩
theorem tail_slice {w : World} {base n : Nat} {v : Value} {y : List UInt8} {ys : List (List UInt8)} (h : w.ownsRow base 9 1 v n (strs (y :: ys))) :
    ∃ (g cap : Nat) (vt : Value), v = .slice (some ⟨g, 0, none⟩) n cap ∧ (∀ wx, (Instr.slice 46 (.slice (some ⟨g, 0, none⟩) n cap) (some (.int .i64 1)) none none).run Tryd.prog wx = .ok vt wx) ∧ Lies w vt (strs ys) := by
  have hn : n = ys.length + 1 := by have := h.1; simp [strs] at this; omega
  have hl := lies_of_owns h (by simp [strs]; omega)
  obtain ⟨g, cap, rfl⟩ := owns_pos h (by omega)
  refine ⟨g, cap, sliced (some ⟨g, 0, none⟩) 1 n cap 1, rfl, fun wx => ?_, ?_⟩
  · rw [run_slice_l (P := Tryd.prog) wx 46 (some ⟨g, 0, none⟩) n cap (by kernel_rfl) .i64 1 (by omega) (by omega)]
    have : (sizeOf (Tryd.prog.elem 46)).run Tryd.prog wx = .ok 1 wx := by
      rw [show Tryd.prog.elem 46 = 9 from by kernel_rfl]
      obtain ⟨i, hi, hz0, hz1, hz2⟩ := info_parts Tryd.infoStr
      simp [sizeOf, typeInfo, hi, hz1]
    rw [this]
    rfl
  · unfold sliced
    rw [show n - 1 = (strs ys).length from by simp [strs]; omega]
    by_cases hc : cap = 1
    · rw [if_pos hc]
      have h0 : ys = [] := by
        rcases h.2 with ⟨h', _⟩ | ⟨g', cap', cur, h', _, _, hle, _⟩
        · cases h'
        · simp at h'
          exact List.length_eq_zero_iff.1 (by omega)
      subst h0
      exact .inl ⟨rfl, _, _, rfl⟩
    · rw [if_neg hc]
      exact lies_tail (b := g) (off := 0) hl _

/-- What Shows hands back. -/
def ShowRes (L : List Nat) (s : List UInt8) (w : World) (e : Ending) (w' : World) : Prop := ∃ r : Int × Int, e = .returned (.tuple #[.int .i64 r.1, .int .i64 r.2]) ∧ Sp.Outcome L 0 (Sp.segs s) r ∧ Below w.heap.size w w'

def StillSo (L : List Nat) (S : List (List UInt8 × Bool)) (M : List Nat) (k : Nat) : Prop := ∀ r, Sp.Outcome M k (S.drop k) r → Sp.Outcome L 0 S r
def Small (M : List Nat) : Prop := ∀ c, c ∈ M → c < 2 ^ 24
theorem Small.erase {M : List Nat} (h : Small M) (m : Nat) : Small (M.erase m) := fun c hc => h c (List.mem_of_mem_erase hc)
theorem Small.snoc {M : List Nat} (h : Small M) {m : Nat} (hm : m < 2 ^ 24) : Small (M ++ [m]) := fun c hc => by
  rcases List.mem_append.1 hc with hc | hc
  · exact h c hc
  · simp at hc; subst hc; exact hm

section
theorem still_bad {L M : List Nat} {S : List (List UInt8 × Bool)} {k : Nat} {x : List UInt8 × Bool} (h : StillSo L S M k) (hd : S.drop k = x :: S.drop (k + 1)) (hx : Sp.stepOk x = false) : Sp.Outcome L 0 S (6, (k : Int) + 1) := h _ (by rw [hd]; exact .inl ⟨hx, rfl⟩)
theorem still_lost {L M : List Nat} {S : List (List UInt8 × Bool)} {k : Nat} {x : List UInt8 × Bool} (h : StillSo L S M k) (hd : S.drop k = x :: S.drop (k + 1)) (hx : Sp.stepOk x = true) (hg : (Sp.stepOf x.1).1 = true) (hm : Sp.stepMask x.1 ∉ M) : Sp.Outcome L 0 S (7, (k : Int) + 1) := h _ (by rw [hd]; exact .inr ⟨hx, .inl ⟨hg, .inr ⟨hm, rfl⟩⟩⟩)
theorem still_gone {L M : List Nat} {S : List (List UInt8 × Bool)} {k : Nat} {x : List UInt8 × Bool} (h : StillSo L S M k) (hd : S.drop k = x :: S.drop (k + 1)) (hx : Sp.stepOk x = true) (hg : (Sp.stepOf x.1).1 = true) (hm : Sp.stepMask x.1 ∈ M) : StillSo L S (M.erase (Sp.stepMask x.1)) (k + 1) := fun r hr => h _ (by rw [hd]; exact .inr ⟨hx, .inl ⟨hg, .inl ⟨hm, hr⟩⟩⟩)
theorem still_step {L M : List Nat} {S : List (List UInt8 × Bool)} {k : Nat} {x : List UInt8 × Bool} (h : StillSo L S M k) (hd : S.drop k = x :: S.drop (k + 1)) (hx : Sp.stepOk x = true) (hg : (Sp.stepOf x.1).1 = false) (hm : ¬ Sp.Fol M (Sp.stepMask x.1)) : Sp.Outcome L 0 S (8, (k : Int) + 1) := h _ (by rw [hd]; exact .inr ⟨hx, .inr ⟨hg, .inr ⟨hm, rfl⟩⟩⟩)
theorem still_more {L M : List Nat} {S : List (List UInt8 × Bool)} {k : Nat} {x : List UInt8 × Bool} (h : StillSo L S M k) (hd : S.drop k = x :: S.drop (k + 1)) (hx : Sp.stepOk x = true) (hg : (Sp.stepOf x.1).1 = false) (hm : Sp.Fol M (Sp.stepMask x.1)) : StillSo L S (M ++ [Sp.stepMask x.1]) (k + 1) := fun r hr => h _ (by rw [hd]; exact .inr ⟨hx, .inr ⟨hg, .inl ⟨hm, hr⟩⟩⟩)
end

/-- The ways of a line, as the walk asks. -/
theorem line_ways (x : List UInt8) :
    (∃ (h0 : 0 < (bs x).size) (h1 : 1 < (bs x).size), (bs x).toList.isEmpty = false ∧ ((((bs x)[0]'h0).toNat : Int) == 100) = true ∧ ((((bs x)[1]'h1).toNat : Int) == 32) = false ∧ (∃ y ys, Sp.words x = y :: ys) ∧ ∀ b, Sp.stepOk (x, b) = false) ∨
    (Sp.stepOf x = (false, Sp.words x) ∧ ((bs x).toList.isEmpty = true ∨ ∃ (h0 : 0 < (bs x).size), (bs x).toList.isEmpty = false ∧ ((((bs x)[0]'h0).toNat : Int) == 100) = false)) ∨
    (∃ (h0 : 0 < (bs x).size) (ys : List (List UInt8)), (bs x).toList.isEmpty = false ∧ ((((bs x)[0]'h0).toNat : Int) == 100) = true ∧ Sp.words x = [100] :: ys ∧ Sp.stepOf x = (true, ys) ∧ ((bs x).size = 1 ∨ ∃ (h1 : 1 < (bs x).size), ((((bs x)[1]'h1).toNat : Int) == 32) = true)) := by
  have hsz := bs_size x
  rcases x with _ | ⟨c, r⟩
  · exact .inr (.inl ⟨Sp.step_other (by simp), .inl (by rw [bs_toList]; rfl)⟩)
  · have h0 : 0 < (bs (c :: r)).size := by rw [hsz]; simp
    have hg0 : (bs (c :: r))[0] = c := bs_get (l := c :: r) (k := 0) (by simp)
    have hemp : (bs (c :: r)).toList.isEmpty = false := bs_nonempty (by simp)
    by_cases hc : c = 100
    · subst hc
      have hq : ((((bs (100 :: r))[0]'h0).toNat : Int) == 100) = true := by rw [hg0]; rfl
      rcases r with _ | ⟨c, r⟩
      · exact .inr (.inr ⟨h0, [], hemp, hq, by decide, Sp.step_d, .inl (by rw [hsz]; rfl)⟩)
      · have h1 : 1 < (bs (100 :: c :: r)).size := by rw [hsz]; simp
        have hg1 : (bs (100 :: c :: r))[1] = c := bs_get (l := 100 :: c :: r) (k := 1) (by simp)
        by_cases hc : c = 32
        · subst hc
          exact .inr (.inr ⟨h0, _, hemp, hq, (Sp.step_go r).2, (Sp.step_go r).1, .inr ⟨h1, by rw [hg1]; rfl⟩⟩)
        · refine .inl ⟨h0, h1, hemp, hq, by rw [hg1]; exact byte_ne (by decide) hc, ?_, fun b => Sp.step_bad c r hc b⟩
          unfold Sp.words; rw [if_neg (by simp)]
          obtain ⟨t, rest, h⟩ := Sp.wordsAux_head (100 :: c :: r) []
          exact ⟨_, _, h⟩
    · exact .inr (.inl ⟨Sp.step_other (fun q hq => hc (by simpa using (List.cons.inj hq).1)), .inr ⟨h0, hemp, by rw [hg0]; exact byte_ne (by decide) hc⟩⟩)

/-- A clause's numbers, out of its words. -/
theorem clause_lits {x : List UInt8} {ws : List (List UInt8)} {g : Bool} (h : Sp.stepOf x = (g, ws)) (hok : allLit ws = true) : Sp.sorted (ws.map Sp.lit) = Sp.litsOf (Sp.stepMask x) := by
  unfold Sp.stepMask
  rw [h, Sp.litsOf_maskOf]
  intro y hy
  obtain ⟨z, hz, rfl⟩ := List.mem_map.1 hy
  have := List.all_eq_true.1 hok z hz
  simpa using this
theorem step_ok {x : List UInt8} {ws : List (List UInt8)} {g : Bool} (h : Sp.stepOf x = (g, ws)) (b : Bool) : Sp.stepOk (x, b) = (allLit ws && b) := by
  unfold Sp.stepOk; rw [h]; rfl

set_option maxRecDepth 100000 in
set_option maxHeartbeats 1600000 in
theorem shows_any (v : Value) (L : List Nat) (s : List UInt8) (w : World) (hl : L.length ≤ 100000) (hL : Small L) (hs : s.length ≤ 6000) (hv : RowsOf w v L) :
    Calls Tryd.prog 16 #[v, .string (bs s)] w fun e w' => ShowRes L s w e w' := by
  have hsz := bs_size s
  have hLl := Sp.lines_len s []
  have HLN := hide (lines_any s w (by omega))
  have HM := hide (lines_mem s)
  have HSG : Hid (Sp.segs s = Sp.flag (Sp.ended s) (Sp.lines s)) := hide (Sp.segs_flag s [])
  have HE0 : Hid (Sp.linesAux [] s = Sp.lines s) := rfl
  rw [unhide HE0] at hLl
  have HV := hide hv
  clear hv HE0
  have HSM := hide hL
  clear hL
  go_enter Tryd.func16, Tryd.ntmps16
  go_wp2_with fail
  refine (unhide HLN).mono ?_
  rintro e w1 ⟨vl, rfl, hownL, hb1⟩
  have HLL := hide (lies_of_owns hownL (by simp [strs]))
  clear hownL HLN
  obtain ⟨aoL, capL, rfl⟩ := lies_shape (unhide HLL)
  have hlen : (strs (Sp.lines s)).length = (Sp.lines s).length := by simp [strs]
  rw [hlen] at HLL ⊢
  clear hlen
  generalize hLs : Sp.lines s = N at *
  generalize hEe : Sp.ended s = E at *
  have HS0 : Hid (Sp.segs s = Sp.flag E N) := HSG
  clear hLs hEe HSG
  have HV1 := hide ((unhide HV).below hb1)
  go_wp2
  go_loopw [0, 8] (fun l i wr => ∃ (k : Nat) (M : List Nat), k ≤ N.length ∧ i = .int .i64 k ∧ Hid (RowsOf wr l M) ∧ M.length ≤ L.length + k ∧ Hid (Small M) ∧ Hid (StillSo L (Sp.flag E N) M k) ∧ Below w1.heap.size w1 wr) (fun _ i _ => N.length - (intOf i).toNat)
  case atStart => exact ⟨0, L, Nat.zero_le _, rfl, HV1, by omega, HSM, hide (fun r h => h), Below.refl _ _⟩
  case round =>
    obtain ⟨k, M, hk, rfl, HR, hMl, HMS, HST, hbel⟩ := hrel
    by_cases hlt : k < N.length
    · rcases unhide HLL with ⟨h0, _⟩ | ⟨b, off, cap', hp, hsl, hb, hc⟩
      · exfalso; have h0' : N = [] := by simpa [strs] using h0
        rw [h0'] at hlt; simp at hlt
      · simp only [Value.slice.injEq] at hsl
        obtain ⟨rfl, -, rfl⟩ := hsl
        have hcell : wr.cell? ⟨b, off + k, none⟩ = some (.string (bs N[k])) := (hbel.cell (p := ⟨b, off + k, none⟩) hb).trans (hc k (.string (bs N[k])) (by simp [strs, hlt]))
        have hxl : N[k].length ≤ 6000 := Nat.le_trans (unhide HM N[k] (List.getElem_mem hlt)) hs
        have HD := hide (Sp.flag_step E N k hlt)
        generalize N[k] = x at hcell hxl HD
        have hszx := bs_size x
        clear hc
        obtain ⟨vs, hvs, hrows⟩ := unhide HR
        obtain ⟨ao, cap, rfl⟩ := lies_shape hvs
        have hvl := hrows.1
        rw [hvl] at hvs
        rw [hvl]
        have HVL := hide hvl
        have HVS := hide hvs
        have HRS := hide hrows
        clear hvs hrows hvl HR
        have hbelw : Below w.heap.size w wr := hb1.trans (hbel.mono hb1.size)
        have HW := hide (words_all x wr (by omega))
        have HMM := hide (words_mem x)
        have hwl := Sp.words_len' x
        have hmlt := stepMask_lt x
        rcases line_ways x with ⟨h0F, h1F, hemp, hq0, hq1, hws, HBAD⟩ | ⟨hso, hF⟩ | ⟨h0F, ys, hemp, hq0, hws, hso, hT⟩
        · have HWS := hide hws
          clear hws hwl
          have HBAD' := hide HBAD
          clear HBAD
          go_wp2_with fail
          refine (unhide HW).mono ?_
          rintro e w2 ⟨v2, rfl, hown2, hb2⟩
          clear hown2
          go_wp2_with fail
          refine (words_all _ w2 (by omega)).mono ?_
          rintro e w3 ⟨v3, rfl, hown3, hb3⟩
          obtain ⟨y, ys, hyy⟩ := unhide HWS
          generalize (Sp.words x).length = nw at *
          rw [hyy] at hown3
          obtain ⟨g3, cap3, vt, rfl, hsl3, HL3⟩ := tail_slice hown3
          clear hown3 HL3 hyy
          go_wp2
          go_ret2
          exact ⟨(6, (k : Int) + 1), rfl, by rw [unhide HS0]; exact still_bad (unhide HST) (unhide HD) (unhide HBAD' _), hbelw.trans ((hb2.trans (hb3.mono hb2.size)).mono hbelw.size)⟩
        · have HSO := hide hso
          have HWM : Hid (∀ z, z ∈ Sp.words x → z.length ≤ 10000000) := hide (fun z hz => by have := unhide HMM z hz; omega)
          clear hso
          rcases hF with hemp | ⟨h0F, hemp, hq0⟩
          all_goals
            go_wp2_with fail
            refine (unhide HW).mono ?_
            rintro e w2 ⟨v2, rfl, hown2, hb2⟩
            have HL2 := hide (lies_of_owns hown2 (by simp [strs]))
            clear hown2
            go_wp2_with fail
            refine (clause_any v2 (Sp.words x) w2 (by omega) (unhide HWM) (unhide HL2)).mono ?_
            rintro e w3 ⟨v3, rfl, hb3, hno, hyes⟩
            have HNO := hide hno
            have HYES := hide hyes
            clear hno hyes
            have hb13 : Below wr.heap.size wr w3 := hb2.trans (hb3.mono hb2.size)
            have hbel3 : Below w1.heap.size w1 w3 := hbel.trans (hb13.mono hbel.size)
            have hbelw3 : Below w.heap.size w w3 := hbelw.trans (hb13.mono hbelw.size)
            have HOK := hide (step_ok (unhide HSO) (E || !decide (k + 1 = N.length)))
            have HCL := hide (clause_lits (unhide HSO))
            generalize allLit (Sp.words x) = ok at HOK HCL HNO HYES ⊢
            cases ok
            · have hv3 := unhide HNO rfl
              subst hv3
              have HOK' : Hid (Sp.stepOk (x, E || !decide (k + 1 = N.length)) = false) := hide (by rw [unhide HOK]; rfl)
              go_wp2
              go_ret2
              exact ⟨(6, (k : Int) + 1), rfl, by rw [unhide HS0]; exact still_bad (unhide HST) (unhide HD) (unhide HOK'), hbelw3⟩
            · have HYY := hide (unhide HYES rfl)
              rw [unhide HCL rfl] at HYY
              have HOW := hide (owns_mono (unhide HYY) (Nat.le_refl _))
              obtain ⟨ao3, c3, hv3s⟩ := owns_shape (unhide HYY)
              subst hv3s
              have HL3 := hide (lies_of_owns (unhide HYY) (by simp [ints]))
              have hl24 := litsOf_len24 (Sp.stepMask x)
              clear HNO HYES HYY HOW HCL
              have hlast : (E = false ∧ k + 1 = N.length) ∨ (E = true ∨ k + 1 ≠ N.length) := by
                cases E
                · by_cases h : k + 1 = N.length
                  · exact .inl ⟨rfl, h⟩
                  · exact .inr (.inr h)
                · exact .inr (.inl rfl)
              rcases hlast with ⟨rfl, hla⟩ | hla
              · have hq : ((k : Int) == (N.length : Int) - 1) = true := by rw [beq_iff_eq]; omega
                have HLA := hide hla
                clear hla
                have HOK' : Hid (Sp.stepOk (x, false || !decide (k + 1 = N.length)) = false) := hide (by rw [unhide HOK]; simp [unhide HLA])
                go_wp2
                go_ret2
                exact ⟨(6, (k : Int) + 1), rfl, by rw [unhide HS0]; exact still_bad (unhide HST) (unhide HD) (unhide HOK'), hbelw3⟩
              · have HOK' : Hid (Sp.stepOk (x, E || !decide (k + 1 = N.length)) = true) := hide (by rw [unhide HOK]; rcases hla with h | h <;> simp [h])
                have hq : E = false → ((k : Int) == (N.length : Int) - 1) = false := fun h => by
                  rw [beq_eq_false_iff_ne]
                  rcases hla with h' | h'
                  · rw [h] at h'; cases h'
                  · omega
                have HQ := hide hq
                clear hq hla
                have HV3 := hide ((unhide HVS).below hb13)
                have HR3 := hide ((unhide HRS).below hb13)
                have hk1 : k ≤ 6001 := by omega
                obtain ⟨mk, HMK⟩ : ∃ mk, Hid (Sp.stepMask x = mk) := ⟨_, rfl⟩
                rw [unhide HMK] at HL3 hl24 hmlt ⊢
                have HFO := hide (follows_any (.slice ao M.length cap) (.slice ao3 (Sp.litsOf mk).length c3) M mk w3 (by omega) (unhide HMS) hmlt ⟨vs, unhide HV3, unhide HR3⟩ (unhide HL3))
                generalize (Sp.litsOf mk).length = n3 at *
                have hE : E = true ∨ (E = false ∧ ((k : Int) == (N.length : Int) - 1) = false) := by
                  cases E
                  · exact .inr ⟨rfl, unhide HQ rfl⟩
                  · exact .inl rfl
                have HN1 : Hid (¬ Sp.Fol M mk → Sp.Outcome L 0 (Sp.flag E N) (8, (k : Int) + 1)) := hide (fun h => still_step (unhide HST) (unhide HD) (unhide HOK') (by rw [unhide HSO]) (by rw [unhide HMK]; exact h))
                have HN2 : Hid (Sp.Fol M mk → StillSo L (Sp.flag E N) (M ++ [mk]) (k + 1)) := hide (fun h => by have := still_more (unhide HST) (unhide HD) (unhide HOK') (by rw [unhide HSO]) (by rw [unhide HMK]; exact h); rw [unhide HMK] at this; exact this)
                have HONE : Hid (∀ u ∈ vs, u.oneCell' = true) := hide (fun u hu => by
                  obtain ⟨i, hi, rfl⟩ := List.getElem_of_mem hu
                  have hiM : i < M.length := by rw [← unhide HVL]; exact hi
                  obtain ⟨a1, c1, h1⟩ := lies_shape ((unhide HR3).2 i _ M[i] (List.getElem?_eq_getElem hi) (List.getElem?_eq_getElem hiM))
                  rw [h1]; rfl)
                clear HQ HOK HOK' HD
                rcases hE with rfl | ⟨rfl, hq⟩
                all_goals
                  go_wp2_with fail
                  refine (unhide HFO).mono ?_
                  rintro e w4 ⟨fo, rfl, hfo, hb4⟩
                  have HFOL := hide hfo
                  clear hfo
                  have hbel4 : Below w1.heap.size w1 w4 := hbel3.trans (hb4.mono hbel3.size)
                  cases fo
                  · have HFIN := hide (unhide HN1 (fun h => by have := (unhide HFOL).2 h; cases this))
                    go_wp2
                    go_ret2
                    exact ⟨(8, (k : Int) + 1), rfl, by rw [unhide HS0]; exact unhide HFIN, hbelw3.trans (hb4.mono hbelw3.size)⟩
                  · have HFIN := hide (unhide HN2 ((unhide HFOL).1 rfl))
                    have HV4 := hide ((unhide HV3).below hb4)
                    go_wp2_with (at_builtin; first | (refine append_copy rfl _ _ 38 24 rfl Tryd.underlying38 Tryd.infoInts rfl (by decide) rfl rfl (unhide HV4) (unhide HONE) (by rw [unhide HVL]; omega) (Nat.le_refl w4.heap.size) (Below.refl _ _) ?_; rw [unhide HVL]; intro v5 w5 hown5 hbel5 hb5) | (refine append_one rfl _ _ 38 24 rfl Tryd.underlying38 Tryd.infoInts rfl (by decide) hown5 rfl rfl rfl (by omega) (Nat.le_refl _) hbel5 ?_; intro v6 w6 hown6 hbel6 hgr6))
                    go_roundw
                    case rel =>
                      have hr6 := ((unhide HR3).below hb4).below hbel6
                      have hx6 := ((unhide HL3).below hb4).below hbel6
                      exact ⟨k + 1, M ++ [mk], by omega, by go_num, hide ⟨vs ++ [.slice ao3 n3 c3], lies_of_owns hown6 (by simp [unhide HVL]), hr6.snoc hx6⟩, by simp; omega, hide ((unhide HMS).snoc hmlt), HFIN, hbel4.trans (hbel6.mono hbel4.size)⟩
                    case measure => simp [intOf]; omega
        · have HSO := hide hso
          have HWM : Hid (∀ z, z ∈ ys → z.length ≤ 10000000) := hide (fun z hz => by have := unhide HMM z (by rw [hws]; simp [hz]); omega)
          have HWS := hide hws
          rw [hws] at hwl
          simp only [List.length_cons] at hwl
          clear hso hws
          rcases hT with h1F | ⟨h1F, hq1⟩
          all_goals
            go_wp2_with fail
            refine (unhide HW).mono ?_
            rintro e wq ⟨vq, rfl, hownq, hbq⟩
            clear hownq
            go_wp2_with fail
            refine (words_all _ wq (by omega)).mono ?_
            rintro e w2 ⟨vp, rfl, hown2, hb2'⟩
            have hb2 : Below wr.heap.size wr w2 := hbq.trans (hb2'.mono hbq.size)
            rw [unhide HWS] at hown2
            generalize ([100] :: ys).length = nw at *
            obtain ⟨g3, cap3, v2, rfl, hsl3, hL2⟩ := tail_slice hown2
            have HL2 := hide hL2
            clear hown2 hL2
            go_wp2_with fail
            refine (clause_any v2 ys w2 (by omega) (unhide HWM) (unhide HL2)).mono ?_
            rintro e w3 ⟨v3, rfl, hb3, hno, hyes⟩
            have HNO := hide hno
            have HYES := hide hyes
            clear hno hyes
            have hb13 : Below wr.heap.size wr w3 := hb2.trans (hb3.mono hb2.size)
            have hbel3 : Below w1.heap.size w1 w3 := hbel.trans (hb13.mono hbel.size)
            have hbelw3 : Below w.heap.size w w3 := hbelw.trans (hb13.mono hbelw.size)
            have HOK := hide (step_ok (unhide HSO) (E || !decide (k + 1 = N.length)))
            have HCL := hide (clause_lits (unhide HSO))
            generalize allLit ys = ok at HOK HCL HNO HYES ⊢
            cases ok
            · have hv3 := unhide HNO rfl
              subst hv3
              have HOK' : Hid (Sp.stepOk (x, E || !decide (k + 1 = N.length)) = false) := hide (by rw [unhide HOK]; rfl)
              go_wp2
              go_ret2
              exact ⟨(6, (k : Int) + 1), rfl, by rw [unhide HS0]; exact still_bad (unhide HST) (unhide HD) (unhide HOK'), hbelw3⟩
            · have HYY := hide (unhide HYES rfl)
              rw [unhide HCL rfl] at HYY
              have HOW := hide (owns_mono (unhide HYY) (Nat.le_refl _))
              obtain ⟨ao3, c3, hv3s⟩ := owns_shape (unhide HYY)
              subst hv3s
              have HL3 := hide (lies_of_owns (unhide HYY) (by simp [ints]))
              have hl24 := litsOf_len24 (Sp.stepMask x)
              clear HNO HYES HYY HOW HCL
              have hlast : (E = false ∧ k + 1 = N.length) ∨ (E = true ∨ k + 1 ≠ N.length) := by
                cases E
                · by_cases h : k + 1 = N.length
                  · exact .inl ⟨rfl, h⟩
                  · exact .inr (.inr h)
                · exact .inr (.inl rfl)
              rcases hlast with ⟨rfl, hla⟩ | hla
              · have hq : ((k : Int) == (N.length : Int) - 1) = true := by rw [beq_iff_eq]; omega
                have HLA := hide hla
                clear hla
                have HOK' : Hid (Sp.stepOk (x, false || !decide (k + 1 = N.length)) = false) := hide (by rw [unhide HOK]; simp [unhide HLA])
                go_wp2
                go_ret2
                exact ⟨(6, (k : Int) + 1), rfl, by rw [unhide HS0]; exact still_bad (unhide HST) (unhide HD) (unhide HOK'), hbelw3⟩
              · have HOK' : Hid (Sp.stepOk (x, E || !decide (k + 1 = N.length)) = true) := hide (by rw [unhide HOK]; rcases hla with h | h <;> simp [h])
                have hq : E = false → ((k : Int) == (N.length : Int) - 1) = false := fun h => by
                  rw [beq_eq_false_iff_ne]
                  rcases hla with h' | h'
                  · rw [h] at h'; cases h'
                  · omega
                have HQ := hide hq
                clear hq hla
                have HV3 := hide ((unhide HVS).below hb13)
                have HR3 := hide ((unhide HRS).below hb13)
                have hk1 : k ≤ 6001 := by omega
                obtain ⟨mk, HMK⟩ : ∃ mk, Hid (Sp.stepMask x = mk) := ⟨_, rfl⟩
                rw [unhide HMK] at HL3 hl24 hmlt ⊢
                have HWO := hide (without_any (.slice ao M.length cap) (.slice ao3 (Sp.litsOf mk).length c3) M mk w3 (by omega) (unhide HMS) hmlt ⟨vs, unhide HV3, unhide HR3⟩ (unhide HL3))
                generalize (Sp.litsOf mk).length = n3 at *
                generalize hcon : M.contains mk = con at HWO
                have HCON := hide hcon
                clear hcon
                have hE : E = true ∨ (E = false ∧ ((k : Int) == (N.length : Int) - 1) = false) := by
                  cases E
                  · exact .inr ⟨rfl, unhide HQ rfl⟩
                  · exact .inl rfl
                clear HQ
                cases con
                · have HNM : Hid (Sp.stepMask (x, E || !decide (k + 1 = N.length)).1 ∉ M) := hide (by rw [unhide HMK]; simpa using unhide HCON)
                  have HFIN := hide (still_lost (unhide HST) (unhide HD) (unhide HOK') (by rw [unhide HSO]) (unhide HNM))
                  clear HOK HOK' HD HNM
                  rcases hE with rfl | ⟨rfl, hq⟩
                  all_goals
                    go_wp2_with fail
                    refine (unhide HWO).mono ?_
                    rintro e w4 ⟨v4, rfl, HR4, hb4⟩
                    clear HR4
                    go_wp2
                    go_ret2
                    exact ⟨(7, (k : Int) + 1), rfl, by rw [unhide HS0]; exact unhide HFIN, hbelw3.trans (hb4.mono hbelw3.size)⟩
                · have HNM : Hid (Sp.stepMask (x, E || !decide (k + 1 = N.length)).1 ∈ M) := hide (by rw [unhide HMK]; simpa using unhide HCON)
                  have HFIN := hide (still_gone (unhide HST) (unhide HD) (unhide HOK') (by rw [unhide HSO]) (unhide HNM))
                  clear HOK HOK' HD HNM
                  have HLE := hide (List.length_erase_le (a := mk) (l := M))
                  rcases hE with rfl | ⟨rfl, hq⟩
                  all_goals
                    go_wp2_with fail
                    refine (unhide HWO).mono ?_
                    rintro e w4 ⟨v4, rfl, HR4, hb4⟩
                    have HR4' := hide HR4
                    clear HR4
                    go_wp2
                    go_roundw
                    case rel => exact ⟨k + 1, M.erase mk, by omega, by go_num, HR4', by have := unhide HLE; omega, hide ((unhide HMS).erase mk), hide (by have := unhide HFIN; rw [unhide HMK] at this; exact this), hbel3.trans (hb4.mono hbel3.size)⟩
                    case measure => simp [intOf]; omega
    · have HT : Hid ((Sp.flag E N).drop k = []) := hide (List.drop_eq_nil_of_le (by rw [Sp.flag_len]; omega))
      go_wp2
      go_ret2
      exact ⟨(0, 0), rfl, by rw [unhide HS0]; exact unhide HST _ (by rw [unhide HT]; rfl), hb1.trans (hbel.mono hb1.size)⟩

end Go.Proofs.YtekkkoipcghlmaaDoor

namespace Go.Proofs.YtekkkoipcghlmaaDoor
open Go.RowKit

theorem words_index (x : List UInt8) : (Lib.index x [32] = -1 ∧ ∀ cur, Sp.wordsAux cur x = [cur ++ x]) ∨
    ∃ i : Nat, Lib.index x [32] = i ∧ i < x.length ∧ ∀ cur, Sp.wordsAux cur x = (cur ++ x.take i) :: Sp.wordsAux [] (x.drop (i + 1)) := by
  induction x with
  | nil => exact .inl ⟨rfl, fun cur => by simp [Sp.wordsAux]⟩
  | cons b l ih =>
    by_cases hb : b = 32
    · subst hb
      exact .inr ⟨0, by simp [Lib.index], by simp, fun cur => by simp [Sp.wordsAux]⟩
    · have hp : ([32] : List UInt8).isPrefixOf (b :: l) = false := by
        simp [List.isPrefixOf]; exact fun h => hb h.symm
      rcases ih with ⟨h1, h2⟩ | ⟨i, h1, h2, h3⟩
      · refine .inl ⟨by unfold Lib.index; rw [hp, h1]; rfl, fun cur => ?_⟩
        unfold Sp.wordsAux
        rw [if_neg hb, h2]
        simp
      · refine .inr ⟨i + 1, ?_, by simp; omega, fun cur => ?_⟩
        · unfold Lib.index
          rw [hp, h1]
          have : ((i : Int) == -1) = false := by rw [beq_eq_false_iff_ne]; omega
          simp [this]
        · conv => lhs; unfold Sp.wordsAux
          rw [if_neg hb, h3]
          simp

theorem indexB_bs (x y : List UInt8) : Lib.indexB (bs x) (bs y) = Lib.index x y := by
  show Lib.index (bs x).data.toList (bs y).data.toList = _
  simp [bs]

theorem split_bs : ∀ (n : Nat) (x : List UInt8), x.length ≤ n → Lib.splitB (bs [32]) 0 (Lib.countB (bs x) (bs [32])) (bs x) = (Sp.wordsAux [] x).map bs := by
  intro n
  have h1 : 1 ≤ (bs [32]).size := by rw [bs_size]; simp
  have hz : (bs [32]).size = 1 := by rw [bs_size]; simp
  induction n with
  | zero =>
    intro x hx
    have : x = [] := List.length_eq_zero_iff.1 (by omega)
    subst this
    have hi : Lib.indexB (bs []) (bs [32]) = -1 := by rw [indexB_bs]; rfl
    rw [Lib.countB_miss _ _ hi, Lib.splitB_miss _ _ _ _ hi]; rfl
  | succ n ih =>
    intro x hx
    rcases words_index x with ⟨h2, h3⟩ | ⟨i, h2, h3, h4⟩
    · have hi : Lib.indexB (bs x) (bs [32]) = -1 := by rw [indexB_bs]; exact h2
      rw [Lib.splitB_miss _ _ _ _ hi, h3]
      simp
    · have hi : Lib.indexB (bs x) (bs [32]) = i := by rw [indexB_bs]; exact h2
      have hcut : (bs x).extract (i + 1) (bs x).size = bs (x.drop (i + 1)) := by
        rw [bs_extract, bs_size, List.take_of_length_le (by simp)]
      rw [Lib.countB_hit _ _ i h1 hi, hz, hcut, Nat.add_comm 1]
      unfold Lib.splitB
      have : ((i : Int) == -1) = false := by rw [beq_eq_false_iff_ne]; omega
      rw [hi, this]
      simp only [Bool.false_eq_true, if_false, Int.toNat_natCast, Nat.add_zero, hz]
      rw [hcut, ih _ (by simp; omega), h4, bs_extract]
      simp

end Go.Proofs.YtekkkoipcghlmaaDoor

namespace Go.Proofs.YtekkkoipcghlmaaDoor
open Go.RowKit

theorem lies_made {w : World} {vs : List Value} {t : TypeId} {cap : Nat} (h : 0 < vs.length) : Lies (w.alloc (.cells vs.toArray t)) (.slice (some ⟨w.heap.size, 0, none⟩) vs.length cap) vs := by
  refine .inr ⟨w.heap.size, 0, cap, h, rfl, by simp, fun k x hx => ?_⟩
  rw [Nat.zero_add, World.cell?_alloc_at _ _ _ _ rfl]
  simpa using hx

/-- A line's text: its inner part, and the newline if it is ended. -/
def lineOf (x : List UInt8) (e : Bool) : List UInt8 := if e then x ++ [10] else x

theorem line_cut (x : List UInt8) (e : Bool) (h : e = false → x.getLast? ≠ some 10) : Lib.trimSuffix (lineOf x e) [10] = x ∧ Lib.hasSuffix (lineOf x e) [10] = e := by
  have hs : Lib.hasSuffix (lineOf x e) [10] = e := by
    unfold Lib.hasSuffix lineOf
    cases e
    · rw [if_neg (by simp)]
      rw [Bool.eq_false_iff]
      intro hh
      rw [List.isSuffixOf_iff_suffix] at hh
      obtain ⟨t, ht⟩ := hh
      apply h rfl
      rw [← ht]; simp
    · rw [if_pos rfl, List.isSuffixOf_iff_suffix]
      exact ⟨x, rfl⟩
  refine ⟨?_, hs⟩
  unfold Lib.trimSuffix
  rw [hs]
  cases e
  · simp [lineOf]
  · simp [lineOf]

set_option maxRecDepth 100000 in
set_option maxHeartbeats 400000 in
theorem wordsGo_any (x : List UInt8) (en : Bool) (w : World) (hx : x.length ≤ 6000) (h : en = false → x.getLast? ≠ some 10) (he : Env w) :
    Calls Tryd.prog 18 #[.string (bs (lineOf x en))] w fun e w' => ∃ v, e = .returned (.tuple #[v, .bool en]) ∧ Lies w' v (strs (Sp.words x)) ∧ Below w.heap.size w w' := by
  have hll : (lineOf x en).length ≤ 6001 := by unfold lineOf; cases en <;> simp <;> omega
  have HC := hide (Tryd.strings_CutSuffix (bs (lineOf x en)) ⟨#[10]⟩ w (by rw [bs_size]; omega))
  have hd : (bs (lineOf x en)).data.toList = lineOf x en := bs_data _
  have hcut := line_cut x en h
  rw [hd] at HC
  have e1 : (ByteArray.mk #[10]).data.toList = [10] := rfl
  rw [e1, hcut.1, hcut.2] at HC
  clear e1 hcut hd
  have HC : Hid (Calls Tryd.prog 33 #[.string (bs (lineOf x en)), .string ⟨#[10]⟩] w fun e w' => e = .returned (.tuple #[.string (bs x), .bool en]) ∧ w' = w) := HC
  obtain ⟨m, hm⟩ := he.len.2
  generalize bs (lineOf x en) = line at *
  by_cases hne : x = []
  · have hemp : (bs x).toList.isEmpty = true := by rw [bs_toList, hne]; rfl
    have HN := hide hne
    clear hne
    go_enter Tryd.func18, Tryd.ntmps18
    go_wp2_with fail
    refine (unhide HC).mono ?_
    rintro e w1 ⟨rfl, rfl⟩
    go_wp2
    go_ret2
    exact ⟨_, rfl, by rw [unhide HN]; exact Lies.nil _, Below.refl _ _⟩
  · have hemp : (bs x).toList.isEmpty = false := bs_nonempty hne
    have HN := hide hne
    clear hne
    have HS := hide (Tryd.strings_Split (bs x) ⟨#[32]⟩ m w (by rw [bs_size]; omega) hm (by decide))
    go_enter Tryd.func18, Tryd.ntmps18
    go_wp2_with fail
    refine (unhide HC).mono ?_
    rintro e w1 ⟨rfl, rfl⟩
    go_wp2_with fail
    refine (unhide HS).mono ?_
    rintro e w2 ⟨rfl, rfl⟩
    go_wp2
    go_ret2
    have hsp : Lib.splitB ⟨#[32]⟩ 0 (Lib.countB (bs x) ⟨#[32]⟩) (bs x) = (Sp.wordsAux [] x).map bs := split_bs x.length x (Nat.le_refl _)
    have hln := Lib.splitB_all (bs [32]) (by rw [bs_size]; simp) 0 (Lib.countB (bs x) (bs [32])) (bs x) rfl
    have hw : Sp.words x = Sp.wordsAux [] x := by unfold Sp.words; rw [if_neg (unhide HN)]
    refine ⟨_, rfl, ?_, (Below.refl _ _).alloc (Nat.le_refl _) _⟩
    rw [hsp, hw]
    have hc : Lib.countB (bs x) (bs [32]) + 1 = (strs (Sp.wordsAux [] x)).length := by
      have := hln.symm
      rw [split_bs x.length x (Nat.le_refl _)] at this
      simpa [strs] using this
    rw [List.map_map]
    show Lies _ (.slice (some ⟨_, 0, none⟩) (Lib.countB (bs x) (bs [32]) + 1) _) _
    rw [hc]
    exact lies_made (vs := strs (Sp.wordsAux [] x)) (by omega)

end Go.Proofs.YtekkkoipcghlmaaDoor
