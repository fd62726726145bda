import Derived.Test.YtgoigckhblffhaaGreatDoorRJ01
import Derived.Test.YtgoigckhblffhaaGreatDoorRProg
import Derived.Lib.TrailingZeros
import Derived.Lib.Bytealg
namespace Go.Proofs.YtgoigckhblffhaaGreatDoorR
open Go.RowKit

theorem Tryz.infoStr : (Tryz.prog.info? 9).map (fun i => (i.zero, i.size, i.bytes)) = some (some (.string ⟨#[]⟩), 1, 16) := by kernel_rfl

set_option maxRecDepth 100000 in
set_option maxHeartbeats 400000 in
theorem words_any (s : List UInt8) (w : World) (hs : s.length ≤ 10000000) (hne : s ≠ []) :
    Calls Tryz.prog 61 #[.string (bs s)] w fun e w' => ∃ v, e = .returned v ∧ w'.ownsRow w.heap.size 9 1 v (Sp.words s).length (strs (Sp.words s)) ∧ Below w.heap.size w w' := by
  obtain ⟨i0, hi, hz0, hz1, hz2⟩ := info_parts Tryz.infoStr
  have hsz := bs_size s
  have hemp : (bs s).toList.isEmpty = false := bs_nonempty hne
  have HW : Hid (Sp.words s = Sp.wordsAux [] s) := hide (by simp [Sp.words, hne])
  go_enter Tryz.func61, Tryz.ntmps61
  go_wp2_with fail
  go_loopw [3, 4, 5] (fun v c i wr => ∃ (k : Nat) (O : List (List UInt8)) (cur : List UInt8), k ≤ s.length ∧ i = .int .i64 k ∧ c = .string (bs cur) ∧ wr.ownsRow w.heap.size 9 1 v O.length (strs O) ∧ Below w.heap.size w wr ∧ O.length ≤ k ∧ cur.length ≤ k ∧ Hid (O ++ Sp.wordsAux cur (s.drop k) = Sp.wordsAux [] s))
    (fun _ _ i _ => s.length - (intOf i).toNat)
  case atStart => exact ⟨0, [], [], Nat.zero_le _, rfl, rfl, World.ownsRow_nil _ _ _ _, Below.refl _ _, by simp, by simp, rfl⟩
  case round =>
    obtain ⟨k, O, cur, hk, rfl, rfl, hown, hbel, hO, hcur, HI⟩ := hrel
    by_cases hlt : k < s.length
    · have hlt' : k < (bs s).size := by omega
      have HD : Hid (s.drop k = s[k] :: s.drop (k + 1)) := hide (List.drop_eq_getElem_cons hlt)
      have HB : Hid ((bs s)[k] = s[k]) := hide (bs_get hlt)
      by_cases hc : s[k] = 32
      · have ht : (((bs s)[k].toNat : Int) == 32) = true := by rw [unhide HB, hc]; rfl
        have HC := hide hc
        clear hc
        go_wp2_with (at_builtin; refine append_one rfl _ _ 106 9 rfl Tryz.underlying106 Tryz.infoStr rfl (by decide) hown rfl rfl rfl (by omega) (Nat.le_refl _) hbel ?_; intro v' w1 hown' hbel' _)
        go_roundw
        case rel => exact ⟨k + 1, O ++ [cur], [], by omega, by go_num, rfl, by simpa [strs] using hown', hbel', by simp; omega, by simp, hide (by rw [← unhide HI, unhide HD, unhide HC]; simp [Sp.wordsAux])⟩
        case measure => simp [intOf]; omega
      · have ht : (((bs s)[k].toNat : Int) == 32) = false := by rw [unhide HB]; exact byte_ne (by decide) hc
        have HC := hide hc
        clear hc
        have hsl := fun wx => slice_bs (P := Tryz.prog) 9 Tryz.underlying9 s k (k + 1) k (k + 1) rfl rfl (by omega) (by omega) wx
        have e1 : (s.drop k).take (k + 1 - k) = [s[k]] := by rw [unhide HD]; simp
        rw [e1] at hsl
        clear e1
        have hadd := fun wx => add_bs (P := Tryz.prog) cur [s[k]] (by simp; omega) wx
        go_wp2
        go_roundw
        case rel => exact ⟨k + 1, O, cur ++ [s[k]], by omega, by go_num, rfl, hown, hbel, by omega, by simp; omega, hide (by rw [← unhide HI, unhide HD]; simp [Sp.wordsAux, unhide HC])⟩
        case measure => simp [intOf]; omega
    · have HE : Hid (s.drop k = []) := hide (List.drop_eq_nil_of_le (by omega))
      go_wp2_with (at_builtin; refine append_one rfl _ _ 106 9 rfl Tryz.underlying106 Tryz.infoStr rfl (by decide) hown rfl rfl rfl (by omega) (Nat.le_refl _) hbel ?_; intro v' w1 hown' hbel' _)
      go_ret
      have hfin : Sp.words s = O ++ [cur] := by rw [unhide HW, ← unhide HI, unhide HE]; rfl
      exact ⟨_, rfl, by rw [hfin]; simpa [strs] using hown', hbel'⟩

theorem words_nil (w : World) :
    Calls Tryz.prog 61 #[.string (bs [])] w fun e w' => e = .returned (.slice none 0 0) ∧ w' = w := by
  have hemp : (bs []).toList.isEmpty = true := by rw [bs_toList]; rfl
  go_enter Tryz.func61, Tryz.ntmps61
  go_wp2
  go_ret
  exact ⟨rfl, rfl⟩

end Go.Proofs.YtgoigckhblffhaaGreatDoorR

namespace Go.Proofs.YtgoigckhblffhaaGreatDoorR.Sp

/-- The place of a literal's bit. -/
def bitIx (x : Int) : Nat := if 0 < x then 2 * (x.toNat - 1) else 2 * ((-x).toNat - 1) + 1
def litAt (i : Nat) : Int := if i % 2 = 0 then ((i / 2 + 1 : Nat) : Int) else -((i / 2 + 1 : Nat) : Int)
def bit (x : Int) : Nat := 2 ^ bitIx x
def maskOf (l : List Int) : Nat := l.foldl (fun m x => m ||| bit x) 0
def litsOf (m : Nat) : List Int := ((List.range 24).filter (fun i => m.testBit i)).map litAt

theorem maskFrom_testBit (l : List Int) : ∀ (m i : Nat), (l.foldl (fun m x => m ||| bit x) m).testBit i = (m.testBit i || l.any fun x => bitIx x == i) := by
  induction l with
  | nil => simp
  | cons a r ih =>
    intro m i
    rw [List.foldl_cons, ih, Nat.testBit_or, List.any_cons]
    unfold bit
    rw [Nat.testBit_two_pow, Bool.or_assoc]
    congr 1
theorem maskOf_testBit (l : List Int) (i : Nat) : (maskOf l).testBit i = l.any fun x => bitIx x == i := by
  unfold maskOf; rw [maskFrom_testBit]; simp

theorem maskOf_snoc (l : List Int) (x : Int) : maskOf (l ++ [x]) = maskOf l ||| bit x := by
  unfold maskOf; rw [List.foldl_append]; rfl

theorem bitIx_lt (x : Int) (h : -12 ≤ x ∧ x ≤ 12) : bitIx x < 24 := by unfold bitIx; split <;> omega
theorem maskOf_lt (l : List Int) (h : ∀ x, x ∈ l → -12 ≤ x ∧ x ≤ 12) : maskOf l < 2 ^ 24 := by
  apply Nat.lt_pow_two_of_testBit
  intro i hi
  rw [maskOf_testBit, List.any_eq_false]
  intro x hx
  have := bitIx_lt x (h x hx)
  simp; omega

theorem range24 : List.range 24 = (List.range 12).flatMap (fun i => [2 * i, 2 * i + 1]) := by decide

theorem any_plus (l : List Int) (h : ∀ x, x ∈ l → x ≠ 0) (i : Nat) : (l.any fun x => bitIx x == 2 * i) = l.contains ((i : Int) + 1) := by
  rw [Bool.eq_iff_iff, List.any_eq_true, List.contains_iff_mem]
  constructor
  · rintro ⟨x, hx, hb⟩
    have h0 := h x hx
    have hb' : bitIx x = 2 * i := by simpa using hb
    unfold bitIx at hb'
    split at hb'
    · rwa [show (i : Int) + 1 = x from by omega]
    · omega
  · intro hx
    refine ⟨_, hx, ?_⟩
    unfold bitIx
    rw [if_pos (by omega)]
    simp
theorem any_minus (l : List Int) (h : ∀ x, x ∈ l → x ≠ 0) (i : Nat) : (l.any fun x => bitIx x == 2 * i + 1) = l.contains (-((i : Int) + 1)) := by
  rw [Bool.eq_iff_iff, List.any_eq_true, List.contains_iff_mem]
  constructor
  · rintro ⟨x, hx, hb⟩
    have h0 := h x hx
    have hb' : bitIx x = 2 * i + 1 := by simpa using hb
    unfold bitIx at hb'
    split at hb'
    · omega
    · rwa [show -((i : Int) + 1) = x from by omega]
  · intro hx
    refine ⟨_, hx, ?_⟩
    unfold bitIx
    rw [if_neg (by omega)]
    simp

theorem litsOf_maskOf (l : List Int) (h : ∀ x, x ∈ l → x ≠ 0) : litsOf (maskOf l) = sorted l := by
  unfold litsOf sorted sortedTo
  rw [range24, List.filter_flatMap, List.map_flatMap]
  congr 1
  funext i
  have e1 : litAt (2 * i) = (i : Int) + 1 := by unfold litAt; rw [if_pos (by omega)]; omega
  have e2 : litAt (2 * i + 1) = -((i : Int) + 1) := by unfold litAt; rw [if_neg (by omega)]; omega
  have t1 := (maskOf_testBit l (2 * i)).trans (any_plus l h i)
  have t2 := (maskOf_testBit l (2 * i + 1)).trans (any_minus l h i)
  unfold sortedAt
  simp only [List.filter_cons, List.filter_nil, t1, t2]
  split <;> split <;> simp [e1, e2]

theorem filter_head (p q : Nat → Bool) (k : Nat) (hp : p k = true) (hlo : ∀ i, i < k → p i = false) (hq : ∀ i, q i = (p i && i != k)) : ∀ n, k < n → (List.range n).filter p = k :: (List.range n).filter q := by
  have hz : ∀ n, n ≤ k → (List.range n).filter p = [] ∧ (List.range n).filter q = [] := by
    intro n hn
    constructor
    · rw [List.filter_eq_nil_iff]; intro a ha; have := List.mem_range.1 ha; rw [hlo a (by omega)]; simp
    · rw [List.filter_eq_nil_iff]; intro a ha; have := List.mem_range.1 ha; rw [hq, hlo a (by omega)]; simp
  intro n
  induction n with
  | zero => intro h; omega
  | succ n ih =>
    intro h
    rw [List.range_succ, List.filter_append, List.filter_append]
    by_cases hkn : k < n
    · rw [ih hkn]
      have : q n = p n := by rw [hq]; have : (n != k) = true := by simp; omega
                             rw [this, Bool.and_true]
      simp [List.filter_cons, this]
    · have : n = k := by omega
      subst this
      rw [(hz n (Nat.le_refl _)).1, (hz n (Nat.le_refl _)).2]
      simp [hp, hq]

theorem drop_low (m : Nat) (h0 : m ≠ 0) (h : m < 2 ^ 32) :
    m.testBit (Lib.ctz 32 m) = true ∧ (∀ i, i < Lib.ctz 32 m → m.testBit i = false) ∧ ∀ i, (m &&& (m - 1)).testBit i = (m.testBit i && i != Lib.ctz 32 m) := by
  obtain ⟨q, hm, hk⟩ := Lib.ctzFrom_spec 32 m (by omega) h
  have e : Lib.ctz 32 m = Lib.ctzFrom 32 m := by simp [Lib.ctz, h0]
  rw [e]
  generalize Lib.ctzFrom 32 m = k at hm hk ⊢
  have hp : 0 < 2 ^ k := Nat.two_pow_pos k
  have tm : ∀ j, m.testBit j = if j < k then false else (2 * q + 1).testBit (j - k) := by
    intro j
    have := Nat.testBit_two_pow_mul_add (2 * q + 1) (b := 0) hp j
    rw [Nat.add_zero, ← hm] at this
    rw [this]; simp
  have hm1 : m - 1 = 2 ^ k * (2 * q) + (2 ^ k - 1) := by
    rw [hm, Nat.mul_add, Nat.mul_one]; omega
  have tm1 : ∀ j, (m - 1).testBit j = if j < k then (2 ^ k - 1).testBit j else (2 * q).testBit (j - k) := by
    intro j
    rw [hm1]
    exact Nat.testBit_two_pow_mul_add (2 * q) (b := 2 ^ k - 1) (by omega) j
  have od : ∀ i, (2 * q + 1).testBit i = if i = 0 then true else q.testBit (i - 1) := by
    intro i
    cases i with
    | zero => simp [Nat.testBit_zero]
    | succ i => rw [Nat.testBit_succ, show (2 * q + 1) / 2 = q from by omega]; simp
  have ev : ∀ i, (2 * q).testBit i = if i = 0 then false else q.testBit (i - 1) := by
    intro i
    cases i with
    | zero => simp [Nat.testBit_zero]
    | succ i => rw [Nat.testBit_succ, show (2 * q) / 2 = q from by omega]; simp
  refine ⟨?_, ?_, ?_⟩
  · rw [tm, if_neg (by omega), od, if_pos (by omega)]
  · intro i hi; rw [tm, if_pos hi]
  · intro i
    rw [Nat.testBit_and, tm, tm1]
    by_cases h1 : i < k
    · simp [h1]
    · rw [if_neg h1, if_neg h1, od, ev]
      by_cases h2 : i = k
      · subst h2; simp
      · have : (i != k) = true := by simpa using h2
        rw [this, if_neg (by omega), if_neg (by omega)]
        simp

theorem litsOf_step (m : Nat) (h0 : m ≠ 0) (h : m < 2 ^ 24) : litsOf m = litAt (Lib.ctz 32 m) :: litsOf (m &&& (m - 1)) ∧ Lib.ctz 32 m < 24 := by
  obtain ⟨a, b, c⟩ := drop_low m h0 (Nat.lt_trans h (by decide))
  have hk : Lib.ctz 32 m < 24 := by
    rcases Nat.lt_or_ge (Lib.ctz 32 m) 24 with h' | h'
    · exact h'
    · exfalso
      have : m.testBit (Lib.ctz 32 m) = false := Nat.testBit_lt_two_pow (Nat.lt_of_lt_of_le h (Nat.pow_le_pow_right (by decide) h'))
      rw [a] at this; cases this
  refine ⟨?_, hk⟩
  unfold litsOf
  rw [filter_head (fun i => m.testBit i) (fun i => (m &&& (m - 1)).testBit i) (Lib.ctz 32 m) a b c 24 hk]
  rfl

theorem litsOf_zero : litsOf 0 = [] := by decide

end Go.Proofs.YtgoigckhblffhaaGreatDoorR.Sp

namespace Go.Proofs.YtgoigckhblffhaaGreatDoorR.Sp

/-- The lines of a text, each with whether it is ended. -/
def segsAux (cur : List UInt8) : List UInt8 → List (List UInt8 × Bool)
  | [] => if cur = [] then [] else [(cur, false)]
  | c :: r => if c = 10 then (cur, true) :: segsAux [] r else segsAux (cur ++ [c]) r
def segs (s : List UInt8) : List (List UInt8 × Bool) := segsAux [] s

def scanSegs : Nat → List (List UInt8 × Bool) → Option Nat
  | _, [] => none
  | n, x :: r => if !okLine x.1 || !x.2 then some (n + 1) else scanSegs (n + 1) r

theorem segsAux_lines (r : List UInt8) : ∀ cur, (segsAux cur r).map Prod.fst = linesAux cur r := by
  induction r with
  | nil => intro cur; unfold segsAux linesAux; split <;> rfl
  | cons c r ih =>
    intro cur
    unfold segsAux linesAux
    split
    · rw [List.map_cons, ih]
    · exact ih _

theorem lines_nil (r : List UInt8) : ∀ cur, linesAux cur r = [] → endAux cur r = true := by
  induction r with
  | nil => intro cur h; unfold linesAux at h; split at h
           · rename_i hc; subst hc; rfl
           · cases h
  | cons c r ih =>
    intro cur h
    unfold linesAux at h
    unfold endAux
    split at h
    · cases h
    · rename_i hc; rw [if_neg hc]; exact ih _ h

theorem scan_segs (r : List UInt8) : ∀ (cur : List UInt8) (n : Nat), scanSegs n (segsAux cur r) = scan (endAux cur r) n (linesAux cur r) := by
  induction r with
  | nil =>
    intro cur n
    unfold segsAux linesAux endAux
    by_cases hc : cur = []
    · simp [hc, scanSegs, scan]
    · have : cur.isEmpty = false := by simpa using hc
      simp [hc, scanSegs, scan, this]
  | cons c r ih =>
    intro cur n
    unfold segsAux linesAux endAux
    by_cases hc : c = 10
    · rw [if_pos hc, if_pos hc, if_pos hc]
      unfold scanSegs scan
      rw [ih]
      have : (!endAux [] r && (linesAux [] r).isEmpty) = false := by
        cases he : (linesAux [] r).isEmpty
        · simp
        · rw [lines_nil r [] (by simpa using he)]; rfl
      rw [this]
      simp
    · rw [if_neg hc, if_neg hc, if_neg hc]; exact ih _ n

theorem segsAux_no (r : List UInt8) : ∀ cur, (10 : UInt8) ∉ cur → ∀ x, x ∈ segsAux cur r → (10 : UInt8) ∉ x.1 := by
  induction r with
  | nil =>
    intro cur h x hx
    unfold segsAux at hx
    split at hx
    · cases hx
    · simp at hx; subst hx; exact h
  | cons c r ih =>
    intro cur h x hx
    unfold segsAux at hx
    split at hx
    · rcases List.mem_cons.1 hx with rfl | hx
      · exact h
      · exact ih [] (by simp) x hx
    · rename_i hc
      exact ih _ (by simp [h]; exact fun h' => hc h'.symm) x hx

theorem segsAux_len (r : List UInt8) : ∀ cur x, x ∈ segsAux cur r → x.1.length ≤ cur.length + r.length := by
  induction r with
  | nil =>
    intro cur x hx
    unfold segsAux at hx
    split at hx
    · cases hx
    · simp at hx; subst hx; simp
  | cons c r ih =>
    intro cur x hx
    unfold segsAux at hx
    split at hx
    · rcases List.mem_cons.1 hx with rfl | hx
      · simp
      · have := ih [] x hx; simp at this ⊢; omega
    · have := ih _ x hx; simp at this ⊢; omega
theorem segsAux_count (r : List UInt8) : ∀ cur, (segsAux cur r).length ≤ r.length + 1 := by
  induction r with
  | nil => intro cur; unfold segsAux; split <;> simp
  | cons c r ih =>
    intro cur
    unfold segsAux
    split
    · have := ih []; simp; omega
    · have := ih (cur ++ [c]); simp; omega

/-- How the next line is found. -/
theorem segs_index (x : List UInt8) : (Lib.indexByte x 10 = -1 ∧ ∀ cur, cur ++ x ≠ [] → segsAux cur x = [(cur ++ x, false)]) ∨
    ∃ i : Nat, Lib.indexByte x 10 = i ∧ i < x.length ∧ x.take (i + 1) = x.take i ++ [10] ∧ ∀ cur, segsAux cur x = (cur ++ x.take i, true) :: segsAux [] (x.drop (i + 1)) := by
  induction x with
  | nil => exact .inl ⟨rfl, fun cur h => by simp at h; simp [segsAux, h]⟩
  | cons b l ih =>
    by_cases hb : b = 10
    · subst hb
      exact .inr ⟨0, by simp [Lib.indexByte], by simp, by simp, fun cur => by simp [segsAux]⟩
    · have hp : (b == 10) = false := by simpa using hb
      rcases ih with ⟨h1, h2⟩ | ⟨i, h1, h2, h4, h3⟩
      · refine .inl ⟨by unfold Lib.indexByte; rw [hp, h1]; rfl, fun cur _ => ?_⟩
        unfold segsAux
        rw [if_neg hb, h2 _ (by simp)]
        simp
      · refine .inr ⟨i + 1, ?_, by simp; omega, by simp [h4], fun cur => ?_⟩
        · unfold Lib.indexByte
          rw [hp, h1]
          have : ((i : Int) == -1) = false := by rw [beq_eq_false_iff_ne]; omega
          simp [this]
        · conv => lhs; unfold segsAux
          rw [if_neg hb, h3]
          simp

end Go.Proofs.YtgoigckhblffhaaGreatDoorR.Sp
