import Derived.Test.YtekkkoipcghlmabDoorJ13
import Derived.Test.YtekkkoipcghlmabDoorJ12
namespace Go.Proofs.YtekkkoipcghlmabDoor
open Go.RowKit

theorem byte_zero (a : Nat) (h : a < 256) : Lib.onesCount a = 0 → a = 0 := by
  have : ∀ k : Fin 256, Lib.onesCount k.val = 0 → k.val = 0 := by decide +kernel
  exact this ⟨a, h⟩
theorem byte_one (a : Nat) (h : a < 256) : Lib.onesCount a = 1 → ∃ j : Fin 8, a = 2 ^ j.val := by
  have : ∀ k : Fin 256, Lib.onesCount k.val = 1 → ∃ j : Fin 8, k.val = 2 ^ j.val := by decide +kernel
  exact this ⟨a, h⟩
theorem ones_one {m : Nat} (hm : m < 2 ^ 24) : onesOf m = 1 ↔ ∃ k, k < 24 ∧ m = 2 ^ k := by
  constructor
  · intro h
    unfold onesOf at h
    have l16 : m / 65536 % 256 < 256 := by omega
    have l8 : m / 256 % 256 < 256 := by omega
    have l0 : m % 256 < 256 := by omega
    have hd : m = m / 65536 % 256 * 65536 + m / 256 % 256 * 256 + m % 256 := by omega
    generalize m / 65536 % 256 = a at *
    generalize m / 256 % 256 = b at *
    generalize m % 256 = c at *
    have hz := byte_zero a l16; have hz2 := byte_zero b l8; have hz3 := byte_zero c l0
    rcases Nat.eq_zero_or_pos (Lib.onesCount a) with ha | ha
    · rcases Nat.eq_zero_or_pos (Lib.onesCount b) with hb | hb
      · obtain ⟨j, hj⟩ := byte_one c l0 (by omega)
        refine ⟨j.val, by omega, ?_⟩
        rw [hd, hz ha, hz2 hb, hj]; simp
      · obtain ⟨j, hj⟩ := byte_one b l8 (by omega)
        refine ⟨j.val + 8, by omega, ?_⟩
        rw [hd, hz ha, hz3 (by omega), hj, Nat.pow_add]; simp
    · obtain ⟨j, hj⟩ := byte_one a l16 (by omega)
      refine ⟨j.val + 16, by omega, ?_⟩
      rw [hd, hz2 (by omega), hz3 (by omega), hj, Nat.pow_add]; simp
  · rintro ⟨k, hk, rfl⟩
    have : ∀ k : Fin 24, onesOf (2 ^ k.val) = 1 := by decide +kernel
    exact this ⟨k, hk⟩

def oneBit (m : Nat) : Bool := onesOf m == 1
def alwaysMask (m : Nat) : Bool := m &&& oppMask m != 0

theorem ret_bool {a b : Bool} (h : a = b) : Ending.returned (.bool a) = .returned (.bool b) := by rw [h]

set_option maxRecDepth 100000 in
theorem size_any (m : Nat) (w : World) (hm : m < 2 ^ 24) :
    Calls Tryd.prog 56 #[.int .u32 m] w fun e w' => e = .returned (.int .i64 (onesOf m)) ∧ ∃ q, w' = w.drewN q := by
  have hmod : (m : Int) % 4294967296 = m := by omega
  have HO := hide (fun wx => ones_any m wx hm)
  generalize onesOf m = on at *
  go_enter Tryd.func56, Tryd.ntmps56
  go_wp2_with fail
  refine (unhide HO _).mono ?_
  rintro e w1 ⟨rfl, q, rfl⟩
  go_wp2
  go_ret
  exact ⟨rfl, q, rfl⟩

set_option maxRecDepth 100000 in
theorem single_any (m : Nat) (w : World) (hm : m < 2 ^ 24) :
    Calls Tryd.prog 44 #[.int .u32 m] w fun e w' => e = .returned (.bool (oneBit m)) ∧ ∃ q, w' = w.drewN q := by
  have HO := hide (fun wx => size_any m wx hm)
  have HB : Hid (((onesOf m : Int) == 1) = oneBit m) := hide (by
    unfold oneBit
    by_cases h : onesOf m = 1
    · rw [h]; rfl
    · have h1 : ((onesOf m : Int) == 1) = false := by rw [beq_eq_false_iff_ne]; omega
      have h2 : (onesOf m == 1) = false := by rw [beq_eq_false_iff_ne]; exact h
      rw [h1, h2])
  generalize oneBit m = ob at *
  generalize onesOf m = on at *
  go_enter Tryd.func44, Tryd.ntmps44
  go_wp2_with fail
  refine (unhide HO _).mono ?_
  rintro e w1 ⟨rfl, q, rfl⟩
  go_wp2
  go_ret
  exact ⟨ret_bool (unhide HB), q, rfl⟩

set_option maxRecDepth 100000 in
theorem alwaysTrue_any (m : Nat) (w : World) (hm : m < 2 ^ 24) :
    Calls Tryd.prog 32 #[.int .u32 m] w fun e w' => e = .returned (.bool (alwaysMask m)) ∧ ∃ q, w' = w.drewN q := by
  have hol := oppMask_lt hm
  have HO := hide (fun wx => opposites_any m wx hm)
  have e1 := bits_and_u32_nat m (oppMask m) (by omega) (by omega)
  have HB : Hid ((!((m &&& oppMask m : Nat) : Int) == 0) = alwaysMask m) := hide (by
    unfold alwaysMask
    by_cases h : m &&& oppMask m = 0
    · rw [h]; rfl
    · have h1 : (((m &&& oppMask m : Nat) : Int) == 0) = false := by rw [beq_eq_false_iff_ne]; omega
      have h2 : (m &&& oppMask m != 0) = true := by simpa using h
      rw [h1, h2]; rfl)
  generalize m &&& oppMask m = a at *
  generalize alwaysMask m = ob at *
  generalize oppMask m = on at *
  go_enter Tryd.func32, Tryd.ntmps32
  go_wp2_with fail
  refine (unhide HO _).mono ?_
  rintro e w1 ⟨rfl, rfl⟩
  go_wp2
  go_ret
  exact ⟨ret_bool (unhide HB), 0, rfl⟩

theorem alwaysMask_iff {m : Nat} (hm : m < 2 ^ 24) : alwaysMask m = true ↔ ∃ i, m.testBit i = true ∧ m.testBit (Sp.opp i) = true := by
  have h24 : ∀ i, m.testBit i = true → i < 24 := fun i hi => by
    rcases Nat.lt_or_ge i 24 with h | h
    · exact h
    · rw [Nat.testBit_lt_two_pow (Nat.lt_of_lt_of_le hm (Nat.pow_le_pow_right (by decide) h))] at hi; cases hi
  unfold alwaysMask
  constructor
  · intro h
    have hne : m &&& oppMask m ≠ 0 := by simpa using h
    obtain ⟨i, hi⟩ := Nat.exists_testBit_of_ne_zero hne
    rw [Nat.testBit_and, Bool.and_eq_true] at hi
    refine ⟨i, hi.1, ?_⟩
    rw [← oppMask_bit hm i (h24 i hi.1)]
    exact hi.2
  · rintro ⟨i, h1, h2⟩
    have hne : m &&& oppMask m ≠ 0 := by
      intro h0
      have : (m &&& oppMask m).testBit i = true := by rw [Nat.testBit_and, h1, oppMask_bit hm i (h24 i h1), h2]; rfl
      rw [h0] at this
      simp at this
    simpa using hne

/-- What is left of a clause. -/
def leftMask (c u : Nat) : Nat := c ^^^ (c &&& u)
theorem leftMask_bit (c u i : Nat) : (leftMask c u).testBit i = (c.testBit i && !u.testBit i) := by
  unfold leftMask
  rw [Nat.testBit_xor, Nat.testBit_and]
  cases c.testBit i <;> cases u.testBit i <;> rfl
theorem leftMask_lt {c : Nat} (u : Nat) (hc : c < 2 ^ 24) : leftMask c u < 2 ^ 24 := by
  unfold leftMask
  refine Nat.xor_lt_two_pow hc (Nat.lt_of_le_of_lt Nat.and_le_left hc)
theorem bits_left (c u : Nat) (hc : c < 4294967296) (hu : u < 4294967296) : bits .andNot .u32 (c : Int) (u : Int) = (leftMask c u : Nat) := by
  have h1 : (BitVec.ofInt 32 (c : Int)).toNat = c := by
    rw [BitVec.ofInt_natCast, BitVec.toNat_ofNat]; exact Nat.mod_eq_of_lt (by omega)
  have h2 : (BitVec.ofInt 32 (u : Int)).toNat = u := by
    rw [BitVec.ofInt_natCast, BitVec.toNat_ofNat]; exact Nat.mod_eq_of_lt (by omega)
  show IntKind.u32.wrap ((BitVec.ofInt 32 (c : Int) &&& ~~~ BitVec.ofInt 32 (u : Int)).toNat : Int) = _
  have h3 : (BitVec.ofInt 32 (c : Int) &&& ~~~ BitVec.ofInt 32 (u : Int)).toNat = leftMask c u := by
    apply Nat.eq_of_testBit_eq
    intro i
    rw [leftMask_bit, ← BitVec.getLsbD, BitVec.getLsbD_and, BitVec.getLsbD_not]
    unfold BitVec.getLsbD
    rw [h1, h2]
    by_cases hi : i < 32
    · simp [hi]
    · have : c.testBit i = false := Nat.testBit_lt_two_pow (Nat.lt_of_lt_of_le hc (by rw [show (4294967296 : Nat) = 2 ^ 32 from rfl]; exact Nat.pow_le_pow_right (by decide) (by omega)))
      rw [this]; simp
  rw [h3, wrap_u32']
  have : leftMask c u < 4294967296 := by
    unfold leftMask
    exact Nat.xor_lt_two_pow (n := 32) hc (Nat.lt_of_le_of_lt Nat.and_le_left hc)
  omega

end Go.Proofs.YtekkkoipcghlmabDoor

namespace Go.Proofs.YtekkkoipcghlmabDoor.Sp

/-- What the program has taken to be false, as a mask. -/
structure Untrue (L : List Nat) (m u : Nat) : Prop where
  lt : u < 2 ^ 24
  has : ∀ i, m.testBit i = true → u.testBit i = true
  least : ∀ U : Nat → Prop, (∀ i, m.testBit i = true → U i) → Stable L U → ∀ i, u.testBit i = true → U i

/-- Of this clause nothing more comes. -/
def Quiet (u c : Nat) : Prop := leftMask c u ≠ 0 ∧ (oneBit (leftMask c u) = true → u ||| oppMask (leftMask c u) = u)

theorem Untrue.start {L : List Nat} {m : Nat} (hm : m < 2 ^ 24) : Untrue L m m := ⟨hm, fun _ h => h, fun _ h _ => h⟩

section
variable {L : List Nat} {m u c : Nat}

theorem one_left (hc : c < 2 ^ 24) (h1 : oneBit (leftMask c u) = true) : ∃ k, k < 24 ∧ leftMask c u = 2 ^ k ∧ oppMask (leftMask c u) = 2 ^ opp k := by
  have : onesOf (leftMask c u) = 1 := by unfold oneBit at h1; simpa using h1
  obtain ⟨k, hk, he⟩ := (ones_one (leftMask_lt u hc)).1 this
  exact ⟨k, hk, he, by rw [he]; exact opp_single hk⟩

theorem left_bits {k : Nat} (he : leftMask c u = 2 ^ k) : c.testBit k = true ∧ u.testBit k = false ∧ ∀ j, c.testBit j = true → j ≠ k → u.testBit j = true := by
  have hb := fun i => leftMask_bit c u i
  rw [he] at hb
  have hk := hb k
  rw [Nat.testBit_two_pow_self] at hk
  have hk' := hk.symm
  rw [Bool.and_eq_true] at hk'
  refine ⟨hk'.1, by simpa using hk'.2, fun j hj hne => ?_⟩
  have := hb j
  rw [Nat.testBit_two_pow_of_ne (fun e => hne e.symm), hj] at this
  simpa using this

theorem Untrue.more (h : Untrue L m u) (hcL : c ∈ L) (hc : c < 2 ^ 24) (h1 : oneBit (leftMask c u) = true) : Untrue L m (u ||| oppMask (leftMask c u)) := by
  obtain ⟨k, hk, he, ho⟩ := one_left hc h1
  obtain ⟨hck, huk, hoth⟩ := left_bits he
  refine ⟨Nat.or_lt_two_pow h.lt (oppMask_lt (leftMask_lt u hc)), fun i hi => ?_, fun U hU hs i hi => ?_⟩
  · rw [Nat.testBit_or, h.has i hi]; rfl
  · rw [Nat.testBit_or, Bool.or_eq_true] at hi
    rcases hi with hi | hi
    · exact h.least U hU hs i hi
    · rw [ho] at hi
      have hik : i = opp k := by
        by_cases e : opp k = i
        · exact e.symm
        · rw [Nat.testBit_two_pow_of_ne e] at hi; cases hi
      subst hik
      obtain ⟨⟨j, hj, hjn⟩, hun⟩ := hs c hcL
      have hoth' : ∀ j, c.testBit j = true → j ≠ k → U j := fun j hj hne => h.least U hU hs j (hoth j hj hne)
      have hjk : j = k := by
        by_cases e : j = k
        · exact e
        · exact absurd (hoth' j hj e) hjn
      subst hjk
      exact hun j hj hjn hoth'

theorem Untrue.conflict (h : Untrue L m u) (hcL : c ∈ L) (h0 : leftMask c u = 0) : Fol L m := by
  refine .inr fun U hU hs => ?_
  obtain ⟨⟨j, hj, hjn⟩, _⟩ := hs c hcL
  have := leftMask_bit c u j
  rw [h0, hj] at this
  simp at this
  exact hjn (h.least U hU hs j this)

theorem Untrue.fixed (h : Untrue L m u) (hm : m < 2 ^ 24) (hL : ∀ c, c ∈ L → c < 2 ^ 24) (hno : alwaysMask m = false) (hq : ∀ c, c ∈ L → Quiet u c) : ¬ Fol L m := by
  rintro (hx | hx)
  · rw [(alwaysMask_iff hm).2 hx] at hno; cases hno
  · refine hx (fun i => u.testBit i = true) h.has fun c hc => ?_
    obtain ⟨h0, h1⟩ := hq c hc
    obtain ⟨i, hi⟩ := Nat.exists_testBit_of_ne_zero h0
    rw [leftMask_bit, Bool.and_eq_true] at hi
    refine ⟨⟨i, hi.1, by simpa using hi.2⟩, fun k hk hkn hoth => ?_⟩
    have hk24 : k < 24 := by
      rcases Nat.lt_or_ge k 24 with h | h
      · exact h
      · rw [Nat.testBit_lt_two_pow (Nat.lt_of_lt_of_le (hL c hc) (Nat.pow_le_pow_right (by decide) h))] at hk; cases hk
    have hkf : u.testBit k = false := by simpa using hkn
    have he : leftMask c u = 2 ^ k := by
      apply Nat.eq_of_testBit_eq
      intro j
      rw [leftMask_bit]
      by_cases e : j = k
      · subst e; rw [hk, hkf, Nat.testBit_two_pow_self]; rfl
      · rw [Nat.testBit_two_pow_of_ne (fun e' => e e'.symm)]
        by_cases hcj : c.testBit j = true
        · rw [hoth j hcj e]; simp
        · rw [show c.testBit j = false from by simpa using hcj]; rfl
    have hone : oneBit (leftMask c u) = true := by
      unfold oneBit; rw [he, (ones_one (Nat.pow_lt_pow_right (by decide) hk24)).2 ⟨k, hk24, rfl⟩]; rfl
    have := h1 hone
    rw [he, opp_single hk24] at this
    show u.testBit (opp k) = true
    rw [← this, Nat.testBit_or, Nat.testBit_two_pow_self]; simp

theorem or_grows {a b c : Nat} (h : a ||| b = b) : a ||| (b ||| c) = b ||| c := by rw [← Nat.or_assoc, h]
theorem or_le {a b : Nat} (h : a ||| b = b) : a ≤ b := by rw [← h]; exact Nat.left_le_or
theorem or_back {a b c : Nat} (h : a ||| b = b) (he : b ||| c = a) : b = a := by
  have h1 : b ≤ a := by rw [← he]; exact Nat.left_le_or
  have h2 := or_le h
  omega
end

end Go.Proofs.YtekkkoipcghlmabDoor.Sp

namespace Go.Proofs.YtekkkoipcghlmabDoor
open Go.RowKit

/-- The entries of the program's list, in memory: each a clause and how often it is there. -/
def EntsLie (w : World) (v : Value) (E : List (Nat × Nat)) : Prop :=
  (E = [] ∧ ∃ ao cap, v = .slice ao 0 cap) ∨
  (∃ b cap, 0 < E.length ∧ v = .slice (some ⟨b, 0, none⟩) E.length cap ∧ b < w.heap.size ∧ ∀ k x, E[k]? = some x → w.cell? ⟨b, k * 2, none⟩ = some (.int .u32 (x.1 : Int)) ∧ w.cell? ⟨b, k * 2 + 1, none⟩ = some (.int .i64 (x.2 : Int)))

theorem ents_shape {w : World} {v : Value} {E : List (Nat × Nat)} (h : EntsLie w v E) : ∃ ao cap, v = .slice ao E.length cap := by
  rcases h with ⟨h0, ao, cap, rfl⟩ | ⟨b, cap, hp, rfl, hb, hc⟩
  · subst h0; exact ⟨_, _, rfl⟩
  · exact ⟨_, _, rfl⟩

def Live (E : List (Nat × Nat)) (L : List Nat) : Prop := ∀ c, c ∈ L ↔ ∃ t, (c, t) ∈ E ∧ 0 < t
def PassOut (L : List Nat) (m u u' : Nat) (cf : Bool) : Prop := Sp.Untrue L m u' ∧ (cf = true → Sp.Fol L m) ∧ (cf = false → u ||| u' = u' ∧ (u' = u → ∀ c, c ∈ L → Sp.Quiet u c))
def PassRes (L : List Nat) (m u : Nat) (w : World) (e : Ending) (w' : World) : Prop := ∃ (u' : Nat) (cf : Bool), e = .returned (.tuple #[.int .u32 (u' : Int), .bool cf]) ∧ PassOut L m u u' cf ∧ Below w.heap.size w w'

set_option maxRecDepth 100000 in
set_option maxHeartbeats 1600000 in
theorem pass_any (p : Nat) (ev : Value) (E : List (Nat × Nat)) (L : List Nat) (m u : Nat) (w : World) (hcell : w.cell? ⟨p, 0, none⟩ = some ev) (hE : EntsLie w ev E) (hl : E.length ≤ 10000000) (hlive : Live E L)
    (hsm : ∀ x, x ∈ E → x.2 ≤ 10000000 ∧ (0 < x.2 → x.1 < 2 ^ 24)) (hu : Sp.Untrue L m u) :
    Calls Tryd.prog 33 #[.pointer (some ⟨p, 0, none⟩), .int .u32 u] w fun e w' => PassRes L m u w e w' := by
  obtain ⟨ao, cap, rfl⟩ := ents_shape hE
  have HE := hide hE
  have HU := hide hu
  have HLV := hide hlive
  have HSM := hide hsm
  have hult := hu.lt
  clear hE hu hlive hsm
  go_enter Tryd.func33, Tryd.ntmps33
  go_wp2
  go_loopw [1, 14] (fun uu i wr => ∃ (k u' : Nat), k ≤ E.length ∧ i = .int .i64 k ∧ uu = .int .u32 u' ∧ u' < 2 ^ 24 ∧ Hid (Sp.Untrue L m u') ∧ Hid (u ||| u' = u') ∧ Hid (u' = u → ∀ x, x ∈ E.take k → 0 < x.2 → Sp.Quiet u x.1) ∧ Below w.heap.size w wr) (fun _ i _ => E.length - (intOf i).toNat)
  case atStart => exact ⟨0, u, Nat.zero_le _, rfl, rfl, hult, HU, hide (Nat.or_self u), hide (fun _ x hx => by simp at hx), Below.refl _ _⟩
  case round =>
    clear hult HU
    obtain ⟨k, u', hk, rfl, rfl, hult, HU, HG, HQ, hbel⟩ := hrel
    by_cases hlt : k < E.length
    · rcases unhide HE with ⟨h0, _⟩ | ⟨b, cap', hp, hsl, hb, hc⟩
      · exfalso; rw [h0] at hlt; simp at hlt
      · simp only [Value.slice.injEq] at hsl
        obtain ⟨rfl, -, rfl⟩ := hsl
        obtain ⟨hc0, hc1⟩ := hc k E[k] (List.getElem?_eq_getElem hlt)
        have hc0 := (hbel.cell (p := ⟨b, k * 2, none⟩) hb).trans hc0
        have hc1 := (hbel.cell (p := ⟨b, k * 2 + 1, none⟩) hb).trans hc1
        have hx := unhide HSM E[k] (List.getElem_mem hlt)
        have HXM : Hid (E[k] ∈ E) := hide (List.getElem_mem hlt)
        have HS : Hid (E.take (k + 1) = E.take k ++ [E[k]]) := hide (List.take_succ_eq_append_getElem hlt)
        generalize E[k] = x at *
        obtain ⟨c, t⟩ := x
        simp only at hc0 hc1 hx
        obtain ⟨ht, hc24'⟩ := hx
        have HC24 := hide hc24'
        clear hc24'
        clear hc
        rcases Nat.eq_zero_or_pos t with ht0 | ht0
        · subst ht0
          have hbel1 := fun o => hbel.alloc hbel.size o
          go_wp2
          go_roundw
          case rel => exact ⟨k + 1, u', by omega, by go_num, rfl, hult, HU, HG, hide (fun he x hx => by
            rw [unhide HS] at hx
            rcases List.mem_append.1 hx with hx | hx
            · exact unhide HQ he x hx
            · simp at hx; subst hx; intro h; simp at h), hbel1 _⟩
          case measure => simp [intOf]; omega
        · have hq : ((t : Int) == 0) = false := by rw [beq_eq_false_iff_ne]; omega
          have hc24 := unhide HC24 ht0
          have HCL : Hid (c ∈ L) := hide ((unhide HLV c).2 ⟨t, unhide HXM, ht0⟩)
          have hll := leftMask_lt u' hc24
          have el := bits_left c u' (by omega) (by omega)
          have HLZ : Hid (leftMask c u' = 0 → Sp.Fol L m) := hide (fun h => (unhide HU).conflict (unhide HCL) h)
          have HMO : Hid (oneBit (leftMask c u') = true → Sp.Untrue L m (u' ||| oppMask (leftMask c u'))) := hide (fun h => (unhide HU).more (unhide HCL) hc24 h)
          have hol := oppMask_lt hll
          have eo := bits_or_u32 u' (oppMask (leftMask c u')) (by omega) (by omega)
          have HSI := hide (fun wx => single_any (leftMask c u') wx hll)
          have HOP := hide (fun wx => opposites_any (leftMask c u') wx hll)
          have HQN : Hid (leftMask c u' ≠ 0 → (oneBit (leftMask c u') = true → u' ||| oppMask (leftMask c u') = u') → Sp.Quiet u' c) := hide (fun h1 h2 => ⟨h1, h2⟩)
          generalize leftMask c u' = lm at *
          generalize oppMask lm = om at *
          generalize hob : oneBit lm = ob at *
          clear hob
          have hbel1 := fun o => hbel.alloc hbel.size o
          rcases Nat.eq_zero_or_pos lm with hl0 | hl0
          · subst hl0
            have HF := hide (unhide HLZ rfl)
            clear HLZ HMO eo
            go_wp2
            go_ret2
            exact ⟨u', true, rfl, ⟨unhide HU, fun _ => unhide HF, fun h => (by cases h)⟩, hbel1 _⟩
          · have hlq : ((lm : Int) == 0) = false := by rw [beq_eq_false_iff_ne]; omega
            have HL0 : Hid (lm ≠ 0) := hide (by omega)
            cases ob
            · go_wp2_with fail
              refine (unhide HSI _).mono ?_
              rintro e w1 ⟨rfl, q, rfl⟩
              go_wp2
              go_roundw
              case rel => exact ⟨k + 1, u', by omega, by go_num, rfl, hult, HU, HG, hide (fun he x hx => by
                rw [unhide HS] at hx
                rcases List.mem_append.1 hx with hx | hx
                · exact unhide HQ he x hx
                · simp at hx; subst hx; intro _; rw [← he]; exact unhide HQN (unhide HL0) (fun h => (by cases h))), below_drewN (hbel1 _) _⟩
              case measure => simp [intOf]; omega
            · have HUN := hide (unhide HMO rfl)
              go_wp2_with fail
              refine (unhide HSI _).mono ?_
              rintro e w1 ⟨rfl, q, rfl⟩
              go_wp2_with fail
              refine (unhide HOP _).mono ?_
              rintro e w2 ⟨rfl, rfl⟩
              go_wp2
              go_roundw
              case rel => exact ⟨k + 1, u' ||| om, by omega, by go_num, rfl, (unhide HUN).lt, HUN, hide (Sp.or_grows (unhide HG)), hide (fun he x hx => by
                have hback := Sp.or_back (unhide HG) he
                rw [unhide HS] at hx
                rcases List.mem_append.1 hx with hx | hx
                · exact unhide HQ hback x hx
                · simp at hx; subst hx; intro _; rw [← hback]; exact unhide HQN (unhide HL0) (fun _ => by rw [he, hback])), below_drewN (hbel1 _) _⟩
              case measure => simp [intOf]; omega
    · have HT : Hid (E.take k = E) := hide (List.take_of_length_le (by omega))
      go_wp2
      go_ret2
      refine ⟨u', false, rfl, ⟨unhide HU, fun h => (by cases h), fun _ => ⟨unhide HG, fun he c hc => ?_⟩⟩, hbel⟩
      obtain ⟨t, ht, ht0⟩ := (unhide HLV c).1 hc
      exact unhide HQ he (c, t) (by rw [unhide HT]; exact ht) ht0

end Go.Proofs.YtekkkoipcghlmabDoor
