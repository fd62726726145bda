import Derived.Test.YtekkkoipcghlmaaDoorQC04
import Derived.Test.YtekkkoipcghlmaaDoorQC01
import Derived.Lib.Bytealg
set_option linter.all false
namespace Go.Proofs.YtekkkoipcghlmaaDoor
open Go.RowKit

/-- What Follows has taken at first. -/
def negs (xs : List Int) : List Int := xs.map fun x => -x
def lenOf : Value → Nat | .slice _ n _ => n | _ => 0
def flagOf : Value → Nat | .bool true => 1 | _ => 0
def FolRes (L : List Nat) (m : Nat) (w : World) (e : Ending) (w' : World) : Prop := ∃ r : Bool, e = .returned (.bool r) ∧ (r = true ↔ Sp.Fol L m) ∧ Below w.heap.size w w'
def Settled (T : List Int) (L : List Nat) : Prop := ∀ c, c ∈ L → Sp.doneOf T (Sp.litsOf c) = true ∨ 2 ≤ (Sp.openOf T (Sp.litsOf c)).length
def nOpen (T c : List Int) : Nat := (Sp.openOf T c).length
def lOf (T c : List Int) : Int := Sp.leftOf T c
def dOf (T c : List Int) : Bool := Sp.doneOf T c

theorem always_negs {m : Nat} (hm : m < 2 ^ 24) : alwaysOf (negs (Sp.litsOf m)) = true ↔ ∃ i, m.testBit i = true ∧ m.testBit (Sp.opp i) = true := by
  unfold alwaysOf negs
  rw [List.any_eq_true]
  constructor
  · rintro ⟨x, hx, hc⟩
    obtain ⟨y, hy, rfl⟩ := List.mem_map.1 hx
    have hc' : - -y ∈ (Sp.litsOf m).map fun x => -x := by simpa using hc
    obtain ⟨z, hz, hzz⟩ := List.mem_map.1 hc'
    obtain ⟨i, hi, rfl, hbi⟩ := Sp.litsOf_mem hy
    obtain ⟨j, hj, rfl, hbj⟩ := Sp.litsOf_mem hz
    have e : Sp.litAt j = Sp.litAt (Sp.opp i) := by rw [Sp.litAt_opp]; omega
    have := Sp.litAt_inj e
    subst this
    exact ⟨i, hbi, hbj⟩
  · rintro ⟨i, h1, h2⟩
    have hi : i < 24 := by
      rcases Nat.lt_or_ge i 24 with h | h
      · exact h
      · rw [Nat.testBit_lt_two_pow (Nat.lt_of_lt_of_le hm (Nat.pow_le_pow_right (by decide) h))] at h1; cases h1
    refine ⟨- Sp.litAt i, List.mem_map.2 ⟨_, (Sp.mem_litsOf m i hi).2 h1, rfl⟩, ?_⟩
    have : - - Sp.litAt i ∈ (Sp.litsOf m).map fun x => -x := List.mem_map.2 ⟨_, (Sp.mem_litsOf m _ (Sp.opp_lt hi)).2 h2, by rw [Sp.litAt_opp]⟩
    simpa using this

theorem nOpen_snoc (T c : List Int) (x : Int) : nOpen T (c ++ [x]) = nOpen T c + (if !T.contains (-x) && !T.contains x then 1 else 0) := by
  unfold nOpen; rw [Sp.openOf_snoc]; split <;> simp
theorem dOf_snoc (T c : List Int) (x : Int) : dOf T (c ++ [x]) = (dOf T c || T.contains x) := Sp.doneOf_snoc T c x
theorem lOf_snoc (T c : List Int) (x : Int) : lOf T (c ++ [x]) = if !T.contains (-x) && !T.contains x then x else lOf T c := by
  unfold lOf Sp.leftOf; rw [Sp.openOf_snoc]; split <;> simp
theorem nOpen_le (T c : List Int) : nOpen T c ≤ c.length := List.length_filter_le _ _
theorem lOf_one {T c : List Int} (h : nOpen T c = 1) : Sp.openOf T c = [lOf T c] := by
  unfold nOpen at h
  obtain ⟨x, hx⟩ := List.length_eq_one_iff.1 h
  unfold lOf Sp.leftOf; rw [hx]; rfl

set_option maxRecDepth 100000 in
set_option maxHeartbeats 1600000 in
theorem follows_any (v u : Value) (L : List Nat) (m : Nat) (w : World) (hl : L.length ≤ 10000000) (hL : ∀ c, c ∈ L → c < 2 ^ 24) (hm : m < 2 ^ 24) (hv : RowsOf w v L) (hu : Lies w u (ints (Sp.litsOf m))) :
    Calls Tryd.prog 30 #[v, u] w fun e w' => FolRes L m w e w' := by
  have hml := litsOf_len24 m
  have hmb : ∀ x, x ∈ Sp.litsOf m → x ≠ 0 ∧ -12 ≤ x ∧ x ≤ 12 := fun x hx => by
    obtain ⟨i, hi, rfl, _⟩ := Sp.litsOf_mem hx
    unfold Sp.litAt; split <;> omega
  have hlenu : (ints (Sp.litsOf m)).length = (Sp.litsOf m).length := by simp [ints]
  obtain ⟨vs, hvs, hrows⟩ := hv
  have hlenv := hrows.1
  obtain ⟨ao2, cap2, rfl⟩ := lies_shape hvs
  rw [hlenv] at hvs ⊢
  have HV := hide hvs
  have HR := hide hrows
  have HLV := hide hlenv
  have HLm := hide hL
  have HAN := hide (always_negs hm)
  have HTS := hide (fun h => Sp.taken_start (L := L) (m := m) h)
  clear hvs hrows hlenv hL
  obtain ⟨ao, cap, rfl⟩ := lies_shape hu
  rw [hlenu] at hu ⊢
  have HU := hide hu
  clear hu hlenu
  generalize hxs : Sp.litsOf m = xs at *
  have HX := hide hxs
  clear hxs
  go_enter Tryd.func30, Tryd.ntmps30
  go_wp2
  go_loopw [5, 6] (fun t i wr => ∃ k : Nat, k ≤ xs.length ∧ i = .int .i64 k ∧ wr.ownsRow w.heap.size 3 1 t k (ints (negs (xs.take k))) ∧ Below w.heap.size w wr) (fun _ i _ => xs.length - (intOf i).toNat)
  case atStart => exact ⟨0, Nat.zero_le _, rfl, World.ownsRow_nil _ _ _ _, Below.refl _ _⟩
  case round =>
    obtain ⟨k, hk, rfl, hown, hbel⟩ := hrel
    by_cases hlt : k < xs.length
    · rcases unhide HU with ⟨h0, _⟩ | ⟨b, off, cap', hp, hsl, hb, hc⟩
      · exfalso; have h0' : xs = [] := by simpa [ints] using h0
        rw [h0'] at hlt; simp at hlt
      · simp only [Value.slice.injEq] at hsl
        obtain ⟨rfl, -, rfl⟩ := hsl
        have hcell : wr.cell? ⟨b, off + k, none⟩ = some (.int .i64 xs[k]) := (hbel.cell (p := ⟨b, off + k, none⟩) hb).trans (hc k (.int .i64 xs[k]) (by simp [ints, hlt]))
        have hxb := hmb xs[k] (List.getElem_mem hlt)
        have HS : Hid (xs.take (k + 1) = xs.take k ++ [xs[k]]) := hide (List.take_succ_eq_append_getElem hlt)
        generalize xs[k] = x at hcell HS hxb
        clear hc hmb
        go_wp2_with (at_builtin; refine append_one rfl _ _ 24 3 rfl Tryd.underlying24 Tryd.infoIntW rfl (by decide) hown rfl rfl rfl (by omega) (Nat.le_refl _) hbel ?_; intro v' w1 hown' hbel' _)
        go_roundw
        case rel => exact ⟨k + 1, by omega, by go_num, by rw [unhide HS]; simpa [ints, negs] using hown', hbel'⟩
        case measure => simp [intOf]; omega
    · have HT : Hid (xs.take k = xs) := hide (List.take_of_length_le (by omega))
      have HTB : Hid (∀ x, x ∈ negs xs → -12 ≤ x ∧ x ≤ 12) := hide (fun x hx => by
        obtain ⟨z, hz, rfl⟩ := List.mem_map.1 hx
        have := hmb z hz; omega)
      have hk' : k = xs.length := by omega
      rw [unhide HT] at hown
      have HO := hide hown
      have HLT := hide (lies_of_owns hown (by simp [ints, negs]; omega))
      clear hown
      have HAL := hide (always_any _ (negs xs) wr (by simp [negs]; omega) (unhide HTB) (unhide HLT))
      cases hal : alwaysOf (negs xs)
      · have HNO : Hid (¬ ∃ i, m.testBit i = true ∧ m.testBit (Sp.opp i) = true) := hide (fun h => by
          have := (unhide HAN).2 h
          rw [hal] at this; cases this)
        have HT0 : Hid (Sp.Taken L m (negs xs)) := hide (unhide HTS (unhide HNO))
        rw [hal] at HAL
        clear hal HAN HTS
        go_wp2_with fail
        refine (unhide HAL).mono ?_
        rintro e w1 ⟨rfl, rfl⟩
        go_wp2
        have hkl : k = (negs xs).length := by simp [negs]; omega
        rw [hkl] at HO
        generalize negs xs = T0 at *
        clear hmb hlt hk' HT HTB HLT HAL hkl HX HU hk
        go_loopw [5, 7] (fun t g wr => ∃ (T : List Int) (mb : Bool), g = .bool mb ∧ wr.ownsRow w.heap.size 3 1 t T.length (ints T) ∧ Hid (Sp.Taken L m T) ∧ Hid (mb = false → Settled T L) ∧ Below w.heap.size w wr) (fun t g _ => 2 * (24 - lenOf t) + flagOf g)
        case atStart => exact ⟨T0, true, rfl, unhide HO, HT0, hide (by intro h; cases h), hbel⟩
        case round =>
          clear hbel HO HT0 hml
          obtain ⟨T, mb, rfl, hown, HTK, HSE, hbel⟩ := hrel
          cases mb
          · have HFX : Hid (¬ Sp.Fol L m) := hide ((unhide HTK).fixed hm (unhide HLm) (unhide HNO) (unhide HSE rfl))
            clear hown
            go_wp2
            go_ret
            exact ⟨false, rfl, by simp [unhide HFX], hbel⟩
          · have HO := hide hown
            obtain ⟨tao, tc, rfl⟩ := owns_shape hown
            clear hown HSE
            go_wp2
            go_loopw [5, 7, 8] (fun t g i wr => ∃ (T' : List Int) (mb : Bool) (k : Nat), k ≤ L.length ∧ g = .bool mb ∧ i = .int .i64 k ∧ Hid (wr.ownsRow w.heap.size 3 1 t T'.length (ints T')) ∧ Hid (Sp.Taken L m T') ∧ Hid (mb = false → T' = T ∧ Settled T (L.take k)) ∧ Hid (mb = true → T.length < T'.length) ∧ Below w.heap.size w wr) (fun _ _ i _ => L.length - (intOf i).toNat)
            case atStart => exact ⟨T, false, 0, Nat.zero_le _, rfl, rfl, HO, HTK, hide (fun _ => ⟨rfl, fun c hc => by simp at hc⟩), hide (fun h => (by cases h)), hbel⟩
            case round =>
              clear hbel
              obtain ⟨T', mb, k, hk, rfl, rfl, HO', HTK', HSE, HGR, hbel⟩ := hrel
              have hown' := unhide HO'
              obtain ⟨tao', tc', rfl⟩ := owns_shape hown'
              have hTl := (unhide HTK').len
              have HLT := hide (lies_of_owns hown' (by simp [ints]))
              clear hown'
              by_cases hlt : k < L.length
              · rcases unhide HV with ⟨h0, _⟩ | ⟨b, off, cap', hp, hsl, hb, hc⟩
                · exfalso; have := unhide HLV; rw [h0] at this; simp at this; omega
                · simp only [Value.slice.injEq] at hsl
                  obtain ⟨rfl, -, rfl⟩ := hsl
                  have hkv : k < vs.length := by rw [unhide HLV]; exact hlt
                  have hcell : wr.cell? ⟨b, off + k, none⟩ = some vs[k] := (hbel.cell (p := ⟨b, off + k, none⟩) hb).trans (hc k vs[k] (List.getElem?_eq_getElem hkv))
                  have hli := ((unhide HR).2 k vs[k] L[k] (List.getElem?_eq_getElem hkv) (List.getElem?_eq_getElem hlt)).below hbel
                  have HCM : Hid (L[k] ∈ L ∧ L[k] < 2 ^ 24) := hide ⟨List.getElem_mem hlt, unhide HLm _ (List.getElem_mem hlt)⟩
                  have HS : Hid (L.take (k + 1) = L.take k ++ [L[k]]) := hide (List.take_succ_eq_append_getElem hlt)
                  obtain ⟨ao3, c3, hsh⟩ := lies_shape hli
                  generalize L[k] = c at *
                  generalize vs[k] = x at *
                  subst hsh
                  rw [show (ints (Sp.litsOf c)).length = (Sp.litsOf c).length from by simp [ints]] at hcell hli
                  have hl24 := litsOf_len24 c
                  have hcb : ∀ x, x ∈ Sp.litsOf c → -12 ≤ x ∧ x ≤ 12 := fun x hx => by
                    obtain ⟨i, hi, rfl, _⟩ := Sp.litsOf_mem hx
                    unfold Sp.litAt; split <;> omega
                  generalize hcs : Sp.litsOf c = cs at *
                  have HCS := hide hcs
                  have HLI := hide hli
                  clear hc hp hli hcs
                  go_wp2
                  go_loop [9, 10, 11, 12] (fun o l d j => ∃ q : Nat, q ≤ cs.length ∧ o = .int .i64 (nOpen T' (cs.take q) : Nat) ∧ l = .int .i64 (lOf T' (cs.take q)) ∧ d = .bool (dOf T' (cs.take q)) ∧ j = .int .i64 q) (fun _ _ _ j => cs.length - (intOf j).toNat)
                  case atStart => exact ⟨0, Nat.zero_le _, rfl, rfl, rfl, rfl⟩
                  case round =>
                    obtain ⟨q, hq, rfl, rfl, rfl, rfl⟩ := hrel
                    by_cases hqlt : q < cs.length
                    · rcases unhide HLI with ⟨h0, _⟩ | ⟨b4, off4, cap4, hp4, hsl4, hb4, hc4⟩
                      · exfalso; have h0' : cs = [] := by simpa [ints] using h0
                        rw [h0'] at hqlt; simp at hqlt
                      · simp only [Value.slice.injEq] at hsl4
                        obtain ⟨rfl, -, rfl⟩ := hsl4
                        have hcell4 : wr.cell? ⟨b4, off4 + q, none⟩ = some (.int .i64 cs[q]) := hc4 q (.int .i64 cs[q]) (by simp [ints, hqlt])
                        have hxb := hcb cs[q] (List.getElem_mem hqlt)
                        have HS4 : Hid (cs.take (q + 1) = cs.take q ++ [cs[q]]) := hide (List.take_succ_eq_append_getElem hqlt)
                        have hno := nOpen_le T' (cs.take q)
                        have hql : (cs.take q).length ≤ q := List.length_take_le _ _
                        generalize cs[q] = x at hcell4 HS4 hxb
                        have HN := hide (nOpen_snoc T' (cs.take q) x)
                        have HD := hide (dOf_snoc T' (cs.take q) x)
                        have HL4 := hide (lOf_snoc T' (cs.take q) x)
                        rw [← unhide HS4] at HN HD HL4
                        clear hc4 hp4 hcb HS4
                        have HI1 := hide (in_any _ T' (-x) wr (by omega) (unhide HLT))
                        have HI2 := hide (in_any _ T' x wr (by omega) (unhide HLT))
                        generalize hno' : nOpen T' (cs.take q) = no at *
                        generalize lOf T' (cs.take q) = lo at *
                        generalize dOf T' (cs.take q) = dn at *
                        generalize T'.contains (-x) = f1 at *
                        generalize T'.contains x = f2 at *
                        clear hno'
                        cases f1 <;> cases f2 <;> cases dn
                        all_goals
                          go_wp2_with fail
                          refine (unhide HI1).mono ?_
                          rintro e w1 ⟨rfl, rfl⟩
                          go_wp2_with fail
                          refine (unhide HI2).mono ?_
                          rintro e w2 ⟨rfl, rfl⟩
                          go_wp2
                          go_round
                          case rel => exact ⟨q + 1, by omega, by rw [unhide HN]; go_num, by rw [unhide HL4]; rfl, by rw [unhide HD]; rfl, by go_num⟩
                          case measure => simp [intOf]; omega
                    · have hqe : cs.take q = cs := List.take_of_length_le (by omega)
                      rw [hqe]
                      have hno := nOpen_le T' cs
                      clear hqe hcb hq HLI
                      cases hd : dOf T' cs
                      · rcases Nat.lt_or_ge 1 (nOpen T' cs) with h2 | h2
                        · have HSX : Hid (mb = false → T' = T ∧ Settled T (L.take (k + 1))) := hide (fun hmb => by
                            obtain ⟨e1, e2⟩ := unhide HSE hmb
                            refine ⟨e1, fun c' hc' => ?_⟩
                            rw [unhide HS] at hc'
                            rcases List.mem_append.1 hc' with h | h
                            · exact e2 c' h
                            · simp at h; subst h; right; rw [← e1, unhide HCS]; exact h2)
                          generalize nOpen T' cs = no at *
                          generalize lOf T' cs = lo at *
                          have q0 : ((no : Int) == 0) = false := by rw [beq_eq_false_iff_ne]; omega
                          have q1 : ((no : Int) == 1) = false := by rw [beq_eq_false_iff_ne]; omega
                          clear hd
                          go_wp2
                          go_roundw
                          case rel => exact ⟨T', mb, k + 1, by omega, rfl, by go_num, HO', HTK', HSX, HGR, hbel⟩
                          case measure => simp [intOf]; omega
                        · rcases Nat.eq_zero_or_pos (nOpen T' cs) with h0 | h1
                          · have HF : Hid (Sp.Fol L m) := hide (by
                              have e := unhide HCS
                              subst e
                              exact (unhide HTK').conflict (unhide HCM).1 (unhide HCM).2 hd (List.length_eq_zero_iff.1 h0))
                            rw [h0]
                            generalize lOf T' cs = lo at *
                            clear hd h0 h2 hno
                            go_wp2
                            go_ret
                            exact ⟨true, rfl, by simp [unhide HF], hbel⟩
                          · have h11 : nOpen T' cs = 1 := by omega
                            have HMO : Hid (Sp.Taken L m (T' ++ [lOf T' cs])) := hide (by
                              have e := unhide HCS
                              subst e
                              exact (unhide HTK').more (unhide HCM).1 (unhide HCM).2 hd (lOf_one h11))
                            rw [h11]
                            generalize lOf T' cs = lo at *
                            have hown' := unhide HO'
                            clear hd h2 h1 h11 hno
                            go_wp2_with (at_builtin; refine append_one rfl _ _ 24 3 rfl Tryd.underlying24 Tryd.infoIntW rfl (by decide) hown' rfl rfl rfl (by omega) (Nat.le_refl _) hbel ?_; intro v' w1 hown2 hbel' _)
                            go_roundw
                            case rel => exact ⟨T' ++ [lo], true, k + 1, by omega, rfl, by go_num, hide (by simpa [ints] using hown2), HMO, hide (fun h => (by cases h)), hide (fun _ => by
                              have : T.length ≤ T'.length := by
                                cases mb
                                · rw [(unhide HSE rfl).1]; exact Nat.le_refl _
                                · exact Nat.le_of_lt (unhide HGR rfl)
                              simp; omega), hbel'⟩
                            case measure => simp [intOf]; omega
                      · have HSX : Hid (mb = false → T' = T ∧ Settled T (L.take (k + 1))) := hide (fun hmb => by
                            obtain ⟨e1, e2⟩ := unhide HSE hmb
                            refine ⟨e1, fun c' hc' => ?_⟩
                            rw [unhide HS] at hc'
                            rcases List.mem_append.1 hc' with h | h
                            · exact e2 c' h
                            · simp at h; subst h; left; rw [← e1, unhide HCS]; exact hd)
                        generalize nOpen T' cs = no at *
                        generalize lOf T' cs = lo at *
                        clear hd
                        go_wp2
                        go_roundw
                        case rel => exact ⟨T', mb, k + 1, by omega, rfl, by go_num, HO', HTK', HSX, HGR, hbel⟩
                        case measure => simp [intOf]; omega
              · have HT : Hid (L.take k = L) := hide (List.take_of_length_le (by omega))
                have hTl0 := (unhide HTK).len
                cases mb
                · obtain ⟨e1, e2⟩ := unhide HSE rfl
                  subst e1
                  rw [unhide HT] at e2
                  have HE := hide e2
                  clear e2 HSE
                  go_wp2
                  go_roundw
                  case rel => exact ⟨T', false, rfl, unhide HO', HTK', hide (fun _ => unhide HE), hbel⟩
                  case measure => simp [lenOf, flagOf]
                · have hgr := unhide HGR rfl
                  go_wp2
                  go_roundw
                  case rel => exact ⟨T', true, rfl, unhide HO', HTK', hide (fun h => (by cases h)), hbel⟩
                  case measure => simp [lenOf, flagOf]; omega
      · rw [hal] at HAL
        have HF : Hid (Sp.Fol L m) := hide (.inl ((unhide HAN).1 hal))
        clear hal
        go_wp2_with fail
        refine (unhide HAL).mono ?_
        rintro e w1 ⟨rfl, rfl⟩
        go_wp2
        go_ret
        exact ⟨true, rfl, by simp [unhide HF], hbel⟩

end Go.Proofs.YtekkkoipcghlmaaDoor

namespace Go.Proofs.YtekkkoipcghlmaaDoor.Sp

/-- The lines of a text, each with whether it is ended. -/
def segsAux (cur : List UInt8) : List UInt8 → List (List UInt8 × Bool)
  | [] => if cur = [] then [] else [(cur, false)]
  | c :: r => if c = 10 then (cur, true) :: segsAux [] r else segsAux (cur ++ [c]) r
def segs (s : List UInt8) : List (List UInt8 × Bool) := segsAux [] s

def scanSegs : Nat → List (List UInt8 × Bool) → Option Nat
  | _, [] => none
  | n, x :: r => if !okLine x.1 || !x.2 then some (n + 1) else scanSegs (n + 1) r

theorem segsAux_lines (r : List UInt8) : ∀ cur, (segsAux cur r).map Prod.fst = linesAux cur r := by
  induction r with
  | nil => intro cur; unfold segsAux linesAux; split <;> rfl
  | cons c r ih =>
    intro cur
    unfold segsAux linesAux
    split
    · rw [List.map_cons, ih]
    · exact ih _

theorem lines_nil (r : List UInt8) : ∀ cur, linesAux cur r = [] → endAux cur r = true := by
  induction r with
  | nil => intro cur h; unfold linesAux at h; split at h
           · rename_i hc; subst hc; rfl
           · cases h
  | cons c r ih =>
    intro cur h
    unfold linesAux at h
    unfold endAux
    split at h
    · cases h
    · rename_i hc; rw [if_neg hc]; exact ih _ h

theorem scan_segs (r : List UInt8) : ∀ (cur : List UInt8) (n : Nat), scanSegs n (segsAux cur r) = scan (endAux cur r) n (linesAux cur r) := by
  induction r with
  | nil =>
    intro cur n
    unfold segsAux linesAux endAux
    by_cases hc : cur = []
    · simp [hc, scanSegs, scan]
    · have : cur.isEmpty = false := by simpa using hc
      simp [hc, scanSegs, scan, this]
  | cons c r ih =>
    intro cur n
    unfold segsAux linesAux endAux
    by_cases hc : c = 10
    · rw [if_pos hc, if_pos hc, if_pos hc]
      unfold scanSegs scan
      rw [ih]
      have : (!endAux [] r && (linesAux [] r).isEmpty) = false := by
        cases he : (linesAux [] r).isEmpty
        · simp
        · rw [lines_nil r [] (by simpa using he)]; rfl
      rw [this]
      simp
    · rw [if_neg hc, if_neg hc, if_neg hc]; exact ih _ n

theorem segsAux_no (r : List UInt8) : ∀ cur, (10 : UInt8) ∉ cur → ∀ x, x ∈ segsAux cur r → (10 : UInt8) ∉ x.1 := by
  induction r with
  | nil =>
    intro cur h x hx
    unfold segsAux at hx
    split at hx
    · cases hx
    · simp at hx; subst hx; exact h
  | cons c r ih =>
    intro cur h x hx
    unfold segsAux at hx
    split at hx
    · rcases List.mem_cons.1 hx with rfl | hx
      · exact h
      · exact ih [] (by simp) x hx
    · rename_i hc
      exact ih _ (by simp [h]; exact fun h' => hc h'.symm) x hx

theorem segsAux_len (r : List UInt8) : ∀ cur x, x ∈ segsAux cur r → x.1.length ≤ cur.length + r.length := by
  induction r with
  | nil =>
    intro cur x hx
    unfold segsAux at hx
    split at hx
    · cases hx
    · simp at hx; subst hx; simp
  | cons c r ih =>
    intro cur x hx
    unfold segsAux at hx
    split at hx
    · rcases List.mem_cons.1 hx with rfl | hx
      · simp
      · have := ih [] x hx; simp at this ⊢; omega
    · have := ih _ x hx; simp at this ⊢; omega
theorem segsAux_count (r : List UInt8) : ∀ cur, (segsAux cur r).length ≤ r.length + 1 := by
  induction r with
  | nil => intro cur; unfold segsAux; split <;> simp
  | cons c r ih =>
    intro cur
    unfold segsAux
    split
    · have := ih []; simp; omega
    · have := ih (cur ++ [c]); simp; omega

/-- How the next line is found. -/
theorem segs_index (x : List UInt8) : (Lib.indexByte x 10 = -1 ∧ ∀ cur, cur ++ x ≠ [] → segsAux cur x = [(cur ++ x, false)]) ∨
    ∃ i : Nat, Lib.indexByte x 10 = i ∧ i < x.length ∧ x.take (i + 1) = x.take i ++ [10] ∧ ∀ cur, segsAux cur x = (cur ++ x.take i, true) :: segsAux [] (x.drop (i + 1)) := by
  induction x with
  | nil => exact .inl ⟨rfl, fun cur h => by simp at h; simp [segsAux, h]⟩
  | cons b l ih =>
    by_cases hb : b = 10
    · subst hb
      exact .inr ⟨0, by simp [Lib.indexByte], by simp, by simp, fun cur => by simp [segsAux]⟩
    · have hp : (b == 10) = false := by simpa using hb
      rcases ih with ⟨h1, h2⟩ | ⟨i, h1, h2, h4, h3⟩
      · refine .inl ⟨by unfold Lib.indexByte; rw [hp, h1]; rfl, fun cur _ => ?_⟩
        unfold segsAux
        rw [if_neg hb, h2 _ (by simp)]
        simp
      · refine .inr ⟨i + 1, ?_, by simp; omega, by simp [h4], fun cur => ?_⟩
        · unfold Lib.indexByte
          rw [hp, h1]
          have : ((i : Int) == -1) = false := by rw [beq_eq_false_iff_ne]; omega
          simp [this]
        · conv => lhs; unfold segsAux
          rw [if_neg hb, h3]
          simp

end Go.Proofs.YtekkkoipcghlmaaDoor.Sp

namespace Go.Proofs.YtekkkoipcghlmaaDoor
open Go.RowKit

section
variable {P : Program}
theorem append_nothing {ao : Option Addr} {cap : Nat} (t ty e : TypeId) (w : World) {z : Value} {bytes : Nat} (ht : P.underlying t = some (.slice e)) (hinfo : (P.info? e).map (fun i => (i.zero, i.size, i.bytes)) = some (some z, 1, bytes)) :
    (Builtin.append_ #[t, t] ty #[.slice none 0 0, .slice ao 0 cap]).run P w = .ok (.slice none 0 0) w := by
  obtain ⟨i, hi, hz0, hz1, hz2⟩ := info_parts hinfo
  cases ao <;> simp [Builtin.append_, run_underlying ht, sizeOf, typeInfo, hi, Builtin.lenOf, Builtin.firstCells, loadCells, loadCellsFrom]

/-- 'next = append(next, l...)', next nil. -/
theorem append_copy {ops : Array Oper} {rest : List Oper} {o : Oper} {a : Act} {Q : Exit → Act → World → Prop} {w0 wr : World} {base bytes : Nat} {z lv : Value} {vs : List Value}
    (hgd : o.guard = none) (s x : Operand) (t e : TypeId)
    (ho : o.op = .call { callee := .builtin .append, args := #[s, x], argTypes := #[t, t] })
    (ht : P.underlying t = some (.slice e)) (hinfo : (P.info? e).map (fun i => (i.zero, i.size, i.bytes)) = some (some z, 1, bytes)) (hzs : z.cells.size = 1) (hby : bytes ≤ 24)
    (hs : a.eval s = .slice none 0 0) (hx : a.eval x = lv) (hl : Lies wr lv vs) (h1 : ∀ u ∈ vs, u.oneCell' = true)
    (hn : vs.length ≤ 20000000) (hb : base ≤ w0.heap.size) (hbel : Below base w0 wr)
    (h : ∀ v' w', w'.ownsRow base e 1 v' vs.length vs → Below base w0 w' → Below wr.heap.size wr w' → wpList P ops Q rest (a.put o.dst v') w') :
    wpList P ops Q (o :: rest) a wr := by
  have hsz := hbel.size
  rcases hl with ⟨h0, ao, cap, rfl⟩ | ⟨b, off, cap, hp, rfl, hbb, hc⟩
  · subst h0
    refine wpList_plain hgd fun K hK => ?_
    have hr := append_nothing (P := P) (ao := ao) (cap := cap) t o.type e wr ht hinfo
    unfold Oper.wp execOp
    simp only [ho, resolve, invoke, builtin, Sem.run_bind, Sem.run_pure, Result.andThen_ok, List.map_toArray, List.map_cons, List.map_nil, hs, hx, hr]
    exact hK _ _ (h _ _ (World.ownsRow_nil _ _ _ _) hbel (Below.refl _ _))
  · obtain ⟨i0, hi, hz0, hz1, hz2⟩ := info_parts hinfo
    have hnb : (0 + vs.length) * bytes ≤ 140737488355328 := Nat.le_trans (Nat.mul_le_mul (show 0 + vs.length ≤ 20000000 by omega) hby) (by omega)
    refine wpList_append_own _ hgd s x t ho base e i0 z 1 bytes ht hi hz0 hz1 hz2 hzs (by decide) (.slice none 0 0) 0 [] hs (World.ownsRow_nil _ _ _ _) ⟨b, off, none⟩ vs.length cap vs hx (by omega) (fun j u hu => by rw [Addr.add_lit]; exact hc j u hu) h1 (by unfold maxLen; omega) hnb (by omega) ?_
    intro v' w' ho' hg _
    have hbw : ∀ {n : Nat} {v0 : World}, n ≤ v0.heap.size → Below n v0 wr → Below n v0 w' := fun hle hbl => hbl.grown hg (by have := hbl.size; omega) (fun j hj => by cases hj)
    exact h v' w' (by simpa using ho') (hbw hb hbel) (hbw (Nat.le_refl _) (Below.refl _ _))
end

end Go.Proofs.YtekkkoipcghlmaaDoor
