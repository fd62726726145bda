import Derived.Test.YtekkkoipcghlmabGreatDoorD30
import Derived.Test.YtekkkoipcghlmabGreatDoorD33
import Derived.Test.YtekkkoipcghlmabGreatDoorD31
import Derived.Test.YtekkkoipcghlmabGreatDoorD29
import Derived.Deep.AppendLies
import Derived.Deep.RegionWith
import Derived.Deep.QuietTactic
import Derived.BigQuiet
set_option linter.all false
namespace Go.Proofs.YtekkkoipcghlmabGreatDoor
open Go.RowKit

section
variable {P : Program}
theorem append_nothing {ao : Option Addr} {cap : Nat} (t ty e : TypeId) (w : World) {z : Value} {bytes : Nat} (ht : P.underlying t = some (.slice e)) (hinfo : (P.info? e).map (fun i => (i.zero, i.size, i.bytes)) = some (some z, 1, bytes)) :
    (Builtin.append_ #[t, t] ty #[.slice none 0 0, .slice ao 0 cap]).run P w = .ok (.slice none 0 0) w := by
  obtain ⟨i, hi, hz0, hz1, hz2⟩ := info_parts hinfo
  cases ao <;> simp [Builtin.append_, run_underlying ht, sizeOf, typeInfo, hi, Builtin.lenOf, Builtin.firstCells, loadCells, loadCellsFrom]

/-- 'next = append(next, l...)', next nil. -/
theorem append_copy {ops : Array Oper} {rest : List Oper} {o : Oper} {a : Act} {Q : Exit → Act → World → Prop} {w0 wr : World} {base bytes : Nat} {z lv : Value} {vs : List Value}
    (hgd : o.guard = none) (s x : Operand) (t e : TypeId)
    (ho : o.op = .call { callee := .builtin .append, args := #[s, x], argTypes := #[t, t] })
    (ht : P.underlying t = some (.slice e)) (hinfo : (P.info? e).map (fun i => (i.zero, i.size, i.bytes)) = some (some z, 1, bytes)) (hzs : z.cells.size = 1) (hby : bytes ≤ 24)
    (hs : a.eval s = .slice none 0 0) (hx : a.eval x = lv) (hl : Lies wr lv vs) (h1 : ∀ u ∈ vs, u.oneCell' = true)
    (hn : vs.length ≤ 20000000) (hb : base ≤ w0.heap.size) (hbel : Below base w0 wr)
    (h : ∀ v' w', w'.ownsRow base e 1 v' vs.length vs → Below base w0 w' → Below wr.heap.size wr w' → wpList P ops Q rest (a.put o.dst v') w') :
    wpList P ops Q (o :: rest) a wr := by
  have hsz := hbel.size
  rcases hl with ⟨h0, ao, cap, rfl⟩ | ⟨b, off, cap, hp, rfl, hbb, hc⟩
  · subst h0
    refine wpList_plain hgd fun K hK => ?_
    have hr := append_nothing (P := P) (ao := ao) (cap := cap) t o.type e wr ht hinfo
    unfold Oper.wp execOp
    simp only [ho, resolve, invoke, builtin, Sem.run_bind, Sem.run_pure, Result.andThen_ok, List.map_toArray, List.map_cons, List.map_nil, hs, hx, hr]
    exact hK _ _ (h _ _ (World.ownsRow_nil _ _ _ _) hbel (Below.refl _ _))
  · obtain ⟨i0, hi, hz0, hz1, hz2⟩ := info_parts hinfo
    have hnb : (0 + vs.length) * bytes ≤ 140737488355328 := Nat.le_trans (Nat.mul_le_mul (show 0 + vs.length ≤ 20000000 by omega) hby) (by omega)
    refine wpList_append_own _ hgd s x t ho base e i0 z 1 bytes ht hi hz0 hz1 hz2 hzs (by decide) (.slice none 0 0) 0 [] hs (World.ownsRow_nil _ _ _ _) ⟨b, off, none⟩ vs.length cap vs hx (by omega) (fun j u hu => by rw [Addr.add_lit]; exact hc j u hu) h1 (by unfold maxLen; omega) hnb (by omega) ?_
    intro v' w' ho' hg _
    have hbw : ∀ {n : Nat} {v0 : World}, n ≤ v0.heap.size → Below n v0 wr → Below n v0 w' := fun hle hbl => hbl.grown hg (by have := hbl.size; omega) (fun j hj => by cases hj)
    exact h v' w' (by simpa using ho') (hbw hb hbel) (hbw (Nat.le_refl _) (Below.refl _ _))
end

end Go.Proofs.YtekkkoipcghlmabGreatDoor

namespace Go.Proofs.YtekkkoipcghlmabGreatDoor
open Go.RowKit

set_option maxRecDepth 100000 in
theorem copiedK_any (v : Value) (xs : List Int) (w : World) (hl : xs.length ≤ 10000000) (hv : Lies w v (ints xs)) :
    Calls Tryz.prog 11 #[v] w fun e w' => ∃ v', e = .returned v' ∧ w'.ownsRow w.heap.size 3 1 v' xs.length (ints xs) ∧ Below w.heap.size w w' := by
  have hone : ∀ u, u ∈ ints xs → u.oneCell' = true := fun u hu => by unfold ints at hu; obtain ⟨x, _, rfl⟩ := List.mem_map.1 hu; rfl
  have hlen : (ints xs).length = xs.length := by simp [ints]
  obtain ⟨ao, cap, hsh⟩ : ∃ ao cap, v = .slice ao xs.length cap := by
    have := lies_shape hv
    rw [hlen] at this; exact this
  subst hsh
  have HV := hide hv
  have HO := hide hone
  have HL := hide hlen
  clear hv hone hlen
  go_enter Tryz.func11, Tryz.ntmps11
  go_wp2_with (at_builtin; refine append_copy (base := w.heap.size) (w0 := w) rfl _ _ 22 3 rfl Tryz.underlying22 Tryz.infoIntW rfl (by decide) rfl rfl (unhide HV) (unhide HO) (by rw [unhide HL]; omega) (Nat.le_refl _) (Below.refl _ _) ?_; intro v' w1 hown1 hb1 _; have HO1 := hide hown1; clear hown1)
  go_ret
  exact ⟨_, rfl, by have := unhide HO1; rw [unhide HL] at this; exact this, hb1⟩

def keptTo (L : List (List Int)) (k : Nat) : List Nat := (L.take k).foldl (fun ms c => (addTo ms c).2) []
theorem keptTo_succ (L : List (List Int)) (k : Nat) (h : k < L.length) : keptTo L (k + 1) = (addTo (keptTo L k) L[k]).2 := by
  unfold keptTo
  rw [List.take_succ_eq_append_getElem h, List.foldl_append]; rfl
theorem addTo_lenK (ms : List Nat) (xs : List Int) : (addTo ms xs).2.length ≤ ms.length + 1 := by
  unfold addTo
  split
  · simp
  · split
    · simp
    · split <;> simp
theorem keptTo_len (L : List (List Int)) (k : Nat) : (keptTo L k).length ≤ k := by
  induction k with
  | zero => simp [keptTo]
  | succ k ih =>
    by_cases h : k < L.length
    · rw [keptTo_succ L k h]
      have := addTo_lenK (keptTo L k) L[k]
      omega
    · have : keptTo L (k + 1) = keptTo L k := by unfold keptTo; rw [List.take_of_length_le (by omega), List.take_of_length_le (by omega)]
      rw [this]; omega

set_option maxRecDepth 100000 in
set_option maxHeartbeats 1600000 in
theorem solverK_any (v : Value) (L : List (List Int)) (w : World) (hl : L.length ≤ 1000000) (hL : ∀ c, c ∈ L → c.length ≤ 10000000) (hv : RowsK w v L) (hok : ∀ k (h : k < L.length), (addTo (keptTo L k) L[k]).1 = 0) :
    Calls Tryz.prog 14 #[v] w fun e w' => ∃ kv, e = .returned (.tuple #[.pointer (some ⟨w.heap.size, 0, none⟩), .bool true]) ∧ XAt w.heap.size w' w.heap.size kv (keptTo L L.length) (.slice none 0 0) [] ∧ Below w.heap.size w w' := by
  obtain ⟨vs, hvs, hvl, hrows⟩ := hv
  obtain ⟨vo, vc, hsh⟩ : ∃ vo vc, v = .slice vo L.length vc := by
    have := lies_shape hvs
    rw [hvl] at this; exact this
  subst hsh
  have HVS := hide hvs
  have HROWS := hide hrows
  have HVL := hide hvl
  have HLL := hide hL
  have HOK := hide hok
  have HN := hide (newX_any w)
  obtain ⟨w1, hw1⟩ : ∃ w1, w1 = w.alloc (.cells #[.slice none 0 0, .int .i64 0, .slice none 0 0] 57) := ⟨_, rfl⟩
  rw [← hw1] at HN
  have hx1 : XAt w.heap.size w1 w.heap.size (.slice none 0 0) [] (.slice none 0 0) [] := by
    rw [hw1]
    refine ⟨?_, Nat.le_refl _, World.ownsRow_nil _ _ _ _, World.ownsRow_nil _ _ _ _⟩
    show (w.heap.push _)[w.heap.size]? = _
    simp; rfl
  have hb1 : Below w.heap.size w w1 := by rw [hw1]; exact (Below.refl _ _).alloc (Nat.le_refl _) _
  have HX1 := hide hx1
  have HB1 := hide hb1
  clear hvs hrows hvl hL hok hw1 hx1 hb1
  go_enter Tryz.func14, Tryz.ntmps14
  go_wp2_with fail
  refine (unhide HN).mono ?_
  rintro e w2 ⟨rfl, rfl⟩
  go_wp2
  go_loopw [5, 6] (fun i _ wr => ∃ k : Nat, k ≤ L.length ∧ i = .int .i64 k ∧ Hid (∃ kv, XAt w.heap.size wr w.heap.size kv (keptTo L k) (.slice none 0 0) []) ∧ Hid (Below w.heap.size w wr)) (fun i _ _ => L.length - (intOf i).toNat)
  case atStart => exact ⟨0, Nat.zero_le _, rfl, hide ⟨_, unhide HX1⟩, HB1⟩
  case round =>
    obtain ⟨k, hk, rfl, HX, HB⟩ := hrel
    by_cases hlt : k < L.length
    · obtain ⟨kv, hx⟩ := unhide HX
      have hbel := unhide HB
      have hvl := unhide HVL
      rcases unhide HVS with ⟨h0, _⟩ | ⟨b2, off, cap', hp, hvv, hbb, hc⟩
      · exfalso; rw [h0] at hvl; simp at hvl; omega
      · simp only [Value.slice.injEq] at hvv
        obtain ⟨rfl, -, rfl⟩ := hvv
        have hlx := unhide HROWS k vs[k] L[k] (by simp [hvl, hlt]) (by simp [hlt])
        have hcell : wr.cell? ⟨b2, off + k, none⟩ = some vs[k] := (hbel.cell (p := ⟨b2, off + k, none⟩) hbb).trans (hc k vs[k] (by simp [hvl, hlt]))
        have hll := unhide HLL L[k] (List.getElem_mem hlt)
        have HCO : Hid (Calls Tryz.prog 11 #[vs[k]] wr fun e w' => ∃ v', e = .returned v' ∧ Lies w' v' (ints L[k]) ∧ Below wr.heap.size wr w') := hide ((copiedK_any vs[k] L[k] wr hll (hlx.below hbel)).mono (fun e w' h => by
          obtain ⟨v', h1, h2, h3⟩ := h
          exact ⟨v', h1, lies_of_owns h2 (by simp [ints]), h3⟩))
        obtain ⟨xo, xc, hxs⟩ : ∃ xo xc, vs[k] = .slice xo L[k].length xc := by
          have := lies_shape hlx
          simpa [ints] using this
        rw [hxs] at hcell HCO
        have HK1 := hide (keptTo_succ L k hlt)
        have hkl := keptTo_len L k
        have HADD := hide (fun (wx : World) (v' : Value) (hb : Below wr.heap.size wr wx) (hv : Lies wx v' (ints L[k])) => addX_any w.heap.size w.heap.size kv v' (keptTo L k) L[k] wx (.slice none 0 0) [] (hx.below hb) (by omega) hll hv)
        rw [unhide HOK k hlt] at HADD
        have HBEL := hide hbel
        have HXX := hide hx
        clear hc hlx hxs hx hbel
        generalize L[k].length = lj at *
        go_wp2_with fail
        refine (unhide HCO).mono ?_
        rintro e w3 ⟨v3, rfl, hl3, hb3⟩
        have HL3 := hide hl3
        clear hl3
        go_wp2_with fail
        refine (unhide HADD _ v3 hb3 (unhide HL3)).mono ?_
        rintro e w4 ⟨rfl, kv4, hx4, ho4, _⟩
        have hb4 : Below w.heap.size w w4 := ((unhide HBEL).trans (hb3.mono (unhide HBEL).size)).trans (ho4.below (fun j hj => hj.elim (fun e => by omega) (fun e => ((unhide HXX).row.lt j e).1)) (Nat.le_trans (unhide HBEL).size hb3.size))
        have HX4 := hide hx4
        have HB4 := hide hb4
        clear hx4 ho4 hb4
        go_wp2
        go_roundw
        case rel => exact ⟨k + 1, by omega, by go_num, hide ⟨kv4, by rw [unhide HK1]; exact unhide HX4⟩, HB4⟩
        case measure => simp [intOf]; omega
    · have hkl : k = L.length := by omega
      subst hkl
      obtain ⟨kv, hx⟩ := unhide HX
      go_wp2
      go_ret2
      exact ⟨kv, rfl, hx, unhide HB⟩

end Go.Proofs.YtekkkoipcghlmabGreatDoor

namespace Go.Proofs.YtekkkoipcghlmabGreatDoor
open Go.RowKit

theorem litAt_bitIx {x : Int} (h : x ≠ 0) : Sp.litAt (Sp.bitIx x) = x := by
  unfold Sp.litAt Sp.bitIx
  by_cases hp : 0 < x
  · rw [if_pos hp, if_pos (by omega)]; omega
  · rw [if_neg hp, if_neg (by omega)]; omega
theorem mask_lit {c : List Int} (hc : ∀ x, x ∈ c → x ≠ 0) {i : Nat} (h : (Sp.maskOf c).testBit i = true) : Sp.litAt i ∈ c := by
  unfold Sp.maskOf at h
  rw [Sp.maskFrom_testBit] at h
  simp only [Nat.zero_testBit, Bool.false_or, List.any_eq_true] at h
  obtain ⟨x, hx, hi⟩ := h
  have : Sp.bitIx x = i := by simpa using hi
  rw [← this, litAt_bitIx (hc x hx)]
  exact hx
theorem holdsB_mask {b : Nat} {c : List Int} (hc : ∀ x, x ∈ c → x ≠ 0) : holdsB b (Sp.maskOf c) ↔ holdsOf b c = true := by
  refine ⟨fun h => ?_, holds_mask hc⟩
  obtain ⟨i, h1, h2⟩ := h
  exact holds_iff.2 ⟨_, mask_lit hc h1, h2⟩
theorem always_holds {b : Nat} {c : List Int} (hc : ∀ x, x ∈ c → x ≠ 0) (hm : Sp.maskOf c < 2 ^ 24) (h : alwaysMask (Sp.maskOf c) = true) : holdsOf b c = true := by
  obtain ⟨i, h1, h2⟩ := (alwaysMask_iff hm).1 h
  have m1 := mask_lit hc h1
  have m2 := mask_lit hc h2
  rw [Sp.litAt_opp] at m2
  rw [holds_iff]
  cases ht : tru b (Sp.litAt i)
  · exact ⟨_, m2, by rw [tru_neg b (litAt_ne i), ht]; rfl⟩
  · exact ⟨_, m1, ht⟩

theorem filter_or_len (p : Nat → Bool) (j : Nat) : ∀ l : List Nat, l.Nodup → (l.filter (fun i => p i || i == j)).length ≤ (l.filter p).length + 1 := by
  intro l
  induction l with
  | nil => intro _; simp
  | cons a l ih =>
    intro h
    rw [List.nodup_cons] at h
    by_cases ha : a = j
    · subst ha
      have hsame : l.filter (fun i => p i || i == a) = l.filter p := List.filter_congr (fun x hx => by
        have : (x == a) = false := by
          rw [beq_eq_false_iff_ne]
          exact fun e => h.1 (e ▸ hx)
        rw [this, Bool.or_false])
      rw [List.filter_cons, List.filter_cons, hsame]
      cases p a <;> simp
    · have hb : (a == j) = false := by simpa using ha
      have := ih h.2
      rw [List.filter_cons, List.filter_cons, hb, Bool.or_false]
      cases p a
      · simpa using this
      · simpa using this
theorem litsMask_len (c : List Int) : (Sp.litsOf (Sp.maskOf c)).length ≤ c.length := by
  have : ∀ n, (Sp.litsOf (Sp.maskOf (c.take n))).length ≤ n := by
    intro n
    induction n with
    | zero => simp [Sp.maskOf, Sp.litsOf]
    | succ n ih =>
      rcases Nat.lt_or_ge n c.length with hn | hn
      · rw [List.take_succ_eq_append_getElem hn]
        have e : Sp.maskOf (c.take n ++ [c[n]]) = Sp.maskOf (c.take n) ||| 2 ^ Sp.bitIx c[n] := by
          unfold Sp.maskOf Sp.bit
          rw [List.foldl_append]
          rfl
        rw [e]
        unfold Sp.litsOf at ih ⊢
        rw [List.length_map] at ih ⊢
        have e2 : (fun i => (Sp.maskOf (c.take n) ||| 2 ^ Sp.bitIx c[n]).testBit i) = fun i => (Sp.maskOf (c.take n)).testBit i || i == Sp.bitIx c[n] := by
          funext i
          rw [Nat.testBit_or, Nat.testBit_two_pow]
          congr 1
          by_cases hh : Sp.bitIx c[n] = i
          · subst hh; simp
          · have : (i == Sp.bitIx c[n]) = false := by rw [beq_eq_false_iff_ne]; exact fun e => hh e.symm
            rw [this]
            simpa using hh
        rw [e2]
        have := filter_or_len (fun i => (Sp.maskOf (c.take n)).testBit i) (Sp.bitIx c[n]) (List.range 24) List.nodup_range
        omega
      · rw [List.take_of_length_le hn] at ih
        rw [List.take_of_length_le (by omega)]
        omega
  have := this c.length
  rwa [List.take_length] at this

section
variable {L : List (List Int)}
/-- Whether all clauses hold, by those that are kept. -/
theorem kept_all (hL : ∀ c, c ∈ L → Lits c) (hok : ∀ k (h : k < L.length), (addTo (keptTo L k) L[k]).1 = 0) (b : Nat) : ∀ k, k ≤ L.length → ((∀ g, g ∈ keptTo L k → holdsB b g) ↔ ∀ c, c ∈ L.take k → holdsOf b c = true) := by
  intro k
  induction k with
  | zero => intro _; simp [keptTo]
  | succ k ih =>
    intro hk
    have hk' : k < L.length := by omega
    have ih := ih (by omega)
    have h0 := hok k hk'
    have hl := hL L[k] (List.getElem_mem hk')
    have hc0 : ∀ x, x ∈ L[k] → x ≠ 0 := fun x hx => (hl x hx).1
    have hm : Sp.maskOf L[k] < 2 ^ 24 := Sp.maskOf_lt _ (fun y hy => (hl y hy).2)
    rw [keptTo_succ L k hk', List.take_succ_eq_append_getElem hk']
    have hsplit : (∀ c, c ∈ L.take k ++ [L[k]] → holdsOf b c = true) ↔ (∀ c, c ∈ L.take k → holdsOf b c = true) ∧ holdsOf b L[k] = true := by
      constructor
      · exact fun h => ⟨fun c hc => h c (List.mem_append_left _ hc), h _ (List.mem_append_right _ (List.mem_singleton.2 rfl))⟩
      · rintro ⟨h1, h2⟩ c hc
        rcases List.mem_append.1 hc with hc | hc
        · exact h1 c hc
        · rw [List.mem_singleton.1 hc]; exact h2
    rw [hsplit, ← ih]
    unfold addTo at h0 ⊢
    split at h0
    · simp at h0
    · rename_i h1
      rw [if_neg h1]
      split at h0
      · rename_i h2
        rw [if_pos h2]
        have := always_holds (b := b) hc0 hm h2
        simp [this]
      · rename_i h2
        rw [if_neg h2]
        split at h0
        · simp at h0
        · rename_i h3
          rw [if_neg h3]
          simp only [List.mem_append, List.mem_singleton, or_imp, forall_and, forall_eq]
          rw [holdsB_mask hc0]
theorem kept_ok (hL : ∀ c, c ∈ L → Lits c) (k : Nat) : k ≤ L.length → (∀ m, m ∈ keptTo L k → m < 2 ^ 24 ∧ alwaysMask m = false) ∧ sizes (keptTo L k) ≤ 400 := by
  induction k with
  | zero => intro _; simp [keptTo, sizes]
  | succ k ih =>
    intro hk
    have hk' : k < L.length := by omega
    obtain ⟨i1, i2⟩ := ih (by omega)
    have hl := hL L[k] (List.getElem_mem hk')
    have hm : Sp.maskOf L[k] < 2 ^ 24 := Sp.maskOf_lt _ (fun y hy => (hl y hy).2)
    rw [keptTo_succ L k hk']
    unfold addTo
    split
    · exact ⟨i1, i2⟩
    · split
      · exact ⟨i1, i2⟩
      · rename_i h2
        split
        · exact ⟨i1, i2⟩
        · rename_i h3
          refine ⟨fun m hmm => ?_, by rw [sizes_snoc]; omega⟩
          rcases List.mem_append.1 hmm with hmm | hmm
          · exact i1 m hmm
          · simp at hmm
            subst hmm
            exact ⟨hm, by simpa using h2⟩
theorem kept_small (hL : ∀ c, c ∈ L → Lits c ∧ c.length ≤ 3) (k : Nat) : k ≤ L.length → sizes (keptTo L k) ≤ 3 * k := by
  induction k with
  | zero => intro _; simp [keptTo, sizes]
  | succ k ih =>
    intro hk
    have hk' : k < L.length := by omega
    have ih := ih (by omega)
    have h3 := (hL L[k] (List.getElem_mem hk')).2
    have := litsMask_len L[k]
    rw [keptTo_succ L k hk']
    unfold addTo
    split
    · show sizes (keptTo L k) ≤ _; omega
    · split
      · show sizes (keptTo L k) ≤ _; omega
      · split
        · show sizes (keptTo L k) ≤ _; omega
        · rw [sizes_snoc]; omega
theorem kept_adds (hL : ∀ c, c ∈ L → Lits c ∧ c.length ≤ 3) (hl : L.length ≤ 100) : ∀ k (h : k < L.length), (addTo (keptTo L k) L[k]).1 = 0 := by
  intro k hk
  have h1 := kept_small hL k (by omega)
  have h2 := hL L[k] (List.getElem_mem hk)
  have h3 := litsMask_len L[k]
  have hall : allInt L[k] = true := by
    rw [allInt, List.all_eq_true]
    exact fun x hx => isLit_iff.2 (h2.1 x hx)
  unfold addTo
  rw [if_neg (by rw [hall]; simp)]
  split
  · rfl
  · rw [if_neg (by omega)]
end

section
variable {base x : Nat} {kv pv vm vc : Value} {ms : List Nat} {pb : List UInt8} {A : List Int} {B kind cf : Int} {w w' : World}
/-- No model. -/
theorem SolveRes.noModel (h : SolveRes base x kv ms pv pb A B w kind vm vc cf w') (hA : ∀ y, y ∈ A → y ≠ 0) (hk : kind = 2) (b : Nat) (hG : ∀ g, g ∈ ms → holdsB b g) : ∃ y, y ∈ A ∧ tru b y = false := by
  obtain ⟨S, D, pv', core, -, hch, -, -, -, -, h6⟩ := h
  rcases h6 with ⟨h1, -⟩ | ⟨-, -, ⟨p, rfl⟩, -, hf⟩ | ⟨h1, -⟩
  · omega
  · have := fol_ent hf (b := b) (fun c hc => (List.mem_append.1 hc).elim (hG c) (hch.ent hG c))
    have hne : ∀ y, y ∈ (A.filter p).map (fun x => -x) → y ≠ 0 := fun y hy => by
      obtain ⟨z, hz, rfl⟩ := List.mem_map.1 hy
      have := hA z (List.mem_filter.1 hz).1
      omega
    obtain ⟨y, hy, ht⟩ := holds_iff.1 ((holdsB_mask hne).1 this)
    obtain ⟨z, hz, rfl⟩ := List.mem_map.1 hy
    have hzA := (List.mem_filter.1 hz).1
    rw [tru_neg b (hA z hzA)] at ht
    exact ⟨z, hzA, by simpa using ht⟩
  · omega
/-- A verdict without a budget. -/
theorem SolveRes.two (h : SolveRes base x kv ms pv pb A 0 w kind vm vc cf w') (hA : ∀ y, y ∈ A → y ≠ 0) : (kind = 1 ∧ vc = .slice none 0 0 ∧ ∃ b, b < 4096 ∧ (∀ x, x ∈ A → tru b x = true) ∧ (∀ g, g ∈ ms → holdsB b g) ∧ w'.ownsRow w.heap.size 3 1 vm 12 (ints (modelOf b))) ∨ (kind = 2 ∧ vm = .slice none 0 0 ∧ ∀ b, (∀ g, g ∈ ms → holdsB b g) → ∃ y, y ∈ A ∧ tru b y = false) := by
  have h0 := h
  obtain ⟨S, D, pv', core, -, hch, -, -, -, -, h6⟩ := h
  rcases h6 with h1 | ⟨h1, h2, -⟩ | ⟨-, -, -, h1, -⟩
  · exact .inl h1
  · exact .inr ⟨h1, h2, fun b hG => h0.noModel hA h1 b hG⟩
  · omega
end

end Go.Proofs.YtekkkoipcghlmabGreatDoor

namespace Go.Proofs.YtekkkoipcghlmabGreatDoor
open Go.RowKit

theorem ret_lt {n : Nat} {a : Int} (h0 : 0 ≤ a) (h1 : a < n) : ∃ d : Nat, d < n ∧ Ending.returned (.int .i64 a) = .returned (.int .i64 d) := ⟨a.toNat, by omega, by rw [Int.toNat_of_nonneg h0]⟩
theorem pickK_any (c : Int) (n : Nat) (w : World) (h0 : -9223372036854775808 ≤ c) (h1 : c ≤ 9223372036854775807) (hn : 0 < n) (hn4 : n ≤ 1000) :
    Calls Tryz.prog 6 #[.int .i64 c, .int .i64 n] w fun e w' => (∃ d : Nat, d < n ∧ e = .returned (.int .i64 d)) ∧ w' = w := by
  by_cases hc : c < 0
  · go_enter Tryz.func6, Tryz.ntmps6
    go_wp2
    go_ret
    have e1 : -(c + 1).tmod (n : Int) = (-(c + 1)) % (n : Int) := by rw [← Int.neg_tmod, Int.tmod_eq_emod_of_nonneg (by omega)]
    exact ⟨ret_lt (a := -(c + 1).tmod (n : Int)) (by rw [e1]; exact Int.emod_nonneg _ (by omega)) (by rw [e1]; exact Int.emod_lt_of_pos _ (by omega)), rfl⟩
  · go_enter Tryz.func6, Tryz.ntmps6
    go_wp2
    go_ret
    exact ⟨ret_lt (a := c % (n : Int)) (Int.emod_nonneg _ (by omega)) (Int.emod_lt_of_pos _ (by omega)), rfl⟩

set_option maxRecDepth 100000 in
set_option maxHeartbeats 1600000 in
theorem literalK_any (c : Int) (n : Nat) (w : World) (h0 : -9223372036854775808 ≤ c) (h1 : c ≤ 9223372036854775807) (hn : 0 < n) (hn4 : n ≤ 12) :
    Calls Tryz.prog 23 #[.int .i64 c, .int .i64 n] w fun e w' => (∃ x : Int, (x ≠ 0 ∧ -(n : Int) ≤ x ∧ x ≤ n) ∧ e = .returned (.int .i64 x)) ∧ w' = w := by
  have H1 := hide (pickK_any c n w h0 h1 hn (by omega))
  have hq : -9223372036854775808 ≤ c.tdiv 64 ∧ c.tdiv 64 ≤ 9223372036854775807 := by
    have e : c.tdiv 64 = if 0 ≤ c then c / 64 else -((-c) / 64) := by
      split
      · exact Int.tdiv_eq_ediv_of_nonneg (by omega)
      · rw [← Int.neg_neg (c.tdiv 64), ← Int.neg_tdiv, Int.tdiv_eq_ediv_of_nonneg (by omega)]
    rw [e]; split <;> omega
  have H2 : Hid (Calls Tryz.prog 6 #[.int .i64 (c.tdiv 64), .int .i64 2] w fun e w' => (∃ d : Nat, d < 2 ∧ e = .returned (.int .i64 d)) ∧ w' = w) := hide (pickK_any (c.tdiv 64) 2 w hq.1 hq.2 (by decide) (by decide))
  go_enter Tryz.func23, Tryz.ntmps23
  go_wp2_with fail
  refine (unhide H1).mono ?_
  rintro e w1 ⟨⟨d, hd, rfl⟩, rfl⟩
  go_wp2_with fail
  refine (unhide H2).mono ?_
  rintro e w2 ⟨⟨d2, hd2, rfl⟩, rfl⟩
  by_cases h2 : d2 = 1
  · subst h2
    go_wp2
    go_ret
    exact ⟨⟨-(1 + (d : Int)), ⟨by omega, by omega, by omega⟩, rfl⟩, rfl⟩
  · have hz : d2 = 0 := by omega
    subst hz
    go_wp2
    go_ret
    exact ⟨⟨1 + (d : Int), ⟨by omega, by omega, by omega⟩, rfl⟩, rfl⟩

end Go.Proofs.YtekkkoipcghlmabGreatDoor

namespace Go.Proofs.YtekkkoipcghlmabGreatDoor
open Go.RowKit

def In (n : Nat) (xs : List Int) : Prop := ∀ x, x ∈ xs → x ≠ 0 ∧ -(n : Int) ≤ x ∧ x ≤ n
theorem In.snoc {n : Nat} {xs : List Int} {x : Int} (h : In n xs) (hx : x ≠ 0 ∧ -(n : Int) ≤ x ∧ x ≤ n) : In n (xs ++ [x]) := fun y hy => by
  rcases List.mem_append.1 hy with hy | hy
  · exact h y hy
  · simp at hy; subst hy; exact hx
def Fits (zs : List Int) : Prop := ∀ z, z ∈ zs → -9223372036854775808 ≤ z ∧ z ≤ 9223372036854775807

set_option maxRecDepth 100000 in
set_option maxHeartbeats 800000 in
theorem someK_any (v : Value) (zs : List Int) (n most : Nat) (w : World) (hl : zs.length ≤ 9223372036854775807) (hf : Fits zs) (hn : 0 < n) (hn12 : n ≤ 12) (hm : most ≤ 12) (hv : Lies w v (ints zs)) :
    Calls Tryz.prog 12 #[v, .int .i64 n, .int .i64 most] w fun e w' => ∃ v' xs, e = .returned v' ∧ w'.ownsRow w.heap.size 3 1 v' xs.length (ints xs) ∧ xs.length ≤ most ∧ In n xs ∧ Below w.heap.size w w' := by
  obtain ⟨ao, cap, hsh⟩ : ∃ ao cap, v = .slice ao zs.length cap := by
    have := lies_shape hv
    simpa [ints] using this
  subst hsh
  have HV := hide hv
  clear hv
  go_enter Tryz.func12, Tryz.ntmps12
  go_wp2
  go_loopw [7, 8] (fun o i wr => ∃ (k : Nat) (xs : List Int), k ≤ most ∧ k ≤ zs.length ∧ i = .int .i64 k ∧ wr.ownsRow w.heap.size 3 1 o xs.length (ints xs) ∧ xs.length = k ∧ Hid (In n xs) ∧ Below w.heap.size w wr) (fun _ i _ => most - (intOf i).toNat)
  case atStart => exact ⟨0, [], Nat.zero_le _, Nat.zero_le _, rfl, World.ownsRow_nil _ _ _ _, rfl, hide (fun x hx => by cases hx), Below.refl _ _⟩
  case round =>
    obtain ⟨k, xs, hkm, hkz, rfl, hown, hxk, HI, hbel⟩ := hrel
    by_cases hlt : k < zs.length ∧ k < most
    · obtain ⟨h1, h2⟩ := hlt
      have hlw := (unhide HV).below hbel
      rcases hlw with ⟨h0, _⟩ | ⟨b, off, cap', hp, hvv, hbb, hc⟩
      · exfalso; have := congrArg List.length h0; simp [ints] at this; rw [this] at h1; simp at h1
      · simp only [Value.slice.injEq] at hvv
        obtain ⟨rfl, -, rfl⟩ := hvv
        have hcell := hc k (.int .i64 zs[k]) (by simp [ints, h1])
        have hfz := hf zs[k] (List.getElem_mem h1)
        generalize zs[k] = z at hcell hfz
        have HLI := hide (literalK_any z n wr hfz.1 hfz.2 hn hn12)
        clear hc
        go_wp2_with fail
        refine (unhide HLI).mono ?_
        rintro e w1 ⟨⟨x, hx, rfl⟩, rfl⟩
        have HX := hide hx
        clear hx
        go_wp2_with (at_builtin; refine append_one rfl _ _ 22 3 rfl Tryz.underlying22 Tryz.infoIntW rfl (by decide) hown rfl rfl rfl (by omega) (Nat.le_refl _) hbel ?_; intro v' w3 hown' hbel' _)
        go_roundw
        case rel => exact ⟨k + 1, xs ++ [x], by omega, by omega, by go_num, by simpa [ints] using hown', by simp [hxk], hide ((unhide HI).snoc (unhide HX)), hbel'⟩
        case measure => simp [intOf]; omega
    · by_cases h1 : k < zs.length
      · have h2 : ¬ k < most := fun h => hlt ⟨h1, h⟩
        go_wp2
        go_ret
        exact ⟨_, xs, rfl, hown, by omega, unhide HI, hbel⟩
      · go_wp2
        go_ret
        exact ⟨_, xs, rfl, hown, by omega, unhide HI, hbel⟩

set_option maxRecDepth 100000 in
set_option maxHeartbeats 800000 in
theorem lineK_any (v : Value) (xs : List Int) (w : World) (hl : xs.length ≤ 100) (hx : ∀ x, x ∈ xs → x ≠ 0 ∧ -12 ≤ x ∧ x ≤ 12) (hv : Lies w v (ints xs)) (he : EnvT w) :
    Calls Tryz.prog 37 #[v] w fun e w' => e = .returned (.string (bs (Sp.told xs))) ∧ Below w.heap.size w w' := by
  rcases hv with ⟨h0, ao, cap, rfl⟩ | ⟨b, off, cap, hp, rfl, hb, hc⟩
  · have hx0 : xs = [] := by simpa [ints] using h0
    subst hx0
    have hadd := fun wx => add_bs (P := Tryz.prog) [] [10] (by simp) wx
    go_enter Tryz.func37, Tryz.ntmps37
    go_wp2
    refine wp_loop_rounds 1 ?_
    rw [rounds_succ]
    go_wp2
    go_ret
    exact ⟨rfl, Below.refl _ _⟩
  · have hlen : (ints xs).length = xs.length := by simp [ints]
    rw [hlen] at hp ⊢
    go_enter Tryz.func37, Tryz.ntmps37
    go_wp2
    go_loopw [3, 4] (fun s i wr => ∃ k : Nat, k ≤ xs.length ∧ i = .int .i64 k ∧ s = .string (bs (Sp.toldBody (xs.take k))) ∧ Below w.heap.size w wr) (fun _ i _ => xs.length - (intOf i).toNat)
    case atStart => exact ⟨0, Nat.zero_le _, rfl, rfl, Below.refl _ _⟩
    case round =>
      obtain ⟨k, hk, rfl, rfl, hbel⟩ := hrel
      have hbl := toldBody_len (xs.take k)
      have hbl2 : (xs.take k).length ≤ k := List.length_take_le _ _
      by_cases hlt : k < xs.length
      · have hcell : wr.cell? ⟨b, off + k, none⟩ = some (.int .i64 xs[k]) := (hbel.cell (p := ⟨b, off + k, none⟩) hb).trans (hc k (.int .i64 xs[k]) (by simp [ints, hlt]))
        have hxx := hx xs[k] (List.getElem_mem hlt)
        have HS : Hid (xs.take (k + 1) = xs.take k ++ [xs[k]]) := hide (List.take_succ_eq_append_getElem hlt)
        have HS2 := hide (toldBody_snoc (xs.take k) xs[k])
        have HE : Hid (xs.take k = [] ↔ k = 0) := hide (take_nil_iff hlt)
        generalize xs[k] = x at hcell HS HS2 hxx
        have hlwl : (Sp.lw x).length ≤ 3 := by
          unfold Sp.lw
          have := digs_len x.natAbs
          split
          · simp; omega
          · omega
        have HIT := hide (fun wx (hx : Below w.heap.size w wx) => itoa_any x (by omega) (by omega) wx (he.below hx))
        rw [Sp.itoa_lw _ hxx.1 hxx.2.1 hxx.2.2] at HIT
        generalize htb : Sp.toldBody (xs.take k) = tb at HS2 hbl ⊢
        have HB := hide htb.symm
        clear htb
        clear hc hx
        generalize Sp.lw x = lx at *
        by_cases hk0 : 0 < k
        · have ha0 : ∀ wx, (Op.stringOp .add (bs tb) ⟨#[32]⟩).run Tryz.prog wx = .ok (.string (bs (tb ++ [32]))) wx := fun wx => add_bs tb [32] (by simp; omega) wx
          have ha2 := fun wx => add_bs (P := Tryz.prog) (tb ++ [32]) lx (by simp; omega) wx
          go_wp2_with fail
          refine (unhide HIT _ hbel).mono ?_
          rintro e w1 ⟨rfl, hb1⟩
          go_wp2
          go_roundw
          case rel => exact ⟨k + 1, by omega, by go_num, by rw [unhide HS, unhide HS2, if_neg (fun h => absurd ((unhide HE).1 h) (by omega))], hbel.trans (hb1.mono hbel.size)⟩
          case measure => simp [intOf]; omega
        · have HZ : Hid (tb = []) := hide (by
            have := (unhide HE).2 (by omega)
            rw [unhide HB, this]; rfl)
          have ha2 := fun wx => add_bs (P := Tryz.prog) tb lx (by omega) wx
          have hkz : ¬ (0 : Int) < (k : Int) := by omega
          go_wp2_with fail
          refine (unhide HIT _ hbel).mono ?_
          rintro e w1 ⟨rfl, hb1⟩
          go_wp2
          go_roundw
          case rel => exact ⟨k + 1, by omega, by go_num, by rw [unhide HS, unhide HS2, if_pos ((unhide HE).2 (by omega)), unhide HZ]; rfl, hbel.trans (hb1.mono hbel.size)⟩
          case measure => simp [intOf]; omega
      · have HT : Hid (xs.take k = xs) := hide (List.take_of_length_le (by omega))
        have ha : ∀ wx, (Op.stringOp .add (bs (Sp.toldBody (xs.take k))) ⟨#[10]⟩).run Tryz.prog wx = .ok (.string (bs (Sp.toldBody (xs.take k) ++ [10]))) wx := fun wx => add_bs (P := Tryz.prog) (Sp.toldBody (xs.take k)) [10] (by simp; omega) wx
        generalize htb : Sp.toldBody (xs.take k) = tb at ha ⊢
        have HB := hide htb.symm
        clear htb
        go_wp2
        go_ret
        exact ⟨by rw [unhide HB, unhide HT]; rfl, hbel⟩

end Go.Proofs.YtekkkoipcghlmabGreatDoor
