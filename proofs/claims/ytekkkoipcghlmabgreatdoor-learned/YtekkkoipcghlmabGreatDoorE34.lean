import Derived.Test.YtekkkoipcghlmabGreatDoorE33
import Derived.Test.YtekkkoipcghlmabGreatDoorE29
import Derived.Deep.AppendLies
import Derived.Deep.RegionWith
import Derived.Deep.QuietTactic
import Derived.BigQuiet
import Derived.Test.YtekkkoipcghlmabGreatDoorE30
set_option linter.all false
namespace Go.Proofs.YtekkkoipcghlmabGreatDoor
open Go.RowKit

theorem litAt_bitIx {x : Int} (h : x ≠ 0) : Sp.litAt (Sp.bitIx x) = x := by
  unfold Sp.litAt Sp.bitIx
  by_cases hp : 0 < x
  · rw [if_pos hp, if_pos (by omega)]; omega
  · rw [if_neg hp, if_neg (by omega)]; omega
theorem mask_lit {c : List Int} (hc : ∀ x, x ∈ c → x ≠ 0) {i : Nat} (h : (Sp.maskOf c).testBit i = true) : Sp.litAt i ∈ c := by
  unfold Sp.maskOf at h
  rw [Sp.maskFrom_testBit] at h
  simp only [Nat.zero_testBit, Bool.false_or, List.any_eq_true] at h
  obtain ⟨x, hx, hi⟩ := h
  have : Sp.bitIx x = i := by simpa using hi
  rw [← this, litAt_bitIx (hc x hx)]
  exact hx
theorem holdsB_mask {b : Nat} {c : List Int} (hc : ∀ x, x ∈ c → x ≠ 0) : holdsB b (Sp.maskOf c) ↔ holdsOf b c = true := by
  refine ⟨fun h => ?_, holds_mask hc⟩
  obtain ⟨i, h1, h2⟩ := h
  exact holds_iff.2 ⟨_, mask_lit hc h1, h2⟩
theorem always_holds {b : Nat} {c : List Int} (hc : ∀ x, x ∈ c → x ≠ 0) (hm : Sp.maskOf c < 2 ^ 24) (h : alwaysMask (Sp.maskOf c) = true) : holdsOf b c = true := by
  obtain ⟨i, h1, h2⟩ := (alwaysMask_iff hm).1 h
  have m1 := mask_lit hc h1
  have m2 := mask_lit hc h2
  rw [Sp.litAt_opp] at m2
  rw [holds_iff]
  cases ht : tru b (Sp.litAt i)
  · exact ⟨_, m2, by rw [tru_neg b (litAt_ne i), ht]; rfl⟩
  · exact ⟨_, m1, ht⟩

theorem filter_or_len (p : Nat → Bool) (j : Nat) : ∀ l : List Nat, l.Nodup → (l.filter (fun i => p i || i == j)).length ≤ (l.filter p).length + 1 := by
  intro l
  induction l with
  | nil => intro _; simp
  | cons a l ih =>
    intro h
    rw [List.nodup_cons] at h
    by_cases ha : a = j
    · subst ha
      have hsame : l.filter (fun i => p i || i == a) = l.filter p := List.filter_congr (fun x hx => by
        have : (x == a) = false := by
          rw [beq_eq_false_iff_ne]
          exact fun e => h.1 (e ▸ hx)
        rw [this, Bool.or_false])
      rw [List.filter_cons, List.filter_cons, hsame]
      cases p a <;> simp
    · have hb : (a == j) = false := by simpa using ha
      have := ih h.2
      rw [List.filter_cons, List.filter_cons, hb, Bool.or_false]
      cases p a
      · simpa using this
      · simpa using this
theorem litsMask_len (c : List Int) : (Sp.litsOf (Sp.maskOf c)).length ≤ c.length := by
  have : ∀ n, (Sp.litsOf (Sp.maskOf (c.take n))).length ≤ n := by
    intro n
    induction n with
    | zero => simp [Sp.maskOf, Sp.litsOf]
    | succ n ih =>
      rcases Nat.lt_or_ge n c.length with hn | hn
      · rw [List.take_succ_eq_append_getElem hn]
        have e : Sp.maskOf (c.take n ++ [c[n]]) = Sp.maskOf (c.take n) ||| 2 ^ Sp.bitIx c[n] := by
          unfold Sp.maskOf Sp.bit
          rw [List.foldl_append]
          rfl
        rw [e]
        unfold Sp.litsOf at ih ⊢
        rw [List.length_map] at ih ⊢
        have e2 : (fun i => (Sp.maskOf (c.take n) ||| 2 ^ Sp.bitIx c[n]).testBit i) = fun i => (Sp.maskOf (c.take n)).testBit i || i == Sp.bitIx c[n] := by
          funext i
          rw [Nat.testBit_or, Nat.testBit_two_pow]
          congr 1
          by_cases hh : Sp.bitIx c[n] = i
          · subst hh; simp
          · have : (i == Sp.bitIx c[n]) = false := by rw [beq_eq_false_iff_ne]; exact fun e => hh e.symm
            rw [this]
            simpa using hh
        rw [e2]
        have := filter_or_len (fun i => (Sp.maskOf (c.take n)).testBit i) (Sp.bitIx c[n]) (List.range 24) List.nodup_range
        omega
      · rw [List.take_of_length_le hn] at ih
        rw [List.take_of_length_le (by omega)]
        omega
  have := this c.length
  rwa [List.take_length] at this

section
variable {L : List (List Int)}
/-- Whether all clauses hold, by those that are kept. -/
theorem kept_all (hL : ∀ c, c ∈ L → Lits c) (hok : ∀ k (h : k < L.length), (addTo (keptTo L k) L[k]).1 = 0) (b : Nat) : ∀ k, k ≤ L.length → ((∀ g, g ∈ keptTo L k → holdsB b g) ↔ ∀ c, c ∈ L.take k → holdsOf b c = true) := by
  intro k
  induction k with
  | zero => intro _; simp [keptTo]
  | succ k ih =>
    intro hk
    have hk' : k < L.length := by omega
    have ih := ih (by omega)
    have h0 := hok k hk'
    have hl := hL L[k] (List.getElem_mem hk')
    have hc0 : ∀ x, x ∈ L[k] → x ≠ 0 := fun x hx => (hl x hx).1
    have hm : Sp.maskOf L[k] < 2 ^ 24 := Sp.maskOf_lt _ (fun y hy => (hl y hy).2)
    rw [keptTo_succ L k hk', List.take_succ_eq_append_getElem hk']
    have hsplit : (∀ c, c ∈ L.take k ++ [L[k]] → holdsOf b c = true) ↔ (∀ c, c ∈ L.take k → holdsOf b c = true) ∧ holdsOf b L[k] = true := by
      constructor
      · exact fun h => ⟨fun c hc => h c (List.mem_append_left _ hc), h _ (List.mem_append_right _ (List.mem_singleton.2 rfl))⟩
      · rintro ⟨h1, h2⟩ c hc
        rcases List.mem_append.1 hc with hc | hc
        · exact h1 c hc
        · rw [List.mem_singleton.1 hc]; exact h2
    rw [hsplit, ← ih]
    unfold addTo at h0 ⊢
    split at h0
    · simp at h0
    · rename_i h1
      rw [if_neg h1]
      split at h0
      · rename_i h2
        rw [if_pos h2]
        have := always_holds (b := b) hc0 hm h2
        simp [this]
      · rename_i h2
        rw [if_neg h2]
        split at h0
        · simp at h0
        · rename_i h3
          rw [if_neg h3]
          simp only [List.mem_append, List.mem_singleton, or_imp, forall_and, forall_eq]
          rw [holdsB_mask hc0]
theorem kept_ok (hL : ∀ c, c ∈ L → Lits c) (k : Nat) : k ≤ L.length → (∀ m, m ∈ keptTo L k → m < 2 ^ 24 ∧ alwaysMask m = false) ∧ sizes (keptTo L k) ≤ 400 := by
  induction k with
  | zero => intro _; simp [keptTo, sizes]
  | succ k ih =>
    intro hk
    have hk' : k < L.length := by omega
    obtain ⟨i1, i2⟩ := ih (by omega)
    have hl := hL L[k] (List.getElem_mem hk')
    have hm : Sp.maskOf L[k] < 2 ^ 24 := Sp.maskOf_lt _ (fun y hy => (hl y hy).2)
    rw [keptTo_succ L k hk']
    unfold addTo
    split
    · exact ⟨i1, i2⟩
    · split
      · exact ⟨i1, i2⟩
      · rename_i h2
        split
        · exact ⟨i1, i2⟩
        · rename_i h3
          refine ⟨fun m hmm => ?_, by rw [sizes_snoc]; omega⟩
          rcases List.mem_append.1 hmm with hmm | hmm
          · exact i1 m hmm
          · simp at hmm
            subst hmm
            exact ⟨hm, by simpa using h2⟩
theorem kept_small (hL : ∀ c, c ∈ L → Lits c ∧ c.length ≤ 3) (k : Nat) : k ≤ L.length → sizes (keptTo L k) ≤ 3 * k := by
  induction k with
  | zero => intro _; simp [keptTo, sizes]
  | succ k ih =>
    intro hk
    have hk' : k < L.length := by omega
    have ih := ih (by omega)
    have h3 := (hL L[k] (List.getElem_mem hk')).2
    have := litsMask_len L[k]
    rw [keptTo_succ L k hk']
    unfold addTo
    split
    · show sizes (keptTo L k) ≤ _; omega
    · split
      · show sizes (keptTo L k) ≤ _; omega
      · split
        · show sizes (keptTo L k) ≤ _; omega
        · rw [sizes_snoc]; omega
theorem kept_adds (hL : ∀ c, c ∈ L → Lits c ∧ c.length ≤ 3) (hl : L.length ≤ 100) : ∀ k (h : k < L.length), (addTo (keptTo L k) L[k]).1 = 0 := by
  intro k hk
  have h1 := kept_small hL k (by omega)
  have h2 := hL L[k] (List.getElem_mem hk)
  have h3 := litsMask_len L[k]
  have hall : allInt L[k] = true := by
    rw [allInt, List.all_eq_true]
    exact fun x hx => isLit_iff.2 (h2.1 x hx)
  unfold addTo
  rw [if_neg (by rw [hall]; simp)]
  split
  · rfl
  · rw [if_neg (by omega)]
end

section
variable {base x : Nat} {kv pv vm vc : Value} {ms : List Nat} {pb : List UInt8} {A : List Int} {B kind cf : Int} {w w' : World}
/-- No model. -/
theorem SolveRes.noModel (h : SolveRes base x kv ms pv pb A B w kind vm vc cf w') (hA : ∀ y, y ∈ A → y ≠ 0) (hk : kind = 2) (b : Nat) (hG : ∀ g, g ∈ ms → holdsB b g) : ∃ y, y ∈ A ∧ tru b y = false := by
  obtain ⟨S, D, pv', core, -, hch, -, -, -, -, h6⟩ := h
  rcases h6 with ⟨h1, -⟩ | ⟨-, -, ⟨p, rfl⟩, -, hf⟩ | ⟨h1, -⟩
  · omega
  · have := fol_ent hf (b := b) (fun c hc => (List.mem_append.1 hc).elim (hG c) (hch.ent hG c))
    have hne : ∀ y, y ∈ (A.filter p).map (fun x => -x) → y ≠ 0 := fun y hy => by
      obtain ⟨z, hz, rfl⟩ := List.mem_map.1 hy
      have := hA z (List.mem_filter.1 hz).1
      omega
    obtain ⟨y, hy, ht⟩ := holds_iff.1 ((holdsB_mask hne).1 this)
    obtain ⟨z, hz, rfl⟩ := List.mem_map.1 hy
    have hzA := (List.mem_filter.1 hz).1
    rw [tru_neg b (hA z hzA)] at ht
    exact ⟨z, hzA, by simpa using ht⟩
  · omega
/-- A verdict without a budget. -/
theorem SolveRes.two (h : SolveRes base x kv ms pv pb A 0 w kind vm vc cf w') (hA : ∀ y, y ∈ A → y ≠ 0) : (kind = 1 ∧ vc = .slice none 0 0 ∧ ∃ b, b < 4096 ∧ (∀ x, x ∈ A → tru b x = true) ∧ (∀ g, g ∈ ms → holdsB b g) ∧ w'.ownsRow w.heap.size 3 1 vm 12 (ints (modelOf b))) ∨ (kind = 2 ∧ vm = .slice none 0 0 ∧ ∀ b, (∀ g, g ∈ ms → holdsB b g) → ∃ y, y ∈ A ∧ tru b y = false) := by
  have h0 := h
  obtain ⟨S, D, pv', core, -, hch, -, -, -, -, h6⟩ := h
  rcases h6 with h1 | ⟨h1, h2, -⟩ | ⟨-, -, -, h1, -⟩
  · exact .inl h1
  · exact .inr ⟨h1, h2, fun b hG => h0.noModel hA h1 b hG⟩
  · omega
end

end Go.Proofs.YtekkkoipcghlmabGreatDoor

namespace Go.Proofs.YtekkkoipcghlmabGreatDoor
open Go.RowKit

theorem ret_lt {n : Nat} {a : Int} (h0 : 0 ≤ a) (h1 : a < n) : ∃ d : Nat, d < n ∧ Ending.returned (.int .i64 a) = .returned (.int .i64 d) := ⟨a.toNat, by omega, by rw [Int.toNat_of_nonneg h0]⟩
theorem pickK_any (c : Int) (n : Nat) (w : World) (h0 : -9223372036854775808 ≤ c) (h1 : c ≤ 9223372036854775807) (hn : 0 < n) (hn4 : n ≤ 1000) :
    Calls Tryz.prog 6 #[.int .i64 c, .int .i64 n] w fun e w' => (∃ d : Nat, d < n ∧ e = .returned (.int .i64 d)) ∧ w' = w := by
  by_cases hc : c < 0
  · go_enter Tryz.func6, Tryz.ntmps6
    go_wp2
    go_ret
    have e1 : -(c + 1).tmod (n : Int) = (-(c + 1)) % (n : Int) := by rw [← Int.neg_tmod, Int.tmod_eq_emod_of_nonneg (by omega)]
    exact ⟨ret_lt (a := -(c + 1).tmod (n : Int)) (by rw [e1]; exact Int.emod_nonneg _ (by omega)) (by rw [e1]; exact Int.emod_lt_of_pos _ (by omega)), rfl⟩
  · go_enter Tryz.func6, Tryz.ntmps6
    go_wp2
    go_ret
    exact ⟨ret_lt (a := c % (n : Int)) (Int.emod_nonneg _ (by omega)) (Int.emod_lt_of_pos _ (by omega)), rfl⟩

set_option maxRecDepth 100000 in
set_option maxHeartbeats 1600000 in
theorem literalK_any (c : Int) (n : Nat) (w : World) (h0 : -9223372036854775808 ≤ c) (h1 : c ≤ 9223372036854775807) (hn : 0 < n) (hn4 : n ≤ 12) :
    Calls Tryz.prog 23 #[.int .i64 c, .int .i64 n] w fun e w' => (∃ x : Int, (x ≠ 0 ∧ -(n : Int) ≤ x ∧ x ≤ n) ∧ e = .returned (.int .i64 x)) ∧ w' = w := by
  have H1 := hide (pickK_any c n w h0 h1 hn (by omega))
  have hq : -9223372036854775808 ≤ c.tdiv 64 ∧ c.tdiv 64 ≤ 9223372036854775807 := by
    have e : c.tdiv 64 = if 0 ≤ c then c / 64 else -((-c) / 64) := by
      split
      · exact Int.tdiv_eq_ediv_of_nonneg (by omega)
      · rw [← Int.neg_neg (c.tdiv 64), ← Int.neg_tdiv, Int.tdiv_eq_ediv_of_nonneg (by omega)]
    rw [e]; split <;> omega
  have H2 : Hid (Calls Tryz.prog 6 #[.int .i64 (c.tdiv 64), .int .i64 2] w fun e w' => (∃ d : Nat, d < 2 ∧ e = .returned (.int .i64 d)) ∧ w' = w) := hide (pickK_any (c.tdiv 64) 2 w hq.1 hq.2 (by decide) (by decide))
  go_enter Tryz.func23, Tryz.ntmps23
  go_wp2_with fail
  refine (unhide H1).mono ?_
  rintro e w1 ⟨⟨d, hd, rfl⟩, rfl⟩
  go_wp2_with fail
  refine (unhide H2).mono ?_
  rintro e w2 ⟨⟨d2, hd2, rfl⟩, rfl⟩
  by_cases h2 : d2 = 1
  · subst h2
    go_wp2
    go_ret
    exact ⟨⟨-(1 + (d : Int)), ⟨by omega, by omega, by omega⟩, rfl⟩, rfl⟩
  · have hz : d2 = 0 := by omega
    subst hz
    go_wp2
    go_ret
    exact ⟨⟨1 + (d : Int), ⟨by omega, by omega, by omega⟩, rfl⟩, rfl⟩

end Go.Proofs.YtekkkoipcghlmabGreatDoor

namespace Go.Proofs.YtekkkoipcghlmabGreatDoor
open Go.RowKit

def In (n : Nat) (xs : List Int) : Prop := ∀ x, x ∈ xs → x ≠ 0 ∧ -(n : Int) ≤ x ∧ x ≤ n
theorem In.snoc {n : Nat} {xs : List Int} {x : Int} (h : In n xs) (hx : x ≠ 0 ∧ -(n : Int) ≤ x ∧ x ≤ n) : In n (xs ++ [x]) := fun y hy => by
  rcases List.mem_append.1 hy with hy | hy
  · exact h y hy
  · simp at hy; subst hy; exact hx
def Fits (zs : List Int) : Prop := ∀ z, z ∈ zs → -9223372036854775808 ≤ z ∧ z ≤ 9223372036854775807

set_option maxRecDepth 100000 in
set_option maxHeartbeats 800000 in
theorem someK_any (v : Value) (zs : List Int) (n most : Nat) (w : World) (hl : zs.length ≤ 9223372036854775807) (hf : Fits zs) (hn : 0 < n) (hn12 : n ≤ 12) (hm : most ≤ 12) (hv : Lies w v (ints zs)) :
    Calls Tryz.prog 12 #[v, .int .i64 n, .int .i64 most] w fun e w' => ∃ v' xs, e = .returned v' ∧ w'.ownsRow w.heap.size 3 1 v' xs.length (ints xs) ∧ xs.length ≤ most ∧ In n xs ∧ Below w.heap.size w w' := by
  obtain ⟨ao, cap, hsh⟩ : ∃ ao cap, v = .slice ao zs.length cap := by
    have := lies_shape hv
    simpa [ints] using this
  subst hsh
  have HV := hide hv
  clear hv
  go_enter Tryz.func12, Tryz.ntmps12
  go_wp2
  go_loopw [7, 8] (fun o i wr => ∃ (k : Nat) (xs : List Int), k ≤ most ∧ k ≤ zs.length ∧ i = .int .i64 k ∧ wr.ownsRow w.heap.size 3 1 o xs.length (ints xs) ∧ xs.length = k ∧ Hid (In n xs) ∧ Below w.heap.size w wr) (fun _ i _ => most - (intOf i).toNat)
  case atStart => exact ⟨0, [], Nat.zero_le _, Nat.zero_le _, rfl, World.ownsRow_nil _ _ _ _, rfl, hide (fun x hx => by cases hx), Below.refl _ _⟩
  case round =>
    obtain ⟨k, xs, hkm, hkz, rfl, hown, hxk, HI, hbel⟩ := hrel
    by_cases hlt : k < zs.length ∧ k < most
    · obtain ⟨h1, h2⟩ := hlt
      have hlw := (unhide HV).below hbel
      rcases hlw with ⟨h0, _⟩ | ⟨b, off, cap', hp, hvv, hbb, hc⟩
      · exfalso; have := congrArg List.length h0; simp [ints] at this; rw [this] at h1; simp at h1
      · simp only [Value.slice.injEq] at hvv
        obtain ⟨rfl, -, rfl⟩ := hvv
        have hcell := hc k (.int .i64 zs[k]) (by simp [ints, h1])
        have hfz := hf zs[k] (List.getElem_mem h1)
        generalize zs[k] = z at hcell hfz
        have HLI := hide (literalK_any z n wr hfz.1 hfz.2 hn hn12)
        clear hc
        go_wp2_with fail
        refine (unhide HLI).mono ?_
        rintro e w1 ⟨⟨x, hx, rfl⟩, rfl⟩
        have HX := hide hx
        clear hx
        go_wp2_with (at_builtin; refine append_one rfl _ _ 22 3 rfl Tryz.underlying22 Tryz.infoIntW rfl (by decide) hown rfl rfl rfl (by omega) (Nat.le_refl _) hbel ?_; intro v' w3 hown' hbel' _)
        go_roundw
        case rel => exact ⟨k + 1, xs ++ [x], by omega, by omega, by go_num, by simpa [ints] using hown', by simp [hxk], hide ((unhide HI).snoc (unhide HX)), hbel'⟩
        case measure => simp [intOf]; omega
    · by_cases h1 : k < zs.length
      · have h2 : ¬ k < most := fun h => hlt ⟨h1, h⟩
        go_wp2
        go_ret
        exact ⟨_, xs, rfl, hown, by omega, unhide HI, hbel⟩
      · go_wp2
        go_ret
        exact ⟨_, xs, rfl, hown, by omega, unhide HI, hbel⟩

end Go.Proofs.YtekkkoipcghlmabGreatDoor

namespace Go.Proofs.YtekkkoipcghlmabGreatDoor
open Go.RowKit

theorem append_cellS {P : Program} {ops : Array Oper} {rest : List Oper} {o : Oper} {a : Act} {Q : Exit → Act → World → Prop} {w1 : World} {base n bytes : Nat} {v val z : Value} {xs : List Value} {tt : TypeId}
    (hgd : o.guard = none) (s x : Operand) (t e : TypeId) (ho : o.op = .call { callee := .builtin .append, args := #[s, x], argTypes := #[t, t] })
    (ht : P.underlying t = some (.slice e)) (hinfo : (P.info? e).map (fun i => (i.zero, i.size, i.bytes)) = some (some z, 1, bytes)) (hzs : z.cells.size = 1) (hby : bytes ≤ 24)
    (hown : w1.ownsRow base e 1 v n xs) (hs : a.eval s = v) (hx : a.eval x = .slice (some ⟨w1.heap.size, 0, none⟩) 1 1) (h1 : val.oneCell' = true) (hn : n ≤ 20000000) (hbase : base ≤ w1.heap.size)
    (h : ∀ (g cap : Nat) (w' : World), w'.ownsRow base e 1 (.slice (some ⟨g, 0, none⟩) (n + 1) cap) (n + 1) (xs ++ [val]) → (w1.alloc (.cells #[val] tt)).grownBy w' v.ownBlock → (v.ownBlock = some g ∨ g = (w1.alloc (.cells #[val] tt)).heap.size) → wpList P ops Q rest (a.put o.dst (.slice (some ⟨g, 0, none⟩) (n + 1) cap)) w') :
    wpList P ops Q (o :: rest) a (w1.alloc (.cells #[val] tt)) := by
  obtain ⟨i0, hi0, hz0, hz1, hz2⟩ := info_parts hinfo
  have hnb : (n + 1) * bytes ≤ 140737488355328 := Nat.le_trans (Nat.mul_le_mul (Nat.add_le_add_right hn 1) hby) (by omega)
  refine wpList_append_lies (P := P) _ hgd s x t ho base e i0 _ 1 bytes ht hi0 hz0 hz1 hz2 hzs (by decide) v n xs hs (hown.alloc _) ⟨w1.heap.size, 0, none⟩ 1 1 [val] hx rfl (cell_one_new _ _ _) ?_ (by decide) (by unfold maxLen; omega) hnb (by simp; omega) _ rfl ?_
  · intro u hu; simp at hu; subst hu; exact h1
  · intro g cap w' h1 h2 h3 _
    exact h g cap w' h1 h2 h3

theorem ownsAt {w w' : World} {base : Nat} {e : TypeId} {s : Nat} {v : Value} {n : Nat} {xs : List Value} (h : w.ownsRow base e s v n xs) (hb : ∀ g, v.ownBlock = some g → w'.heap[g]? = w.heap[g]?) : w'.ownsRow base e s v n xs := by
  obtain ⟨h1, h2⟩ := h
  refine ⟨h1, ?_⟩
  rcases h2 with h2 | ⟨g, cap, cur, hv, h3, h4, h5⟩
  · exact .inl h2
  · exact .inr ⟨g, cap, cur, hv, h3, (hb g (by rw [hv]; rfl)).trans h4, h5⟩

/-- Rows, none of which lies in block-value c. -/
def Off (vs : List Value) (c : Value) : Prop := ∀ v, v ∈ vs → ∀ g, v.ownBlock = some g → c.ownBlock ≠ some g

theorem RowsAt.lt {w : World} {base : Nat} {vs : List Value} {cs : List (List Int)} (h : RowsAt w base vs cs) {v : Value} (hv : v ∈ vs) {g : Nat} (hg : v.ownBlock = some g) : g < w.heap.size := by
  obtain ⟨i, hi⟩ := List.getElem?_of_mem hv
  have hil : i < vs.length := (List.getElem?_eq_some_iff.1 hi).1
  have hc : i < cs.length := by rw [← h.1]; exact hil
  exact ((h.2 i v _ hi (List.getElem?_eq_getElem hc)).lt g hg).2

/-- One number more in the clause that grows. -/
theorem grow_c {base n : Nat} {w1 w' : World} {o : Obj} {ov c : Value} {vs : List Value} {l : List (List Int)} {g' cap' m : Nat} (hrow : w1.ownsRow base 22 1 ov n vs) (hrows : RowsAt w1 base vs l) (hoff : Off vs c) {xs : List Int} (hcr : w1.ownsRow base 3 1 c m (ints xs))
    (hgr : (w1.alloc o).grownBy w' c.ownBlock) (hloc : c.ownBlock = some g' ∨ g' = (w1.alloc o).heap.size) : w'.ownsRow base 22 1 ov n vs ∧ RowsAt w' base vs l ∧ Off vs (.slice (some ⟨g', 0, none⟩) (m + 1) cap') := by
  have blk : ∀ k, k < w1.heap.size → c.ownBlock ≠ some k → w'.heap[k]? = w1.heap[k]? := fun k hk hn => by
    rw [hgr.block k (by simp; omega) (fun e => hn e.symm), Below.heap_alloc _ _ _ hk]
  refine ⟨ownsAt hrow (fun g hg => blk g (hrow.lt g hg).2 (fun e => ?_)), ⟨hrows.1, fun i x d hx hd => ownsAt (hrows.2 i x d hx hd) (fun g hg => blk g ((hrows.2 i x d hx hd).lt g hg).2 (hoff x (List.mem_of_getElem? hx) g hg))⟩, fun v hv g hg => ?_⟩
  · rcases rows_apart (by decide) hcr hrow with h | h
    · rw [h] at e; cases e
    · exact h (by rw [e, hg])
  · simp [Value.ownBlock]
    rcases hloc with h | h
    · intro e; subst e; exact hoff v hv g' hg h
    · have := hrows.lt hv hg
      simp at h; omega

/-- The clauses of raw numbers, so far: those that are whole, and the one that grows. -/
structure Raw (base : Nat) (w wr : World) (n most : Nat) (ov c : Value) (vs : List Value) (l : List (List Int)) (cc : List Int) : Prop where
  row : wr.ownsRow base 22 1 ov l.length vs
  rows : RowsAt wr base vs l
  off : Off vs c
  crow : wr.ownsRow base 3 1 c cc.length (ints cc)
  short : cc.length ≤ 2
  most : l.length ≤ most
  lits : In n cc
  all : ∀ d, d ∈ l → In n d ∧ d.length ≤ 3
  below : Below base w wr

theorem push_c {base n : Nat} {w1 w' : World} {o : Obj} {ov c : Value} {vs : List Value} {l : List (List Int)} {cc : List Int} (hrow : w1.ownsRow base 22 1 ov n vs) (hrows : RowsAt w1 base vs l) (hc : w1.ownsRow base 3 1 c cc.length (ints cc))
    (hgr : (w1.alloc o).grownBy w' ov.ownBlock) : RowsAt w' base (vs ++ [c]) (l ++ [cc]) := by
  have h1 : RowsAt (w1.alloc o) base (vs ++ [c]) (l ++ [cc]) := by
    have := hrows.snoc hc
    exact ⟨this.1, fun i x d hx hd => (this.2 i x d hx hd).alloc o⟩
  exact h1.grown (hrow.alloc o) hgr

theorem push_x {base n : Nat} {w1 w' : World} {o : Obj} {ov c : Value} {vs : List Value} {l : List (List Int)} {cc : List Int} {x : Int} (hrow : w1.ownsRow base 22 1 ov n vs) (hrows : RowsAt w1 base vs l) (hc : w1.ownsRow base 3 1 c (cc.length + 1) (ints cc ++ [.int .i64 x]))
    (hgr : (w1.alloc o).grownBy w' ov.ownBlock) : RowsAt w' base (vs ++ [c]) (l ++ [cc ++ [x]]) := by
  refine push_c hrow hrows ?_ hgr
  have e : ints (cc ++ [x]) = ints cc ++ [.int .i64 x] := by simp [ints]
  rw [e, List.length_append]
  exact hc

set_option maxRecDepth 100000 in
set_option maxHeartbeats 1600000 in
theorem clausesK_any (v : Value) (zs : List Int) (n most : Nat) (w : World) (hl : zs.length ≤ 9223372036854775807) (hf : Fits zs) (hn : 0 < n) (hn12 : n ≤ 12) (hm : most ≤ 100) (hv : Lies w v (ints zs)) :
    Calls Tryz.prog 7 #[v, .int .i64 n, .int .i64 most] w fun e w' => ∃ ov vs l, e = .returned ov ∧ w'.ownsRow w.heap.size 22 1 ov l.length vs ∧ RowsAt w' w.heap.size vs l ∧ l.length ≤ most ∧ (∀ d, d ∈ l → In n d ∧ d.length ≤ 3) ∧ Below w.heap.size w w' := by
  obtain ⟨ao, cap, hsh⟩ : ∃ ao cap, v = .slice ao zs.length cap := by
    have := lies_shape hv
    simpa [ints] using this
  subst hsh
  have HV := hide hv
  clear hv
  go_enter Tryz.func7, Tryz.ntmps7
  go_wp2
  go_loopw [7, 8, 9] (fun o c i wr => ∃ (k : Nat) (vs : List Value) (l : List (List Int)) (cc : List Int) (oo co : Option Addr) (oc cn : Nat), k ≤ zs.length ∧ i = .int .i64 k ∧ o = .slice oo l.length oc ∧ c = .slice co cc.length cn ∧ Hid (Raw w.heap.size w wr n most o c vs l cc)) (fun _ _ i _ => zs.length - (intOf i).toNat)
  case atStart => exact ⟨0, [], [], [], none, none, 0, 0, Nat.zero_le _, rfl, rfl, rfl, hide ⟨World.ownsRow_nil _ _ _ _, ⟨rfl, fun i x d hx => by simp at hx⟩, fun v hv => (by cases hv), World.ownsRow_nil _ _ _ _, by simp, by simp, fun x hx => (by cases hx), fun d hd => (by cases hd), Below.refl _ _⟩⟩
  case round =>
    obtain ⟨k, vs, l, cc, oo, co, oc, cn, hkz, rfl, rfl, rfl, HR⟩ := hrel
    have hshort := (unhide HR).short
    have hmost := (unhide HR).most
    have hbase := (unhide HR).below.size
    by_cases hlt : k < zs.length ∧ l.length < most
    · obtain ⟨h1, h2⟩ := hlt
      rcases unhide HV with ⟨h0, _⟩ | ⟨b, off, cap', hp, hvv, hbb, hc⟩
      · exfalso; have := congrArg List.length h0; simp [ints] at this; rw [this] at h1; simp at h1
      · simp only [Value.slice.injEq] at hvv
        obtain ⟨rfl, -, rfl⟩ := hvv
        have HCZ : Hid (∀ wx, Below w.heap.size w wx → wx.cell? ⟨b, off + k, none⟩ = some (.int .i64 zs[k])) := hide (fun wx hx => (hx.cell (p := ⟨b, off + k, none⟩) hbb).trans (hc k (.int .i64 zs[k]) (by simp [ints, h1])))
        have hfz := hf zs[k] (List.getElem_mem h1)
        generalize zs[k] = z at HCZ hfz
        have hcell := unhide HCZ wr (unhide HR).below
        have HLI := hide (literalK_any z n wr hfz.1 hfz.2 hn hn12)
        clear hc
        have HBE := hide (unhide HR).below
        by_cases h3 : cc.length = 2
        · have hq : ((cc.length : Int) + 1 == 3) = true := by rw [beq_iff_eq]; omega
          have H3 := hide h3
          clear h3
          go_wp2_with fail
          refine (unhide HLI).mono ?_
          rintro e w1 ⟨⟨x, hx, rfl⟩, rfl⟩
          have HX := hide hx
          clear hx
          go_wp2_with (first
            | (at_builtin; refine append_cellS (base := w.heap.size) rfl _ _ 22 3 rfl Tryz.underlying22 Tryz.infoIntW rfl (by decide) (unhide HR).crow rfl rfl rfl (by omega) hbase ?_; intro g' cap1 w3 hown3 hgr3 hloc3; have HG := hide (grow_c (unhide HR).row (unhide HR).rows (unhide HR).off (cap' := cap1) (unhide HR).crow hgr3 hloc3); have HO3 := hide hown3; have hb3 : Below w.heap.size w w3 := ((unhide HBE).alloc hbase _).grown hgr3 (by simp; omega) (fun j hj => ((unhide HR).crow.lt j hj).1); have hcell3 := unhide HCZ w3 hb3; have hsz3 := hb3.size; clear hown3 hgr3 hloc3)
            | (at_builtin; refine append_cellS (base := w.heap.size) rfl _ _ 24 22 rfl Tryz.underlying24 Tryz.infoInts rfl (by decide) (unhide HG).1 rfl rfl rfl (by omega) hsz3 ?_; intro g2 cap2 w5 hown5 hgr5 hloc5; have HP := hide (push_x (unhide HG).1 (unhide HG).2.1 (unhide HO3) hgr5); have HO5 := hide hown5; have hb5 : Below w.heap.size w w5 := (hb3.alloc hsz3 _).grown hgr5 (by simp; omega) (fun j hj => ((unhide HG).1.lt j hj).1); clear hown5 hgr5 hloc5))
          go_roundw
          case rel => exact ⟨k + 1, vs ++ [.slice (some ⟨g', 0, none⟩) (cc.length + 1) cap1], l ++ [cc ++ [x]], [], some ⟨g2, 0, none⟩, none, cap2, 0, by omega, by go_num, by simp, rfl, hide ⟨by simpa using unhide HO5, unhide HP, fun v hv g hg => (by simp [Value.ownBlock]), World.ownsRow_nil _ _ _ _, by simp, by simp; omega, fun x hx => (by cases hx), fun d hd => (by
            rcases List.mem_append.1 hd with hd | hd
            · exact (unhide HR).all d hd
            · simp at hd; subst hd; exact ⟨(unhide HR).lits.snoc (unhide HX), by simp; omega⟩), hb5⟩⟩
          case measure => simp [intOf]; omega
        · have hq : ((cc.length : Int) + 1 == 3) = false := by rw [beq_eq_false_iff_ne]; omega
          have hlt2 : cc.length < 2 := by omega
          clear h3
          cases hz7 : (z.tmod 7 == 0)
          · skip
            go_wp2_with fail
            refine (unhide HLI).mono ?_
            rintro e w1 ⟨⟨x, hx, rfl⟩, rfl⟩
            have HX := hide hx
            clear hx
            go_wp2_with (first
              | (at_builtin; refine append_cellS (base := w.heap.size) rfl _ _ 22 3 rfl Tryz.underlying22 Tryz.infoIntW rfl (by decide) (unhide HR).crow rfl rfl rfl (by omega) hbase ?_; intro g' cap1 w3 hown3 hgr3 hloc3; have HG := hide (grow_c (unhide HR).row (unhide HR).rows (unhide HR).off (cap' := cap1) (unhide HR).crow hgr3 hloc3); have HO3 := hide hown3; have hb3 : Below w.heap.size w w3 := ((unhide HBE).alloc hbase _).grown hgr3 (by simp; omega) (fun j hj => ((unhide HR).crow.lt j hj).1); have hcell3 := unhide HCZ w3 hb3; have hsz3 := hb3.size; clear hown3 hgr3 hloc3)
              | (at_builtin; refine append_cellS (base := w.heap.size) rfl _ _ 24 22 rfl Tryz.underlying24 Tryz.infoInts rfl (by decide) (unhide HG).1 rfl rfl rfl (by omega) hsz3 ?_; intro g2 cap2 w5 hown5 hgr5 hloc5; have HP := hide (push_x (unhide HG).1 (unhide HG).2.1 (unhide HO3) hgr5); have HO5 := hide hown5; have hb5 : Below w.heap.size w w5 := (hb3.alloc hsz3 _).grown hgr5 (by simp; omega) (fun j hj => ((unhide HG).1.lt j hj).1); clear hown5 hgr5 hloc5))
            go_roundw
            case rel => exact ⟨k + 1, vs, l, cc ++ [x], oo, some ⟨g', 0, none⟩, oc, cap1, by omega, by go_num, rfl, by simp, hide ⟨(unhide HG).1, (unhide HG).2.1, by simpa using (unhide HG).2.2, by simpa [ints] using unhide HO3, by simp; omega, by omega, (unhide HR).lits.snoc (unhide HX), (unhide HR).all, hb3⟩⟩
            case measure => simp [intOf]; omega
          · skip
            go_wp2_with fail
            refine (unhide HLI).mono ?_
            rintro e w1 ⟨⟨x, hx, rfl⟩, rfl⟩
            have HX := hide hx
            clear hx
            go_wp2_with (first
              | (at_builtin; refine append_cellS (base := w.heap.size) rfl _ _ 22 3 rfl Tryz.underlying22 Tryz.infoIntW rfl (by decide) (unhide HR).crow rfl rfl rfl (by omega) hbase ?_; intro g' cap1 w3 hown3 hgr3 hloc3; have HG := hide (grow_c (unhide HR).row (unhide HR).rows (unhide HR).off (cap' := cap1) (unhide HR).crow hgr3 hloc3); have HO3 := hide hown3; have hb3 : Below w.heap.size w w3 := ((unhide HBE).alloc hbase _).grown hgr3 (by simp; omega) (fun j hj => ((unhide HR).crow.lt j hj).1); have hcell3 := unhide HCZ w3 hb3; have hsz3 := hb3.size; clear hown3 hgr3 hloc3)
              | (at_builtin; refine append_cellS (base := w.heap.size) rfl _ _ 24 22 rfl Tryz.underlying24 Tryz.infoInts rfl (by decide) (unhide HG).1 rfl rfl rfl (by omega) hsz3 ?_; intro g2 cap2 w5 hown5 hgr5 hloc5; have HP := hide (push_x (unhide HG).1 (unhide HG).2.1 (unhide HO3) hgr5); have HO5 := hide hown5; have hb5 : Below w.heap.size w w5 := (hb3.alloc hsz3 _).grown hgr5 (by simp; omega) (fun j hj => ((unhide HG).1.lt j hj).1); clear hown5 hgr5 hloc5))
            go_roundw
            case rel => exact ⟨k + 1, vs ++ [.slice (some ⟨g', 0, none⟩) (cc.length + 1) cap1], l ++ [cc ++ [x]], [], some ⟨g2, 0, none⟩, none, cap2, 0, by omega, by go_num, by simp, rfl, hide ⟨by simpa using unhide HO5, unhide HP, fun v hv g hg => (by simp [Value.ownBlock]), World.ownsRow_nil _ _ _ _, by simp, by simp; omega, fun x hx => (by cases hx), fun d hd => (by
              rcases List.mem_append.1 hd with hd | hd
              · exact (unhide HR).all d hd
              · simp at hd; subst hd; exact ⟨(unhide HR).lits.snoc (unhide HX), by simp; omega⟩), hb5⟩⟩
            case measure => simp [intOf]; omega
    · by_cases h1 : k < zs.length
      · have h2 : ¬ l.length < most := fun h => hlt ⟨h1, h⟩
        go_wp2
        go_ret
        exact ⟨_, vs, l, rfl, (unhide HR).row, (unhide HR).rows, by omega, (unhide HR).all, (unhide HR).below⟩
      · go_wp2
        go_ret
        exact ⟨_, vs, l, rfl, (unhide HR).row, (unhide HR).rows, by omega, (unhide HR).all, (unhide HR).below⟩

end Go.Proofs.YtekkkoipcghlmabGreatDoor
