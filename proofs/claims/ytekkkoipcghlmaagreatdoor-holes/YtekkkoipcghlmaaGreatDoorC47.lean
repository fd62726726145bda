import Derived.Test.YtekkkoipcghlmaaGreatDoorC43
set_option linter.all false
namespace Go.Proofs.YtekkkoipcghlmaaGreatDoor
open Go.RowKit

/-- A verdict of new clauses; where there is no model, it is proved. -/
theorem verdictP {base x : Nat} {kv pv : Value} {L : List (List Int)} {w : World} (hX : XAt base w x kv (keptTo L L.length) pv []) (he : EnvFrom base w) (hL : ∀ c, c ∈ L → Lits c ∧ c.length ≤ 3) (hl : L.length ≤ 100) :
    Calls Tryz.prog 25 #[.pointer (some ⟨x, 0, none⟩), .slice none 0 0] w fun e w' => ∃ kind, e = .returned (.int .i64 kind) ∧ Hid (Below base w w') ∧ ((kind = 1 ∧ ∃ b, ∀ c, c ∈ L → holdsOf b c = true) ∨ (kind = 2 ∧ (∀ b, ¬ ∀ c, c ∈ L → holdsOf b c = true) ∧ Hid (∃ pv' pb', XAt base w' x kv (keptTo L L.length) pv' pb' ∧ Accepted (keptTo L L.length) pb' ∧ pb'.length ≤ 100000000000 ∧ ∃ U, pb' = linesText U ++ [10]))) := by
  refine (verdictK (A := []) hX (kept_fine hL hl) he (fun y hy => by cases hy) (by simp) (Lies.nil _) (by simp)).mono ?_
  rintro e w' ⟨kind, vm, vc, cf, rfl, hres⟩
  obtain ⟨b1, b2, -⟩ := hres.out hX
  obtain ⟨pv', S, d1, d2, d3, d4⟩ := (Accepted.nil _).solve hres (fun y hy => by cases hy)
  refine ⟨kind, rfl, hide b2, ?_⟩
  rcases hres.verdict (fun y hy => by cases hy) with ⟨rfl, -, b, -, -, h5, -⟩ | ⟨rfl, -, h3⟩
  · exact .inl ⟨rfl, b, (kept_same hL hl b).1 h5⟩
  · obtain ⟨core, U, ⟨p, hp⟩, -, hU⟩ := d4 rfl
    have hcore : core = [] := by rw [hp]; rfl
    subst hcore
    exact .inr ⟨rfl, fun b hb => h3 b ((kept_same hL hl b).2 hb) (fun y hy => by cases hy), hide ⟨pv', _, d1, d3, by rw [List.nil_append]; omega, U, by rw [hU]; rfl⟩⟩

/-- Clauses that are made. -/
structure HI (w wr : World) (u : Value) (vs : List Value) (L : List (List Int)) : Prop where
  row : wr.ownsRow w.heap.size 25 1 u L.length vs
  rows : RowsAt wr w.heap.size vs L
  below : Below w.heap.size w wr
section
variable {w wr w' : World} {u u' c : Value} {vs : List Value} {L : List (List Int)}
theorem HI.nil (w : World) : HI w w (.slice none 0 0) [] [] := ⟨World.ownsRow_nil _ _ _ _, ⟨rfl, fun i x d hx => by simp at hx⟩, Below.refl _ _⟩
theorem HI.units (h : HI w wr u vs L) : UnitsT wr u L := UnitsT.of_rows h.row h.rows
/-- A clause of two literals more. -/
theorem HI.pair (h : HI w wr u vs L) {a b : Int} {o : Obj} {n : Nat} (hn : n = L.length + 1) (hown : w'.ownsRow w.heap.size 25 1 u' n (vs ++ [.slice (some ⟨wr.heap.size, 0, none⟩) 2 2])) (hg : ((wr.alloc (.cells #[.int .i64 a, .int .i64 b] 3)).alloc o).grownBy w' u.ownBlock) : HI w w' u' (vs ++ [.slice (some ⟨wr.heap.size, 0, none⟩) 2 2]) (L ++ [[a, b]]) := by
  have hs := h.below.size
  have b1 : Below wr.heap.size wr (wr.alloc (.cells #[.int .i64 a, .int .i64 b] 3)) := below_new wr _
  have hr : (wr.alloc (.cells #[.int .i64 a, .int .i64 b] 3)).ownsRow w.heap.size 3 1 (.slice (some ⟨wr.heap.size, 0, none⟩) 2 2) ([a, b] : List Int).length (ints [a, b]) :=
    ⟨by simp [ints], .inr ⟨wr.heap.size, 2, _, rfl, hs, heap_alloc_new wr _, by simp, by unfold maxLen; omega, rfl, rfl⟩⟩
  refine ⟨by rw [List.length_append, List.length_singleton, ← hn]; exact hown, push_c (owns_below h.row b1) (h.rows.below b1) hr hg, ?_⟩
  exact ((h.below.alloc hs _).alloc (by simp; omega) o).grown hg (by simp; omega) (fun j hj => (h.row.lt j hj).1)
end
theorem append_cellP {ops : Array Oper} {rest : List Oper} {o : Oper} {a : Act} {Q : Exit → Act → World → Prop} {w wr : World} {v : Value} {vs : List Value} {L : List (List Int)} {x y : Int} {n : Nat}
    (h : HI w wr v vs L) (hn : n = L.length) (hl : L.length ≤ 1000) (hgd : o.guard = none) (s z : Operand) (ho : o.op = .call { callee := .builtin .append, args := #[s, z], argTypes := #[27, 27] })
    (hs : a.eval s = v) (hz : a.eval z = .slice (some ⟨wr.heap.size + 1, 0, none⟩) 1 1)
    (hk : ∀ (g cap : Nat) (w' : World), Hid (HI w w' (.slice (some ⟨g, 0, none⟩) (n + 1) cap) (vs ++ [.slice (some ⟨wr.heap.size, 0, none⟩) 2 2]) (L ++ [[x, y]])) → wpList Tryz.prog ops Q rest (a.put o.dst (.slice (some ⟨g, 0, none⟩) (n + 1) cap)) w') :
    wpList Tryz.prog ops Q (o :: rest) a ((wr.alloc (.cells #[.int .i64 x, .int .i64 y] 3)).alloc (.cells #[.slice (some ⟨wr.heap.size, 0, none⟩) 2 2] 25)) := by
  have hsz := h.below.size
  have hz1 : (wr.alloc (.cells #[.int .i64 x, .int .i64 y] 3)).heap.size = wr.heap.size + 1 := by simp
  refine append_cellS (base := w.heap.size) (n := n) (v := v) (xs := vs) hgd s z 27 25 ho Tryz.underlying27 Tryz.infoInts rfl (by decide) (owns_below (by rw [hn]; exact h.row) (below_new wr _)) hs (by rw [hz1]; exact hz) rfl (by omega) (by rw [hz1]; omega) ?_
  intro g cap w' hown hgr hloc
  exact hk g cap w' (hide (h.pair (by omega) hown hgr))

/-- Things and places. -/
def holeRow (h i : Nat) : List Int := (List.range h).map (fun (k : Nat) => 1 + (i : Int) * h + k)
def pairC (h k i j : Nat) : List Int := [-(1 + (i : Int) * h + k), -(1 + (j : Int) * h + k)]
def pairsJ (h k i n : Nat) : List (List Int) := (List.range n).map (pairC h k i)
def pairsI (h k n : Nat) : List (List Int) := (List.range n).flatMap (fun i => pairsJ h k i i)
def pairsK (h p n : Nat) : List (List Int) := (List.range n).flatMap (fun k => pairsI h k p)
def holeRows (h n : Nat) : List (List Int) := (List.range n).map (holeRow h)
def holesL (p h : Nat) : List (List Int) := holeRows h p ++ pairsK h p h
theorem holeRow_take (h i k : Nat) (hk : k < h) : (holeRow h i).take (k + 1) = (holeRow h i).take k ++ [1 + (i : Int) * h + k] := by
  unfold holeRow
  rw [← List.map_take, ← List.map_take, List.take_range, List.take_range, Nat.min_eq_left (by omega), Nat.min_eq_left (by omega), List.range_succ, List.map_append]
  rfl
theorem holeRow_len (h i : Nat) : (holeRow h i).length = h := by simp [holeRow]
theorem holeRows_succ (h n : Nat) : holeRows h (n + 1) = holeRows h n ++ [holeRow h n] := by unfold holeRows; rw [List.range_succ, List.map_append]; rfl
theorem pairsJ_succ (h k i n : Nat) : pairsJ h k i (n + 1) = pairsJ h k i n ++ [pairC h k i n] := by unfold pairsJ; rw [List.range_succ, List.map_append]; rfl
theorem pairsI_succ (h k n : Nat) : pairsI h k (n + 1) = pairsI h k n ++ pairsJ h k n n := by unfold pairsI; rw [List.range_succ, List.flatMap_append]; simp
theorem pairsK_succ (h p n : Nat) : pairsK h p (n + 1) = pairsK h p n ++ pairsI h n p := by unfold pairsK; rw [List.range_succ, List.flatMap_append]; simp
def holesOK (p h : Nat) : Bool := (holesL p h).length ≤ 100 && (holesL p h).all (fun c => c.length ≤ 3 && c.all (fun x => x != 0 && decide (-12 ≤ x) && decide (x ≤ 12)))
def holesB (p h : Nat) : Nat := ((List.range p).map (fun i => 2 ^ (i * h + i))).sum
theorem holes_small : ∀ p : Fin 4, ∀ h : Fin 3, holesOK (p.val + 1) (h.val + 1) = true := by decide +kernel
theorem holes_sat : ∀ p : Fin 4, ∀ h : Fin 3, p.val ≤ h.val → (holesL (p.val + 1) (h.val + 1)).all (holdsOf (holesB (p.val + 1) (h.val + 1))) = true := by decide +kernel
theorem holes_unsat : ∀ p : Fin 4, ∀ h : Fin 3, h.val < p.val → modelsTo (holesL (p.val + 1) (h.val + 1)) (2 ^ ((p.val + 1) * (h.val + 1))) = 0 := by decide +kernel
theorem holes_in : ∀ p : Fin 4, ∀ h : Fin 3, (holesL (p.val + 1) (h.val + 1)).all (fun c => c.all (fun x => x != 0 && decide (-(((p.val + 1) * (h.val + 1) : Nat) : Int) ≤ x) && decide (x ≤ (((p.val + 1) * (h.val + 1) : Nat) : Int)))) = true := by decide +kernel

end Go.Proofs.YtekkkoipcghlmaaGreatDoor

namespace Go.Proofs.YtekkkoipcghlmaaGreatDoor
open Go.RowKit

/-- A row of numbers grows beside the clauses. -/
structure HC (w wr : World) (u c : Value) (vs : List Value) (L : List (List Int)) (cc : List Int) : Prop where
  inv : HI w wr u vs L
  off : Off vs c
  crow : wr.ownsRow w.heap.size 3 1 c cc.length (ints cc)
section
variable {w wr w' : World} {u u' c : Value} {vs : List Value} {L : List (List Int)} {cc : List Int}
theorem HI.start (h : HI w wr u vs L) : HC w wr u (.slice none 0 0) vs L [] := ⟨h, fun v hv g hg => by simp [Value.ownBlock], World.ownsRow_nil _ _ _ _⟩
theorem HC.grow (h : HC w wr u c vs L cc) {o : Obj} {x : Int} {g' cap' n : Nat} (hn : n = cc.length) (hown : w'.ownsRow w.heap.size 3 1 (.slice (some ⟨g', 0, none⟩) (n + 1) cap') (n + 1) (ints cc ++ [.int .i64 x])) (hgr : (wr.alloc o).grownBy w' c.ownBlock) (hloc : c.ownBlock = some g' ∨ g' = (wr.alloc o).heap.size) : HC w w' u (.slice (some ⟨g', 0, none⟩) (n + 1) cap') vs L (cc ++ [x]) := by
  have hs := h.inv.below.size
  obtain ⟨a1, a2, a3⟩ := grow_c (cap' := cap') h.inv.row h.inv.rows h.off h.crow hgr hloc
  refine ⟨⟨a1, a2, (h.inv.below.alloc hs o).grown hgr (by simp; omega) (fun j hj => (h.crow.lt j hj).1)⟩, by rw [hn]; exact a3, ?_⟩
  rw [List.length_append, List.length_singleton, ← hn]
  have e : ints (cc ++ [x]) = ints cc ++ [.int .i64 x] := by simp [ints]
  rw [e]
  exact hown
theorem HC.push (h : HC w wr u c vs L cc) {o : Obj} {n : Nat} (hn : n = L.length + 1) (hown : w'.ownsRow w.heap.size 25 1 u' n (vs ++ [c])) (hgr : (wr.alloc o).grownBy w' u.ownBlock) : HI w w' u' (vs ++ [c]) (L ++ [cc]) := by
  have hs := h.inv.below.size
  exact ⟨by rw [List.length_append, List.length_singleton, ← hn]; exact hown, push_c h.inv.row h.inv.rows h.crow hgr, (h.inv.below.alloc hs o).grown hgr (by simp; omega) (fun j hj => (h.inv.row.lt j hj).1)⟩
end

theorem pairsJ_len (h k i n : Nat) : (pairsJ h k i n).length = n := by simp [pairsJ]
theorem pairsI_len (h k : Nat) : ∀ n, n ≤ 4 → (pairsI h k n).length ≤ 16 := by
  intro n hn
  have : ∀ m, (pairsI h k m).length ≤ m * m := by
    intro m
    induction m with
    | zero => simp [pairsI]
    | succ m ih => rw [pairsI_succ, List.length_append, pairsJ_len]; have : (m + 1) * (m + 1) = m * m + 2 * m + 1 := by rw [Nat.add_mul, Nat.mul_add]; omega
                   omega
  have h1 := this n
  have : n * n ≤ 4 * 4 := Nat.mul_le_mul hn hn
  omega
theorem pairsK_len (h p : Nat) (hp : p ≤ 4) : ∀ n, (pairsK h p n).length ≤ 16 * n := by
  intro n
  induction n with
  | zero => simp [pairsK]
  | succ n ih => rw [pairsK_succ, List.length_append]; have := pairsI_len h n p hp; omega
theorem holeRows_len (h n : Nat) : (holeRows h n).length = n := by simp [holeRows]

set_option maxRecDepth 100000 in
set_option maxHeartbeats 6400000 in
theorem holes_walk (things places : Int) (w : World) (h0 : -9223372036854775808 ≤ things) (h1 : things ≤ 9223372036854775807) (h2 : -9223372036854775808 ≤ places) (h3 : places ≤ 9223372036854775807) (he : Env w) :
    Calls Tryz.prog 10 #[.int .i64 things, .int .i64 places] w fun e w' => e = .returned (.bool true) ∧ Below w.heap.size w w' := by
  have HP1 : Hid (Calls Tryz.prog 14 #[.int .i64 things, .int .i64 4] w fun e w' => (∃ d : Nat, d < 4 ∧ e = .returned (.int .i64 d)) ∧ w' = w) := hide (pickK_any things 4 w h0 h1 (by decide) (by decide))
  have HP2 : Hid (Calls Tryz.prog 14 #[.int .i64 places, .int .i64 3] w fun e w' => (∃ d : Nat, d < 3 ∧ e = .returned (.int .i64 d)) ∧ w' = w) := hide (pickK_any places 3 w h2 h3 (by decide) (by decide))
  go_enter Tryz.func10, Tryz.ntmps10
  go_wp2_with fail
  refine (unhide HP1).mono ?_
  rintro e w1 ⟨⟨dp, hdp, rfl⟩, rfl⟩
  go_wp2_with fail
  refine (unhide HP2).mono ?_
  rintro e w2 ⟨⟨dh, hdh, rfl⟩, rfl⟩
  clear HP1 HP2
  obtain ⟨h, hh⟩ : ∃ h : Nat, h = dh + 1 := ⟨_, rfl⟩
  obtain ⟨p, hp⟩ : ∃ p : Nat, p = dp + 1 := ⟨_, rfl⟩
  have eh : (1 + (dh : Int)) = (h : Int) := by omega
  have ep : (1 + (dp : Int)) = (p : Int) := by omega
  have hh3 : h ≤ 3 := by omega
  have hp4 : p ≤ 4 := by omega
  have HH := hide hh
  have HPP := hide hp
  clear hh hp
  go_wp2_with fail
  go_loopw [7, 8, 9, 10] (fun lv i _ _ wr => ∃ (n : Nat) (vs : List Value) (lo : Option Addr) (lc : Nat), n ≤ p ∧ i = .int .i64 n ∧ lv = .slice lo n lc ∧ Hid (HI w2 wr (.slice lo n lc) vs (holeRows h n))) (fun _ i _ _ _ => p - (intOf i).toNat)
  case atStart => exact ⟨0, [], none, 0, Nat.zero_le _, rfl, rfl, hide (HI.nil w2)⟩
  case round =>
    obtain ⟨n, vs, lo, lc, hn, rfl, rfl, HV⟩ := hrel
    by_cases hlt : n < p
    · have hdk : decide ((n : Int) < (p : Int)) = true := decide_eq_true (by omega)
      have HC0 := hide (unhide HV).start
      clear HV
      go_wp2_with fail
      go_loopw [9, 10] (fun c k wi => ∃ (m : Nat) (co : Option Addr) (cn : Nat), m ≤ h ∧ k = .int .i64 m ∧ c = .slice co m cn ∧ Hid (HC w2 wi (.slice lo n lc) (.slice co m cn) vs (holeRows h n) ((holeRow h n).take m))) (fun _ k _ => h - (intOf k).toNat)
      case atStart => exact ⟨0, none, 0, Nat.zero_le _, rfl, rfl, HC0⟩
      case round =>
        obtain ⟨m, co, cn, hm, rfl, rfl, HCI⟩ := hrel
        have hsz := (unhide HCI).inv.below.size
        have hlm : ((holeRow h n).take m).length = m := by rw [List.length_take, holeRow_len]; omega
        have HLM := hide hlm
        clear hlm
        by_cases hml : m < h
        · have hmul : (n : Int) * h ≤ 12 := by
            have : n * h ≤ 4 * 3 := Nat.mul_le_mul (by omega) (by omega)
            have : ((n * h : Nat) : Int) ≤ 12 := by omega
            simpa using this
          have hmul0 : 0 ≤ (n : Int) * h := Int.mul_nonneg (by omega) (by omega)
          have HT := hide (holeRow_take h n m hml)
          have HCO : Hid (wr.ownsRow w2.heap.size 3 1 (.slice co m cn) m (ints ((holeRow h n).take m))) := hide (by have := (unhide HCI).crow; rw [unhide HLM] at this; exact this)
          obtain ⟨nh, hnh⟩ : ∃ nh : Int, nh = (n : Int) * h := ⟨_, rfl⟩
          rw [← hnh] at HT hmul hmul0
          have hmulr : (n : Int) * (h : Int) = nh := hnh.symm
          clear HC0 hnh
          go_wp2_with (at_builtin; refine append_cellS (base := w2.heap.size) rfl _ _ 25 3 rfl Tryz.underlying25 Tryz.infoIntW rfl (by decide) (unhide HCO) rfl rfl rfl (by omega) hsz ?_; intro g' cap1 w3 hown3 hgr3 hloc3; have HG := hide ((unhide HCI).grow (unhide HLM).symm hown3 hgr3 hloc3); clear hown3 hgr3 hloc3)
          go_roundw
          case rel => exact ⟨m + 1, _, _, by omega, by go_num, rfl, by rw [unhide HT]; exact HG⟩
          case measure => simp [intOf]; omega
        · have hmh : m = h := by omega
          subst hmh
          have HFU : Hid ((holeRow m n).take m = holeRow m n) := hide (List.take_of_length_le (by rw [holeRow_len]; omega))
          have HRW : Hid (wr.ownsRow w2.heap.size 25 1 (.slice lo n lc) n vs) := hide (by have := (unhide HCI).inv.row; rw [holeRows_len] at this; exact this)
          have HS := hide (holeRows_succ m n)
          clear HC0
          go_wp2_with (at_builtin; refine append_cellS (base := w2.heap.size) rfl _ _ 27 25 rfl Tryz.underlying27 Tryz.infoInts rfl (by decide) (unhide HRW) rfl rfl rfl (by omega) hsz ?_; intro g2 cap2 w5 hown5 hgr5 hloc5; have HP5 := hide ((unhide HCI).push (by rw [holeRows_len]) hown5 hgr5); clear hown5 hgr5 hloc5)
          go_roundw
          case rel => exact ⟨n + 1, _, _, _, by omega, by go_num, rfl, by rw [unhide HS, ← unhide HFU]; exact HP5⟩
          case measure => simp [intOf]; omega
    · have hnp : n = p := by omega
      subst hnp
      go_wp2_with fail
      go_loopw [7, 11, 12, 13] (fun lv k _ _ wi => ∃ (m : Nat) (L : List (List Int)) (vs : List Value) (lo : Option Addr) (lc : Nat), m ≤ h ∧ k = .int .i64 m ∧ lv = .slice lo L.length lc ∧ Hid (L = holeRows h n ++ pairsK h n m) ∧ Hid (HI w2 wi (.slice lo L.length lc) vs L)) (fun _ k _ _ _ => h - (intOf k).toNat)
      case atStart => exact ⟨0, holeRows h n, vs, lo, lc, Nat.zero_le _, rfl, by rw [holeRows_len], hide (by simp [pairsK]), hide (by rw [holeRows_len]; exact unhide HV)⟩
      case round =>
        clear HV
        obtain ⟨m, L, vs3, lo3, lc3, hm, rfl, rfl, HL3, HV3⟩ := hrel
        by_cases hml : m < h
        · have hdm : decide ((m : Int) < (h : Int)) = true := decide_eq_true (by omega)
          go_wp2_with fail
          go_loopw [7, 12, 13] (fun lv i _ wi => ∃ (q : Nat) (L : List (List Int)) (vs : List Value) (lo : Option Addr) (lc : Nat), q ≤ n ∧ i = .int .i64 q ∧ lv = .slice lo L.length lc ∧ Hid (L = holeRows h n ++ pairsK h n m ++ pairsI h m q) ∧ Hid (HI w2 wi (.slice lo L.length lc) vs L)) (fun _ i _ _ => n - (intOf i).toNat)
          case atStart => exact ⟨0, L, vs3, lo3, lc3, Nat.zero_le _, rfl, rfl, hide (by rw [unhide HL3]; simp [pairsI]), HV3⟩
          case round =>
            clear HL3 HV3
            obtain ⟨q, L4, vs4, lo4, lc4, hq, rfl, rfl, HL4, HV4⟩ := hrel
            by_cases hql : q < n
            · have hdq : decide ((q : Int) < (n : Int)) = true := decide_eq_true (by omega)
              go_wp2_with fail
              go_loopw [7, 13] (fun lv j wi => ∃ (r : Nat) (L : List (List Int)) (vs : List Value) (lo : Option Addr) (lc : Nat), r ≤ q ∧ j = .int .i64 r ∧ lv = .slice lo L.length lc ∧ Hid (L = holeRows h n ++ pairsK h n m ++ pairsI h m q ++ pairsJ h m q r) ∧ Hid (HI w2 wi (.slice lo L.length lc) vs L)) (fun _ j _ => q - (intOf j).toNat)
              case atStart => exact ⟨0, L4, vs4, lo4, lc4, Nat.zero_le _, rfl, rfl, hide (by rw [unhide HL4]; simp [pairsJ]), HV4⟩
              case round =>
                clear HL4 HV4
                obtain ⟨r, L5, vs5, lo5, lc5, hr, rfl, rfl, HL5, HV5⟩ := hrel
                by_cases hrl : r < q
                · have hlen : L5.length ≤ 1000 := by
                    rw [unhide HL5, List.length_append, List.length_append, List.length_append, holeRows_len, pairsJ_len]
                    have := pairsK_len h n (by omega) m
                    have := pairsI_len h m q (by omega)
                    omega
                  have mulb : ∀ a : Nat, a ≤ 4 → (a : Int) * h ≤ 12 ∧ 0 ≤ (a : Int) * h := fun a ha => by
                    have : a * h ≤ 4 * 3 := Nat.mul_le_mul (by omega) (by omega)
                    have h2 : ((a * h : Nat) : Int) ≤ 12 := by omega
                    exact ⟨by simpa using h2, Int.mul_nonneg (by omega) (by omega)⟩
                  obtain ⟨m1, m2⟩ := mulb q (by omega)
                  obtain ⟨m3, m4⟩ := mulb r (by omega)
                  have HS : Hid (holeRows h n ++ pairsK h n m ++ pairsI h m q ++ pairsJ h m q (r + 1) = L5 ++ [[-(1 + (q : Int) * h + m), -(1 + (r : Int) * h + m)]]) := hide (by rw [pairsJ_succ, ← List.append_assoc, ← unhide HL5]; rfl)
                  clear mulb
                  obtain ⟨qh, hqh⟩ : ∃ qh : Int, qh = (q : Int) * h := ⟨_, rfl⟩
                  obtain ⟨rh, hrh⟩ : ∃ rh : Int, rh = (r : Int) * h := ⟨_, rfl⟩
                  rw [← hqh, ← hrh] at HS
                  rw [← hqh] at m1 m2
                  rw [← hrh] at m3 m4
                  have e1 : (q : Int) * (h : Int) = qh := hqh.symm
                  have e2 : (r : Int) * (h : Int) = rh := hrh.symm
                  clear hqh hrh
                  go_wp2_with (at_builtin; refine append_cellP (unhide HV5) rfl hlen rfl _ _ rfl rfl rfl ?_; intro g2 cap2 w5 HP5)
                  go_roundw
                  case rel => exact ⟨r + 1, L5 ++ [[-(1 + qh + m), -(1 + rh + m)]], _, _, _, by omega, by go_num, by rw [List.length_append, List.length_singleton], hide (unhide HS).symm, by rw [List.length_append, List.length_singleton]; exact HP5⟩
                  case measure => simp [intOf]; omega
                · have hrq : r = q := by omega
                  subst hrq
                  go_wp2
                  go_roundw
                  case rel => exact ⟨r + 1, L5, vs5, lo5, lc5, by omega, by go_num, rfl, hide (by rw [unhide HL5, pairsI_succ]; simp only [List.append_assoc]), HV5⟩
                  case measure => simp [intOf]; omega
            · have hqn : q = n := by omega
              subst hqn
              go_wp2
              go_roundw
              case rel => exact ⟨m + 1, L4, vs4, lo4, lc4, by omega, by go_num, rfl, hide (by rw [unhide HL4, pairsK_succ]; simp only [List.append_assoc]), HV4⟩
              case measure => simp [intOf]; omega
        · have hmh : m = h := by omega
          subst hmh
          have HL6 : Hid (L = holesL n m) := HL3
          have hOK := holes_small ⟨dp, hdp⟩ ⟨dh, hdh⟩
          have hIN := holes_in ⟨dp, hdp⟩ ⟨dh, hdh⟩
          have hSAT := holes_sat ⟨dp, hdp⟩ ⟨dh, hdh⟩
          have hUN := holes_unsat ⟨dp, hdp⟩ ⟨dh, hdh⟩
          simp only at hOK hIN hSAT hUN
          unfold holesOK at hOK
          rw [← unhide HH, ← unhide HPP, ← unhide HL6] at hOK hIN hSAT hUN
          simp only [Bool.and_eq_true, decide_eq_true_eq] at hOK
          have HLS : Hid (∀ c, c ∈ L → Lits c ∧ c.length ≤ 3) := hide (fun c hc => by
            have := List.all_eq_true.1 hOK.2 c hc
            simp only [Bool.and_eq_true, decide_eq_true_eq] at this
            refine ⟨fun x hx => ?_, this.1⟩
            have h2 := List.all_eq_true.1 this.2 x hx
            simp only [Bool.and_eq_true, decide_eq_true_eq, bne_iff_ne, ne_eq] at h2
            exact ⟨h2.1.1, h2.1.2, h2.2⟩)
          have HLI : Hid (∀ c, c ∈ L → In (n * m) c) := hide (fun c hc x hx => by
            have h2 := List.all_eq_true.1 (List.all_eq_true.1 hIN c hc) x hx
            simp only [Bool.and_eq_true, decide_eq_true_eq, bne_iff_ne, ne_eq] at h2
            exact ⟨h2.1.1, h2.1.2, h2.2⟩)
          have hl100 := hOK.1
          have HSV := hide (solverK_any (.slice lo3 L.length lc3) L wr (by omega) (fun c hc => by have := (unhide HLS c hc).2; omega) (unhide HV3).units.rows (kept_adds (unhide HLS) hl100))
          have hbr := (unhide HV3).below
          have HSAT := hide hSAT
          have HUN := hide hUN
          have hnd : (n : Int) = (dp : Int) + 1 := by have := unhide HPP; omega
          have hmd : (m : Int) = (dh : Int) + 1 := by have := unhide HH; omega
          have HND := hide hnd
          have HMD := hide hmd
          clear hOK hIN hSAT hUN HL3 hnd hmd
          go_wp2_with fail
          refine (unhide HSV).mono ?_
          rintro e w3 ⟨kv, rfl, hX, hb3⟩
          have hs := hbr.size
          have hB3 : Below w2.heap.size w2 w3 := hbr.trans (hb3.mono hbr.size)
          have HENV : Hid (∀ wx, Below w2.heap.size w2 wx → EnvFrom wr.heap.size wx ∧ Env wx) := hide (fun wx hb => ⟨⟨w2, he.toEnvT, hs, hb⟩, he.below hb⟩)
          have HVD := hide (verdictP hX (unhide HENV w3 hB3).1 (unhide HLS) hl100)
          clear HSV hX
          go_wp2_with fail
          refine (unhide HVD).mono ?_
          rintro e w4 ⟨kind, rfl, HB4, hk⟩
          have hB4 := hB3.trans ((unhide HB4).mono hs)
          clear HVD
          by_cases hle : n ≤ m
          · have hk1 : kind = 1 := by
              rcases hk with ⟨h1, -⟩ | ⟨-, h2, -⟩
              · exact h1
              · exfalso
                have := unhide HSAT (by have := unhide HND; have := unhide HMD; omega)
                rw [List.all_eq_true] at this
                exact h2 _ this
            subst hk1
            clear hk
            go_wp2
            go_ret
            exact ⟨rfl, hB4⟩
          · have hk2 : kind = 2 ∧ Hid (∃ pv' pb', XAt wr.heap.size w4 wr.heap.size kv (keptTo L L.length) pv' pb' ∧ Accepted (keptTo L L.length) pb' ∧ pb'.length ≤ 100000000000 ∧ ∃ U, pb' = linesText U ++ [10]) := by
              rcases hk with ⟨-, b, h1⟩ | ⟨h1, -, h2⟩
              · exfalso
                have hz := unhide HUN (by have := unhide HND; have := unhide HMD; omega)
                exact (models_any (unhide HLI)).1 hz b h1
              · exact ⟨h1, h2⟩
            obtain ⟨rfl, HK⟩ := hk2
            obtain ⟨pv', pb', hX4, hA4, hp4', hU4⟩ := unhide HK
            have HFO := hide (followedK hX4 (kept_fine (unhide HLS) hl100) (maskText_small (unhide HLS) hl100) hA4 (by omega) hU4 (unhide HENV w4 hB4).2)
            clear hk hX4 hA4 HK hU4
            go_wp2_with fail
            refine (unhide HFO).mono ?_
            rintro e w5 ⟨rfl, hb5⟩
            go_wp2
            go_ret
            exact ⟨rfl, hB4.trans (hb5.mono hB4.size)⟩

theorem holes_all (n0 n1 : Int) (w : World) (b0 : ArgI n0) (b1 : ArgI n1) (he : Env w) :
    Calls Tryz.prog 10 #[.int .i64 n0, .int .i64 n1] w fun e w' => e = .returned (.bool true) ∧ Below w.heap.size w w' :=
  holes_walk n0 n1 w b0.1 b0.2 b1.1 b1.2 he

end Go.Proofs.YtekkkoipcghlmaaGreatDoor
