import Derived.Test.YtekkkoipcghlmaaGreatDoorA04
import Derived.Deep.RegionWith
import Derived.WalkSmall
import Derived.Handy
import Derived.Test.YtekkkoipcghlmaaGreatDoorA01
import Derived.Deep.AppendLies
import Derived.Deep.DeepCutAuto
set_option linter.all false
namespace Go.Proofs.YtekkkoipcghlmaaGreatDoor
open Go.RowKit

set_option maxRecDepth 100000 in
theorem variableOf_any (x : Int) (w : World) (h0 : -12 ≤ x) (h1 : x ≤ 12) :
    Calls Tryz.prog 129 #[.int .i64 x] w fun e w' => e = .returned (.int .i64 (x.natAbs : Int)) ∧ w' = w := by
  have hn : ((x.natAbs : Nat) : Int) = max x (-x) := by omega
  rw [hn]
  go_enter Tryz.func129, Tryz.ntmps129
  go_wp2
  go_ret
  exact ⟨rfl, rfl⟩

def Mem.truth (m : Mem) (v : Nat) : Int := (m.facts[v * 3]?).getD 0
def Mem.level (m : Mem) (v : Nat) : Int := (m.facts[v * 3 + 1]?).getD 0
def Mem.reason (m : Mem) (v : Nat) : Int := (m.facts[v * 3 + 2]?).getD 0

theorem SAt.facts {base : Nat} {w : World} {m : Mem} (h : SAt base w m) : ∃ b cap, m.fa = .slice (some ⟨b, 0, none⟩) 13 cap ∧ b < w.heap.size ∧ m.facts.length = 39 ∧ ∀ v, v < 13 → w.cell? ⟨b, v * 3, none⟩ = some (.int .i64 (m.truth v)) ∧ w.cell? ⟨b, v * 3 + 1, none⟩ = some (.int .i64 (m.level v)) ∧ w.cell? ⟨b, v * 3 + 2, none⟩ = some (.int .i64 (m.reason v)) := by
  have hr := h.pack.rows 5 _ rfl
  unfold Row.ok at hr
  obtain ⟨b, cap, hv, hb, hlt⟩ := World.ownsRow.form hr (show 0 < 13 by decide)
  have hv' : m.fa = .slice (some ⟨b, 0, none⟩) 13 cap := hv
  have hlen : m.facts.length = 39 := by have := hr.1; simpa [ints] using this
  have get : ∀ j, j < 39 → w.cell? ⟨b, j, none⟩ = some (.int .i64 ((m.facts[j]?).getD 0)) := by
    intro j hj
    have hr' : w.ownsRow base 170 3 (.slice (some ⟨b, 0, none⟩) 13 cap) 13 (ints m.facts) := by rw [← hv']; exact hr
    rw [hr'.cellAt j (by omega)]
    simp [ints, hlen, hj]
  exact ⟨b, cap, hv', hlt, hlen, fun v hv => ⟨get _ (by omega), get _ (by omega), get _ (by omega)⟩⟩

set_option maxRecDepth 100000 in
theorem fact_any (base : Nat) (m : Mem) (x : Int) (w : World) (hS : SAt base w m) (h0 : -12 ≤ x) (h1 : x ≤ 12) :
    Calls Tryz.prog 128 #[.pointer (some ⟨m.s, 3, none⟩), .int .i64 x] w fun e w' => e = .returned (.agg #[.int .i64 (m.truth x.natAbs), .int .i64 (m.level x.natAbs), .int .i64 (m.reason x.natAbs)]) ∧ Below w.heap.size w w' := by
  have HV := hide (fun wx => variableOf_any x wx h0 h1)
  obtain ⟨b, cap, hfa, hlt, -, hc⟩ := hS.facts
  have hc3 : w.cell? ⟨m.s, 3, none⟩ = some (.slice (some ⟨b, 0, none⟩) 13 cap) := by rw [hS.cell 3 (by decide), ← hfa]; rfl
  have hx : x.natAbs < 13 := by omega
  have hsl : m.s < w.heap.size := World.block_lt_of_cell? w ⟨m.s, 3, none⟩ hc3
  obtain ⟨c0, c1, c2⟩ := hc x.natAbs hx
  clear hc hS hfa
  generalize x.natAbs = v at *
  generalize m.truth v = t at *
  generalize m.level v = l at *
  generalize m.reason v = r at *
  go_enter Tryz.func128, Tryz.ntmps128
  go_wp2_with fail
  go_region_with (go_at_call 129; refine (unhide HV _).mono ?_; rintro e w3 ⟨rfl, rfl⟩)
  all_goals go_wp2
  all_goals go_returns
  all_goals exact ⟨rfl, belowDrew ((Below.refl _ _).alloc (Nat.le_refl _) _) 1⟩

theorem Tryz.field0 (t l r : Int) (w : World) : (Instr.field 170 (.agg #[.int .i64 t, .int .i64 l, .int .i64 r]) 0).run Tryz.prog w = .ok (.int .i64 t) w := by kernel_rfl
theorem Tryz.field1 (t l r : Int) (w : World) : (Instr.field 170 (.agg #[.int .i64 t, .int .i64 l, .int .i64 r]) 1).run Tryz.prog w = .ok (.int .i64 l) w := by kernel_rfl
theorem Tryz.field2 (t l r : Int) (w : World) : (Instr.field 170 (.agg #[.int .i64 t, .int .i64 l, .int .i64 r]) 2).run Tryz.prog w = .ok (.int .i64 r) w := by kernel_rfl
section
set_option maxRecDepth 100000 in
theorem isTrue_any (base : Nat) (m : Mem) (x : Int) (w : World) (hS : SAt base w m) (h0 : -12 ≤ x) (h1 : x ≤ 12) : Calls Tryz.prog 126 #[.pointer (some ⟨m.s, 3, none⟩), .int .i64 x] w fun e w' => e = .returned (.bool (m.truth x.natAbs == x)) ∧ Below w.heap.size w w' := by
  have HF := hide (fact_any base m x w hS h0 h1)
  generalize m.truth x.natAbs = t at *
  generalize m.level x.natAbs = l at *
  generalize m.reason x.natAbs = r at *
  have f0 := Tryz.field0
  clear hS
  go_enter Tryz.func126, Tryz.ntmps126
  go_wp2_with fail
  refine (unhide HF).mono ?_
  rintro e w3 ⟨rfl, hb⟩
  go_wp2
  go_ret
  exact ⟨rfl, hb⟩
set_option maxRecDepth 100000 in
theorem isFalse_any (base : Nat) (m : Mem) (x : Int) (w : World) (hS : SAt base w m) (h0 : -12 ≤ x) (h1 : x ≤ 12) : Calls Tryz.prog 80 #[.pointer (some ⟨m.s, 3, none⟩), .int .i64 x] w fun e w' => e = .returned (.bool (m.truth x.natAbs == -x)) ∧ Below w.heap.size w w' := by
  have HF := hide (fact_any base m x w hS h0 h1)
  generalize m.truth x.natAbs = t at *
  generalize m.level x.natAbs = l at *
  generalize m.reason x.natAbs = r at *
  have f0 := Tryz.field0
  clear hS
  go_enter Tryz.func80, Tryz.ntmps80
  go_wp2_with fail
  refine (unhide HF).mono ?_
  rintro e w3 ⟨rfl, hb⟩
  go_wp2
  go_ret
  exact ⟨rfl, hb⟩
set_option maxRecDepth 100000 in
theorem isOpen_any (base : Nat) (m : Mem) (x : Int) (w : World) (hS : SAt base w m) (h0 : -12 ≤ x) (h1 : x ≤ 12) : Calls Tryz.prog 113 #[.pointer (some ⟨m.s, 3, none⟩), .int .i64 x] w fun e w' => e = .returned (.bool (m.truth x.natAbs == 0)) ∧ Below w.heap.size w w' := by
  have HF := hide (fact_any base m x w hS h0 h1)
  generalize m.truth x.natAbs = t at *
  generalize m.level x.natAbs = l at *
  generalize m.reason x.natAbs = r at *
  have f0 := Tryz.field0
  clear hS
  go_enter Tryz.func113, Tryz.ntmps113
  go_wp2_with fail
  refine (unhide HF).mono ?_
  rintro e w3 ⟨rfl, hb⟩
  go_wp2
  go_ret
  exact ⟨rfl, hb⟩
end
set_option maxRecDepth 100000 in
theorem level_any (base : Nat) (m : Mem) (w : World) (hS : SAt base w m) : Calls Tryz.prog 73 #[.pointer (some ⟨m.s, 3, none⟩)] w fun e w' => e = .returned (.int .i64 (m.starts.length : Int)) ∧ w' = w := by
  have hc : w.cell? ⟨m.s, 5, none⟩ = some m.st := by rw [hS.cell 5 (by decide)]; rfl
  obtain ⟨ao, cp, hsh⟩ := owns_shape (hS.pack.rows 7 _ rfl)
  have hsh' : m.st = .slice ao m.starts.length cp := hsh
  rw [hsh'] at hc
  clear hS hsh hsh'
  go_enter Tryz.func73, Tryz.ntmps73
  go_wp2
  go_ret
  exact ⟨rfl, rfl⟩

end Go.Proofs.YtekkkoipcghlmaaGreatDoor

namespace Go.Proofs.YtekkkoipcghlmaaGreatDoor
open Go.RowKit

theorem append_cell {P : Program} {ops : Array Oper} {rest : List Oper} {o : Oper} {a : Act} {Q : Exit → Act → World → Prop} {w1 : World} {base n bytes : Nat} {v val z : Value} {xs : List Value} {tt : TypeId}
    (hgd : o.guard = none) (s x : Operand) (t e : TypeId) (ho : o.op = .call { callee := .builtin .append, args := #[s, x], argTypes := #[t, t] })
    (ht : P.underlying t = some (.slice e)) (hinfo : (P.info? e).map (fun i => (i.zero, i.size, i.bytes)) = some (some z, 1, bytes)) (hzs : z.cells.size = 1) (hby : bytes ≤ 24)
    (hown : w1.ownsRow base e 1 v n xs) (hs : a.eval s = v) (hx : a.eval x = .slice (some ⟨w1.heap.size, 0, none⟩) 1 1) (h1 : val.oneCell' = true) (hn : n ≤ 20000000) (hbase : base ≤ w1.heap.size)
    (h : ∀ (g cap : Nat) (w' : World), w'.ownsRow base e 1 (.slice (some ⟨g, 0, none⟩) (n + 1) cap) (n + 1) (xs ++ [val]) → (w1.alloc (.cells #[val] tt)).grownBy w' v.ownBlock → (v.ownBlock = some g ∨ g = (w1.alloc (.cells #[val] tt)).heap.size) → wpList P ops Q rest (a.put o.dst (.slice (some ⟨g, 0, none⟩) (n + 1) cap)) w') :
    wpList P ops Q (o :: rest) a (w1.alloc (.cells #[val] tt)) := by
  obtain ⟨i0, hi0, hz0, hz1, hz2⟩ := info_parts hinfo
  have hnb : (n + 1) * bytes ≤ 140737488355328 := Nat.le_trans (Nat.mul_le_mul (Nat.add_le_add_right hn 1) hby) (by omega)
  refine wpList_append_lies (P := P) _ hgd s x t ho base e i0 _ 1 bytes ht hi0 hz0 hz1 hz2 hzs (by decide) v n xs hs (hown.alloc _) ⟨w1.heap.size, 0, none⟩ 1 1 [val] hx rfl (cell_one_new _ _ _) ?_ (by decide) (by unfold maxLen; omega) hnb (by simp; omega) _ rfl ?_
  · intro u hu; simp at hu; subst hu; exact h1
  · intro g cap w' h1 h2 h3 _
    exact h g cap w' h1 h2 h3

/-- The same at a step of a region that draws. -/
theorem step_cell {P : Program} {ops : Array Oper} {o : Oper} {a : Act} {K : Act → World → Prop} {Q : Exit → Act → World → Prop} {E : Prop} {wz : World} {base n bytes B : Nat} {v val z : Value} {xs : List Value} {tt : TypeId}
    (hgd : o.guard = none) (s x : Operand) (t e : TypeId) (ho : o.op = .call { callee := .builtin .append, args := #[s, x], argTypes := #[t, t] })
    (ht : P.underlying t = some (.slice e)) (hinfo : (P.info? e).map (fun i => (i.zero, i.size, i.bytes)) = some (some z, 1, bytes)) (hzs : z.cells.size = 1) (hby : bytes ≤ 24)
    (hown : wz.ownsRow base e 1 v n xs) (hs : a.eval s = v) (hx : a.eval x = .slice (some ⟨B, 0, none⟩) 1 1) (hB : wz.heap[B]? = some (.cells #[val] tt (0, 0))) (h1 : val.oneCell' = true) (hn : n ≤ 20000000) (hbase : base ≤ wz.heap.size)
    (h : ∀ (g cap : Nat) (w' : World), w'.ownsRow base e 1 (.slice (some ⟨g, 0, none⟩) (n + 1) cap) (n + 1) (xs ++ [val]) → wz.grownBy w' v.ownBlock → (v.ownBlock = some g ∨ g = wz.heap.size) → K (a.put o.dst (.slice (some ⟨g, 0, none⟩) (n + 1) cap)) w') :
    if Region.wanted o (yielded ops a.tmps) = true then Oper.wp P o a wz K Q else E := by
  obtain ⟨i0, hi0, hz0, hz1, hz2⟩ := info_parts hinfo
  have hnb : (n + 1) * bytes ≤ 140737488355328 := Nat.le_trans (Nat.mul_le_mul (Nat.add_le_add_right hn 1) hby) (by omega)
  refine step_append_lies (P := P) wz hgd s x t ho base e i0 _ 1 bytes ht hi0 hz0 hz1 hz2 hzs (by decide) v n xs hs hown ⟨B, 0, none⟩ 1 1 [val] hx rfl (World.news_of_block hB) ?_ (by decide) (by unfold maxLen; omega) hnb hbase _ rfl ?_
  · intro u hu; simp at hu; subst hu; exact h1
  · intro g cap w' h1 h2 h3 _
    exact h g cap w' h1 h2 h3

/-- 'x = append(x, a, b)'. -/
theorem append_two {P : Program} {ops : Array Oper} {rest : List Oper} {o : Oper} {a : Act} {Q : Exit → Act → World → Prop} {w1 : World} {base n bytes : Nat} {v val val2 z : Value} {xs : List Value} {tt : TypeId}
    (hgd : o.guard = none) (s x : Operand) (t e : TypeId) (ho : o.op = .call { callee := .builtin .append, args := #[s, x], argTypes := #[t, t] })
    (ht : P.underlying t = some (.slice e)) (hinfo : (P.info? e).map (fun i => (i.zero, i.size, i.bytes)) = some (some z, 1, bytes)) (hzs : z.cells.size = 1) (hby : bytes ≤ 24)
    (hown : w1.ownsRow base e 1 v n xs) (hs : a.eval s = v) (hx : a.eval x = .slice (some ⟨w1.heap.size, 0, none⟩) 2 2) (h1 : val.oneCell' = true) (h2 : val2.oneCell' = true) (hn : n ≤ 10000000) (hbase : base ≤ w1.heap.size)
    (h : ∀ (g cap : Nat) (w' : World), w'.ownsRow base e 1 (.slice (some ⟨g, 0, none⟩) (n + 2) cap) (n + 2) (xs ++ [val, val2]) → (w1.alloc (.cells #[val, val2] tt)).grownBy w' v.ownBlock → (v.ownBlock = some g ∨ g = (w1.alloc (.cells #[val, val2] tt)).heap.size) → wpList P ops Q rest (a.put o.dst (.slice (some ⟨g, 0, none⟩) (n + 2) cap)) w') :
    wpList P ops Q (o :: rest) a (w1.alloc (.cells #[val, val2] tt)) := by
  obtain ⟨i0, hi0, hz0, hz1, hz2⟩ := info_parts hinfo
  have hnb : (n + 2) * bytes ≤ 140737488355328 := Nat.le_trans (Nat.mul_le_mul (Nat.add_le_add_right hn 2) hby) (by omega)
  refine wpList_append_lies (P := P) _ hgd s x t ho base e i0 _ 1 bytes ht hi0 hz0 hz1 hz2 hzs (by decide) v n xs hs (hown.alloc _) ⟨w1.heap.size, 0, none⟩ 2 2 [val, val2] hx rfl (World.news_of_block (heap_alloc_new w1 _)) ?_ (by decide) (by unfold maxLen; omega) hnb (by simp; omega) _ rfl ?_
  · intro u hu
    simp at hu
    rcases hu with rfl | rfl
    · exact h1
    · exact h2
  · intro g cap w' h1 h2 h3 _
    exact h g cap w' h1 h2 h3

section
variable {P : Program}
theorem append_types (t t' ty e e' : TypeId) (i : TypeInfo) (ht : P.underlying t = some (.slice e)) (ht' : P.underlying t' = some (.slice e')) (hi : P.info? e = some i) (bo : Option Addr) (n c : Nat) (b : Value) (w : World) : (Builtin.append_ #[t, t'] ty #[.slice bo n c, b]).run P w = (Builtin.append_ #[t, t] ty #[.slice bo n c, b]).run P w := by
  simp [Builtin.append_, run_underlying ht, run_underlying ht', sizeOf, typeInfo, hi]
theorem append_none (t ty e : TypeId) (w : World) {z : Value} {bytes : Nat} (ht : P.underlying t = some (.slice e)) (hinfo : (P.info? e).map (fun i => (i.zero, i.size, i.bytes)) = some (some z, 1, bytes)) {base n : Nat} {v : Value} {xs : List Value} (hown : w.ownsRow base e 1 v n xs) (ao : Option Addr) (cap : Nat) :
    (Builtin.append_ #[t, t] ty #[v, .slice ao 0 cap]).run P w = .ok v w := by
  obtain ⟨i, hi, hz0, hz1, hz2⟩ := info_parts hinfo
  rcases hown.2 with ⟨rfl, rfl⟩ | ⟨g, c, cur, rfl, _, hg, hle, _⟩
  · cases ao <;> simp [Builtin.append_, run_underlying ht, sizeOf, typeInfo, hi, Builtin.lenOf, Builtin.firstCells, loadCells, loadCellsFrom]
  · cases ao <;> simp [Builtin.append_, run_underlying ht, sizeOf, typeInfo, hi, Builtin.lenOf, Builtin.firstCells, loadCells, loadCellsFrom, hle, storeCells]
/-- 'x = append(x, l...)', l of whatever length. -/
theorem append_list {ops : Array Oper} {rest : List Oper} {o : Oper} {a : Act} {Q : Exit → Act → World → Prop} {w1 : World} {base n bytes : Nat} {v lv z : Value} {xs vs : List Value}
    (hgd : o.guard = none) (s x : Operand) (t t' e e' : TypeId) (ho : o.op = .call { callee := .builtin .append, args := #[s, x], argTypes := #[t, t'] })
    (ht : P.underlying t = some (.slice e)) (ht' : P.underlying t' = some (.slice e')) (hinfo : (P.info? e).map (fun i => (i.zero, i.size, i.bytes)) = some (some z, 1, bytes)) (hzs : z.cells.size = 1) (hby : bytes ≤ 24)
    (hown : w1.ownsRow base e 1 v n xs) (hs : a.eval s = v) (hx : a.eval x = lv) (hl : Lies w1 lv vs) (h1 : ∀ u, u ∈ vs → u.oneCell' = true) (hn : n + vs.length ≤ 20000000) (hbase : base ≤ w1.heap.size)
    (h : ∀ (v' : Value) (w' : World), w'.ownsRow base e 1 v' (n + vs.length) (xs ++ vs) → w1.grownBy w' v.ownBlock → (v'.ownBlock = v.ownBlock ∨ v'.ownBlock = some w1.heap.size) → (0 < vs.length → ∃ g cap, v' = .slice (some ⟨g, 0, none⟩) (n + vs.length) cap) → (vs = [] → v' = v) → wpList P ops Q rest (a.put o.dst v') w') :
    wpList P ops Q (o :: rest) a w1 := by
  obtain ⟨i0, hi0, hz0, hz1, hz2⟩ := info_parts hinfo
  obtain ⟨vo, vc, hvs⟩ : ∃ vo vc, v = .slice vo n vc := by
    rcases hown.2 with ⟨h', h0⟩ | ⟨g, cap, cur, h1, _⟩
    · subst h0; exact ⟨_, _, h'⟩
    · exact ⟨_, _, h1⟩
  subst hvs
  rcases hl with ⟨rfl, ao, cap, rfl⟩ | ⟨b, off, cap, hp, rfl, hb, hc⟩
  · refine wpList_plain hgd fun K hK => ?_
    have hr := append_none (P := P) t o.type e w1 ht hinfo hown ao cap
    unfold Oper.wp execOp
    simp only [ho, resolve, invoke, builtin, Sem.run_bind, Sem.run_pure, Result.andThen_ok, List.map_toArray, List.map_cons, List.map_nil, hs, hx, append_types t t' o.type e e' i0 ht ht' hi0, hr]
    exact hK _ _ (h _ w1 (by simpa using hown) ⟨rfl, rfl, rfl, Nat.le_refl _, fun _ _ _ => rfl⟩ (.inl rfl) (fun h => absurd h (by simp)) (fun _ => rfl))
  · have hnb : (n + vs.length) * bytes ≤ 140737488355328 := Nat.le_trans (Nat.mul_le_mul hn hby) (by omega)
    obtain ⟨g, c, w', hr, h2, h3, h4, h5⟩ := run_append_lies (P := P) w1 t o.type base e i0 _ 1 bytes ht hi0 hz0 hz1 hz2 hzs (by decide) _ n xs hown ⟨b, off, none⟩ vs.length cap vs (by simp) (fun j u hu => by
      have hadd : (⟨b, off, none⟩ : Addr).add j = ⟨b, off + j, none⟩ := by unfold Addr.add; split <;> simp_all
      rw [hadd]; exact hc j u hu) h1 hp (by unfold maxLen; omega) hnb hbase _ rfl
    refine wpList_plain hgd fun K hK => ?_
    unfold Oper.wp execOp
    simp only [ho, resolve, invoke, builtin, Sem.run_bind, Sem.run_pure, Result.andThen_ok, List.map_toArray, List.map_cons, List.map_nil, hs, hx, append_types t t' o.type e e' i0 ht ht' hi0, hr]
    refine hK _ _ (h _ w' h2 h3 ?_ (fun _ => ⟨g, c, rfl⟩) (fun e => by rw [e] at hp; simp at hp))
    rcases h4 with h4 | h4
    · exact .inl h4.symm
    · exact .inr (by rw [h4]; rfl)
end

end Go.Proofs.YtekkkoipcghlmaaGreatDoor

namespace Go.Proofs.YtekkkoipcghlmaaGreatDoor
open Go.RowKit

theorem Tryz.infoInt : (Tryz.prog.info? 3).map (fun i => (i.zero, i.size, i.bytes)) = some (some (.int .i64 0), 1, 8) := by kernel_rfl
theorem ints_set (l : List Int) (j : Nat) (x : Int) : ints (l.set j x) = (ints l).set j (.int .i64 x) := by simp [ints, List.map_set]
theorem ints_snoc (l : List Int) (x : Int) : ints (l ++ [x]) = ints l ++ [.int .i64 x] := by simp [ints]
theorem ints_len (l : List Int) : (ints l).length = l.length := by simp [ints]
section
variable {base : Nat} {w w' : World} {m : Mem}
theorem SAt.facts_free (h : SAt base w m) {b cap : Nat} (hv : m.fa = .slice (some ⟨b, 0, none⟩) 13 cap) (j : Nat) : w.frozen? ⟨b, j, none⟩ = false := by
  have hr := h.pack.rows 5 _ rfl
  unfold Row.ok at hr
  have hr' : w.ownsRow base 170 3 (.slice (some ⟨b, 0, none⟩) 13 cap) 13 (ints m.facts) := by rw [← hv]; exact hr
  exact hr'.frozenAt j
theorem Mut.fact1 (h : SAt base w m) {b cap : Nat} (hv : m.fa = .slice (some ⟨b, 0, none⟩) 13 cap) (j : Nat) (t : Int) : Mut base w m (w.setCell ⟨b, j, none⟩ (.int .i64 t)) { m with facts := m.facts.set j t } := by
  refine ⟨?_, h.ws, h.ls, h.counts, h.places, rfl, rfl, rfl⟩
  show PMut base w m.rows _ (m.rows.set 5 ⟨170, 3, m.fa, 13, ints (m.facts.set j t)⟩)
  rw [ints_set]
  exact PMut.store h.pack (i := 5) rfl hv j _
theorem Mut.drew {m' : Mem} (h : Mut base w m w' m') : Mut base w m w'.drew m' := h.trans (Mut.below h.at (Below.refl _ _).drew)
def setFact (l : List Int) (v : Nat) (t lv r : Int) : List Int := ((l.set (v * 3) t).set (v * 3 + 1) lv).set (v * 3 + 2) r
theorem Mut.fact3 (h : SAt base w m) {b cap : Nat} (hv : m.fa = .slice (some ⟨b, 0, none⟩) 13 cap) (hb : Below w.heap.size w w') (v : Nat) (t lv r : Int) : Mut base w m (((w'.setCell ⟨b, v * 3, none⟩ (.int .i64 t)).setCell ⟨b, v * 3 + 1, none⟩ (.int .i64 lv)).setCell ⟨b, v * 3 + 2, none⟩ (.int .i64 r)) { m with facts := setFact m.facts v t lv r } := by
  have h0 := Mut.below h hb
  have h1 := Mut.fact1 h0.at hv (v * 3) t
  have h2 := Mut.fact1 h1.at hv (v * 3 + 1) lv
  have h3 := Mut.fact1 h2.at hv (v * 3 + 2) r
  exact h0.trans (h1.trans (h2.trans h3))
/-- A field of the search is written. -/
theorem SAt.field (h : SAt base w m) (j : Nat) (u : Value) : PMut base w m.rows (w.setCell ⟨m.s, j, none⟩ u) (m.rows.set 0 ⟨120, m.sCells.length, .slice (some ⟨m.s, 0, none⟩) 1 1, 1, m.sCells.set j u⟩) := PMut.store h.pack (i := 0) rfl rfl j u
theorem SAt.lt (h : SAt base w m) : m.s < w.heap.size ∧ base ≤ m.s := by have := (h.pack.rows 0 _ rfl).lt m.s rfl; exact ⟨this.2, this.1⟩
/-- Behind the append to the order. -/
theorem Mut.order (h : SAt base w m) (hod : m.odr = m.od) (hor : m.ordr = m.order) {o : Obj} {w4 : World} {g cap : Nat} {x : Int} (hown : w4.ownsRow base 3 1 (.slice (some ⟨g, 0, none⟩) (m.order.length + 1) cap) (m.order.length + 1) (ints m.order ++ [.int .i64 x])) (hgr : (w.alloc o).grownBy w4 m.od.ownBlock) (hloc : m.od.ownBlock = some g ∨ g = (w.alloc o).heap.size) :
    Mut base w m (w4.setCell ⟨m.s, 4, none⟩ (.slice (some ⟨g, 0, none⟩) (m.order.length + 1) cap)) { m with od := .slice (some ⟨g, 0, none⟩) (m.order.length + 1) cap, order := m.order ++ [x], odr := .slice (some ⟨g, 0, none⟩) (m.order.length + 1) cap, ordr := m.order ++ [x] } ∧ w4.cell? ⟨m.s, 4, none⟩ = some m.od ∧ w4.frozen? ⟨m.s, 4, none⟩ = false := by
  have h1 := PMut.below h.pack ((Below.refl w.heap.size w).alloc (Nat.le_refl _) o)
  have hr6 : m.rows[6]? = some (intRow m.od m.order) := by rw [← hod, ← hor]; rfl
  have h2 := PMut.row h1.pack (i := 6) (r' := intRow (.slice (some ⟨g, 0, none⟩) (m.order.length + 1) cap) (m.order ++ [x])) hr6 (by unfold Row.ok intRow; rw [ints_snoc, List.length_append]; exact hown) hgr (by
    rcases hloc with h | h
    · exact .inr (.inl h.symm)
    · exact .inr (.inr ⟨g, rfl, by omega⟩))
  have h3 := PMut.store h2.pack (i := 0) rfl rfl 4 (.slice (some ⟨g, 0, none⟩) (m.order.length + 1) cap)
  refine ⟨⟨?_, h.ws, h.ls, h.counts, h.places, rfl, rfl, rfl⟩, ?_, ?_⟩
  · exact h1.trans (h2.trans h3)
  · exact World.ownsRow.cellAt (h2.pack.rows 0 _ rfl) 4 (by simp [structRow, Mem.sCells])
  · exact World.ownsRow.frozenAt (h2.pack.rows 0 _ rfl) 4
end

def Mem.taken (m : Mem) (x r : Int) (od : Value) : Mem := { m with facts := setFact m.facts x.natAbs x m.starts.length r, order := m.order ++ [x], od := od, odr := od, ordr := m.order ++ [x] }

set_option maxRecDepth 100000 in
set_option maxHeartbeats 1600000 in
theorem take_any (base : Nat) (m : Mem) (x r : Int) (w : World) (hS : SAt base w m) (h0 : -12 ≤ x) (h1 : x ≤ 12) (hbs : base ≤ w.heap.size) (hol : m.order.length ≤ 1000) (hod : m.odr = m.od) (hor : m.ordr = m.order) :
    Calls Tryz.prog 114 #[.pointer (some ⟨m.s, 3, none⟩), .int .i64 x, .int .i64 r] w fun e w' => e = .returned (.tuple #[]) ∧ ∃ od, Mut base w m w' (m.taken x r od) := by
  have HV := hide (fun wx => variableOf_any x wx h0 h1)
  have HL := hide (fun wx (hb : Below w.heap.size w wx) => level_any base m wx (hS.below hb))
  obtain ⟨b, cap, hfa, hlt, -, hc⟩ := hS.facts
  have hc3 : w.cell? ⟨m.s, 3, none⟩ = some (.slice (some ⟨b, 0, none⟩) 13 cap) := by rw [hS.cell 3 (by decide), ← hfa]; rfl
  have hx : x.natAbs < 13 := by omega
  have hsl : m.s < w.heap.size := World.block_lt_of_cell? w ⟨m.s, 3, none⟩ hc3
  obtain ⟨c0, c1, c2⟩ := hc x.natAbs hx
  have f0 := hS.facts_free hfa (x.natAbs * 3)
  have f1 := hS.facts_free hfa (x.natAbs * 3 + 1)
  have f2 := hS.facts_free hfa (x.natAbs * 3 + 2)
  have HM : Hid (∀ wq, Below w.heap.size w wq → Mut base w m (((wq.setCell ⟨b, x.natAbs * 3, none⟩ (.int .i64 x)).setCell ⟨b, x.natAbs * 3 + 1, none⟩ (.int .i64 m.starts.length)).setCell ⟨b, x.natAbs * 3 + 2, none⟩ (.int .i64 r)) { m with facts := setFact m.facts x.natAbs x m.starts.length r }) := hide (fun wq hb => Mut.fact3 hS hfa hb _ _ _ _)
  have HTK : Hid (∀ od, m.taken x r od = { ({ m with facts := setFact m.facts x.natAbs x m.starts.length r } : Mem) with order := m.order ++ [x], od := od, odr := od, ordr := m.order ++ [x] }) := hide (fun od => rfl)
  obtain ⟨m1, hm1⟩ : ∃ m1, m1 = ({ m with facts := setFact m.facts x.natAbs x m.starts.length r } : Mem) := ⟨_, rfl⟩
  rw [← hm1] at HM HTK
  have e1 : m1.s = m.s := by rw [hm1]
  have e2 : m1.od = m.od := by rw [hm1]
  have e3 : m1.order = m.order := by rw [hm1]
  have e4 : m1.odr = m1.od := by rw [hm1]; exact hod
  have e5 : m1.ordr = m1.order := by rw [hm1]; exact hor
  have HE := hide (And.intro e1 (And.intro e2 (And.intro e3 (And.intro e4 e5))))
  clear hc hS hfa hm1 e1 e2 e3 e4 e5 hod hor
  generalize m.starts.length = lv at *
  generalize x.natAbs = v at *
  generalize m.truth v = t at *
  generalize m.level v = l at *
  generalize m.reason v = ro at *
  go_enter Tryz.func114, Tryz.ntmps114
  go_upto_region 0 with fail
  go_cut [] (fun wx => Hid (Mut base w m wx m1))
  case first =>
    go_region_with first | (go_at_call 129; refine (unhide HV _).mono ?_; rintro e w3 ⟨rfl, rfl⟩) | (go_at_call 73; refine (unhide HL _ (by first | exact Below.refl _ _ | exact (Below.refl _ _).drew | exact (Below.refl _ _).drew.drew | exact (Below.refl _ _).drew.drew.drew)).mono ?_; rintro e w3 ⟨rfl, rfl⟩)
    all_goals (go_wp2_with fail; go_meet; first | exact hide (unhide HM _ (Below.refl _ _)).drew | exact hide (unhide HM _ (Below.refl _ _)) | exact hide (unhide HM _ (Below.refl _ _)).drew.drew | exact hide (unhide HM _ (Below.refl _ _)).drew.drew.drew)
  case rest =>
    obtain ⟨w1, rfl⟩ : ∃ w1, w1 = wc := ⟨wc, rfl⟩
    have HM1 := hcut
    obtain ⟨e1, e2, e3, e4, e5⟩ := unhide HE
    have hS1 := (unhide HM1).at
    have hc4 : w1.cell? ⟨m.s, 4, none⟩ = some m1.od := by rw [← e1, hS1.cell 4 (by decide)]; rfl
    have HROW : Hid (w1.ownsRow base 3 1 m1.od m1.order.length (ints m1.order)) := hide (by rw [← e4, ← e5]; exact hS1.pack.rows 6 _ rfl)
    obtain ⟨ao, cp, hsh⟩ := owns_shape (unhide HROW)
    have hb1 : base ≤ w1.heap.size := Nat.le_trans hbs (unhide HM1).to.only.size
    have hol1 : m1.order.length ≤ 1000 := by rw [e3]; exact hol
    have HO : Hid (∀ (o : Obj) (w4 : World) (g cap : Nat), w4.ownsRow base 3 1 (.slice (some ⟨g, 0, none⟩) (m1.order.length + 1) cap) (m1.order.length + 1) (ints m1.order ++ [.int .i64 x]) → (w1.alloc o).grownBy w4 m1.od.ownBlock → (m1.od.ownBlock = some g ∨ g = (w1.alloc o).heap.size) → Mut base w m (w4.setCell ⟨m.s, 4, none⟩ (.slice (some ⟨g, 0, none⟩) (m1.order.length + 1) cap)) (m.taken x r (.slice (some ⟨g, 0, none⟩) (m1.order.length + 1) cap)) ∧ w4.cell? ⟨m.s, 4, none⟩ = some m1.od ∧ w4.frozen? ⟨m.s, 4, none⟩ = false) := hide (fun o w4 g cap ho hg hl => by
      have hh := Mut.order hS1 e4 e5 ho hg hl
      rw [← e1]
      refine ⟨?_, hh.2⟩
      rw [unhide HTK, ← e3]
      exact (unhide HM1).trans hh.1)
    have hsl1 : m.s < w1.heap.size := Nat.lt_of_lt_of_le hsl (unhide HM1).to.only.size
    clear hcut hS1 e1 e2 e3 e4 e5 HTK HM HE HL HV hol
    generalize m1.order.length = n at *
    generalize ints m1.order = io at *
    generalize m1.od = ov at *
    subst hsh
    go_wp2_with (at_builtin; refine append_cell (base := base) rfl _ _ 25 3 rfl Tryz.underlying25 Tryz.infoInt rfl (by decide) (unhide HROW) rfl rfl rfl (by omega) hb1 ?_; intro g' cap' w4 hown4 hgr4 hloc; have HMID := hide (unhide HO _ _ _ _ hown4 hgr4 hloc); clear hown4 hgr4 hloc; have hc04 := (unhide HMID).2.1; have hf04 := (unhide HMID).2.2)
    go_end0
    exact ⟨rfl, _, (unhide HMID).1⟩

end Go.Proofs.YtekkkoipcghlmaaGreatDoor
