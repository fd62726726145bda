import Derived.Test.YtekkkoipcghlmabDoorSC05
import Derived.Test.YtekkkoipcghlmabDoorSC08
import Derived.Test.YtekkkoipcghlmabDoorSC02
set_option linter.all false
namespace Go.Proofs.YtekkkoipcghlmabDoor
open Go.RowKit

def s2 (k : Nat) : Value := .slice (some ⟨k, 0, none⟩) 2 2
def r2 (a b : Int) : Obj := .cells #[.int .i64 a, .int .i64 b] 3
theorem lastOf (w0 : World) (o : Obj) : (w0.alloc o).heap[w0.heap.size]? = some o := by show (w0.heap.push o)[w0.heap.size]? = _; simp

/-- The world with the four rows, and the list of them. -/
structure Four (w1 wa : World) : Prop where
  below : Below w1.heap.size w1 wa
  size : wa.heap.size = w1.heap.size + 5
  b0 : wa.heap[w1.heap.size]? = some (r2 1 2)
  b1 : wa.heap[w1.heap.size + 1]? = some (r2 (-1) 2)
  b2 : wa.heap[w1.heap.size + 1 + 1]? = some (r2 1 (-2))
  b3 : wa.heap[w1.heap.size + 1 + 1 + 1]? = some (r2 (-1) (-2))
  b4 : wa.heap[w1.heap.size + 1 + 1 + 1 + 1]? = some (.cells #[s2 w1.heap.size, s2 (w1.heap.size + 1), s2 (w1.heap.size + 1 + 1), s2 (w1.heap.size + 1 + 1 + 1)] 22 (0, 0))
theorem four_of (w1 : World) : Four w1 (((((w1.alloc (r2 1 2)).alloc (r2 (-1) 2)).alloc (r2 1 (-2))).alloc (r2 (-1) (-2))).alloc (.cells #[s2 w1.heap.size, s2 (w1.heap.size + 1), s2 (w1.heap.size + 1 + 1), s2 (w1.heap.size + 1 + 1 + 1)] 22)) := by
  have z1 : (w1.alloc (r2 1 2)).heap.size = w1.heap.size + 1 := by simp
  have z2 : ((w1.alloc (r2 1 2)).alloc (r2 (-1) 2)).heap.size = w1.heap.size + 1 + 1 := by simp
  have z3 : (((w1.alloc (r2 1 2)).alloc (r2 (-1) 2)).alloc (r2 1 (-2))).heap.size = w1.heap.size + 1 + 1 + 1 := by simp
  have z4 : ((((w1.alloc (r2 1 2)).alloc (r2 (-1) 2)).alloc (r2 1 (-2))).alloc (r2 (-1) (-2))).heap.size = w1.heap.size + 1 + 1 + 1 + 1 := by simp
  refine ⟨(((((Below.refl _ w1).alloc (Nat.le_refl _) _).alloc (by omega) _).alloc (by omega) _).alloc (by omega) _).alloc (by omega) _, by simp, ?_, ?_, ?_, ?_, ?_⟩
  · rw [Below.heap_alloc _ _ _ (by omega), Below.heap_alloc _ _ _ (by omega), Below.heap_alloc _ _ _ (by omega), Below.heap_alloc _ _ _ (by omega)]; exact lastOf _ _
  · rw [Below.heap_alloc _ _ _ (by omega), Below.heap_alloc _ _ _ (by omega), Below.heap_alloc _ _ _ (by omega), ← z1]; exact lastOf _ _
  · rw [Below.heap_alloc _ _ _ (by omega), Below.heap_alloc _ _ _ (by omega), ← z2]; exact lastOf _ _
  · rw [Below.heap_alloc _ _ _ (by omega), ← z3]; exact lastOf _ _
  · have := lastOf ((((w1.alloc (r2 1 2)).alloc (r2 (-1) 2)).alloc (r2 1 (-2))).alloc (r2 (-1) (-2))) (.cells #[s2 w1.heap.size, s2 (w1.heap.size + 1), s2 (w1.heap.size + 1 + 1), s2 (w1.heap.size + 1 + 1 + 1)] 22)
    rw [z4] at this
    exact this

theorem append_four {ops : Array Oper} {rest : List Oper} {o : Oper} {a : Act} {Q : Exit → Act → World → Prop} {w1 wa : World} {base n : Nat} {v : Value} {vs : List Value}
    (hgd : o.guard = none) (s x : Operand) (ho : o.op = .call { callee := .builtin .append, args := #[s, x], argTypes := #[23, 23] })
    (hF : Four w1 wa) (hown : w1.ownsRow base 22 1 v n vs) (hs : a.eval s = v) (hx : a.eval x = .slice (some ⟨w1.heap.size + 1 + 1 + 1 + 1, 0, none⟩) 4 4) (hn : n ≤ 1000) (hbase : base ≤ w1.heap.size)
    (h : ∀ (g cap : Nat) (w' : World), w'.ownsRow base 22 1 (.slice (some ⟨g, 0, none⟩) (n + 4) cap) (n + 4) (vs ++ [s2 w1.heap.size, s2 (w1.heap.size + 1), s2 (w1.heap.size + 1 + 1), s2 (w1.heap.size + 1 + 1 + 1)]) → wa.grownBy w' v.ownBlock → wpList Tryd.prog ops Q rest (a.put o.dst (.slice (some ⟨g, 0, none⟩) (n + 4) cap)) w') :
    wpList Tryd.prog ops Q (o :: rest) a wa := by
  obtain ⟨i0, hi0, hz0, hz1, hz2⟩ := info_parts Tryd.infoInts
  have hsz := hF.size
  refine wpList_append_lies (P := Tryd.prog) _ hgd s x 23 ho base 22 i0 _ 1 24 Tryd.underlying23 hi0 hz0 hz1 hz2 rfl (by decide) v n vs hs (owns_below hown hF.below) ⟨w1.heap.size + 1 + 1 + 1 + 1, 0, none⟩ 4 4 [s2 w1.heap.size, s2 (w1.heap.size + 1), s2 (w1.heap.size + 1 + 1), s2 (w1.heap.size + 1 + 1 + 1)] hx rfl ?_ ?_ (by decide) (by unfold maxLen; omega) (by omega) (by omega) _ rfl ?_
  · intro j u hu
    have hj : j < 4 := by have := (List.getElem?_eq_some_iff.1 hu).1; simpa using this
    have hadd : (⟨w1.heap.size + 1 + 1 + 1 + 1, 0, none⟩ : Addr).add j = ⟨w1.heap.size + 1 + 1 + 1 + 1, j, none⟩ := by
      simp [Addr.add]; intro e; exact e.symm
    rw [hadd, cell_of_row _ _ _ _ _ _ hF.b4]
    simpa using hu
  · intro u hu; simp at hu; rcases hu with rfl | rfl | rfl | rfl <;> rfl
  · intro g cap w' h1 h2 _ _
    exact h g cap w' h1 h2

theorem row_new {wa : World} {base k : Nat} {a b : Int} (h : wa.heap[k]? = some (r2 a b)) (hb : base ≤ k) : wa.ownsRow base 3 1 (s2 k) ([a, b] : List Int).length (ints [a, b]) :=
  ⟨by simp [ints], .inr ⟨k, 2, _, rfl, hb, h, by simp, by unfold maxLen; omega, rfl, rfl⟩⟩
theorem four_rows {w1 wa w' : World} {base n : Nat} {v : Value} {vs : List Value} {l : List (List Int)} (hF : Four w1 wa) (hown : w1.ownsRow base 22 1 v n vs) (hrows : RowsAt w1 base vs l) (hbase : base ≤ w1.heap.size) (hgr : wa.grownBy w' v.ownBlock) :
    RowsAt w' base (vs ++ [s2 w1.heap.size, s2 (w1.heap.size + 1), s2 (w1.heap.size + 1 + 1), s2 (w1.heap.size + 1 + 1 + 1)]) (l ++ [[1, 2], [-1, 2], [1, -2], [-1, -2]]) := by
  have h0 := hrows.below hF.below
  have h1 := (((h0.snoc (row_new hF.b0 hbase)).snoc (row_new hF.b1 (by omega))).snoc (row_new hF.b2 (by omega))).snoc (row_new hF.b3 (by omega))
  have h2 := h1.grown (owns_below hown hF.below) hgr
  simpa using h2

theorem base_of {l : List (List Int)} (hlen : l.length ≤ 30) (hall : ∀ d, d ∈ l → In 5 d ∧ d.length ≤ 3) : Base (l ++ [[1, 2], [-1, 2], [1, -2], [-1, -2]]) ∧ (∀ d, d ∈ l ++ [[1, 2], [-1, 2], [1, -2], [-1, -2]] → d.length ≤ 3) := by
  have h3 : ∀ d, d ∈ l ++ [[1, 2], [-1, 2], [1, -2], [-1, -2]] → d.length ≤ 3 := fun d hd => by
    rcases List.mem_append.1 hd with hd | hd
    · exact (hall d hd).2
    · simp at hd; rcases hd with rfl | rfl | rfl | rfl <;> decide
  refine ⟨⟨fun d hd x hx => ?_, by simp, ?_⟩, h3⟩
  · rcases List.mem_append.1 hd with hd | hd
    · exact (hall d hd).1 x hx
    · simp at hd
      rcases hd with rfl | rfl | rfl | rfl <;> (simp at hx; rcases hx with rfl | rfl <;> decide)
  · have := text_len _ h3
    simp at this ⊢; omega

set_option maxRecDepth 100000 in
set_option maxHeartbeats 3200000 in
theorem spoilt_walk (v1 v2 : Value) (zs ys : List Int) (at_ : Int) (w : World) (h0 : -9223372036854775808 ≤ at_) (h1 : at_ ≤ 9223372036854775807) (hl1 : zs.length ≤ 9223372036854775807) (hl2 : ys.length ≤ 9223372036854775807) (hf1 : Fits zs) (hf2 : Fits ys) (hv1 : Lies w v1 (ints zs)) (hv2 : Lies w v2 (ints ys)) (he : Env w) :
    Calls Tryd.prog 3 #[v1, .int .i64 at_, v2] w fun e w' => e = .returned (.bool true) ∧ Below w.heap.size w w' := by
  have HC : Hid (Calls Tryd.prog 4 #[v1, .int .i64 5, .int .i64 30] w fun e w' => ∃ ov vs l, e = .returned ov ∧ w'.ownsRow w.heap.size 22 1 ov l.length vs ∧ RowsAt w' w.heap.size vs l ∧ l.length ≤ 30 ∧ (∀ d, d ∈ l → In 5 d ∧ d.length ≤ 3) ∧ Below w.heap.size w w') := hide (clausesK_any v1 zs 5 30 w hl1 hf1 (by decide) (by decide) (by decide) hv1)
  have HV2 := hide hv2
  clear hv1 hv2
  go_enter Tryd.func3, Tryd.ntmps3
  go_wp2_with fail
  refine (unhide HC).mono ?_
  rintro e w1 ⟨ov, vs, l, rfl, hrow, hrows, hlen, hall, hb1⟩
  obtain ⟨oo, oc, hsh⟩ := owns_shape hrow
  subst hsh
  obtain ⟨wa, hwa⟩ : ∃ wa, (((((w1.alloc (.cells #[.int .i64 1, .int .i64 2] 3)).alloc (.cells #[.int .i64 (-1), .int .i64 2] 3)).alloc (.cells #[.int .i64 1, .int .i64 (-2)] 3)).alloc (.cells #[.int .i64 (-1), .int .i64 (-2)] 3)).alloc (.cells #[.slice (some ⟨w1.heap.size, 0, none⟩) 2 2, .slice (some ⟨w1.heap.size + 1, 0, none⟩) 2 2, .slice (some ⟨w1.heap.size + 1 + 1, 0, none⟩) 2 2, .slice (some ⟨w1.heap.size + 1 + 1 + 1, 0, none⟩) 2 2] 22)) = wa := ⟨_, rfl⟩
  have HF : Hid (Four w1 wa) := hide (by rw [← hwa]; exact four_of w1)
  have hbase := hb1.size
  have HROW := hide hrow
  have HROWS := hide hrows
  obtain ⟨hB, h3⟩ := base_of hlen hall
  have HBASE := hide hB
  have H3 := hide h3
  clear hrow hrows hB h3 hall
  go_wp2_with (at_builtin; refine append_four rfl _ _ rfl (unhide HF) (unhide HROW) rfl rfl (by omega) hbase ?_; intro g cp w2 hown2 hgr2; have HO2 := hide hown2; have HR2 := hide (four_rows (unhide HF) (unhide HROW) (unhide HROWS) hbase hgr2); have hb2 : Below w.heap.size w w2 := (hb1.trans ((unhide HF).below.mono hbase)).grown hgr2 (Nat.le_trans hbase (unhide HF).below.size) (fun j hj => ((unhide HROW).lt j hj).1); clear hown2 hgr2)
  have hL : (l ++ [[1, 2], [-1, 2], [1, -2], [-1, -2]]).length = l.length + 4 := by simp
  have hTl : (Sp.textOf (l ++ [[1, 2], [-1, 2], [1, -2], [-1, -2]])).length ≤ 5000 := (unhide HBASE).short
  have HTX := hide (textK_any (.slice (some ⟨g, 0, none⟩) (l.length + 4) cp) _ (l ++ [[1, 2], [-1, 2], [1, -2], [-1, -2]]) w.heap.size w2 (by rw [hL]; exact unhide HO2) (unhide HR2) (by rw [hL]; omega) (fun d hd => ⟨fun x hx => (unhide HBASE).lt d hd x hx, Nat.le_trans (unhide H3 d hd) (by decide)⟩) (by omega) (he.below hb2).toEnvT)
  have K : ∀ (s t : List UInt8) (r : Int × Int), CheckOut s t r → s.length ≤ 9000 → t.length ≤ 9000 → ∀ wx, Below w.heap.size w wx → Calls Tryd.prog 6 #[.string (bs s), .string (bs t)] wx fun e w' => e = .returned (.tuple #[.int .i64 r.1, .int .i64 r.2]) ∧ Below w.heap.size w w' := fun s t r h hs ht wx hx =>
    (checkK wx h (by omega) (by omega) (he.below hx)).mono (fun e w' h => ⟨h.1, hx.trans (h.2.mono hx.size)⟩)
  have C6 := check6 (unhide HBASE) [50, 10, 10]
  rw [hL] at C6
  have HK1 := hide (K _ _ _ (check1 (unhide HBASE)) (by omega) (by decide))
  have HK2 := hide (K _ _ _ (check2 (unhide HBASE)) (by omega) (by decide))
  have HK3 := hide (K _ _ _ (check3 (unhide HBASE)) (by omega) (by decide))
  have HK4 := hide (K _ _ _ (check4 (unhide HBASE)) (by omega) (by decide))
  have HK5 := hide (K _ _ _ check5 (by decide) (by decide))
  have HK6 := hide (K _ _ _ C6 (by simp; omega) (by decide))
  have HK7 := hide (K _ _ _ (check7 (unhide HBASE) [50, 10, 10]) (by simp; omega) (by decide))
  have HK8 := hide (fun (c : List Int) hc hl => K _ _ _ (check8 (unhide HBASE) (c := c) hc hl) (by omega) (by simp; omega))
  have HK9 := hide (K _ _ _ (check9 (unhide HBASE)) (by omega) (by decide))
  have HK10 := hide (K _ _ _ (check10 (unhide HBASE)) (by omega) (by decide))
  have HK11 := hide (K _ _ _ (check11 (unhide HBASE)) (by omega) (by decide))
  clear K C6
  generalize Sp.textOf (l ++ [[1, 2], [-1, 2], [1, -2], [-1, -2]]) = T at *
  refine (unhide HTX).mono ?_
  rintro e w3 ⟨rfl, hb3⟩
  have hbw3 := hb2.trans (hb3.mono hb2.size)
  have A2 : ∀ wx, (Op.stringOp .add ⟨#[50, 10, 10]⟩ ⟨#[100, 32, 54, 32, 55, 32, 56, 10]⟩).run Tryd.prog wx = .ok (.string (bs [50, 10, 10, 100, 32, 54, 32, 55, 32, 56, 10])) wx := fun wx => add_bs [50, 10, 10] [100, 32, 54, 32, 55, 32, 56, 10] (by decide) wx
  have A3 : ∀ wx, (Op.stringOp .add ⟨#[50, 10, 10]⟩ ⟨#[49, 32, 32, 50, 10]⟩).run Tryd.prog wx = .ok (.string (bs [50, 10, 10, 49, 32, 32, 50, 10])) wx := fun wx => add_bs [50, 10, 10] [49, 32, 32, 50, 10] (by decide) wx
  have A4 : ∀ wx, (Op.stringOp .add ⟨#[50, 10, 10]⟩ ⟨#[49, 32, 50]⟩).run Tryd.prog wx = .ok (.string (bs [50, 10, 10, 49, 32, 50])) wx := fun wx => add_bs [50, 10, 10] [49, 32, 50] (by decide) wx
  have A6 : ∀ wx, (Op.stringOp .add (bs T) ⟨#[49, 51, 10]⟩).run Tryd.prog wx = .ok (.string (bs (T ++ [49, 51, 10]))) wx := fun wx => add_bs T [49, 51, 10] (by simp; omega) wx
  have A7 : ∀ wx, (Op.stringOp .add ⟨#[100, 32, 54, 32, 55, 32, 56, 10]⟩ (bs T)).run Tryd.prog wx = .ok (.string (bs ([100, 32, 54, 32, 55, 32, 56, 10] ++ T))) wx := fun wx => add_bs [100, 32, 54, 32, 55, 32, 56, 10] T (by simp; omega) wx
  go_wp2_with fail
  refine (unhide HK1 _ hbw3).mono ?_
  rintro e w4 ⟨rfl, hbw4⟩
  go_wp2_with fail
  refine (unhide HK2 _ hbw4).mono ?_
  rintro e w5 ⟨rfl, hbw5⟩
  go_wp2_with fail
  refine (unhide HK3 _ hbw5).mono ?_
  rintro e w6 ⟨rfl, hbw6⟩
  go_wp2_with fail
  refine (unhide HK4 _ hbw6).mono ?_
  rintro e w7 ⟨rfl, hbw7⟩
  go_wp2_with fail
  refine (unhide HK5 _ hbw7).mono ?_
  rintro e w8 ⟨rfl, hbw8⟩
  go_wp2_with fail
  refine (unhide HK6 _ hbw8).mono ?_
  rintro e w9 ⟨rfl, hbw9⟩
  go_wp2_with fail
  refine (unhide HK7 _ hbw9).mono ?_
  rintro e w10 ⟨rfl, hbw10⟩
  have HSO : Hid (Calls Tryd.prog 8 #[v2, .int .i64 12, .int .i64 6] w10 fun e w' => ∃ v' xs, e = .returned v' ∧ w'.ownsRow w10.heap.size 3 1 v' xs.length (ints xs) ∧ xs.length ≤ 6 ∧ In 12 xs ∧ Below w10.heap.size w10 w') := hide (someK_any v2 ys 12 6 w10 hl2 hf2 (by decide) (by decide) (by decide) ((unhide HV2).below hbw10))
  go_wp2_with fail
  refine (unhide HSO).mono ?_
  rintro e w11 ⟨mv, xs, rfl, hmrow, hml, hmi, hb11⟩
  have hbw11 := hbw10.trans (hb11.mono hbw10.size)
  have HMI := hide hmi
  have HLN := hide (lineK_any mv xs w11 (by omega) hmi (lies_of_owns hmrow (by simp [ints])) (he.below hbw11).toEnvT)
  have hbl := toldBody_len xs
  have hml2 : (Sp.told xs).length ≤ 500 := by simp [Sp.told]; omega
  have HK8' := hide (unhide HK8 xs (fun x hx => unhide HMI x hx) hml2)
  clear hmi hmrow HK8
  generalize Sp.told xs = mo at *
  go_wp2_with fail
  refine (unhide HLN).mono ?_
  rintro e w12 ⟨rfl, hb12⟩
  have hbw12 := hbw11.trans (hb12.mono hbw11.size)
  obtain ⟨pm, hpm⟩ : ∃ pm : List UInt8, pm = [50, 10, 10] ++ mo := ⟨_, rfl⟩
  obtain ⟨qm, hqm⟩ : ∃ qm : List UInt8, qm = pm ++ [100, 10] := ⟨_, rfl⟩
  have A8 : ∀ wx, (Op.stringOp .add ⟨#[50, 10, 10]⟩ (bs mo)).run Tryd.prog wx = .ok (.string (bs pm)) wx := fun wx => by rw [hpm]; exact add_bs [50, 10, 10] mo (by simp; omega) wx
  have A9 : ∀ wx, (Op.stringOp .add (bs pm) ⟨#[100, 10]⟩).run Tryd.prog wx = .ok (.string (bs qm)) wx := fun wx => by rw [hqm]; exact add_bs pm [100, 10] (by rw [hpm]; simp; omega) wx
  rw [← hpm, ← hqm] at HK8'
  clear hpm hqm
  go_wp2_with fail
  refine (unhide HK8' _ hbw12).mono ?_
  rintro e w13 ⟨rfl, hbw13⟩
  have HPI : Hid (Calls Tryd.prog 9 #[.int .i64 at_, .int .i64 3] w13 fun e w' => (∃ d : Nat, d < 3 ∧ e = .returned (.int .i64 d)) ∧ w' = w13) := hide (pickK_any at_ 3 w13 h0 h1 (by decide) (by decide))
  go_wp2_with fail
  refine (unhide HPI).mono ?_
  rintro e w14 ⟨⟨d, hd, rfl⟩, rfl⟩
  have hd3 : d = 0 ∨ d = 1 ∨ d = 2 := by omega
  rcases hd3 with rfl | rfl | rfl
  · have SL : ∀ wx, (Instr.slice 9 (.string ⟨#[50, 10, 10]⟩) none (some (.int .i64 0)) none).run Tryd.prog wx = .ok (.string (bs [])) wx := fun wx => slice_to_bs 9 Tryd.underlying9 [50, 10, 10] 0 0 rfl (by decide) wx
    go_wp2_with fail
    refine (unhide HK9 _ hbw13).mono ?_
    rintro e w15 ⟨rfl, hbw15⟩
    go_wp2
    go_ret
    exact ⟨by simp, hbw15⟩
  · have SL : ∀ wx, (Instr.slice 9 (.string ⟨#[50, 10, 10]⟩) none (some (.int .i64 1)) none).run Tryd.prog wx = .ok (.string (bs [50])) wx := fun wx => slice_to_bs 9 Tryd.underlying9 [50, 10, 10] 1 1 rfl (by decide) wx
    go_wp2_with fail
    refine (unhide HK10 _ hbw13).mono ?_
    rintro e w15 ⟨rfl, hbw15⟩
    go_wp2
    go_ret
    exact ⟨by simp, hbw15⟩
  · have SL : ∀ wx, (Instr.slice 9 (.string ⟨#[50, 10, 10]⟩) none (some (.int .i64 2)) none).run Tryd.prog wx = .ok (.string (bs [50, 10])) wx := fun wx => slice_to_bs 9 Tryd.underlying9 [50, 10, 10] 2 2 rfl (by decide) wx
    go_wp2_with fail
    refine (unhide HK11 _ hbw13).mono ?_
    rintro e w15 ⟨rfl, hbw15⟩
    go_wp2
    go_ret
    exact ⟨by simp, hbw15⟩

end Go.Proofs.YtekkkoipcghlmabDoor

namespace Go.Proofs.YtekkkoipcghlmabDoor
open Go.ChangeShapes Go.WideShapes Go.ChangeAt Go.RowKit Go.Deep

theorem Tryd.laidOutS : laidOutB Tryd.prog = true := by kernel_rfl
theorem wf_bdS {n : Int} (h : (Lit.int .i64 n).wf = true) : -9223372036854775808 ≤ n ∧ n ≤ 9223372036854775807 := by
  have h1 : IntKind.i64.min = -9223372036854775808 := by decide
  have h2 : IntKind.i64.max = 9223372036854775807 := by decide
  simp only [Lit.wf, Bool.and_eq_true, decide_eq_true_eq] at h
  rw [h1, h2] at h
  exact h

/-- A list of numbers, out of its reading. -/
theorem ints_read {H : Type} {enc : TypeId × Value → H} {W : World} {base n : Nat} {spare : Nat → Bool} {held : Bool} {a0 : Option Addr} {l0 c0 : Nat} {y : DataW H × List MemPlace}
    (h : DataW.trod enc Tryd.prog W base spare held n 22 (Value.slice a0 l0 c0).cells.toList = some y) : ∃ xs : List Int, Lies W (.slice a0 l0 c0) (ints xs) ∧ Fits xs ∧ xs.length ≤ 9223372036854775807 ∧ l0 ≤ c0 := by
  rcases open_slice1 Tryd.underlying22 Tryd.cellsInt h with ⟨hcs, hx⟩ | ⟨a, len, cap, m, n', V, D, Pl, hcs, hab, hl, hm, hmm, hx, hel⟩
  · simp [Value.cells] at hcs
    obtain ⟨rfl, rfl, rfl⟩ := hcs
    exact ⟨[], Lies.nil _, fun z hz => (by cases hz), by simp, Nat.le_refl _⟩
  · simp [Value.cells] at hcs
    obtain ⟨rfl, rfl, rfl⟩ := hcs
    have hlm : l0 ≤ m := by rw [hmm]; split <;> omega
    have hV : ∀ i, i < l0 → V i = .int .i64 (intOf (V i)) ∧ (-9223372036854775808 ≤ intOf (V i) ∧ intOf (V i) ≤ 9223372036854775807) := fun i hi => by
      obtain ⟨_, ht⟩ := hel i (by omega)
      obtain ⟨q, e0, _, hw⟩ := DataW.trod_int Tryd.underlying3 ht
      simp at e0; rw [e0]
      exact ⟨rfl, wf_bdS hw⟩
    refine ⟨(List.range l0).map (fun i => intOf (V i)), ?_, fun z hz => ?_, by unfold maxLen at hm; simp; omega, hl⟩
    · by_cases h0 : l0 = 0
      · subst h0; exact .inl ⟨rfl, _, _, rfl⟩
      · obtain ⟨b, off, spot⟩ := a
        have cz := (hel 0 (by omega)).1
        have hspot : spot = none := by simpa [Addr.add] using World.cell?_spot cz
        subst hspot
        have hb : b < W.heap.size := by simpa [Addr.add] using World.block_lt_of_cell? W _ cz
        refine .inr ⟨b, off, c0, by simp [ints]; omega, by simp [ints], hb, fun k x hk => ?_⟩
        have hkl : k < l0 := by
          have := (List.getElem?_eq_some_iff.1 hk).1
          simpa [ints] using this
        have hxk : x = .int .i64 (intOf (V k)) := by
          simp [ints, hkl] at hk; exact hk.symm
        have hc := (hel k (by omega)).1
        rw [show (⟨b, off, none⟩ : Addr).add k = ⟨b, off + k, none⟩ from by simp [Addr.add]] at hc
        rw [hc, hxk, ← (hV k hkl).1]
    · obtain ⟨i, hi, rfl⟩ := List.mem_map.1 hz
      exact (hV i (by simpa using hi)).2

end Go.Proofs.YtekkkoipcghlmabDoor

namespace Go.Proofs.YtekkkoipcghlmabDoor
open Go.ChangeShapes Go.WideShapes Go.ChangeAt Go.RowKit Go.Deep

set_option maxRecDepth 100000 in
theorem spoilt_contract (H : Type) (enc : TypeId × Value → H) (W : World) (base : Nat) (args : Array Value) (ds gs : List (DataW H)) (before : List MemPlace)
    (hval : ∀ (j : Nat) t v, Tryd.f3.params[j]? = some t → args[j]? = some v → Value.okWide Tryd.prog W .any base t v)
    (hW : DataW.Whole enc Tryd.prog Tryd.f3.params.toList Rows.spoiltSpec.vars false W args.toList ds gs before) (hL : laidMetH Tryd.prog Rows.spoiltRow.laid W) (hS : W.ShapedOpen Tryd.prog) :
    Calls Tryd.prog 3 args W fun e W' => ∃ v, e = .returned v ∧ Rows.spoiltSpec.post enc Tryd.prog Tryd.f3 false true false false W args v W' := by
  have he := env_of hL hS
  have hW' := hW
  obtain ⟨p, q, hA0, hV, rfl, hfz, hnd⟩ := hW
  have hA : DataW.TrodAll enc Tryd.prog W 0 (fun _ => true) true Tryd.f3.params.toList args.toList ds p := hA0
  rw [Tryd.params3] at hA hval
  obtain ⟨v0, vs0, d0, ds0, p0, q0, hargs, rfl, rfl, t0, r0⟩ := trodAll_cons hA
  obtain ⟨v1, vs1, d1, ds1, p1, q1, rfl, rfl, rfl, t1, r1⟩ := trodAll_cons r0
  obtain ⟨v2, vs2, d2, ds2, p2, q2, rfl, rfl, rfl, t2, r2'⟩ := trodAll_cons r1
  obtain ⟨rfl, rfl, rfl⟩ := trodAll_nil r2'
  obtain rfl : args = #[v0, v1, v2] := by cases args; simp_all
  obtain ⟨rfl, rfl⟩ := trodVars_none hV
  obtain ⟨a0, l0, c0, rfl⟩ := okWide_slice Tryd.underlying22 (hval 0 22 v0 rfl rfl)
  obtain ⟨a2, l2, c2, rfl⟩ := okWide_slice Tryd.underlying22 (hval 2 22 v2 rfl rfl)
  obtain ⟨n, rfl, rfl, rfl, hwn⟩ := open_int Tryd.underlying3 (hval 1 3 v1 rfl rfl) t1
  clear hA0
  simp only [List.append_nil, List.nil_append] at hW'
  have hlt : ∀ x ∈ p0 ++ p2, x.block < W.heap.size := fun x hx => by simpa using hW'.lt x hx
  have hlt0 : ∀ x ∈ p0, x.block < W.heap.size := fun x hx => hlt x (List.mem_append_left _ hx)
  have hlt2 : ∀ x ∈ p2, x.block < W.heap.size := fun x hx => hlt x (List.mem_append_right _ hx)
  have k0 := fun (W' : World) (hn : Below W.heap.size W W') => Below.trod Tryd.laidOutS (by kernel_rfl) (of_decide_eq_true (by kernel_rfl)) t0 hn hlt0
  have k2 := fun (W' : World) (hn : Below W.heap.size W W') => Below.trod Tryd.laidOutS (by kernel_rfl) (of_decide_eq_true (by kernel_rfl)) t2 hn hlt2
  obtain ⟨f0, hf0⟩ := t0
  obtain ⟨f2, hf2⟩ := t2
  obtain ⟨zs, hz1, hz2, hz3, -⟩ := ints_read hf0
  obtain ⟨ys, hy1, hy2, hy3, -⟩ := ints_read hf2
  have hb := wf_bdS hwn
  refine (spoilt_walk _ _ zs ys n W hb.1 hb.2 hz3 hy3 hz2 hy2 hz1 hy1 he).mono fun e W' ⟨hr, hb'⟩ => ?_
  subst hr
  exact ⟨_, rfl, _, _, _, [], p0 ++ ([] ++ (p2 ++ [])), [], hW', trodAll_mk1 (shut_bool Tryd.underlying4 _), trodAll_cons_mk (k0 W' hb') (trodAll_cons_mk (shut_int Tryd.underlying3 hwn) (trodAll_cons_mk (k2 W' hb') trodAll_mk0)), rfl, hb'.frame _, fun h => by cases h⟩

theorem spoilt_start_met (os : Os) : laidMet Tryd.prog Rows.spoiltRow.laid ((World.laidAll Tryd.prog os Rows.spoiltRow.laid).forCall (fun _ _ => 0) ⟨#[], #[.slice none 0 0, .int .i64 0, .slice none 0 0], []⟩).memory :=
  laidMet_laidAll _ (by kernel_rfl) (by kernel_rfl)
theorem spoilt_start_reads (os : Os) {H : Type} (enc : TypeId × Value → H) : ∃ places, DataW.whole enc Tryd.prog ((World.laidAll Tryd.prog os Rows.spoiltRow.laid).forCall (fun _ _ => 0) ⟨#[], #[.slice none 0 0, .int .i64 0, .slice none 0 0], []⟩).memory Tryd.f3.params.toList Rows.spoiltSpec.vars false #[Value.slice none 0 0, Value.int .i64 0, Value.slice none 0 0].toList 8 = some ([.nil, .lit (.int .i64 0), .nil], [], places) :=
  ⟨[], by kernel_rfl⟩

set_option maxRecDepth 100000 in
theorem spoilt_lifted (os : Os) (started : os.Started) (H : Type) (enc : TypeId × Value → H) (F : Stop.Interp) :
    ReturnsInHanded {} Tryd.checked os 3 .any ((OpenSpec.ofChange Rows.spoiltSpec).preRow enc Tryd.prog Tryd.f3 Rows.spoiltRow.domain false Rows.spoiltRow.laid) (((OpenSpec.ofChange Rows.spoiltSpec).at F).post enc Tryd.prog Tryd.f3 false true false false) := by
  obtain ⟨places, hx⟩ := spoilt_start_reads os enc
  refine returnsInHanded_of_row (C := Tryd.checked) (s := OpenSpec.ofChange Rows.spoiltSpec) Tryd.ownKnob started (by kernel_rfl) Tryd.func3
    ⟨World.laidAll Tryd.prog os Rows.spoiltRow.laid, fun _ _ => 0, ⟨#[], #[.slice none 0 0, .int .i64 0, .slice none 0 0], []⟩, World.laidAll_os _ _ _, World.shaped_of_ZipB (by kernel_rfl) (by kernel_rfl), rfl, (Input.okWide_of_okWideB (by kernel_rfl)).2,
      OpenSpec.preRow_of_cond 8 hx (by kernel_rfl) (fun k hk => by cases hk) (by kernel_rfl) (spoilt_start_met os), by simp [Assume.holds]⟩ ?_
  intro W base args ds gs before hval hW _ _ _ hL hS _
  exact spoilt_contract H enc W base args ds gs before hval hW hL hS

theorem spoilt_said : Rows.SpoiltSaid :=
  OpenClaim.holds_of_cond 3 Tryd.f3 rfl rfl rfl rfl rfl rfl rfl ⟨rfl, rfl, rfl, rfl, rfl⟩ rfl rfl rfl rfl rfl (by kernel_rfl) Tryd.func3 (by kernel_rfl)
    (of_decide_eq_true (by kernel_rfl)) (by unfold Func.isWrapper; first | (rw [if_pos (by decide +kernel)]; kernel_rfl) | (rw [if_neg (by decide +kernel)]; exact ⟨rfl, rfl⟩))
    (fun os started H enc _ F => by rw [OpenClaim.pre_eq_preRow]; exact spoilt_lifted os started H enc F)

theorem spoilt_plain (f : FuncId) (fn : Func) (hf : Tryd.pinned.checked.prog.funcNamed "knots/knotskeep.Spoilt" = some f) (hfn : Tryd.pinned.checked.prog.funcs[f]? = some fn) :
    true = Tryd.pinned.checked.prog.looks [] ∧ ∀ (j : Nat) t, fn.params[j]? = some t → Tryd.pinned.checked.prog.wantsStandIn t = false := by
  obtain rfl : f = 3 := Option.some.inj ((show Tryd.prog.funcNamed "knots/knotskeep.Spoilt" = some 3 by kernel_rfl).symm.trans hf) |>.symm
  obtain rfl : fn = Tryd.f3 := (Option.some.inj (Tryd.func3.symm.trans hfn)).symm
  refine ⟨by kernel_rfl, fun j t ht => ?_⟩
  rw [Tryd.params3] at ht
  have hm : t = 22 ∨ t = 3 := by
    have := Array.mem_of_getElem? ht
    simp at this
    rcases this with h | h | h
    · exact .inl h
    · exact .inr h
    · exact .inl h
  rcases hm with rfl | rfl
  · exact (show Tryd.prog.wantsStandIn 22 = false by kernel_rfl)
  · exact (show Tryd.prog.wantsStandIn 3 = false by kernel_rfl)

theorem spoilt_card : Rows.SpoiltCardSaid :=
  Claim7.holds_tied_plain_at .later [] _ _ _ _ spoilt_said (fun _ h => by cases h) (by kernel_rfl) (fun _ h => by cases h) spoilt_row_tie rfl ⟨rfl, rfl⟩ (by kernel_rfl) rfl spoilt_plain (by kernel_rfl)
#print axioms spoilt_card

end Go.Proofs.YtekkkoipcghlmabDoor
