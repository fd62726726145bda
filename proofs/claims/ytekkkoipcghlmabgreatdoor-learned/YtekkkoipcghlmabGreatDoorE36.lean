import Derived.Test.YtekkkoipcghlmabGreatDoorE35
import Derived.Test.YtekkkoipcghlmabGreatDoorE01
import Derived.Test.YtekkkoipcghlmabGreatDoorE30
import Derived.Lib.Bytealg
import Derived.Test.YtekkkoipcghlmabGreatDoorE33
import Derived.Lib.SplitLaws
import Derived.Test.YtekkkoipcghlmabGreatDoorE29
import Derived.RangeFuncNested
import Derived.RangeFuncWrites
set_option linter.all false
namespace Go.Proofs.YtekkkoipcghlmabGreatDoor
open Go.RowKit

/-- Who is to blame. -/
theorem SolveRes.core {base x : Nat} {kv pv vm vc : Value} {ms : List Nat} {pb : List UInt8} {A : List Int} {B kind cf : Int} {w w' : World} (h : SolveRes base x kv ms pv pb A B w kind vm vc cf w') (hA : ∀ y, y ∈ A → y ≠ 0) (hk : kind = 2) :
    ∃ core, (∃ p : Int → Bool, core = A.filter p) ∧ w'.ownsRow w.heap.size 3 1 vc core.length (ints core) ∧ ∀ b, (∀ g, g ∈ ms → holdsB b g) → ∃ y, y ∈ core ∧ tru b y = false := by
  obtain ⟨S, D, pv', core, -, hch, -, -, -, -, h6⟩ := h
  rcases h6 with ⟨h1, -⟩ | ⟨-, -, hp, hrow, hf⟩ | ⟨h1, -⟩
  · omega
  · refine ⟨core, hp, hrow, fun b hG => ?_⟩
    have := fol_ent hf (b := b) (fun c hc => (List.mem_append.1 hc).elim (hG c) (hch.ent hG c))
    have hne : ∀ y, y ∈ core.map (fun x => -x) → y ≠ 0 := fun y hy => by
      obtain ⟨z, hz, rfl⟩ := List.mem_map.1 hy
      obtain ⟨p, rfl⟩ := hp
      have := hA z (List.mem_filter.1 hz).1
      omega
    obtain ⟨y, hy, ht⟩ := holds_iff.1 ((holdsB_mask hne).1 this)
    obtain ⟨z, hz, rfl⟩ := List.mem_map.1 hy
    have hz0 : z ≠ 0 := fun e => hne _ hy (by rw [e]; rfl)
    rw [tru_neg b hz0] at ht
    exact ⟨z, hz, by simpa using ht⟩
  · omega

theorem two_small : ∀ c, c ∈ ([[1, 2], [-1, 2]] : List (List Int)) → Lits c ∧ c.length ≤ 3 := fun c hc => by
  simp at hc
  rcases hc with rfl | rfl
  · exact ⟨fun x hx => by simp at hx; omega, by decide⟩
  · exact ⟨fun x hx => by simp at hx; omega, by decide⟩
theorem kept_two : keptTo [[1, 2], [-1, 2]] 2 = [5, 6] := by decide
theorem ok_two : KeptOK [5, 6] := ⟨fun m hm => by
  simp at hm
  rcases hm with rfl | rfl <;> decide, by decide, by decide⟩
theorem two_model {b : Nat} (h : ∀ g, g ∈ [5, 6] → holdsB b g) : tru b 2 = true := by
  have b5 : holdsOf b [1, 2] = true := (holdsB_mask (c := [1, 2]) (by decide)).1 (h 5 (by decide))
  have b6 : holdsOf b [-1, 2] = true := (holdsB_mask (c := [-1, 2]) (by decide)).1 (h 6 (by decide))
  have hn : tru b (-1) = !tru b 1 := tru_neg b (by decide)
  simp only [holdsOf, List.any_cons, List.any_nil, Bool.or_false] at b5 b6
  rw [hn] at b6
  cases h1 : tru b 1
  · rw [h1] at b5; simpa using b5
  · rw [h1] at b6; simpa using b6
theorem two_six : ∀ g, g ∈ [5, 6] → holdsB 6 g := fun g hg => by
  simp at hg
  rcases hg with rfl | rfl
  · exact (holdsB_mask (b := 6) (c := [1, 2]) (by decide)).2 (by decide)
  · exact (holdsB_mask (b := 6) (c := [-1, 2]) (by decide)).2 (by decide)
/-- The core of the document's example. -/
theorem two_core {core : List Int} {p : Int → Bool} (h : core = [3, -2].filter p) (hb : ∃ y, y ∈ core ∧ tru 6 y = false) : core = [-2] ∨ core = [3, -2] := by
  have h2 : p (-2) = true := by
    obtain ⟨y, hy, ht⟩ := hb
    rw [h] at hy
    obtain ⟨hm, hp⟩ := List.mem_filter.1 hy
    simp at hm
    rcases hm with rfl | rfl
    · exact absurd ht (by decide)
    · exact hp
  rw [h]
  cases h3 : p 3
  · left; simp [h2, h3]
  · right; simp [h2, h3]
theorem bit_of_tru {b : Nat} (h : tru b 2 = true) : ((b : Int) / 2).tmod 2 = 1 := by
  have h1 : b.testBit 1 = true := by
    unfold tru at h
    simpa using h
  rw [Nat.testBit_eq_decide_div_mod_eq] at h1
  have h2 : b / 2 % 2 = 1 := by simpa using h1
  rw [Int.tmod_eq_emod_of_nonneg (by omega)]
  omega

theorem two_rows (w : World) : RowsK (((w.alloc (.cells #[.int .i64 1, .int .i64 2] 3)).alloc (.cells #[.int .i64 (-1), .int .i64 2] 3)).alloc (.cells #[.slice (some ⟨w.heap.size, 0, none⟩) 2 2, .slice (some ⟨w.heap.size + 1, 0, none⟩) 2 2] 22)) (.slice (some ⟨w.heap.size + 1 + 1, 0, none⟩) 2 2) [[1, 2], [-1, 2]] := by
  obtain ⟨w1, hw1⟩ : ∃ w1, w1 = w.alloc (.cells #[.int .i64 1, .int .i64 2] 3) := ⟨_, rfl⟩
  obtain ⟨w2, hw2⟩ : ∃ w2, w2 = w1.alloc (.cells #[.int .i64 (-1), .int .i64 2] 3) := ⟨_, rfl⟩
  have z1 : w1.heap.size = w.heap.size + 1 := by rw [hw1]; simp
  have z2 : w2.heap.size = w.heap.size + 1 + 1 := by rw [hw2]; simp [z1]
  have l1 : Lies w1 (.slice (some ⟨w.heap.size, 0, none⟩) 2 2) (ints [1, 2]) := by rw [hw1]; exact lies_new w [1, 2] (by simp)
  have l2 : Lies w2 (.slice (some ⟨w1.heap.size, 0, none⟩) 2 2) (ints [-1, 2]) := by rw [hw2]; exact lies_new w1 [-1, 2] (by simp)
  have b2 : Below w1.heap.size w1 w2 := by rw [hw2]; exact below_new w1 _
  rw [← hw1, ← hw2]
  rw [z1] at l2
  obtain ⟨w3, hw3⟩ : ∃ w3, w3 = w2.alloc (.cells #[.slice (some ⟨w.heap.size, 0, none⟩) 2 2, .slice (some ⟨w.heap.size + 1, 0, none⟩) 2 2] 22) := ⟨_, rfl⟩
  have b3 : Below w2.heap.size w2 w3 := by rw [hw3]; exact below_new w2 _
  have hbox : w3.heap[w2.heap.size]? = some (.cells #[.slice (some ⟨w.heap.size, 0, none⟩) 2 2, .slice (some ⟨w.heap.size + 1, 0, none⟩) 2 2] 22) := by rw [hw3]; exact heap_alloc_new w2 _
  rw [← hw3]
  refine ⟨[.slice (some ⟨w.heap.size, 0, none⟩) 2 2, .slice (some ⟨w.heap.size + 1, 0, none⟩) 2 2], .inr ⟨w.heap.size + 1 + 1, 0, 2, by simp, rfl, by rw [← z2]; exact lt_of_block hbox, fun k x hk => ?_⟩, rfl, fun i x c hx hc => ?_⟩
  · rw [← z2, World.cell?, hbox]
    simpa using hk
  · have hi : i < 2 := by have := (List.getElem?_eq_some_iff.1 hx).1; simpa using this
    have : i = 0 ∨ i = 1 := by omega
    rcases this with rfl | rfl
    · simp at hx hc
      subst hx; subst hc
      exact (l1.below b2).below b3
    · simp at hx hc
      subst hx; subst hc
      exact l2.below b3

set_option maxRecDepth 100000 in
set_option maxHeartbeats 3200000 in
theorem works_any (w : World) (he : EnvT w) : Calls Tryz.prog 8 #[] w fun e w' => e = .returned (.bool true) ∧ Below w.heap.size w w' := by
  obtain ⟨wa, hwa⟩ : ∃ wa, (((w.alloc (.cells #[.int .i64 1, .int .i64 2] 3)).alloc (.cells #[.int .i64 (-1), .int .i64 2] 3)).alloc (.cells #[.slice (some ⟨w.heap.size, 0, none⟩) 2 2, .slice (some ⟨w.heap.size + 1, 0, none⟩) 2 2] 22)) = wa := ⟨_, rfl⟩
  have hba : Below w.heap.size w wa := by
    rw [← hwa]
    exact (((Below.refl _ w).alloc (Nat.le_refl _) _).alloc (by simp) _).alloc (by simp; omega) _
  have HRK : Hid (RowsK wa (.slice (some ⟨w.heap.size + 1 + 1, 0, none⟩) 2 2) [[1, 2], [-1, 2]]) := hide (by rw [← hwa]; exact two_rows w)
  have HSV : Hid (Calls Tryz.prog 14 #[.slice (some ⟨w.heap.size + 1 + 1, 0, none⟩) 2 2] wa fun e w' => e = .returned (.tuple #[.pointer (some ⟨wa.heap.size, 0, none⟩), .bool true]) ∧ Hid (∃ kv, XAt wa.heap.size w' wa.heap.size kv [5, 6] (.slice none 0 0) []) ∧ Below wa.heap.size wa w') := hide ((solverK_any _ [[1, 2], [-1, 2]] wa (by decide) (by decide) (unhide HRK) (kept_adds two_small (by decide))).mono (fun e w' h => by
    obtain ⟨kv, h1, h2, h3⟩ := h
    rw [show ([[1, 2], [-1, 2]] : List (List Int)).length = 2 from rfl, kept_two] at h2
    exact ⟨h1, hide ⟨kv, h2⟩, h3⟩))
  have HE : Hid (∀ wx, Below w.heap.size w wx → EnvFrom wa.heap.size wx) := hide (fun wx hb => ⟨w, he, hba.size, hb⟩)
  clear HRK he
  go_enter Tryz.func8, Tryz.ntmps8
  go_wp2_with fail
  refine (unhide HSV).mono ?_
  rintro e w4 ⟨rfl, HX, hb4⟩
  have hb04 : Below w.heap.size w w4 := hba.trans (hb4.mono hba.size)
  obtain ⟨kv, hX⟩ := unhide HX
  have HS1 : Hid (Calls Tryz.prog 13 #[.pointer (some ⟨wa.heap.size, 0, none⟩), .slice none 0 0, .int .i64 0] w4 fun e w' => ∃ ao k c ao2 k2 c2 cf, e = .returned (.tuple #[.agg #[.int .i64 1, .slice ao k c, .slice ao2 k2 c2, .int .i64 cf], .int .i64 0]) ∧ Hid (∃ pv pb, XAt wa.heap.size w' wa.heap.size kv [5, 6] pv pb ∧ pb.length ≤ 1000000000) ∧ Hid (Below w.heap.size w w') ∧ Hid (∃ b, b < 4096 ∧ tru b 2 = true ∧ RowT w' (.slice ao k c) (modelOf b))) := hide ((askK hX ok_two (unhide HE w4 hb04) (A := []) (fun x hx => by cases hx) (by simp) (Lies.nil _) (by simp)).mono (fun e w' h => by
    obtain ⟨kind, ao, k, c, ao2, k2, c2, cf, rfl, hres⟩ := h
    obtain ⟨h1, h2, pv', S, h3, h4⟩ := hres.out hX
    rcases hres.verdict (fun y hy => by cases hy) with ⟨rfl, a2, b, a3, a4, a5, a6⟩ | ⟨rfl, a2, a3⟩
    · exact ⟨ao, k, c, ao2, k2, c2, cf, rfl, hide ⟨pv', _, h3, by rw [List.nil_append]; exact h4⟩, hide (hb04.trans (h2.mono hba.size)), hide ⟨b, a3, two_model a5, RowT.of_owns a6 (by simp [modelOf])⟩⟩
    · exact absurd (fun y hy => by cases hy) (a3 6 two_six)))
  have hs4 := hb4.size
  have hsa := hba.size
  clear HSV HX hX hwa hba hb4 hb04
  go_wp2_with fail
  refine (unhide HS1).mono ?_
  rintro e w5 ⟨ao, k, c, ao2, k2, c2, cf, rfl, HX5, HB5, HM5⟩
  obtain ⟨b, hb, htb, hrow⟩ := unhide HM5
  obtain ⟨pv, pb, hX5, hpb⟩ := unhide HX5
  have hsz5 : wa.heap.size < w5.heap.size := lt_of_block hX5.block
  obtain ⟨w6, hw6⟩ : ∃ w6, w5.alloc (.cells #[.int .i64 1, .slice ao k c, .slice ao2 k2 c2, .int .i64 cf] 34) = w6 := ⟨_, rfl⟩
  have hb6 : Below w5.heap.size w5 w6 := by rw [← hw6]; exact below_new w5 _
  have hz6 : w6.heap.size = w5.heap.size + 1 := by rw [← hw6]; simp
  have hbox6 : w6.heap[w5.heap.size]? = some (.cells #[.int .i64 1, .slice ao k c, .slice ao2 k2 c2, .int .i64 cf] 34) := by rw [← hw6]; exact heap_alloc_new w5 _
  obtain ⟨w7, hw7⟩ : ∃ w7, w6.alloc (.cells #[.int .i64 3, .int .i64 (-2)] 3) = w7 := ⟨_, rfl⟩
  have hb7 : Below w6.heap.size w6 w7 := by rw [← hw7]; exact below_new w6 _
  have hl7 : Lies w7 (.slice (some ⟨w6.heap.size, 0, none⟩) 2 2) (ints [3, -2]) := by rw [← hw7]; exact lies_new w6 [3, -2] (by simp)
  have hX7 := (hX5.below hb6).below hb7
  have hB7 : Below w.heap.size w w7 := ((unhide HB5).trans (hb6.mono (unhide HB5).size)).trans (hb7.mono (by have := (unhide HB5).size; omega))
  have HS2 : Hid (Calls Tryz.prog 13 #[.pointer (some ⟨wa.heap.size, 0, none⟩), .slice (some ⟨w6.heap.size, 0, none⟩) 2 2, .int .i64 0] w7 fun e w' => ∃ ao k c g cn cc cf, e = .returned (.tuple #[.agg #[.int .i64 2, .slice ao k c, .slice (some ⟨g, 0, none⟩) (cn + 1) cc, .int .i64 cf], .int .i64 0]) ∧ w'.cell? ⟨g, cn, none⟩ = some (.int .i64 (-2)) ∧ cn ≤ 1 ∧ cn + 1 ≤ cc ∧ g < w'.heap.size ∧ Hid (∃ pv pb, XAt wa.heap.size w' wa.heap.size kv [5, 6] pv pb ∧ pb ≠ []) ∧ Hid (Below w.heap.size w w') ∧ Hid (KeptT NotSolver w7 w')) := hide ((askK hX7 ok_two (unhide HE w7 hB7) (A := [3, -2]) (fun x hx => by simp at hx; rcases hx with rfl | rfl <;> decide) (by simp) hl7 (by omega)).mono (fun e w' h => by
    obtain ⟨kind, ao, k, c, ao2, k2, c2, cf, rfl, hres⟩ := h
    obtain ⟨h1, h2, pv', S, h3, h4⟩ := hres.out hX7
    rcases hres.verdict (fun y hy => by simp at hy; rcases hy with rfl | rfl <;> decide) with ⟨rfl, a2, b, a3, a4, a5, a6⟩ | ⟨rfl, a2, a3⟩
    · exfalso
      have e1 := a4 (-2) (by decide)
      rw [tru_neg b (by decide : (2 : Int) ≠ 0), two_model a5] at e1
      cases e1
    · obtain ⟨core, ⟨p, hp⟩, hrow, hbl⟩ := hres.core (fun y hy => by simp [once] at hy; rcases hy with rfl | rfl <;> decide) rfl
      have hcore := two_core (p := p) (by rw [hp]; rfl) (hbl 6 two_six)
      have hne : pb ++ S ≠ [] := by
        obtain ⟨S0, D0, pv0, core0, hW0, -⟩ := hres
        intro e
        have e2 := hW0.1.prow.1
        have e3 := h3.prow.1
        have e4 := hW0.1.block
        rw [h3.block] at e4
        simp only [Option.some.injEq, Obj.cells.injEq] at e4
        have e5 : pv' = pv0 := by
          have := congrArg (·[2]?) e4.1
          simpa using this
        subst e5
        have e6 := owns_shape h3.prow
        have e7 := owns_shape hW0.1.prow
        obtain ⟨x1, y1, e6⟩ := e6
        obtain ⟨x2, y2, e7⟩ := e7
        rw [e6] at e7
        simp only [Value.slice.injEq] at e7
        rw [e] at e7
        have := e7.2.1
        simp [Sp.told] at this
      rcases hrow.2 with ⟨-, h0⟩ | ⟨g, cap, cur, hv, hbg, hg, hle, -⟩
      · exfalso
        rcases hcore with rfl | rfl <;> simp at h0
      · have hcell := fun j x hj => hrow.cells (g := g) (by rw [hv]; rfl) j x hj
        cases hv
        rcases hcore with rfl | rfl
        · exact ⟨ao, k, c, g, 0, c2, cf, rfl, by simpa [Addr.add] using hcell 0 (.int .i64 (-2)) rfl, by omega, hle, lt_of_block hg, hide ⟨pv', _, h3, hne⟩, hide (hB7.trans (h2.mono hsa)), hide h1⟩
        · exact ⟨ao, k, c, g, 1, c2, cf, rfl, by simpa [Addr.add] using hcell 1 (.int .i64 (-2)) rfl, by omega, hle, lt_of_block hg, hide ⟨pv', _, h3, hne⟩, hide (hB7.trans (h2.mono hsa)), hide h1⟩))
  have HROW7 : Hid (RowT w7 (.slice ao k c) (modelOf b)) := hide ((hrow.below hb6).below hb7)
  have hbox7 : w7.heap[w5.heap.size]? = some (.cells #[.int .i64 1, .slice ao k c, .slice ao2 k2 c2, .int .i64 cf] 34) := (hb7.block _ (by omega)).trans hbox6
  have HBT := hide (bit_of_tru htb)
  clear HS1 HX5 HB5 HM5 hX5 hX7 hrow hl7 hB7 htb hbox6 hb6 hb7 HE hz6
  go_wp2_with fail
  refine (unhide HS2).mono ?_
  rintro e w8 ⟨qo, qk, qc, g, cn, cc, cf2, rfl, hcl, hcn, hcc, hgl, HX8, HB8, HK8⟩
  obtain ⟨pv8, pb8, hX8, hne8⟩ := unhide HX8
  have hbox8 : w8.heap[w5.heap.size]? = some (.cells #[.int .i64 1, .slice ao k c, .slice ao2 k2 c2, .int .i64 cf] 34) := (unhide HK8 _ _ _ _ ⟨by decide, by decide⟩ hbox7).trans hbox7
  obtain ⟨w9, hw9⟩ : ∃ w9, w8.alloc (.cells #[.int .i64 2, .slice qo qk qc, .slice (some ⟨g, 0, none⟩) (cn + 1) cc, .int .i64 cf2] 34) = w9 := ⟨_, rfl⟩
  have hb9 : Below w8.heap.size w8 w9 := by rw [← hw9]; exact below_new w8 _
  have hbox9 : w9.heap[w8.heap.size]? = some (.cells #[.int .i64 2, .slice qo qk qc, .slice (some ⟨g, 0, none⟩) (cn + 1) cc, .int .i64 cf2] 34) := by rw [← hw9]; exact heap_alloc_new w8 _
  have hbox5 : w9.heap[w5.heap.size]? = some (.cells #[.int .i64 1, .slice ao k c, .slice ao2 k2 c2, .int .i64 cf] 34) := (hb9.block _ (lt_of_block hbox8)).trans hbox8
  have p0 : w9.cell? ⟨w5.heap.size, 0, none⟩ = some (.int .i64 1) := by simp [World.cell?, hbox5]
  have p1 : w9.cell? ⟨w5.heap.size, 1, none⟩ = some (.slice ao k c) := by simp [World.cell?, hbox5]
  have q0 : w9.cell? ⟨w8.heap.size, 0, none⟩ = some (.int .i64 2) := by simp [World.cell?, hbox9]
  have q2 : w9.cell? ⟨w8.heap.size, 2, none⟩ = some (.slice (some ⟨g, 0, none⟩) (cn + 1) cc) := by simp [World.cell?, hbox9]
  have hc9 : w9.cell? ⟨g, cn, none⟩ = some (.int .i64 (-2)) := (hb9.cell (p := ⟨g, cn, none⟩) hgl).trans hcl
  have HBI : Hid (Calls Tryz.prog 24 #[.slice ao k c] w9 fun e w' => e = .returned (.tuple #[.int .i64 b, .bool true]) ∧ ∃ q, w' = w9.drewN q) := hide (bitsK_any _ b w9 hb (((unhide HROW7).kept (unhide HK8) ⟨by decide, by decide⟩).below hb9).1)
  have HPR : Hid (∀ q, Calls Tryz.prog 16 #[.pointer (some ⟨wa.heap.size, 0, none⟩)] (w9.drewN q) fun e w' => e = .returned (.string (bs pb8)) ∧ w' = w9.drewN q) := hide (fun q => proofX_any _ _ kv [5, 6] _ pv8 pb8 ((hX8.below hb9).below (belowDrew (Below.refl _ _) q)))
  have HFB : Hid (∀ q, Below w.heap.size w (w9.drewN q)) := hide (fun q => belowDrew ((unhide HB8).trans (hb9.mono (unhide HB8).size)) q)
  have hpn : (bs pb8).toList.isEmpty = false := bs_nonempty hne8
  have hpn2 : ((bs pb8).toList == []) = false := by rw [bs_toList]; simpa using hne8
  have HN2 := hide hne8
  clear HS2 HX8 HB8 HK8 hX8 hbox5 hbox7 hbox8 hbox9 HROW7 hne8 hb9 hw6 hw7 hcl
  go_wp2_with fail
  refine (unhide HBI).mono ?_
  rintro e w10 ⟨rfl, q, rfl⟩
  have HPQ : Hid (∀ n, Calls Tryz.prog 16 #[.pointer (some ⟨wa.heap.size, 0, none⟩)] ((w9.drewN q).drewN n) fun e w' => e = .returned (.string (bs pb8)) ∧ w' = (w9.drewN q).drewN n) := hide (fun n => by
    rw [World.drewN_drewN]
    exact unhide HPR _)
  have HFQ : Hid (∀ n, Below w.heap.size w ((w9.drewN q).drewN n)) := hide (fun n => by
    rw [World.drewN_drewN]
    exact unhide HFB _)
  have p0 : (w9.drewN q).cell? ⟨w5.heap.size, 0, none⟩ = some (.int .i64 1) := p0
  have p1 : (w9.drewN q).cell? ⟨w5.heap.size, 1, none⟩ = some (.slice ao k c) := p1
  have q0 : (w9.drewN q).cell? ⟨w8.heap.size, 0, none⟩ = some (.int .i64 2) := q0
  have q2 : (w9.drewN q).cell? ⟨w8.heap.size, 2, none⟩ = some (.slice (some ⟨g, 0, none⟩) (cn + 1) cc) := q2
  have hc9 : (w9.drewN q).cell? ⟨g, cn, none⟩ = some (.int .i64 (-2)) := hc9
  have hbt := unhide HBT
  clear HPR HFB HBI hw9
  generalize w9.drewN q = wz at *
  go_wp2_with fail
  refine (unhide HPQ 0).mono ?_
  rintro e w11 ⟨rfl, rfl⟩
  go_wp2
  go_ret
  exact ⟨rfl, unhide HFQ _⟩

end Go.Proofs.YtekkkoipcghlmabGreatDoor

namespace Go.Proofs.YtekkkoipcghlmabGreatDoor
open Go.RowKit

def lenOf : Value → Nat | .slice _ n _ => n | _ => 0
def FolRes (L : List Nat) (m : Nat) (w : World) (e : Ending) (w' : World) : Prop := ∃ r : Bool, e = .returned (.bool r) ∧ (r = true ↔ Sp.Fol L m) ∧ Below w.heap.size w w'
end Go.Proofs.YtekkkoipcghlmabGreatDoor

namespace Go.Proofs.YtekkkoipcghlmabGreatDoor.Sp

/-- The lines of a text, each with whether it is ended. -/
def segsAux (cur : List UInt8) : List UInt8 → List (List UInt8 × Bool)
  | [] => if cur = [] then [] else [(cur, false)]
  | c :: r => if c = 10 then (cur, true) :: segsAux [] r else segsAux (cur ++ [c]) r
def segs (s : List UInt8) : List (List UInt8 × Bool) := segsAux [] s

def scanSegs : Nat → List (List UInt8 × Bool) → Option Nat
  | _, [] => none
  | n, x :: r => if !okLine x.1 || !x.2 then some (n + 1) else scanSegs (n + 1) r

theorem segsAux_no (r : List UInt8) : ∀ cur, (10 : UInt8) ∉ cur → ∀ x, x ∈ segsAux cur r → (10 : UInt8) ∉ x.1 := by
  induction r with
  | nil =>
    intro cur h x hx
    unfold segsAux at hx
    split at hx
    · cases hx
    · simp at hx; subst hx; exact h
  | cons c r ih =>
    intro cur h x hx
    unfold segsAux at hx
    split at hx
    · rcases List.mem_cons.1 hx with rfl | hx
      · exact h
      · exact ih [] (by simp) x hx
    · rename_i hc
      exact ih _ (by simp [h]; exact fun h' => hc h'.symm) x hx

theorem segsAux_len (r : List UInt8) : ∀ cur x, x ∈ segsAux cur r → x.1.length ≤ cur.length + r.length := by
  induction r with
  | nil =>
    intro cur x hx
    unfold segsAux at hx
    split at hx
    · cases hx
    · simp at hx; subst hx; simp
  | cons c r ih =>
    intro cur x hx
    unfold segsAux at hx
    split at hx
    · rcases List.mem_cons.1 hx with rfl | hx
      · simp
      · have := ih [] x hx; simp at this ⊢; omega
    · have := ih _ x hx; simp at this ⊢; omega
theorem segsAux_count (r : List UInt8) : ∀ cur, (segsAux cur r).length ≤ r.length + 1 := by
  induction r with
  | nil => intro cur; unfold segsAux; split <;> simp
  | cons c r ih =>
    intro cur
    unfold segsAux
    split
    · have := ih []; simp; omega
    · have := ih (cur ++ [c]); simp; omega

/-- How the next line is found. -/
theorem segs_index (x : List UInt8) : (Lib.indexByte x 10 = -1 ∧ ∀ cur, cur ++ x ≠ [] → segsAux cur x = [(cur ++ x, false)]) ∨
    ∃ i : Nat, Lib.indexByte x 10 = i ∧ i < x.length ∧ x.take (i + 1) = x.take i ++ [10] ∧ ∀ cur, segsAux cur x = (cur ++ x.take i, true) :: segsAux [] (x.drop (i + 1)) := by
  induction x with
  | nil => exact .inl ⟨rfl, fun cur h => by simp at h; simp [segsAux, h]⟩
  | cons b l ih =>
    by_cases hb : b = 10
    · subst hb
      exact .inr ⟨0, by simp [Lib.indexByte], by simp, by simp, fun cur => by simp [segsAux]⟩
    · have hp : (b == 10) = false := by simpa using hb
      rcases ih with ⟨h1, h2⟩ | ⟨i, h1, h2, h4, h3⟩
      · refine .inl ⟨by unfold Lib.indexByte; rw [hp, h1]; rfl, fun cur _ => ?_⟩
        unfold segsAux
        rw [if_neg hb, h2 _ (by simp)]
        simp
      · refine .inr ⟨i + 1, ?_, by simp; omega, by simp [h4], fun cur => ?_⟩
        · unfold Lib.indexByte
          rw [hp, h1]
          have : ((i : Int) == -1) = false := by rw [beq_eq_false_iff_ne]; omega
          simp [this]
        · conv => lhs; unfold segsAux
          rw [if_neg hb, h3]
          simp

end Go.Proofs.YtekkkoipcghlmabGreatDoor.Sp

namespace Go.Proofs.YtekkkoipcghlmabGreatDoor
open Go.RowKit

namespace Sp
theorem step_go (r : List UInt8) : stepOf (100 :: 32 :: r) = (true, wordsAux [] r) ∧ words (100 :: 32 :: r) = [100] :: wordsAux [] r := by
  have : words (100 :: 32 :: r) = [100] :: wordsAux [] r := by
    unfold words; rw [if_neg (by simp)]
    simp [wordsAux]
  refine ⟨?_, this⟩
  unfold stepOf
  rw [this]
  simp
end Sp

theorem stepMask_lt (y : List UInt8) : Sp.stepMask y < 2 ^ 24 := Sp.maskOf_lt _ fun x hx => by
  obtain ⟨s, _, rfl⟩ := List.mem_map.1 hx
  exact Sp.lit_bd s

theorem lies_tail {w : World} {n cap : Nat} {x : Value} {xs : List Value} {b off : Nat} (h : Lies w (.slice (some ⟨b, off, none⟩) n cap) (x :: xs)) (c' : Nat) : Lies w (.slice (some ⟨b, off + 1, none⟩) xs.length c') xs := by
  rcases h with ⟨h0, _⟩ | ⟨b', off', cap', hp, hv, hlt, hc⟩
  · cases h0
  · simp at hv
    obtain ⟨⟨rfl, rfl⟩, -, rfl⟩ := hv
    by_cases h0 : xs = []
    · subst h0; exact .inl ⟨rfl, _, _, rfl⟩
    · exact .inr ⟨b, off + 1, c', List.length_pos_iff.2 h0, rfl, hlt, fun k y hy => by
        have := hc (k + 1) y (by simpa using hy)
        rwa [show off + 1 + k = off + (k + 1) from by omega]⟩

def Small (M : List Nat) : Prop := ∀ c, c ∈ M → c < 2 ^ 24
theorem Small.erase {M : List Nat} (h : Small M) (m : Nat) : Small (M.erase m) := fun c hc => h c (List.mem_of_mem_erase hc)
theorem Small.snoc {M : List Nat} (h : Small M) {m : Nat} (hm : m < 2 ^ 24) : Small (M ++ [m]) := fun c hc => by
  rcases List.mem_append.1 hc with hc | hc
  · exact h c hc
  · simp at hc; subst hc; exact hm

theorem step_ok {x : List UInt8} {ws : List (List UInt8)} {g : Bool} (h : Sp.stepOf x = (g, ws)) (b : Bool) : Sp.stepOk (x, b) = (allLit ws && b) := by
  unfold Sp.stepOk; rw [h]; rfl

end Go.Proofs.YtekkkoipcghlmabGreatDoor

namespace Go.Proofs.YtekkkoipcghlmabGreatDoor
open Go.RowKit

theorem words_index (x : List UInt8) : (Lib.index x [32] = -1 ∧ ∀ cur, Sp.wordsAux cur x = [cur ++ x]) ∨
    ∃ i : Nat, Lib.index x [32] = i ∧ i < x.length ∧ ∀ cur, Sp.wordsAux cur x = (cur ++ x.take i) :: Sp.wordsAux [] (x.drop (i + 1)) := by
  induction x with
  | nil => exact .inl ⟨rfl, fun cur => by simp [Sp.wordsAux]⟩
  | cons b l ih =>
    by_cases hb : b = 32
    · subst hb
      exact .inr ⟨0, by simp [Lib.index], by simp, fun cur => by simp [Sp.wordsAux]⟩
    · have hp : ([32] : List UInt8).isPrefixOf (b :: l) = false := by
        simp [List.isPrefixOf]; exact fun h => hb h.symm
      rcases ih with ⟨h1, h2⟩ | ⟨i, h1, h2, h3⟩
      · refine .inl ⟨by unfold Lib.index; rw [hp, h1]; rfl, fun cur => ?_⟩
        unfold Sp.wordsAux
        rw [if_neg hb, h2]
        simp
      · refine .inr ⟨i + 1, ?_, by simp; omega, fun cur => ?_⟩
        · unfold Lib.index
          rw [hp, h1]
          have : ((i : Int) == -1) = false := by rw [beq_eq_false_iff_ne]; omega
          simp [this]
        · conv => lhs; unfold Sp.wordsAux
          rw [if_neg hb, h3]
          simp

theorem indexB_bs (x y : List UInt8) : Lib.indexB (bs x) (bs y) = Lib.index x y := by
  show Lib.index (bs x).data.toList (bs y).data.toList = _
  simp [bs]

theorem split_bs : ∀ (n : Nat) (x : List UInt8), x.length ≤ n → Lib.splitB (bs [32]) 0 (Lib.countB (bs x) (bs [32])) (bs x) = (Sp.wordsAux [] x).map bs := by
  intro n
  have h1 : 1 ≤ (bs [32]).size := by rw [bs_size]; simp
  have hz : (bs [32]).size = 1 := by rw [bs_size]; simp
  induction n with
  | zero =>
    intro x hx
    have : x = [] := List.length_eq_zero_iff.1 (by omega)
    subst this
    have hi : Lib.indexB (bs []) (bs [32]) = -1 := by rw [indexB_bs]; rfl
    rw [Lib.countB_miss _ _ hi, Lib.splitB_miss _ _ _ _ hi]; rfl
  | succ n ih =>
    intro x hx
    rcases words_index x with ⟨h2, h3⟩ | ⟨i, h2, h3, h4⟩
    · have hi : Lib.indexB (bs x) (bs [32]) = -1 := by rw [indexB_bs]; exact h2
      rw [Lib.splitB_miss _ _ _ _ hi, h3]
      simp
    · have hi : Lib.indexB (bs x) (bs [32]) = i := by rw [indexB_bs]; exact h2
      have hcut : (bs x).extract (i + 1) (bs x).size = bs (x.drop (i + 1)) := by
        rw [bs_extract, bs_size, List.take_of_length_le (by simp)]
      rw [Lib.countB_hit _ _ i h1 hi, hz, hcut, Nat.add_comm 1]
      unfold Lib.splitB
      have : ((i : Int) == -1) = false := by rw [beq_eq_false_iff_ne]; omega
      rw [hi, this]
      simp only [Bool.false_eq_true, if_false, Int.toNat_natCast, Nat.add_zero, hz]
      rw [hcut, ih _ (by simp; omega), h4, bs_extract]
      simp

end Go.Proofs.YtekkkoipcghlmabGreatDoor

namespace Go.Proofs.YtekkkoipcghlmabGreatDoor
open Go.RowKit

theorem lies_made {w : World} {vs : List Value} {t : TypeId} {cap : Nat} (h : 0 < vs.length) : Lies (w.alloc (.cells vs.toArray t)) (.slice (some ⟨w.heap.size, 0, none⟩) vs.length cap) vs := by
  refine .inr ⟨w.heap.size, 0, cap, h, rfl, by simp, fun k x hx => ?_⟩
  rw [Nat.zero_add, World.cell?_alloc_at _ _ _ _ rfl]
  simpa using hx

/-- A line's text: its inner part, and the newline if it is ended. -/
def lineOf (x : List UInt8) (e : Bool) : List UInt8 := if e then x ++ [10] else x

theorem line_cut (x : List UInt8) (e : Bool) (h : e = false → x.getLast? ≠ some 10) : Lib.trimSuffix (lineOf x e) [10] = x ∧ Lib.hasSuffix (lineOf x e) [10] = e := by
  have hs : Lib.hasSuffix (lineOf x e) [10] = e := by
    unfold Lib.hasSuffix lineOf
    cases e
    · rw [if_neg (by simp)]
      rw [Bool.eq_false_iff]
      intro hh
      rw [List.isSuffixOf_iff_suffix] at hh
      obtain ⟨t, ht⟩ := hh
      apply h rfl
      rw [← ht]; simp
    · rw [if_pos rfl, List.isSuffixOf_iff_suffix]
      exact ⟨x, rfl⟩
  refine ⟨?_, hs⟩
  unfold Lib.trimSuffix
  rw [hs]
  cases e
  · simp [lineOf]
  · simp [lineOf]

set_option maxRecDepth 100000 in
set_option maxHeartbeats 400000 in
theorem wordsGo_any (x : List UInt8) (en : Bool) (w : World) (hx : x.length ≤ 6000) (h : en = false → x.getLast? ≠ some 10) (he : Env w) :
    Calls Tryz.prog 71 #[.string (bs (lineOf x en))] w fun e w' => ∃ v, e = .returned (.tuple #[v, .bool en]) ∧ Lies w' v (strs (Sp.words x)) ∧ Below w.heap.size w w' := by
  have hll : (lineOf x en).length ≤ 6001 := by unfold lineOf; cases en <;> simp <;> omega
  have HC := hide (Tryz.strings_CutSuffix (bs (lineOf x en)) ⟨#[10]⟩ w (by rw [bs_size]; omega))
  have hd : (bs (lineOf x en)).data.toList = lineOf x en := bs_data _
  have hcut := line_cut x en h
  rw [hd] at HC
  have e1 : (ByteArray.mk #[10]).data.toList = [10] := rfl
  rw [e1, hcut.1, hcut.2] at HC
  clear e1 hcut hd
  have HC : Hid (Calls Tryz.prog 107 #[.string (bs (lineOf x en)), .string ⟨#[10]⟩] w fun e w' => e = .returned (.tuple #[.string (bs x), .bool en]) ∧ w' = w) := HC
  obtain ⟨m, hm⟩ := he.len.2
  generalize bs (lineOf x en) = line at *
  by_cases hne : x = []
  · have hemp : (bs x).toList.isEmpty = true := by rw [bs_toList, hne]; rfl
    have HN := hide hne
    clear hne
    go_enter Tryz.func71, Tryz.ntmps71
    go_wp2_with fail
    refine (unhide HC).mono ?_
    rintro e w1 ⟨rfl, rfl⟩
    go_wp2
    go_ret2
    exact ⟨_, rfl, by rw [unhide HN]; exact Lies.nil _, Below.refl _ _⟩
  · have hemp : (bs x).toList.isEmpty = false := bs_nonempty hne
    have HN := hide hne
    clear hne
    have HS := hide (Tryz.strings_Split (bs x) ⟨#[32]⟩ m w (by rw [bs_size]; omega) hm (by decide))
    go_enter Tryz.func71, Tryz.ntmps71
    go_wp2_with fail
    refine (unhide HC).mono ?_
    rintro e w1 ⟨rfl, rfl⟩
    go_wp2_with fail
    refine (unhide HS).mono ?_
    rintro e w2 ⟨rfl, rfl⟩
    go_wp2
    go_ret2
    have hsp : Lib.splitB ⟨#[32]⟩ 0 (Lib.countB (bs x) ⟨#[32]⟩) (bs x) = (Sp.wordsAux [] x).map bs := split_bs x.length x (Nat.le_refl _)
    have hln := Lib.splitB_all (bs [32]) (by rw [bs_size]; simp) 0 (Lib.countB (bs x) (bs [32])) (bs x) rfl
    have hw : Sp.words x = Sp.wordsAux [] x := by unfold Sp.words; rw [if_neg (unhide HN)]
    refine ⟨_, rfl, ?_, (Below.refl _ _).alloc (Nat.le_refl _) _⟩
    rw [hsp, hw]
    have hc : Lib.countB (bs x) (bs [32]) + 1 = (strs (Sp.wordsAux [] x)).length := by
      have := hln.symm
      rw [split_bs x.length x (Nat.le_refl _)] at this
      simpa [strs] using this
    rw [List.map_map]
    show Lies _ (.slice (some ⟨_, 0, none⟩) (Lib.countB (bs x) (bs [32]) + 1) _) _
    rw [hc]
    exact lies_made (vs := strs (Sp.wordsAux [] x)) (by omega)

end Go.Proofs.YtekkkoipcghlmabGreatDoor

namespace Go.Proofs.YtekkkoipcghlmabGreatDoor
open Go.RowKit
variable {F : Fence} {n : Nat} {P : Program}

/-- A loop over an iterator that keeps its place in a box of its own (block Bs, laid ahead of the loop): between two rounds it stores into that box, and draws. G: what is known of what comes. -/
theorem range_boxed {α : Type} {g : Operand} {ps : Array Tmp} {assign body : Code} {Q : Exit → Act → World → Prop} {a : Act} {w : World}
    (hro : F.round = none) (h1 : 1 ≤ n) {gf : Nat} {lb : Array Value} (hg : a.eval g = .func (.func gf) #[] lb) (hFg : F.fn gf) (eg : ∀ args w, (callFunc gf args).run P w = .ok (.enter gf args) w)
    {encs : α → Array Value} (Bs : Nat) (hBs : Bs < w.heap.size) {S : List α → Prop} {G : List α → α → Prop}
    (hseq : ∀ (l : Nat) (J Jx : List α → World → Prop) (W : World), W.heap[Bs]? = w.heap[Bs]? → (∀ s A v, J s A → J s (A.setCell ⟨Bs, 0, none⟩ v)) → (∀ s A, J s A → J s A.drew) →
      (∀ pre x W1, J pre W1 → G pre x → YieldAt F (n - 1 - 1) P l (encs x) W1 fun e W' =>
        (e = .returned (.bool true) ∧ J (pre ++ [x]) W' ∧ W'.heap[Bs]? = W1.heap[Bs]?) ∨ (e = .returned (.bool false) ∧ Jx (pre ++ [x]) W')) →
      J [] W →
      CallsIn F (n - 1) P gf (#[.func (.yield l) #[] #[]] ++ lb) W fun e W' => (∃ v, e = .returned v) ∧ ((∃ xs, S xs ∧ J xs W') ∨ (∃ pre, Jx pre W')))
    (hps : ∀ x, (encs x).size = ps.size)
    (I : List α → World → Prop) (Ix : List α → World → Prop) (hI : OwnFrom w.heap.size I) (hIx : OwnFrom w.heap.size Ix)
    (hIs : ∀ s A v, I s A → I s (A.setCell ⟨Bs, 0, none⟩ v)) (hId : ∀ s A, I s A → I s A.drew) (h0 : I [] w) (a₁ : α → Act)
    (hassign : ∀ (l : Nat) (x : α) (W : World) (K : Act → World → Prop), K (a₁ x) W →
      assign.wpIn (F.inRound l) (n - 1 - 1) P (Exit.then K (fun _ _ _ => False)) { tmps := (ps.zip (encs x)).foldl (fun t (p, v) => t.setIfInBounds p v) a.tmps, defers := [] } W)
    (hbody : ∀ (l : Nat) (pre : List α) (x : α) (W : World), I pre W → G pre x →
      body.wpIn (F.inRound l) (n - 1 - 1) P (ownPostG w.heap.size (fun A B => B.heap[Bs]? = A.heap[Bs]?) I (fun c xs W' => c = .ret ∧ Ix xs W') (pre ++ [x]) W) (a₁ x) W)
    (hdone : ∀ (D : Nat) (xs : List α) (W : World), w.heap.size ≤ D → S xs → I xs W → W.heap[D]? = some (.deferred (some [])) → Q .normal { a with defers := { target := .collected D, args := #[] } :: a.defers } W)
    (hstop : ∀ (D : Nat) (pre : List α) (W : World), w.heap.size ≤ D → Ix pre W → W.heap[D]? = some (.deferred (some [])) → Code.ret.wpIn F n P Q { a with defers := { target := .collected D, args := #[] } :: a.defers } W) :
    (Code.rangeFunc g ps assign body).wpIn F n P Q a w := by
  refine wpIn_rangeFunc fun fn hfn => ?_
  rw [hro]
  -- the loop's record, and the block of the rounds' deferred calls
  obtain ⟨R, hR⟩ : ∃ R : LoopState → Option Code → Loop, R = fun st pe => { state := st, pending := pe, fn, tmps := a.tmps, params := ps, assign, body, defers := w.heap.size } := ⟨_, rfl⟩
  obtain ⟨V, hV⟩ : ∃ V, (w.alloc (.deferred (some []))).alloc (.loop (R .ready none)) = V := ⟨_, rfl⟩
  have vL : V.heap[w.heap.size + 1]? = some (.loop (R .ready none)) := by
    rw [← hV]; have := World.alloc_heap_new (w.alloc (.deferred (some []))) (.loop (R .ready none)); rwa [World.size_alloc] at this
  have vD : V.heap[w.heap.size]? = some (.deferred (some [])) := by
    rw [← hV]; exact (Below.heap_alloc _ _ _ (by simp)).trans (World.alloc_heap_new w _)
  have vB : V.heap[Bs]? = w.heap[Bs]? := by
    rw [← hV]; exact (Below.heap_alloc _ _ _ (by simp; omega)).trans (Below.heap_alloc _ _ _ hBs)
  have vI : I [] V := by rw [← hV]; exact hI.alloc _ (hI.alloc _ h0)
  refine ⟨w.heap.size + 1, [{ target := .collected w.heap.size, args := #[] }], V, { target := .fn (.func gf) lb, args := #[.func (.yield (w.heap.size + 1)) #[] #[]] }, V, gf,
    #[.func (.yield (w.heap.size + 1)) #[] #[]] ++ lb, V, ?_, ?_, ?_, ?_, fun _ => h1, ?_⟩
  · rw [← hV, hR]; exact run_enterLoop_outer _ _ _ _ _
  · simp only [resolve, hg]
    simp [go_sem]
  · intro f' hf'; simp [Target.leads] at hf'; subst hf'; exact hFg
  · simp [invoke, go_sem, eg]
  · refine (hseq (w.heap.size + 1)
      (fun pre W => I pre W ∧ W.heap[w.heap.size + 1]? = some (.loop (R .ready none)) ∧ W.heap[w.heap.size]? = some (.deferred (some [])))
      (fun pre W => Ix pre W ∧ W.heap[w.heap.size + 1]? = some (.loop (R .done (some .ret))) ∧ W.heap[w.heap.size]? = some (.deferred (some [])))
      V vB
      (fun s A v hs => ⟨hIs s A v hs.1, (Below.heap_setCell A _ _ _ (by simp; omega)).trans hs.2.1, (Below.heap_setCell A _ _ _ (by simp; omega)).trans hs.2.2⟩)
      (fun s A hs => ⟨hId s A hs.1, hs.2.1, hs.2.2⟩)
      ?_ ⟨vI, vL, vD⟩).mono ?_
    · rintro pre x W ⟨hi, hl, hk⟩ hgx
      have hlt : w.heap.size + 1 < W.heap.size := (Array.getElem?_eq_some_iff.1 hl).1
      have hy := run_yield (P := P) (args := encs x) hl (by rw [hR]; exact hps x)
      rw [hR] at hy
      refine ⟨fn, _, assign, body, hy, roundIn_of_wpIn hfn (hassign _ x W _ ⟨_, run_beginRound hl (by rw [hR]), ?_⟩)⟩
      obtain ⟨X, hX⟩ : ∃ X, W.putObj (w.heap.size + 1) (.loop { R .ready none with state := .busy }) = X := ⟨_, rfl⟩
      have xL : X.heap[w.heap.size + 1]? = some (.loop { R .ready none with state := .busy }) := by rw [← hX]; exact World.putObj_heap_same hlt
      have xD : X.heap[w.heap.size]? = some (.deferred (some [])) := by rw [← hX]; exact (World.putObj_heap_other (by omega)).trans hk
      have xB : X.heap[Bs]? = W.heap[Bs]? := by rw [← hX]; exact World.putObj_heap_other (by omega)
      have xI : I pre X := by rw [← hX]; exact hI.putObj _ hi (by omega) hl rfl
      rw [hX]
      refine wpIn_mono (hbody _ pre x X xI hgx) ?_
      have fin : ∀ (jump : Option Code) (Y : World), KeepsFrom w.heap.size X Y →
          (Instr.endRound (w.heap.size + 1) jump).run P Y = .ok (.bool jump.isNone) (Y.putObj (w.heap.size + 1) (.loop (R (if jump.isNone then .ready else .done) jump))) ∧
          Y.heap[w.heap.size + 1]? = some (.loop { R .ready none with state := .busy }) ∧
          (Y.putObj (w.heap.size + 1) (.loop (R (if jump.isNone then .ready else .done) jump))).heap[w.heap.size + 1]? = some (.loop (R (if jump.isNone then .ready else .done) jump)) ∧
          (Y.putObj (w.heap.size + 1) (.loop (R (if jump.isNone then .ready else .done) jump))).heap[w.heap.size]? = some (.deferred (some [])) := fun jump Y hkY => by
        have yL := hkY.same _ _ (by omega) xL rfl
        have := run_endRound (P := P) jump yL
        rw [hR] at this ⊢
        exact ⟨this, by rw [hR] at yL; exact yL, World.putObj_heap_same (Array.getElem?_eq_some_iff.1 yL).1, (World.putObj_heap_other (by omega)).trans (hkY.same _ _ (Nat.le_refl _) xD rfl)⟩
      rintro e a3 Y hp
      cases e with
      | normal =>
        obtain ⟨k3, b3, i3⟩ := hp
        obtain ⟨hr, l3, l4, k4⟩ := fin none Y k3
        exact ⟨_, _, hr, .inl ⟨rfl, ⟨hI.putObj _ i3 (by omega) l3 rfl, l4, k4⟩, ((World.putObj_heap_other (by omega)).trans b3).trans xB⟩⟩
      | ret =>
        obtain ⟨k3, _, i3⟩ := hp
        obtain ⟨hr, l3, l4, k4⟩ := fin (some .ret) Y k3
        exact ⟨_, _, hr, .inr ⟨rfl, hIx.putObj _ i3 (by omega) l3 rfl, l4, k4⟩⟩
      | exit id => obtain ⟨_, hc, _⟩ := hp; cases hc
      | goto t => obtain ⟨_, hc, _⟩ := hp; cases hc
      | panic ch => exact hp.elim
      | outgrown => exact hp.elim
    · rintro e Y ⟨⟨v, rfl⟩, (⟨xs, hS, hi, hl, hk⟩ | ⟨pre, hi, hl, hk⟩)⟩
      · exact ⟨none, _, by have := run_endLoop (P := P) hl (by rw [hR]; simp); rw [hR] at this; exact this, hdone _ xs _ (Nat.le_refl _) hS (hI.putObj _ hi (by omega) hl rfl) ((World.putObj_heap_other (by omega)).trans hk)⟩
      · exact ⟨some .ret, _, by have := run_endLoop (P := P) hl (by rw [hR]; simp); rw [hR] at this; exact this, hstop _ pre _ (Nat.le_refl _) (hIx.putObj _ hi (by omega) hl rfl) ((World.putObj_heap_other (by omega)).trans hk)⟩

end Go.Proofs.YtekkkoipcghlmabGreatDoor
