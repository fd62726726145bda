import Derived.Test.YtekkkoipcghlmaaGreatDoorA48
import Derived.Test.YtekkkoipcghlmaaGreatDoorA46
set_option linter.all false
namespace Go.Proofs.YtekkkoipcghlmaaGreatDoor
open Go.RowKit

/-- A solver that was made at the world's end. -/
def FI (w wr : World) (ms : List Nat) (pb : List UInt8) : Prop := ∃ kv pv, XAt w.heap.size wr w.heap.size kv ms pv pb ∧ Below w.heap.size w wr
theorem lies_new (w : World) (xs : List Int) (h : 0 < xs.length) : Lies (w.alloc (.cells (ints xs).toArray 3)) (.slice (some ⟨w.heap.size, 0, none⟩) xs.length xs.length) (ints xs) := by
  have hl : (ints xs).length = xs.length := by simp [ints]
  refine .inr ⟨w.heap.size, 0, xs.length, by omega, by rw [hl], by simp, fun k x hk => ?_⟩
  rw [World.cell?]
  rw [show (w.alloc (.cells (ints xs).toArray 3)).heap[w.heap.size]? = some (.cells (ints xs).toArray 3) from heap_alloc_new w _]
  simpa using hk
theorem below_new (w : World) (o : Obj) : Below w.heap.size w (w.alloc o) := (Below.refl _ _).alloc (Nat.le_refl _) _

section
variable {w wr : World} {ms : List Nat} {pb : List UInt8}
theorem FI.add (h : FI w wr ms pb) (hms : ms.length ≤ 1000) (c : List Int) (hc : 0 < c.length) (hl : c.length ≤ 1000) :
    Calls Tryz.prog 24 #[.pointer (some ⟨w.heap.size, 0, none⟩), .slice (some ⟨wr.heap.size, 0, none⟩) c.length c.length] (wr.alloc (.cells (ints c).toArray 3)) fun e w' => e = .returned (.int .i64 (addTo ms c).1) ∧ Hid (FI w w' (addTo ms c).2 pb) := by
  obtain ⟨kv, pv, hX, hb⟩ := h
  have hb1 := below_new wr (.cells (ints c).toArray 3)
  have hX1 := hX.below hb1
  refine (addX_any w.heap.size w.heap.size kv _ ms c _ pv pb hX1 (by omega) (by omega) (lies_new wr c hc)).mono ?_
  rintro e w' ⟨rfl, kv', h1, h2, -⟩
  refine ⟨rfl, hide ⟨kv', pv, h1, (hb.trans (hb1.mono hb.size)).trans (h2.below (fun k hk => ?_) (by have := hb.size; simp; omega))⟩⟩
  rcases hk with rfl | hk
  · exact Nat.le_refl _
  · exact (hX1.row.lt k hk).1
theorem FI.addNil (h : FI w wr ms pb) (hms : ms.length ≤ 1000) :
    Calls Tryz.prog 24 #[.pointer (some ⟨w.heap.size, 0, none⟩), .slice none 0 0] wr fun e w' => e = .returned (.int .i64 (addTo ms []).1) ∧ Hid (FI w w' (addTo ms []).2 pb) := by
  obtain ⟨kv, pv, hX, hb⟩ := h
  refine (addX_any w.heap.size w.heap.size kv _ ms [] _ pv pb hX (by omega) (by simp) (Lies.nil _)).mono ?_
  rintro e w' ⟨rfl, kv', h1, h2, -⟩
  refine ⟨rfl, hide ⟨kv', pv, h1, hb.trans (h2.below (fun k hk => ?_) hb.size)⟩⟩
  rcases hk with rfl | hk
  · exact Nat.le_refl _
  · exact (hX.row.lt k hk).1
theorem FI.env (h : FI w wr ms pb) (he : EnvT w) : EnvFrom w.heap.size wr := by
  obtain ⟨kv, pv, hX, hb⟩ := h
  exact ⟨w, he, Nat.le_refl _, hb⟩
theorem FI.below {w' : World} (h : FI w wr ms pb) (hb : Below wr.heap.size wr w') : FI w w' ms pb := by
  obtain ⟨kv, pv, hX, h1⟩ := h
  exact ⟨kv, pv, hX.below hb, h1.trans (hb.mono h1.size)⟩
/-- A verdict without assumptions. -/
theorem FI.verdict (h : FI w wr ms pb) (hms : KeptOK ms) (he : EnvT w) {av : Value} (hv : Lies wr av (ints [])) (hpb : pb.length ≤ 100000000000000) :
    Calls Tryz.prog 25 #[.pointer (some ⟨w.heap.size, 0, none⟩), av] wr fun e w' => ∃ kind, e = .returned (.int .i64 kind) ∧ ((kind = 1 ∧ ∃ b, ∀ g, g ∈ ms → holdsB b g) ∨ (kind = 2 ∧ ∀ b, ¬ ∀ g, g ∈ ms → holdsB b g)) ∧ Hid (∃ S, S.length ≤ 1000000000 ∧ FI w w' ms (pb ++ S)) := by
  have he' := h.env he
  obtain ⟨kv, pv, hX, hb⟩ := h
  refine (verdictK hX hms he' (A := []) (fun x hx => by cases hx) (by simp) hv (by omega)).mono ?_
  rintro e w' ⟨kind, vm, vc, cf, rfl, hres⟩
  obtain ⟨h1, h2, pv', S, h3, h4⟩ := hres.out hX
  refine ⟨kind, rfl, ?_, hide ⟨S, h4, kv, pv', h3, hb.trans h2⟩⟩
  rcases hres.verdict (fun y hy => by cases hy) with ⟨a1, a2, b, a3, a4, a5, a6⟩ | ⟨a1, a2, a3⟩
  · exact .inl ⟨a1, b, a5⟩
  · exact .inr ⟨a1, fun b hb => a3 b hb (fun y hy => by cases hy)⟩
theorem FI.clauses (h : FI w wr [] pb) (he : EnvT w) : Calls Tryz.prog 27 #[.pointer (some ⟨w.heap.size, 0, none⟩)] wr fun e w' => e = .returned (.string ⟨#[]⟩) ∧ Hid (FI w w' [] pb) := by
  have he' := (h.env he).at
  have h0 := h
  obtain ⟨kv, pv, hX, hb⟩ := h
  refine (clausesX_any _ _ kv [] wr pv pb hX (by simp) (fun m hm => by cases hm) he').mono ?_
  rintro e w' ⟨rfl, hb'⟩
  exact ⟨rfl, hide (h0.below hb')⟩
theorem FI.proof (h : FI w wr ms pb) : Calls Tryz.prog 28 #[.pointer (some ⟨w.heap.size, 0, none⟩)] wr fun e w' => e = .returned (.string (bs pb)) ∧ w' = wr := by
  obtain ⟨kv, pv, hX, hb⟩ := h
  exact proofX_any _ _ kv ms wr pv pb hX
theorem FI.reset (h : FI w wr ms pb) : Calls Tryz.prog 26 #[.pointer (some ⟨w.heap.size, 0, none⟩)] wr fun e w' => e = .returned (.tuple #[]) ∧ Hid (FI w w' [] []) := by
  obtain ⟨kv, pv, hX, hb⟩ := h
  refine (resetX_any _ _ kv ms wr pv pb hX).mono ?_
  rintro e w' ⟨rfl, h1, h2⟩
  exact ⟨rfl, hide ⟨_, _, h1, hb.trans (h2.below (fun k hk => by rw [hk]; exact Nat.le_refl _) hb.size)⟩⟩
end

def M4 : Nat := Sp.maskOf [7, 8, 9, 10]
theorem sizes_rep (k m : Nat) : sizes (List.replicate k m) = k * (Sp.litsOf m).length := by simp [sizes]
theorem len1365 : (Sp.litsOf 1365).length = 6 := by decide
theorem lenM4 : (Sp.litsOf M4).length = 4 := by decide
theorem full_add {k d : Nat} (hd : d < 6) (hk : k < 66) : addTo (List.replicate k 1365) [1, 2, 3, 4, 5, 6, 1 + (d : Int)] = (0, List.replicate (k + 1) 1365) := by
  have hm : ∀ i : Fin 6, allInt [1, 2, 3, 4, 5, 6, 1 + (i.val : Int)] = true ∧ Sp.maskOf [1, 2, 3, 4, 5, 6, 1 + (i.val : Int)] = 1365 := by decide
  obtain ⟨h1, h2⟩ := hm ⟨d, hd⟩
  simp only at h1 h2
  unfold addTo
  rw [h1, h2, sizes_rep, len1365, if_neg (by decide), if_neg (by decide), if_neg (by omega), ← List.replicate_succ']
def F66 : List Nat := List.replicate 66 1365
def F67 : List Nat := F66 ++ [M4]
theorem sizes66 : sizes F66 = 396 := by unfold F66; rw [sizes_rep, len1365]
theorem sizes67 : sizes F67 = 400 := by unfold F67; rw [sizes_snoc, sizes66, lenM4]
theorem full_over : addTo F66 [7, 8, 9, 10, 11] = (2, F66) := by
  unfold addTo
  rw [sizes66, if_neg (by decide), if_neg (by decide), if_pos (by decide)]
theorem full_last : addTo F66 [7, 8, 9, 10] = (0, F67) := by
  unfold addTo
  rw [sizes66, if_neg (by decide), if_neg (by decide), if_neg (by decide)]
  rfl
theorem full_one {d : Nat} (hd : d < 12) : addTo F67 [1 + (d : Int)] = (2, F67) := by
  have hm : ∀ i : Fin 12, allInt [1 + (i.val : Int)] = true ∧ alwaysMask (Sp.maskOf [1 + (i.val : Int)]) = false ∧ (Sp.litsOf (Sp.maskOf [1 + (i.val : Int)])).length = 1 := by decide
  obtain ⟨h1, h2, h3⟩ := hm ⟨d, hd⟩
  simp only at h1 h2 h3
  unfold addTo
  rw [h1, h2, h3, sizes67, if_neg (by decide), if_neg (by decide), if_pos (by decide)]
theorem full_always : addTo F67 [5, -5] = (0, F67) := by
  unfold addTo
  rw [if_neg (by decide), if_pos (by decide)]
theorem full_none : addTo F67 [] = (0, F67 ++ [0]) := by
  unfold addTo
  rw [sizes67, if_neg (by decide), if_neg (by decide), if_neg (by decide)]
  rfl
theorem mem67 {g : Nat} (h : g ∈ F67) : g = 1365 ∨ g = M4 := by
  unfold F67 F66 at h
  rcases List.mem_append.1 h with h | h
  · exact .inl (List.eq_of_mem_replicate h)
  · simp at h; exact .inr h
theorem ok67 : KeptOK F67 := ⟨fun m hm => by rcases mem67 hm with rfl | rfl <;> decide, by rw [sizes67]; decide, by unfold F67 F66; simp⟩
theorem ok68 : KeptOK (F67 ++ [0]) := ⟨fun m hm => by
  rcases List.mem_append.1 hm with hm | hm
  · exact ok67.1 m hm
  · simp at hm; subst hm; decide, by rw [sizes_snoc, sizes67]; decide, by unfold F67 F66; simp⟩
theorem ok0 : KeptOK [] := ⟨fun m hm => (by cases hm), by simp [sizes], by simp⟩
theorem sat67 : ¬ ∀ b, ¬ ∀ g, g ∈ F67 → holdsB b g := fun h => h 4095 (fun g hg => by
  rcases mem67 hg with rfl | rfl
  · exact ⟨0, by decide, by decide⟩
  · exact ⟨12, by decide, by decide⟩)
theorem unsat68 {b : Nat} : ¬ ∀ g, g ∈ F67 ++ [0] → holdsB b g := fun h => by
  obtain ⟨i, hi, -⟩ := h 0 (by simp)
  simp at hi
theorem len67 : F67.length = 67 := by unfold F67 F66; simp

set_option maxRecDepth 100000 in
set_option maxHeartbeats 6400000 in
theorem full_walk (v1 : Value) (zs : List Int) (more : Int) (w : World) (h0 : -9223372036854775808 ≤ more) (h1 : more ≤ 9223372036854775807) (hl1 : zs.length ≤ 9223372036854775807) (hf1 : Fits zs) (hv1 : Lies w v1 (ints zs)) (he : EnvT w) :
    Calls Tryz.prog 6 #[v1, .int .i64 more] w fun e w' => e = .returned (.bool true) ∧ Below w.heap.size w w' := by
  have HN := hide (newX_any w)
  have HF0 : Hid (FI w (w.alloc (.cells #[.slice none 0 0, .int .i64 0, .slice none 0 0] 77)) [] []) := hide ⟨_, _, ⟨by show (w.heap.push _)[w.heap.size]? = _; simp; rfl, Nat.le_refl _, World.ownsRow_nil _ _ _ _, World.ownsRow_nil _ _ _ _⟩, below_new w _⟩
  have HSO : Hid (∀ wx, Below w.heap.size w wx → Calls Tryz.prog 16 #[v1, .int .i64 12, .int .i64 0] wx fun e w' => ∃ ao n c, e = .returned (.slice ao n c) ∧ Lies w' (.slice ao n c) (ints []) ∧ Below wx.heap.size wx w') := hide (fun wx hb => (someK_any v1 zs 12 0 wx hl1 hf1 (by decide) (by decide) (by decide) (hv1.below hb)).mono (fun e w' h => by
    obtain ⟨v', xs, h1, h2, h3, h4, h5⟩ := h
    have hx : xs = [] := List.length_eq_zero_iff.1 (by omega)
    subst hx
    obtain ⟨ao, c, rfl⟩ := owns_shape h2
    exact ⟨ao, _, c, h1, lies_of_owns h2 (by simp [ints]), h5⟩))
  have HPI : Hid (∀ wx, Calls Tryz.prog 14 #[.int .i64 more, .int .i64 12] wx fun e w' => (∃ d : Nat, d < 12 ∧ e = .returned (.int .i64 d)) ∧ w' = wx) := hide (fun wx => pickK_any more 12 wx h0 h1 (by decide) (by decide))
  have HPK : Hid (∀ (k : Nat) wx, k < 66 → Calls Tryz.prog 14 #[.int .i64 (k : Int), .int .i64 6] wx fun e w' => (∃ d : Nat, d < 6 ∧ e = .returned (.int .i64 d)) ∧ w' = wx) := hide (fun k wx hk => pickK_any k 6 wx (by omega) (by omega) (by decide) (by decide))
  obtain ⟨a1, n1, c1, rfl⟩ : ∃ a n c, v1 = .slice a n c := by
    obtain ⟨a, c, h⟩ := lies_shape hv1; exact ⟨a, _, c, h⟩
  have HE := hide he
  clear hv1 hf1 he
  go_enter Tryz.func6, Tryz.ntmps6
  go_wp2_with fail
  refine (unhide HN).mono ?_
  rintro e w1 ⟨rfl, rfl⟩
  go_wp2_with fail
  go_loopw [6, 7, 8, 9, 10, 11, 12, 13, 14] (fun r _ _ _ _ _ _ _ _ wr => ∃ k : Nat, k ≤ 2 ∧ r = .int .i64 k ∧ Hid (∃ pb, pb.length ≤ 2000000000 ∧ FI w wr [] pb)) (fun r _ _ _ _ _ _ _ _ _ => 2 - (intOf r).toNat)
  case atStart => exact ⟨0, by omega, rfl, hide ⟨[], by simp, unhide HF0⟩⟩
  case round =>
    obtain ⟨k, hk, rfl, HF⟩ := hrel
    by_cases hlt : k < 2
    · obtain ⟨pb, hpb, hF⟩ := unhide HF
      have HFX := hide hF
      have hdk : decide ((k : Int) < 2) = true := decide_eq_true (by omega)
      clear hF HF HF0 HN
      go_wp2_with fail
      go_loopw [7, 8] (fun i _ wi => ∃ j : Nat, j ≤ 66 ∧ i = .int .i64 j ∧ Hid (FI w wi (List.replicate j 1365) pb)) (fun i _ _ => 66 - (intOf i).toNat)
      case atStart => exact ⟨0, by omega, rfl, HFX⟩
      case round =>
        obtain ⟨j, hj, rfl, HI⟩ := hrel
        by_cases hjl : j < 66
        · have HPJ := hide (fun wx => unhide HPK j wx hjl)
          have HA : Hid (∀ d : Nat, d < 6 → Calls Tryz.prog 24 #[.pointer (some ⟨w.heap.size, 0, none⟩), .slice (some ⟨wr.heap.size, 0, none⟩) 7 7] (wr.alloc (.cells #[.int .i64 1, .int .i64 2, .int .i64 3, .int .i64 4, .int .i64 5, .int .i64 6, .int .i64 (1 + (d : Int))] 3)) fun e w' => e = .returned (.int .i64 0) ∧ Hid (FI w w' (List.replicate (j + 1) 1365) pb)) := hide (fun d hd => by
            have := (unhide HI).add (by simp; omega) [1, 2, 3, 4, 5, 6, 1 + (d : Int)] (by simp) (by simp)
            rw [full_add hd hjl] at this
            exact this)
          clear HPK
          go_wp2_with fail
          refine (unhide HPJ _).mono ?_
          rintro e w3 ⟨⟨d, hd, rfl⟩, rfl⟩
          go_wp2_with fail
          refine (unhide HA d hd).mono ?_
          rintro e w4 ⟨rfl, HI4⟩
          go_wp2
          go_roundw
          case rel => exact ⟨j + 1, by omega, by go_num, HI4⟩
          case measure => simp [intOf]; omega
        · have hj66 : j = 66 := by omega
          subst hj66
          have HI : Hid (FI w wr F66 pb) := HI
          have HA5 : Hid (Calls Tryz.prog 24 #[.pointer (some ⟨w.heap.size, 0, none⟩), .slice (some ⟨wr.heap.size, 0, none⟩) 5 5] (wr.alloc (.cells #[.int .i64 7, .int .i64 8, .int .i64 9, .int .i64 10, .int .i64 11] 3)) fun e w' => e = .returned (.int .i64 2) ∧ Hid (FI w w' F66 pb)) := hide (by
            have := (unhide HI).add (by unfold F66; simp) [7, 8, 9, 10, 11] (by simp) (by simp)
            rw [full_over] at this
            exact this)
          have HA4 : Hid (∀ wx, FI w wx F66 pb → Calls Tryz.prog 24 #[.pointer (some ⟨w.heap.size, 0, none⟩), .slice (some ⟨wx.heap.size, 0, none⟩) 4 4] (wx.alloc (.cells #[.int .i64 7, .int .i64 8, .int .i64 9, .int .i64 10] 3)) fun e w' => e = .returned (.int .i64 0) ∧ Hid (FI w w' F67 pb)) := hide (fun wx hx => by
            have := hx.add (by unfold F66; simp) [7, 8, 9, 10] (by simp) (by simp)
            rw [full_last] at this
            exact this)
          have HA1 : Hid (∀ wx (d : Nat), d < 12 → FI w wx F67 pb → Calls Tryz.prog 24 #[.pointer (some ⟨w.heap.size, 0, none⟩), .slice (some ⟨wx.heap.size, 0, none⟩) 1 1] (wx.alloc (.cells #[.int .i64 (1 + (d : Int))] 3)) fun e w' => e = .returned (.int .i64 2) ∧ Hid (FI w w' F67 pb)) := hide (fun wx d hd hx => by
            have := hx.add (by rw [len67]; omega) [1 + (d : Int)] (by simp) (by simp)
            rw [full_one hd] at this
            exact this)
          have HA2 : Hid (∀ wx, FI w wx F67 pb → Calls Tryz.prog 24 #[.pointer (some ⟨w.heap.size, 0, none⟩), .slice (some ⟨wx.heap.size, 0, none⟩) 2 2] (wx.alloc (.cells #[.int .i64 5, .int .i64 (-5)] 3)) fun e w' => e = .returned (.int .i64 0) ∧ Hid (FI w w' F67 pb)) := hide (fun wx hx => by
            have := hx.add (by rw [len67]; omega) [5, -5] (by simp) (by simp)
            rw [full_always] at this
            exact this)
          have HA0 : Hid (∀ wx pb2, FI w wx F67 pb2 → Calls Tryz.prog 24 #[.pointer (some ⟨w.heap.size, 0, none⟩), .slice none 0 0] wx fun e w' => e = .returned (.int .i64 0) ∧ Hid (FI w w' (F67 ++ [0]) pb2)) := hide (fun wx pb2 hx => by
            have := hx.addNil (by rw [len67]; omega)
            rw [full_none] at this
            exact this)
          have HVS : Hid (∀ wx ao n c, FI w wx F67 pb → Lies wx (.slice ao n c) (ints []) → Calls Tryz.prog 25 #[.pointer (some ⟨w.heap.size, 0, none⟩), .slice ao n c] wx fun e w' => e = .returned (.int .i64 1) ∧ Hid (∃ pb2, pb2.length ≤ 3000000000 ∧ FI w w' F67 pb2)) := hide (fun wx ao n c hx hl => (hx.verdict ok67 (unhide HE) hl (by omega)).mono (fun e w' h => by
            obtain ⟨kind, rfl, h2, h3⟩ := h
            obtain ⟨S, h4, h5⟩ := unhide h3
            rcases h2 with ⟨rfl, -⟩ | ⟨rfl, h2⟩
            · exact ⟨rfl, hide ⟨_, by rw [List.length_append]; omega, h5⟩⟩
            · exact absurd h2 sat67))
          have HVU : Hid (∀ wx pb2, pb2.length ≤ 3000000000 → FI w wx (F67 ++ [0]) pb2 → Calls Tryz.prog 25 #[.pointer (some ⟨w.heap.size, 0, none⟩), .slice none 0 0] wx fun e w' => e = .returned (.int .i64 2) ∧ Hid (∃ pb3, FI w w' (F67 ++ [0]) pb3)) := hide (fun wx pb2 hp hx => (hx.verdict ok68 (unhide HE) (Lies.nil _) (by omega)).mono (fun e w' h => by
            obtain ⟨kind, rfl, h2, h3⟩ := h
            obtain ⟨S, h4, h5⟩ := unhide h3
            rcases h2 with ⟨rfl, b, h2⟩ | ⟨rfl, h2⟩
            · exact absurd h2 unsat68
            · exact ⟨rfl, hide ⟨_, h5⟩⟩))
          have HVE : Hid (∀ wx, FI w wx [] [] → Calls Tryz.prog 25 #[.pointer (some ⟨w.heap.size, 0, none⟩), .slice none 0 0] wx fun e w' => e = .returned (.int .i64 1) ∧ Hid (∃ pb3, pb3.length ≤ 2000000000 ∧ FI w w' [] pb3)) := hide (fun wx hx => (hx.verdict ok0 (unhide HE) (Lies.nil _) (by simp)).mono (fun e w' h => by
            obtain ⟨kind, rfl, h2, h3⟩ := h
            obtain ⟨S, h4, h5⟩ := unhide h3
            rcases h2 with ⟨rfl, -⟩ | ⟨rfl, h2⟩
            · exact ⟨rfl, hide ⟨_, by rw [List.nil_append]; omega, h5⟩⟩
            · exact absurd (fun g hg => by cases hg) (h2 0)))
          clear HPK HFX
          go_wp2_with fail
          refine (unhide HA5).mono ?_
          rintro e w5 ⟨rfl, HI5⟩
          have HB5 := hide (unhide HA4 w5 (unhide HI5))
          clear HA5 HA4 HI
          go_wp2_with fail
          refine (unhide HB5).mono ?_
          rintro e w6 ⟨rfl, HI6⟩
          have HB6 := hide (fun d hd => unhide HA1 w6 d hd (unhide HI6))
          clear HB5 HI5 HA1
          go_wp2_with fail
          refine (unhide HPI _).mono ?_
          rintro e w7 ⟨⟨d, hd, rfl⟩, rfl⟩
          go_wp2_with fail
          refine (unhide HB6 d hd).mono ?_
          rintro e w8 ⟨rfl, HI8⟩
          have HB8 := hide (unhide HA2 w8 (unhide HI8))
          clear HB6 HI6 HA2
          go_wp2_with fail
          refine (unhide HB8).mono ?_
          rintro e w9 ⟨rfl, HI9⟩
          have HB9 := hide (unhide HSO w9 (by obtain ⟨_, _, _, hb⟩ := unhide HI9; exact hb))
          clear HB8 HI8
          go_wp2_with fail
          refine (unhide HB9).mono ?_
          rintro e w10 ⟨so, sn, sc, rfl, hsl, hb10⟩
          have HB10 := hide (unhide HVS w10 so sn sc ((unhide HI9).below hb10) hsl)
          clear HB9 HI9 hsl HVS
          go_wp2_with fail
          refine (unhide HB10).mono ?_
          rintro e w11 ⟨rfl, HI11⟩
          obtain ⟨pb2, hp2, hI11⟩ := unhide HI11
          have HB11 := hide (unhide HA0 w11 pb2 hI11)
          clear HB10 HI11 hI11 HA0
          go_wp2_with fail
          refine (unhide HB11).mono ?_
          rintro e w12 ⟨rfl, HI12⟩
          have HB12 := hide (unhide HVU w12 pb2 hp2 (unhide HI12))
          clear HB11 HI12 HVU
          go_wp2_with fail
          refine (unhide HB12).mono ?_
          rintro e w13 ⟨rfl, HI13⟩
          obtain ⟨pb3, hI13⟩ := unhide HI13
          have HB13 := hide hI13.reset
          clear HB12 HI13 hI13
          go_wp2_with fail
          refine (unhide HB13).mono ?_
          rintro e w14 ⟨rfl, HI14⟩
          have HB14 := hide ((unhide HI14).clauses (unhide HE))
          clear HB13 HI14
          go_wp2_with fail
          refine (unhide HB14).mono ?_
          rintro e w15 ⟨rfl, HI15⟩
          have HB15 : Hid (Calls Tryz.prog 28 #[.pointer (some ⟨w.heap.size, 0, none⟩)] w15 fun e w' => e = .returned (.string ⟨#[]⟩) ∧ w' = w15) := hide (unhide HI15).proof
          have HB16 := hide (unhide HVE w15 (unhide HI15))
          clear HB14 HI15 HVE
          go_wp2_with fail
          refine (unhide HB15).mono ?_
          rintro e w16 ⟨rfl, rfl⟩
          go_wp2_with fail
          refine (unhide HB16).mono ?_
          rintro e w17 ⟨rfl, HI17⟩
          go_wp2
          go_roundw
          case rel => exact ⟨k + 1, by omega, by go_num, HI17⟩
          case measure => simp [intOf]; omega
    · have hk2 : k = 2 := by omega
      subst hk2
      obtain ⟨pb, hpb, hF⟩ := unhide HF
      obtain ⟨_, _, _, hb⟩ := hF
      go_wp2
      go_ret
      exact ⟨rfl, hb⟩

end Go.Proofs.YtekkkoipcghlmaaGreatDoor

namespace Go.Proofs.YtekkkoipcghlmaaGreatDoor
open Go.RowKit

theorem full_all (v0 : Value) (z0 : List Int) (n1 : Int) (w : World) (a0 : ArgL w v0 z0) (b1 : ArgI n1) (he : EnvT w) :
    Calls Tryz.prog 6 #[v0, .int .i64 n1] w fun e w' => e = .returned (.bool true) ∧ Below w.heap.size w w' :=
  full_walk v0 z0 n1 w b1.1 b1.2 a0.len a0.fits a0.lies he

end Go.Proofs.YtekkkoipcghlmaaGreatDoor

namespace Go.Proofs.YtekkkoipcghlmaaGreatDoor
open Go.ChangeShapes Go.WideShapes Go.ChangeAt Go.RowKit Go.Deep

set_option maxRecDepth 100000 in
theorem full_contract (H : Type) (enc : TypeId × Value → H) (W : World) (base : Nat) (args : Array Value) (ds gs : List (DataW H)) (before : List MemPlace)
    (hval : ∀ (j : Nat) t v, Tryz.f6.params[j]? = some t → args[j]? = some v → Value.okWide Tryz.prog W .any base t v)
    (hW : DataW.Whole enc Tryz.prog Tryz.f6.params.toList Rows.fullSpec.vars false W args.toList ds gs before) (hL : laidMetH Tryz.prog Rows.fullRow.laid W) (hS : W.ShapedOpen Tryz.prog) :
    Calls Tryz.prog 6 args W fun e W' => ∃ v, e = .returned v ∧ Rows.fullSpec.post enc Tryz.prog Tryz.f6 false true false false W args v W' := by
  have he := envT_of hL hS
  have hW' := hW
  obtain ⟨p, q, hA0, hV, rfl, hfz, hnd⟩ := hW
  have hA : DataW.TrodAll enc Tryz.prog W 0 (fun _ => true) true Tryz.f6.params.toList args.toList ds p := hA0
  rw [Tryz.params6] at hA hval
  obtain ⟨v0, vs0, d0, ds0, p0, q0, hargs, rfl, rfl, t0, r0⟩ := trodAll_cons hA
  obtain ⟨v1, vs1, d1, ds1, p1, q1, rfl, rfl, rfl, t1, r1⟩ := trodAll_cons r0
  obtain ⟨rfl, rfl, rfl⟩ := trodAll_nil r1
  obtain rfl : args = #[v0, v1] := by cases args; simp_all
  obtain ⟨rfl, rfl⟩ := trodVars_none hV
  obtain ⟨a0, l0, c0, rfl⟩ := okWide_slice Tryz.underlying25 (hval 0 25 v0 rfl rfl)
  obtain ⟨n1, rfl, rfl, rfl, hw1⟩ := open_int Tryz.underlying3 (hval 1 3 v1 rfl rfl) t1
  clear hA0
  simp only [List.append_nil, List.nil_append] at hW'
  have hlt : ∀ x ∈ p0, x.block < W.heap.size := fun x hx => by simpa using hW'.lt x hx
  have hlt0 : ∀ x ∈ p0, x.block < W.heap.size := fun x hx => hlt x hx
  have k0 := fun (W' : World) (hn : Below W.heap.size W W') => Below.trod Tryz.laidOutS (by kernel_rfl) (of_decide_eq_true (by kernel_rfl)) t0 hn hlt0
  obtain ⟨f0, hf0⟩ := t0
  obtain ⟨z0, hz0⟩ := arg_read hf0
  refine (full_all _ z0 n1 W hz0 (wf_bdS hw1) he).mono fun e W' ⟨hr, hb'⟩ => ?_
  subst hr
  exact ⟨_, rfl, _, _, _, [], p0 ++ ([] ++ ([])), [], hW', trodAll_mk1 (shut_bool Tryz.underlying4 _), trodAll_cons_mk (k0 W' hb') (trodAll_cons_mk (shut_int Tryz.underlying3 hw1) (trodAll_mk0)), rfl, hb'.frame _, fun h => by cases h⟩

theorem full_start_met (os : Os) : laidMet Tryz.prog Rows.fullRow.laid ((World.laidAll Tryz.prog os Rows.fullRow.laid).forCall (fun _ _ => 0) ⟨#[], #[.slice none 0 0, .int .i64 0], []⟩).memory :=
  laidMet_laidAll _ (by kernel_rfl) (by kernel_rfl)
theorem full_start_reads (os : Os) {H : Type} (enc : TypeId × Value → H) : ∃ places, DataW.whole enc Tryz.prog ((World.laidAll Tryz.prog os Rows.fullRow.laid).forCall (fun _ _ => 0) ⟨#[], #[.slice none 0 0, .int .i64 0], []⟩).memory Tryz.f6.params.toList Rows.fullSpec.vars false #[Value.slice none 0 0, Value.int .i64 0].toList 8 = some ([.nil, .lit (.int .i64 0)], [], places) :=
  ⟨[], by kernel_rfl⟩

set_option maxRecDepth 100000 in
theorem full_lifted (os : Os) (started : os.Started) (H : Type) (enc : TypeId × Value → H) (F : Stop.Interp) :
    ReturnsInHanded {} Tryz.checked os 6 .any ((OpenSpec.ofChange Rows.fullSpec).preRow enc Tryz.prog Tryz.f6 Rows.fullRow.domain false Rows.fullRow.laid) (((OpenSpec.ofChange Rows.fullSpec).at F).post enc Tryz.prog Tryz.f6 false true false false) := by
  obtain ⟨places, hx⟩ := full_start_reads os enc
  refine returnsInHanded_of_row (C := Tryz.checked) (s := OpenSpec.ofChange Rows.fullSpec) Tryz.ownKnob started (by kernel_rfl) Tryz.func6
    ⟨World.laidAll Tryz.prog os Rows.fullRow.laid, fun _ _ => 0, ⟨#[], #[.slice none 0 0, .int .i64 0], []⟩, World.laidAll_os _ _ _, World.shaped_of_ZipB (by kernel_rfl) (by kernel_rfl), rfl, (Input.okWide_of_okWideB (by kernel_rfl)).2,
      OpenSpec.preRow_of_cond 8 hx (by kernel_rfl) (fun k hk => by cases hk) (by kernel_rfl) (full_start_met os), by simp [Assume.holds]⟩ ?_
  intro W base args ds gs before hval hW _ _ _ hL hS _
  exact full_contract H enc W base args ds gs before hval hW hL hS

theorem full_said : Rows.FullSaid :=
  OpenClaim.holds_of_cond 6 Tryz.f6 rfl rfl rfl rfl rfl rfl rfl ⟨rfl, rfl, rfl, rfl, rfl⟩ rfl rfl rfl rfl rfl (by kernel_rfl) Tryz.func6 (by kernel_rfl)
    (of_decide_eq_true (by kernel_rfl)) (by unfold Func.isWrapper; first | (rw [if_pos (by decide +kernel)]; kernel_rfl) | (rw [if_neg (by decide +kernel)]; exact ⟨rfl, rfl⟩))
    (fun os started H enc _ F => by rw [OpenClaim.pre_eq_preRow]; exact full_lifted os started H enc F)

theorem full_plain (f : FuncId) (fn : Func) (hf : Tryz.pinned.checked.prog.funcNamed "knots/knotskeep.Full" = some f) (hfn : Tryz.pinned.checked.prog.funcs[f]? = some fn) :
    true = Tryz.pinned.checked.prog.looks [] ∧ ∀ (j : Nat) t, fn.params[j]? = some t → Tryz.pinned.checked.prog.wantsStandIn t = false := by
  obtain rfl : f = 6 := Option.some.inj ((show Tryz.prog.funcNamed "knots/knotskeep.Full" = some 6 by kernel_rfl).symm.trans hf) |>.symm
  obtain rfl : fn = Tryz.f6 := (Option.some.inj (Tryz.func6.symm.trans hfn)).symm
  refine ⟨by kernel_rfl, fun j t ht => ?_⟩
  rw [Tryz.params6] at ht
  have hm : t = 25 ∨ t = 3 := by
    have := Array.mem_of_getElem? ht
    simp at this
    omega
  rcases hm with rfl | rfl
  · exact (show Tryz.prog.wantsStandIn 25 = false by kernel_rfl)
  · exact (show Tryz.prog.wantsStandIn 3 = false by kernel_rfl)

theorem full_card : Rows.FullCardSaid :=
  Claim7.holds_tied_plain_at .later [] _ _ _ _ full_said (fun _ h => by cases h) (by kernel_rfl) (fun _ h => by cases h) full_row_tie rfl ⟨rfl, rfl⟩ (by kernel_rfl) rfl full_plain (by kernel_rfl)
#print axioms full_card

end Go.Proofs.YtekkkoipcghlmaaGreatDoor
