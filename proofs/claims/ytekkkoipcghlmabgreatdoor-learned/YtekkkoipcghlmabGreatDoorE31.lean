import Derived.Test.YtekkkoipcghlmabGreatDoorE28
import Derived.Test.YtekkkoipcghlmabGreatDoorE04
import Derived.Test.YtekkkoipcghlmabGreatDoorE29
import Derived.Test.YtekkkoipcghlmabGreatDoorE30
import Derived.Deep.AppendLies
import Derived.Deep.RegionWith
import Derived.WalkSmall
set_option linter.all false
namespace Go.Proofs.YtekkkoipcghlmabGreatDoor
open Go.RowKit

theorem newX_any (w : World) :
    Calls Tryz.prog 9 #[] w fun e w' => e = .returned (.pointer (some ⟨w.heap.size, 0, none⟩)) ∧ w' = w.alloc (.cells #[.slice none 0 0, .int .i64 0, .slice none 0 0] 57) := by
  go_enter Tryz.func9, Tryz.ntmps9
  go_wp2
  go_ret
  exact ⟨rfl, rfl⟩

theorem byte_ones : ∀ a : Fin 256, Lib.onesCount a.val = ((List.range 8).filter (fun i => a.val.testBit i)).length := by decide +kernel
theorem filter_shift (m s : Nat) : ((List.range 8).map (· + s)).filter (fun i => m.testBit i) = ((List.range 8).filter (fun i => (m / 2 ^ s % 256).testBit i)).map (· + s) := by
  rw [List.filter_map]
  congr 1
  apply List.filter_congr
  intro i hi
  have hi8 : i < 8 := by simpa using hi
  simp only [Function.comp]
  rw [show (256 : Nat) = 2 ^ 8 from rfl, Nat.testBit_mod_two_pow, Nat.testBit_div_two_pow]
  simp [hi8]
theorem ones_lits {m : Nat} : onesOf m = (Sp.litsOf m).length := by
  have e : List.range 24 = (List.range 8).map (· + 0) ++ (List.range 8).map (· + 8) ++ (List.range 8).map (· + 16) := by decide
  have b := fun (x : Nat) (h : x < 256) => byte_ones ⟨x, h⟩
  unfold Sp.litsOf onesOf
  rw [List.length_map, e, List.filter_append, List.filter_append, filter_shift, filter_shift, filter_shift]
  simp only [List.length_append, List.length_map]
  have h1 := b (m / 65536 % 256) (by omega)
  have h2 := b (m / 256 % 256) (by omega)
  have h3 := b (m % 256) (by omega)
  simp only at h1 h2 h3
  rw [h1, h2, h3]
  simp only [Nat.pow_zero, Nat.div_one, show (2 : Nat) ^ 8 = 256 from rfl, show (2 : Nat) ^ 16 = 65536 from rfl]
  omega

theorem sizes_le (ms : List Nat) : sizes ms ≤ 24 * ms.length := by
  induction ms with
  | nil => simp [sizes]
  | cons a r ih =>
    have := litsOf_len24 a
    simp only [sizes, List.map_cons, List.sum_cons, List.length_cons] at ih ⊢
    omega

/-- What Add answers, and what is kept then. -/
def addTo (ms : List Nat) (xs : List Int) : Int × List Nat :=
  if allInt xs = false then (1, ms) else if alwaysMask (Sp.maskOf xs) = true then (0, ms) else if 400 < sizes ms + (Sp.litsOf (Sp.maskOf xs)).length then (2, ms) else (0, ms ++ [Sp.maskOf xs])

theorem Tryz.infoClauseK : (Tryz.prog.info? 59).map (fun i => (i.zero, i.size, i.bytes)) = some (some (.int .u32 0), 1, 4) := by kernel_rfl

def XF (x : Nat) (kv : Value) (k : Nat) : Prop := k = x ∨ kv.ownBlock = some k
/-- What an Add of the program's leaves. -/
def AddX (base x : Nat) (kv : Value) (ms : List Nat) (xs : List Int) (pv : Value) (pb : List UInt8) (w w' : World) : Prop :=
  ∃ kv', XAt base w' x kv' (addTo ms xs).2 pv pb ∧ Only (XF x kv) w w' ∧ ∀ g, kv'.ownBlock = some g → kv.ownBlock = some g ∨ w.heap.size ≤ g

theorem XAt.below {base : Nat} {w w' : World} {x : Nat} {kv pv : Value} {ms : List Nat} {pb : List UInt8} (h : XAt base w x kv ms pv pb) (hb : Below w.heap.size w w') : XAt base w' x kv ms pv pb :=
  ⟨(hb.block x (lt_of_block h.block)).trans h.block, h.le, owns_at h.row (fun g hg => hb.block g (h.row.lt g hg).2), owns_at h.prow (fun g hg => hb.block g (h.prow.lt g hg).2)⟩
theorem AddX.stay {base x : Nat} {kv pv : Value} {ms : List Nat} {xs : List Int} {pb : List UInt8} {w w' : World} (h : XAt base w x kv ms pv pb) (hb : Below w.heap.size w w') (ha : (addTo ms xs).2 = ms) : AddX base x kv ms xs pv pb w w' :=
  ⟨kv, by rw [ha]; exact h.below hb, Only.of_below _ hb, fun g hg => .inl hg⟩

theorem us_snoc (ms : List Nat) (m : Nat) : us (ms ++ [m]) = us ms ++ [.int .u32 (m : Int)] := by simp [us]
/-- Behind the append, ahead of the stores. -/
structure Mid (base x : Nat) (kv : Value) (ms : List Nat) (pv : Value) (pb : List UInt8) (m : Nat) (w w4 : World) (g' cap' : Nat) : Prop where
  block : w4.heap[x]? = some (.cells #[kv, .int .i64 (sizes ms : Int), pv] 57 (0, 0))
  prow : w4.ownsRow base 5 1 pv pb.length (bytesV pb)
  row : w4.ownsRow base 59 1 (.slice (some ⟨g', 0, none⟩) (ms.length + 1) cap') (ms.length + 1) (us ms ++ [.int .u32 (m : Int)])
  only : Only (XF x kv) w w4
  loc : kv.ownBlock = some g' ∨ w.heap.size ≤ g'
  ne : g' ≠ x
theorem mid_of {base x : Nat} {kv pv : Value} {ms : List Nat} {pb : List UInt8} {m : Nat} {w wz w4 : World} {g' cap' : Nat} {o : Obj} (hX : XAt base w x kv ms pv pb) (hz : Below w.heap.size w wz)
    (hown : w4.ownsRow base 59 1 (.slice (some ⟨g', 0, none⟩) (ms.length + 1) cap') (ms.length + 1) (us ms ++ [.int .u32 (m : Int)])) (hgr : (wz.alloc o).grownBy w4 kv.ownBlock) (hloc : kv.ownBlock = some g' ∨ g' = (wz.alloc o).heap.size) :
    Mid base x kv ms pv pb m w w4 g' cap' := by
  have hlt := lt_of_block hX.block
  have hzs := hz.size
  have hne : kv.ownBlock ≠ some x := row_ne hX.row hX.block (by decide)
  have hb1 : (wz.alloc o).heap[x]? = some (.cells #[kv, .int .i64 (sizes ms : Int), pv] 57 (0, 0)) := by
    rw [Below.heap_alloc _ _ _ (by omega), hz.block x hlt]; exact hX.block
  have hp1 : (wz.alloc o).ownsRow base 5 1 pv pb.length (bytesV pb) := (owns_at hX.prow (fun g hg => hz.block g (hX.prow.lt g hg).2)).alloc o
  have hp4 : w4.ownsRow base 5 1 pv pb.length (bytesV pb) := hp1.kept hgr (rows_apart (by decide) hX.prow hX.row)
  refine ⟨by rw [hgr.block x (lt_of_block hb1) (fun e => hne e.symm)]; exact hb1, hp4, hown, (Only.of_below _ hz).trans ((Only.alloc _ wz o).trans (Only.grown hgr (fun k hk => .inr hk))), ?_, ?_⟩
  · rcases hloc with h | h
    · exact .inl h
    · exact .inr (by rw [h]; simp; omega)
  · rcases hloc with h | h
    · intro e; subst e; exact hne h
    · rw [h]; simp; omega
theorem Mid.cell0 {base x : Nat} {kv pv : Value} {ms : List Nat} {pb : List UInt8} {m : Nat} {w w4 : World} {g' cap' : Nat} (h : Mid base x kv ms pv pb m w w4 g' cap') : w4.cell? ⟨x, 0, none⟩ = some kv := by simp [World.cell?, h.block]
theorem Mid.cell1 {base x : Nat} {kv pv : Value} {ms : List Nat} {pb : List UInt8} {m : Nat} {w w4 : World} {g' cap' : Nat} (h : Mid base x kv ms pv pb m w w4 g' cap') : w4.cell? ⟨x, 1, none⟩ = some (.int .i64 (sizes ms : Int)) := by simp [World.cell?, h.block]
theorem Mid.free {base x : Nat} {kv pv : Value} {ms : List Nat} {pb : List UInt8} {m : Nat} {w w4 : World} {g' cap' : Nat} (h : Mid base x kv ms pv pb m w w4 g' cap') (j : Nat) : w4.frozen? ⟨x, j, none⟩ = false := frozen_of_row w4 _ _ _ _ h.block
theorem row_drew {w : World} {base : Nat} {e : TypeId} {s : Nat} {v : Value} {n : Nat} {xs : List Value} (h : w.ownsRow base e s v n xs) (q : Nat) : (w.drewN q).ownsRow base e s v n xs := owns_at h (fun _ _ => rfl)
theorem Mid.fin {base x : Nat} {kv pv : Value} {ms : List Nat} {pb : List UInt8} {m : Nat} {w w4 wm : World} {g' cap' : Nat} (h : Mid base x kv ms pv pb m w w4 g' cap') (hle : base ≤ x) (hm : Below (w4.setCell ⟨x, 0, none⟩ (.slice (some ⟨g', 0, none⟩) (ms.length + 1) cap')).heap.size (w4.setCell ⟨x, 0, none⟩ (.slice (some ⟨g', 0, none⟩) (ms.length + 1) cap')) wm)
    {n : Int} (hn : n = (sizes (ms ++ [m]) : Nat)) (_hlt : x < w.heap.size) : XAt base (wm.setCell ⟨x, 1, none⟩ (.int .i64 n)) x (.slice (some ⟨g', 0, none⟩) (ms.length + 1) cap') (ms ++ [m]) pv pb ∧ Only (XF x kv) w (wm.setCell ⟨x, 1, none⟩ (.int .i64 n)) := by
  subst hn
  have h0 := heap_setCell_same w4 x 0 _ _ (.slice (some ⟨g', 0, none⟩) (ms.length + 1) cap') h.block
  have hlt4 := lt_of_block h0
  have h1 := (hm.block x hlt4).trans h0
  have h2 := heap_setCell_same wm x 1 _ _ (.int .i64 (sizes (ms ++ [m]) : Nat)) h1
  have hpn : pv.ownBlock ≠ some x := row_ne h.prow h.block (by decide)
  refine ⟨⟨by rw [h2]; rfl, hle, ?_, ?_⟩, ?_⟩
  · rw [List.length_append, us_snoc]
    have r1 := ownsRow_setCell_other h.row (a := ⟨x, 0, none⟩) (by simp [Value.ownBlock]; exact h.ne) (.slice (some ⟨g', 0, none⟩) (ms.length + 1) cap')
    have r2 := owns_below r1 hm
    exact ownsRow_setCell_other r2 (a := ⟨x, 1, none⟩) (by simp [Value.ownBlock]; exact h.ne) _
  · have r1 := ownsRow_setCell_other h.prow (a := ⟨x, 0, none⟩) hpn (.slice (some ⟨g', 0, none⟩) (ms.length + 1) cap')
    have r2 := owns_below r1 hm
    exact ownsRow_setCell_other r2 (a := ⟨x, 1, none⟩) hpn _
  · exact h.only.trans ((Only.setCell (F := XF x kv) (p := ⟨x, 0, none⟩) (.inl rfl) _ _).trans ((Only.of_below _ hm).trans (Only.setCell (F := XF x kv) (p := ⟨x, 1, none⟩) (.inl rfl) _ _)))
theorem AddX.grow {base x : Nat} {kv pv : Value} {ms : List Nat} {pb : List UInt8} {m : Nat} {xs : List Int} {w w4 w' : World} {g' cap' : Nat} (h : Mid base x kv ms pv pb m w w4 g' cap') (hx : XAt base w' x (.slice (some ⟨g', 0, none⟩) (ms.length + 1) cap') (ms ++ [m]) pv pb) (ho : Only (XF x kv) w w') (ha : (addTo ms xs).2 = ms ++ [m]) : AddX base x kv ms xs pv pb w w' :=
  ⟨_, by rw [ha]; exact hx, ho, fun g hg => by simp [Value.ownBlock] at hg; subst hg; exact h.loc⟩

set_option maxRecDepth 100000 in
set_option maxHeartbeats 1600000 in
theorem addX_any (base x : Nat) (kv v : Value) (ms : List Nat) (xs : List Int) (w : World) (pv : Value) (pb : List UInt8) (hX : XAt base w x kv ms pv pb) (hms : ms.length ≤ 10000000) (hl : xs.length ≤ 10000000) (hv : Lies w v (ints xs)) :
    Calls Tryz.prog 10 #[.pointer (some ⟨x, 0, none⟩), v] w fun e w' => e = .returned (.int .i64 (addTo ms xs).1) ∧ AddX base x kv ms xs pv pb w w' := by
  have HF := hide (fromNumbers_any v xs w hl hv)
  have hszl := sizes_le ms
  obtain ⟨ao, cp, hsh⟩ := owns_shape hX.row
  subst hsh
  have hc0 : w.cell? ⟨x, 0, none⟩ = some (.slice ao ms.length cp) := by simp [World.cell?, hX.block]
  have hc1 : w.cell? ⟨x, 1, none⟩ = some (.int .i64 (sizes ms : Int)) := by simp [World.cell?, hX.block]
  have HX := hide hX
  clear hX hv
  cases ha : allInt xs
  · have HT : Hid (addTo ms xs = (1, ms)) := hide (by unfold addTo; rw [if_pos ha])
    have HA := hide ha
    clear ha
    go_enter Tryz.func10, Tryz.ntmps10
    go_wp2_with fail
    refine (unhide HF).mono ?_
    rintro e w1 ⟨rfl, ⟨h1, rfl⟩ | ⟨h1, rfl⟩⟩
    · clear h1
      go_wp2
      go_ret
      exact ⟨by rw [unhide HT]; rfl, AddX.stay (unhide HX) (Below.refl _ _) (by rw [unhide HT])⟩
    · rw [unhide HA] at h1; cases h1
  · have hbd : ∀ y, y ∈ xs → y ≠ 0 ∧ -12 ≤ y ∧ y ≤ 12 := fun y hy => isLit_iff.1 (by rw [allInt, List.all_eq_true] at ha; exact ha y hy)
    have hm : Sp.maskOf xs < 2 ^ 24 := Sp.maskOf_lt _ (fun y hy => (hbd y hy).2)
    have HAL := hide (fun wx => alwaysTrue_any (Sp.maskOf xs) wx hm)
    have HSI := hide (fun wx => size_any (Sp.maskOf xs) wx hm)
    rw [ones_lits] at HSI
    have h24 := litsOf_len24 (Sp.maskOf xs)
    have HT0 : Hid (alwaysMask (Sp.maskOf xs) = true → addTo ms xs = (0, ms)) := hide (fun h => by unfold addTo; rw [if_neg (by rw [ha]; decide), if_pos h])
    have HT2 : Hid (alwaysMask (Sp.maskOf xs) = false → 400 < sizes ms + (Sp.litsOf (Sp.maskOf xs)).length → addTo ms xs = (2, ms)) := hide (fun h h2 => by unfold addTo; rw [if_neg (by rw [ha]; decide), if_neg (by rw [h]; decide), if_pos h2])
    have HT3 : Hid (alwaysMask (Sp.maskOf xs) = false → ¬ 400 < sizes ms + (Sp.litsOf (Sp.maskOf xs)).length → addTo ms xs = (0, ms ++ [Sp.maskOf xs])) := hide (fun h h2 => by unfold addTo; rw [if_neg (by rw [ha]; decide), if_neg (by rw [h]; decide), if_neg h2])
    have HSN := hide (sizes_snoc ms (Sp.maskOf xs))
    have HA := hide ha
    clear ha hbd
    generalize hsz : (Sp.litsOf (Sp.maskOf xs)).length = sz at *
    clear hsz
    generalize hmm : Sp.maskOf xs = m at *
    have HMM := hide hmm
    clear hmm
    generalize hal : alwaysMask m = al at *
    clear hal
    generalize hai : allInt xs = ai at *
    clear hai
    have hwr : IntKind.i64.wrap ((sizes ms : Int) + (sz : Int)) = (sizes ms : Int) + (sz : Int) := by rw [IntKind.wrap_i64]; omega
    cases al
    · by_cases h4 : 400 < sizes ms + sz
      · have HT := hide (unhide HT2 rfl h4)
        clear HT0 HT2 HT3
        go_enter Tryz.func10, Tryz.ntmps10
        go_wp2_with fail
        refine (unhide HF).mono ?_
        rintro e w1 ⟨rfl, ⟨h1, rfl⟩ | ⟨h1, rfl⟩⟩
        · rw [unhide HA] at h1; cases h1
        · clear h1
          go_wp2_with fail
          refine (unhide HAL _).mono ?_
          rintro e w2 ⟨rfl, q, rfl⟩
          go_wp2
          go_region_with (go_at_call 27; refine (unhide HSI _).mono ?_; rintro e w3 ⟨rfl, q2, rfl⟩)
          all_goals go_wp2
          all_goals go_ret
          all_goals exact ⟨by rw [unhide HT]; rfl, AddX.stay (unhide HX) (belowDrew (Below.refl _ _) _) (by rw [unhide HT])⟩
      · have HT := hide (unhide HT3 rfl h4)
        clear HT0 HT2 HT3
        go_enter Tryz.func10, Tryz.ntmps10
        go_wp2_with fail
        refine (unhide HF).mono ?_
        rintro e w1 ⟨rfl, ⟨h1, rfl⟩ | ⟨h1, rfl⟩⟩
        · rw [unhide HA] at h1; cases h1
        · clear h1
          have hbase : base ≤ w1.heap.size := Nat.le_trans (unhide HX).le (Nat.le_of_lt (lt_of_block (unhide HX).block))
          go_wp2_with fail
          refine (unhide HAL _).mono ?_
          rintro e w2 ⟨rfl, q, rfl⟩
          go_wp2
          go_region_with (go_at_call 27; refine (unhide HSI _).mono ?_; rintro e w3 ⟨rfl, q2, rfl⟩)
          all_goals go_wp2_with (at_builtin; refine append_cell (base := base) rfl _ _ 54 59 rfl Tryz.underlying54 Tryz.infoClauseK rfl (by decide) (row_drew (unhide HX).row _) rfl rfl rfl (by omega) hbase ?_; intro g' cap' w4 hown4 hgr4 hloc; have HMID := hide (mid_of (unhide HX) (belowDrew (Below.refl _ _) _) hown4 hgr4 hloc); clear hown4 hgr4 hloc; have hc04 := (unhide HMID).cell0; have hc14 := (unhide HMID).cell1; have hf04 := (unhide HMID).free 0; have hf14 := (unhide HMID).free 1)
          all_goals go_region_with (go_at_call 27; refine (unhide HSI _).mono ?_; rintro e w5 ⟨rfl, q3, rfl⟩)
          all_goals go_wp2
          all_goals go_ret
          all_goals exact ⟨by rw [unhide HT]; rfl, AddX.grow (unhide HMID) (Mid.fin (unhide HMID) (unhide HX).le (belowDrew (Below.refl _ _) _) (by rw [unhide HSN]; omega) (lt_of_block (unhide HX).block)).1 (Mid.fin (unhide HMID) (unhide HX).le (belowDrew (Below.refl _ _) _) (by rw [unhide HSN]; omega) (lt_of_block (unhide HX).block)).2 (by rw [unhide HT])⟩
    · have HT := hide (unhide HT0 rfl)
      clear HT0 HT2 HT3
      go_enter Tryz.func10, Tryz.ntmps10
      go_wp2_with fail
      refine (unhide HF).mono ?_
      rintro e w1 ⟨rfl, ⟨h1, rfl⟩ | ⟨h1, rfl⟩⟩
      · rw [unhide HA] at h1; cases h1
      · clear h1
        go_wp2_with fail
        refine (unhide HAL _).mono ?_
        rintro e w2 ⟨rfl, q, rfl⟩
        go_wp2
        go_ret
        exact ⟨by rw [unhide HT]; rfl, AddX.stay (unhide HX) (belowDrew (Below.refl _ _) q) (by rw [unhide HT])⟩

end Go.Proofs.YtekkkoipcghlmabGreatDoor
