import Derived.Test.YtekkkoipcghlmaaDoorP9
import Derived.Test.YtekkkoipcghlmaaDoorW10
namespace Go.Proofs.YtekkkoipcghlmaaDoor
open Go.RowKit

theorem good_of_scan (L : List (List UInt8 × Bool)) : ∀ n, Sp.scanSegs n L = none → ∀ x, x ∈ L → goodLine x := by
  induction L with
  | nil => intro n _ x hx; cases hx
  | cons a r ih =>
    intro n h x hx
    unfold Sp.scanSegs at h
    split at h
    · cases h
    · rename_i hc
      rcases List.mem_cons.1 hx with rfl | hx
      · simp at hc; exact ⟨hc.1, hc.2⟩
      · exact ih (n + 1) h x hx

theorem mask_text (L : List (List UInt8 × Bool)) (h : ∀ x, x ∈ L → goodLine x) : maskText (L.map lineMask) = plainTo ((L.map Prod.fst).map Sp.clauseOf) := by
  induction L with
  | nil => rfl
  | cons a r ih =>
    have ha := (h a (by simp)).1
    have e1 : Sp.litsOf (lineMask a) = Sp.clauseOf a.1 := by
      unfold lineMask Sp.clauseOf
      refine Sp.litsOf_maskOf _ (fun x hx => ?_)
      obtain ⟨z, hz, rfl⟩ := List.mem_map.1 hx
      unfold Sp.okLine at ha
      have := List.all_eq_true.1 ha z hz
      simpa using this
    have := ih (fun x hx => h x (by simp [hx]))
    unfold maskText plainTo at this ⊢
    simp only [List.map_cons, List.flatMap_cons, e1, this]

theorem segs_fst (s : List UInt8) : (Sp.segs s).map Prod.fst = Sp.lines s := Sp.segsAux_lines s []
theorem segs_scan (s : List UInt8) : Sp.scanSegs 0 (Sp.segs s) = Sp.scan (Sp.ended s) 0 (Sp.lines s) := Sp.scan_segs s [] 0

set_option maxRecDepth 100000 in
set_option maxHeartbeats 800000 in
theorem plainGo_any (s : List UInt8) (w : World) (hs2 : s.length ≤ 9223372036854775807) (he : Env w) :
    Calls Tryd.prog 7 #[.string (bs s)] w fun e w' => e = .returned (.tuple #[.string (bs (plainOut s).1), .int .i64 (plainOut s).2.1, .int .i64 (plainOut s).2.2]) ∧ Below w.heap.size w w' := by
  by_cases hs : 6000 < s.length
  · have HP := hide (read_long s w hs hs2)
    have HO : Hid (plainOut s = ([], 4, 0)) := hide (by unfold plainOut; rw [if_pos hs])
    go_enter Tryd.func7, Tryd.ntmps7
    go_wp2_with fail
    refine (unhide HP).mono ?_
    rintro e w1 ⟨hb1, rfl⟩
    go_wp2
    go_ret3
    exact ⟨by rw [unhide HO]; rfl, hb1⟩
  · have HP := hide (read_any s w (by omega) he)
    have hcnt := Sp.segsAux_count s []
    have HC : Hid (Sp.segsAux [] s = Sp.segs s) := rfl
    rw [unhide HC] at hcnt
    go_enter Tryd.func7, Tryd.ntmps7
    go_wp2_with fail
    refine (unhide HP).mono ?_
    rintro e w1 ⟨hb1, ⟨n, hn, rfl⟩ | ⟨hn, v, rfl, hli⟩⟩
    · have HO : Hid (plainOut s = ([], 5, (n : Int))) := hide (by rw [segs_scan] at hn; unfold plainOut; rw [if_neg hs, hn])
      clear hn
      go_wp2
      go_ret3
      exact ⟨by rw [unhide HO]; rfl, hb1⟩
    · have HO : Hid (plainOut s = (maskText ((Sp.segs s).map lineMask), 0, 0)) := hide (by
        rw [mask_text _ (good_of_scan _ 0 hn), segs_fst]
        rw [segs_scan] at hn; unfold plainOut; rw [if_neg hs, hn])
      have HL := hide (clausePlain_any v ((Sp.segs s).map lineMask) w1 (by simp; omega) (fun m hm => by
        obtain ⟨x, _, rfl⟩ := List.mem_map.1 hm
        exact Sp.maskOf_lt _ (fun y hy => by obtain ⟨z, _, rfl⟩ := List.mem_map.1 hy; exact Sp.lit_bd z)) hli (he.below hb1))
      clear hn hli
      generalize (Sp.segs s).map lineMask = ms at *
      go_wp2_with fail
      refine (unhide HL).mono ?_
      rintro e w2 ⟨rfl, hb2⟩
      go_wp2
      go_ret3
      exact ⟨by rw [unhide HO]; rfl, hb1.trans (hb2.mono hb1.size)⟩

set_option maxRecDepth 100000 in
set_option maxHeartbeats 800000 in
theorem lawPlain_any (s : List UInt8) (w : World) (hs2 : s.length ≤ 9223372036854775807) (he : Env w) :
    Calls Tryd.prog 5 #[.string (bs s)] w fun e w' => e = .returned (.bool true) ∧ Below w.heap.size w w' := by
  have HP := hide (plainGo_any s w hs2 he)
  have HQ := hide (fun wx => refPlain_any s wx hs2)
  generalize plainOut s = po at *
  obtain ⟨t, a, b⟩ := po
  have h1 : ((bs t).toList == (bs t).toList) = true := by simp
  go_enter Tryd.func5, Tryd.ntmps5
  go_wp2_with fail
  refine (unhide HP).mono ?_
  rintro e w1 ⟨rfl, hb1⟩
  go_wp2_with fail
  refine (unhide HQ w1).mono ?_
  rintro e w2 ⟨rfl, hb2⟩
  go_wp2
  go_ret
  exact ⟨rfl, hb1.trans (hb2.mono hb1.size)⟩

end Go.Proofs.YtekkkoipcghlmaaDoor
