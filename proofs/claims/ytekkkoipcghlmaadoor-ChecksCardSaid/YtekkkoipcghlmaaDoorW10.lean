import Derived.Test.YtekkkoipcghlmaaDoorW9
namespace Go.Proofs.YtekkkoipcghlmaaDoor
open Go.RowKit

/-- All clauses in plain form. -/
def plainTo (cs : List (List Int)) : List UInt8 := cs.flatMap Sp.told
theorem plainTo_snoc (cs : List (List Int)) (c : List Int) : plainTo (cs ++ [c]) = plainTo cs ++ Sp.told c := by
  unfold plainTo; rw [List.flatMap_append]; simp
theorem told_len (l : List Int) : (Sp.told l).length ≤ 4 * l.length + 1 := by
  have := toldBody_len l; simp [Sp.told]; omega
theorem sorted_len (l : List Int) : (Sp.sorted l).length ≤ 24 := Sp.sortedTo_len l 12
theorem plainTo_len (L : List (List UInt8)) : (plainTo (L.map Sp.clauseOf)).length ≤ 97 * L.length := by
  induction L with
  | nil => simp [plainTo]
  | cons a r ih =>
    have h1 := told_len (Sp.clauseOf a)
    have h2 := sorted_len ((Sp.words a).map Sp.lit)
    have h3 : (Sp.clauseOf a).length ≤ 24 := h2
    simp only [plainTo, List.map_cons, List.flatMap_cons, List.length_append, List.length_cons] at ih ⊢
    omega

/-- What the document's Plain answers. -/
def plainOut (s : List UInt8) : List UInt8 × Int × Int :=
  if 6000 < s.length then ([], 4, 0) else
  match Sp.scan (Sp.ended s) 0 (Sp.lines s) with
  | some n => ([], 5, n)
  | none => (plainTo ((Sp.lines s).map Sp.clauseOf), 0, 0)

set_option maxRecDepth 100000 in
set_option maxHeartbeats 800000 in
theorem refPlain_any (s : List UInt8) (w : World) (hs2 : s.length ≤ 9223372036854775807) :
    Calls Tryd.prog 8 #[.string (bs s)] w fun e w' => e = .returned (.tuple #[.string (bs (plainOut s).1), .int .i64 (plainOut s).2.1, .int .i64 (plainOut s).2.2]) ∧ Below w.heap.size w w' := by
  by_cases hs : 6000 < s.length
  · have HP := hide (parse_long s w hs hs2)
    have HO : Hid (plainOut s = ([], 4, 0)) := hide (by unfold plainOut; rw [if_pos hs])
    go_enter Tryd.func8, Tryd.ntmps8
    go_wp2_with fail
    refine (unhide HP).mono ?_
    rintro e w1 ⟨rfl, rfl⟩
    go_wp2
    refine wp_loop_rounds 1 ?_
    rw [rounds_succ]
    go_wp2
    go_ret3
    exact ⟨by rw [unhide HO]; rfl, Below.refl _ _⟩
  · have HP := hide (parse_any s w (by omega))
    have hLl := Sp.lines_len s []
    have HE0 : Hid (Sp.linesAux [] s = Sp.lines s) := rfl
    rw [unhide HE0] at hLl
    go_enter Tryd.func8, Tryd.ntmps8
    go_wp2_with fail
    refine (unhide HP).mono ?_
    rintro e w1 ⟨v, hb1, ⟨n, hn, rfl⟩ | ⟨hn, rfl, vs, hown, hrows⟩⟩
    · have HO : Hid (plainOut s = ([], 5, (n : Int))) := hide (by unfold plainOut; rw [if_neg hs, hn])
      clear hn
      go_wp2
      refine wp_loop_rounds 1 ?_
      rw [rounds_succ]
      go_wp2
      go_ret3
      exact ⟨by rw [unhide HO]; rfl, hb1⟩
    · have HO : Hid (plainOut s = (plainTo ((Sp.lines s).map Sp.clauseOf), 0, 0)) := hide (by unfold plainOut; rw [if_neg hs, hn])
      have hvl : vs.length = (Sp.lines s).length := by rw [hrows.1]; simp
      have hlies : Lies w1 v vs := lies_of_owns hown hvl
      clear hn hown HE0
      have HR := hide hrows
      clear hrows
      generalize Sp.lines s = L at *
      rcases hlies with ⟨h0, ao, cap, rfl⟩ | ⟨b, off, cap, hp, rfl, hb, hc⟩
      · have HX : Hid (L = []) := hide (by rw [h0] at hvl; exact List.length_eq_zero_iff.1 hvl.symm)
        clear h0 hvl
        go_wp2
        refine wp_loop_rounds 1 ?_
        rw [rounds_succ]
        go_wp2
        go_ret3
        exact ⟨by rw [unhide HO, unhide HX]; rfl, hb1⟩
      · rw [hvl] at hp ⊢
        have HVL := hide hvl
        clear hvl
        go_wp2
        go_loopw [8, 9] (fun o i wr => ∃ (k : Nat), k ≤ L.length ∧ i = .int .i64 k ∧ o = .string (bs (plainTo ((L.take k).map Sp.clauseOf))) ∧ Below w1.heap.size w1 wr) (fun _ i _ => L.length - (intOf i).toNat)
        case atStart => exact ⟨0, Nat.zero_le _, rfl, rfl, Below.refl _ _⟩
        case round =>
          obtain ⟨k, hk, rfl, rfl, hbel⟩ := hrel
          have hpl := plainTo_len (L.take k)
          have hpl2 : (L.take k).length ≤ k := List.length_take_le _ _
          by_cases hlt : k < L.length
          · have hkv : k < vs.length := by rw [unhide HVL]; exact hlt
            have hcell : wr.cell? ⟨b, off + k, none⟩ = some vs[k] := (hbel.cell (p := ⟨b, off + k, none⟩) hb).trans (hc k vs[k] (List.getElem?_eq_getElem hkv))
            have hrow := (unhide HR).2 k vs[k] (Sp.clauseOf L[k]) (List.getElem?_eq_getElem hkv) (by simp [hlt])
            have HT : Hid ((L.take (k + 1)).map Sp.clauseOf = (L.take k).map Sp.clauseOf ++ [Sp.clauseOf L[k]]) := hide (by rw [List.take_succ_eq_append_getElem hlt, List.map_append]; rfl)
            have hln : (Sp.clauseOf L[k]).length ≤ 24 := sorted_len _
            have HBD := hide (Sp.sortedTo_bd ((Sp.words L[k]).map Sp.lit) 12)
            have HLI := hide ((lies_of_owns hrow (by simp [ints])).below hbel)
            obtain ⟨ao3, c3, hsh⟩ := owns_shape hrow
            clear hrow hc
            have htl := told_len (Sp.clauseOf L[k])
            have hbd : ∀ x, x ∈ Sp.clauseOf L[k] → x ≠ 0 ∧ -12 ≤ x ∧ x ≤ 12 := fun x hx => by have := unhide HBD x hx; omega
            have HBD2 := hide hbd
            clear hbd HBD
            generalize Sp.clauseOf L[k] = c at *
            rw [hsh] at hcell HLI
            generalize vs[k] = vk at *
            subst hsh
            generalize hac : plainTo ((L.take k).map Sp.clauseOf) = acc at *
            have HAC := hide hac.symm
            clear hac
            have hadd := fun wx => add_bs (P := Tryd.prog) acc (Sp.told c) (by omega) wx
            go_wp2_with fail
            refine (told_any _ c wr (by omega) (unhide HBD2) (unhide HLI)).mono ?_
            rintro e w2 ⟨rfl, hb2⟩
            go_wp2
            go_roundw
            case rel => exact ⟨k + 1, by omega, by go_num, by rw [unhide HT, plainTo_snoc, ← unhide HAC], hbel.trans (hb2.mono hbel.size)⟩
            case measure => simp [intOf]; omega
          · have HT : Hid (L.take k = L) := hide (List.take_of_length_le (by omega))
            go_wp2
            go_ret3
            exact ⟨by rw [unhide HO, unhide HT]; rfl, hb1.trans (hbel.mono hb1.size)⟩

end Go.Proofs.YtekkkoipcghlmaaDoor
