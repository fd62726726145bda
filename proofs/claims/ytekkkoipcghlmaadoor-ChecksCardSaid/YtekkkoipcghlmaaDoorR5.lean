import Derived.Test.YtekkkoipcghlmaaDoorR4
import Derived.Test.YtekkkoipcghlmaaDoorP10
namespace Go.Proofs.YtekkkoipcghlmaaDoor
open Go.RowKit

/-- The clauses of a text. -/
def masksOf (s : List UInt8) : List Nat := (Sp.segs s).map lineMask
theorem masks_len (s : List UInt8) : (masksOf s).length ≤ s.length + 1 := by
  unfold masksOf; rw [List.length_map]; exact Sp.segsAux_count s []
theorem masks_small (s : List UInt8) : Small (masksOf s) := fun c hc => by
  obtain ⟨x, _, rfl⟩ := List.mem_map.1 hc
  exact Sp.maskOf_lt _ (fun y hy => by obtain ⟨z, _, rfl⟩ := List.mem_map.1 hy; exact Sp.lit_bd z)

/-- What Check comes to. -/
def CheckOut (s t : List UInt8) (r : Int × Int) : Prop :=
  (6000 < s.length ∧ r = (4, 0)) ∨
  (s.length ≤ 6000 ∧ ((∃ n : Nat, Sp.scanSegs 0 (Sp.segs s) = some n ∧ r = (5, (n : Int))) ∨
    (Sp.scanSegs 0 (Sp.segs s) = none ∧ ((6000 < t.length ∧ r = (4, 0)) ∨ (t.length ≤ 6000 ∧ Sp.Outcome (masksOf s) 0 (Sp.segs t) r)))))
theorem CheckOut.unique {s t : List UInt8} {r r' : Int × Int} (h : CheckOut s t r) (h' : CheckOut s t r') : r = r' := by
  rcases h with ⟨h1, h2⟩ | ⟨h1, h2⟩ <;> rcases h' with ⟨g1, g2⟩ | ⟨g1, g2⟩
  · rw [h2, g2]
  · omega
  · omega
  · rcases h2 with ⟨n, h3, h4⟩ | ⟨h3, h4⟩ <;> rcases g2 with ⟨n', g3, g4⟩ | ⟨g3, g4⟩
    · rw [h3] at g3; cases g3; rw [h4, g4]
    · rw [h3] at g3; cases g3
    · rw [h3] at g3; cases g3
    · rcases h4 with ⟨h5, h6⟩ | ⟨h5, h6⟩ <;> rcases g4 with ⟨g5, g6⟩ | ⟨g5, g6⟩
      · rw [h6, g6]
      · omega
      · omega
      · exact Sp.Outcome.unique _ _ _ _ _ h6 g6

def CheckRes (s t : List UInt8) (w : World) (e : Ending) (w' : World) : Prop := ∃ r : Int × Int, e = .returned (.tuple #[.int .i64 r.1, .int .i64 r.2]) ∧ CheckOut s t r ∧ Below w.heap.size w w'

theorem lits_line {a : List UInt8 × Bool} (h : goodLine a) : Sp.litsOf (lineMask a) = Sp.clauseOf a.1 := by
  have ha := h.1
  unfold lineMask Sp.clauseOf
  refine Sp.litsOf_maskOf _ (fun x hx => ?_)
  obtain ⟨z, hz, rfl⟩ := List.mem_map.1 hx
  unfold Sp.okLine at ha
  have := List.all_eq_true.1 ha z hz
  simpa using this

theorem rows_parsed {w : World} {base n : Nat} {v : Value} {vs : List Value} {s : List UInt8} (hg : ∀ x, x ∈ Sp.segs s → goodLine x) (hown : w.ownsRow base 24 1 v n vs) (hrows : RowsAt w base vs ((Sp.lines s).map Sp.clauseOf)) : RowsOf w v (masksOf s) := by
  refine ⟨vs, lies_of_owns hown (by have := hown.1; omega), ?_, ?_⟩
  · rw [hrows.1, ← segs_fst]; simp [masksOf]
  · intro i x m hx hm
    unfold masksOf at hm
    rw [List.getElem?_map] at hm
    cases hs : (Sp.segs s)[i]? with
    | none => rw [hs] at hm; cases hm
    | some a =>
      rw [hs] at hm
      simp at hm
      subst hm
      have hc : ((Sp.lines s).map Sp.clauseOf)[i]? = some (Sp.clauseOf a.1) := by rw [← segs_fst, List.getElem?_map, List.getElem?_map, hs]; rfl
      have := hrows.2 i x _ hx hc
      rw [lits_line (hg a (List.mem_of_getElem? hs))]
      exact lies_of_owns this (by simp [ints])

set_option maxRecDepth 100000 in
set_option maxHeartbeats 800000 in
theorem refCheck_any (s t : List UInt8) (w : World) (hs2 : s.length ≤ 9223372036854775807) (ht2 : t.length ≤ 9223372036854775807) :
    Calls Tryd.prog 10 #[.string (bs s), .string (bs t)] w fun e w' => CheckRes s t w e w' := by
  have hszt := bs_size t
  by_cases hs : 6000 < s.length
  · have HP := hide (parse_long s w hs hs2)
    go_enter Tryd.func10, Tryd.ntmps10
    go_wp2_with fail
    refine (unhide HP).mono ?_
    rintro e w1 ⟨rfl, rfl⟩
    go_wp2
    go_ret2
    exact ⟨(4, 0), rfl, .inl ⟨hs, rfl⟩, Below.refl _ _⟩
  · have HP := hide (parse_any s w (by omega))
    have hml := masks_len s
    go_enter Tryd.func10, Tryd.ntmps10
    go_wp2_with fail
    refine (unhide HP).mono ?_
    rintro e w1 ⟨v, hb1, ⟨n, hn, rfl⟩ | ⟨hn, rfl, vs, hown, hrows⟩⟩
    · have HN := hide hn
      clear hn
      go_wp2
      go_ret2
      exact ⟨(5, (n : Int)), rfl, .inr ⟨by omega, .inl ⟨n, by rw [segs_scan]; exact unhide HN, rfl⟩⟩, hb1⟩
    · have HN : Hid (Sp.scanSegs 0 (Sp.segs s) = none) := hide (by rw [segs_scan]; exact hn)
      have HR := hide (rows_parsed (good_of_scan _ 0 (unhide HN)) hown hrows)
      clear hn hown hrows
      by_cases ht : 6000 < t.length
      · go_wp2
        go_ret2
        exact ⟨(4, 0), rfl, .inr ⟨by omega, .inr ⟨unhide HN, .inl ⟨ht, rfl⟩⟩⟩, hb1⟩
      · go_wp2_with fail
        refine (shows_any v (masksOf s) t w1 (by omega) (masks_small s) (by omega) (unhide HR)).mono ?_
        rintro e w2 ⟨r, rfl, ho, hb2⟩
        have HO := hide ho
        clear ho
        go_wp2
        go_ret2
        exact ⟨r, rfl, .inr ⟨by omega, .inr ⟨unhide HN, .inr ⟨by omega, unhide HO⟩⟩⟩, hb1.trans (hb2.mono hb1.size)⟩

end Go.Proofs.YtekkkoipcghlmaaDoor
