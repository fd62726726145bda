import Derived.Test.YtekkkoipcghlmaaDoorP3
import Derived.Test.YtekkkoipcghlmaaDoorSplit
namespace Go.Proofs.YtekkkoipcghlmaaDoor
open Go.RowKit

theorem lies_made {w : World} {vs : List Value} {t : TypeId} {cap : Nat} (h : 0 < vs.length) : Lies (w.alloc (.cells vs.toArray t)) (.slice (some ⟨w.heap.size, 0, none⟩) vs.length cap) vs := by
  refine .inr ⟨w.heap.size, 0, cap, h, rfl, by simp, fun k x hx => ?_⟩
  rw [Nat.zero_add, World.cell?_alloc_at _ _ _ _ rfl]
  simpa using hx

/-- A line's text: its inner part, and the newline if it is ended. -/
def lineOf (x : List UInt8) (e : Bool) : List UInt8 := if e then x ++ [10] else x

theorem line_cut (x : List UInt8) (e : Bool) (h : e = false → x.getLast? ≠ some 10) : Lib.trimSuffix (lineOf x e) [10] = x ∧ Lib.hasSuffix (lineOf x e) [10] = e := by
  have hs : Lib.hasSuffix (lineOf x e) [10] = e := by
    unfold Lib.hasSuffix lineOf
    cases e
    · rw [if_neg (by simp)]
      rw [Bool.eq_false_iff]
      intro hh
      rw [List.isSuffixOf_iff_suffix] at hh
      obtain ⟨t, ht⟩ := hh
      apply h rfl
      rw [← ht]; simp
    · rw [if_pos rfl, List.isSuffixOf_iff_suffix]
      exact ⟨x, rfl⟩
  refine ⟨?_, hs⟩
  unfold Lib.trimSuffix
  rw [hs]
  cases e
  · simp [lineOf]
  · simp [lineOf]

set_option maxRecDepth 100000 in
set_option maxHeartbeats 400000 in
theorem wordsGo_any (x : List UInt8) (en : Bool) (w : World) (hx : x.length ≤ 6000) (h : en = false → x.getLast? ≠ some 10) (he : Env w) :
    Calls Tryd.prog 18 #[.string (bs (lineOf x en))] w fun e w' => ∃ v, e = .returned (.tuple #[v, .bool en]) ∧ Lies w' v (strs (Sp.words x)) ∧ Below w.heap.size w w' := by
  have hll : (lineOf x en).length ≤ 6001 := by unfold lineOf; cases en <;> simp <;> omega
  have HC := hide (Tryd.strings_CutSuffix (bs (lineOf x en)) ⟨#[10]⟩ w (by rw [bs_size]; omega))
  have hd : (bs (lineOf x en)).data.toList = lineOf x en := bs_data _
  have hcut := line_cut x en h
  rw [hd] at HC
  have e1 : (ByteArray.mk #[10]).data.toList = [10] := rfl
  rw [e1, hcut.1, hcut.2] at HC
  clear e1 hcut hd
  have HC : Hid (Calls Tryd.prog 33 #[.string (bs (lineOf x en)), .string ⟨#[10]⟩] w fun e w' => e = .returned (.tuple #[.string (bs x), .bool en]) ∧ w' = w) := HC
  obtain ⟨m, hm⟩ := he.len.2
  generalize bs (lineOf x en) = line at *
  by_cases hne : x = []
  · have hemp : (bs x).toList.isEmpty = true := by rw [bs_toList, hne]; rfl
    have HN := hide hne
    clear hne
    go_enter Tryd.func18, Tryd.ntmps18
    go_wp2_with fail
    refine (unhide HC).mono ?_
    rintro e w1 ⟨rfl, rfl⟩
    go_wp2
    go_ret2
    exact ⟨_, rfl, by rw [unhide HN]; exact Lies.nil _, Below.refl _ _⟩
  · have hemp : (bs x).toList.isEmpty = false := bs_nonempty hne
    have HN := hide hne
    clear hne
    have HS := hide (Tryd.strings_Split (bs x) ⟨#[32]⟩ m w (by rw [bs_size]; omega) hm (by decide))
    go_enter Tryd.func18, Tryd.ntmps18
    go_wp2_with fail
    refine (unhide HC).mono ?_
    rintro e w1 ⟨rfl, rfl⟩
    go_wp2_with fail
    refine (unhide HS).mono ?_
    rintro e w2 ⟨rfl, rfl⟩
    go_wp2
    go_ret2
    have hsp : Lib.splitB ⟨#[32]⟩ 0 (Lib.countB (bs x) ⟨#[32]⟩) (bs x) = (Sp.wordsAux [] x).map bs := split_bs x.length x (Nat.le_refl _)
    have hln := Lib.splitB_all (bs [32]) (by rw [bs_size]; simp) 0 (Lib.countB (bs x) (bs [32])) (bs x) rfl
    have hw : Sp.words x = Sp.wordsAux [] x := by unfold Sp.words; rw [if_neg (unhide HN)]
    refine ⟨_, rfl, ?_, (Below.refl _ _).alloc (Nat.le_refl _) _⟩
    rw [hsp, hw]
    have hc : Lib.countB (bs x) (bs [32]) + 1 = (strs (Sp.wordsAux [] x)).length := by
      have := hln.symm
      rw [split_bs x.length x (Nat.le_refl _)] at this
      simpa [strs] using this
    rw [List.map_map]
    show Lies _ (.slice (some ⟨_, 0, none⟩) (Lib.countB (bs x) (bs [32]) + 1) _) _
    rw [hc]
    exact lies_made (vs := strs (Sp.wordsAux [] x)) (by omega)

end Go.Proofs.YtekkkoipcghlmaaDoor
