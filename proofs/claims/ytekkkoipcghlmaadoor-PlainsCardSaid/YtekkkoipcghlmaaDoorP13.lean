import Derived.Test.YtekkkoipcghlmaaDoorP12
namespace Go.Proofs.YtekkkoipcghlmaaDoor
open Go.ChangeShapes Go.WideShapes Go.ChangeAt Go.RowKit Go.Deep

theorem Tryd.laidOut : laidOutB Tryd.prog = true := by kernel_rfl

theorem take_one {cs : List Value} {o : Nat} {v : Value} (h : (cs.drop o).take 1 = [v]) : cs[o]? = some v := by
  have := congrArg (·[0]?) h
  simpa [List.getElem?_take, List.getElem?_drop] using this

/-- A step of a script, opened. -/
theorem op_open {H : Type} {enc : TypeId × Value → H} {W : World} {base n : Nat} {spare : Nat → Bool} {held : Bool} {cs : List Value} {x : DataW H × List MemPlace}
    (h : DataW.trod enc Tryd.prog W base spare held n 26 cs = some x) :
    ∃ (kind : Int) (s t : ByteArray), cs[0]? = some (.int .i64 kind) ∧ cs[3]? = some (.string s) ∧ cs[4]? = some (.string t) ∧ s.size ≤ maxLen ∧ t.size ≤ maxLen := by
  obtain ⟨xs, n', _, _, _, hxl, hf⟩ := DataW.trod_struct Tryd.underlying26 h
  have hx : ∀ i, i < 6 → ∃ y, xs[i]? = some y := fun i hi => ⟨xs[i]'(by rw [hxl]; exact hi), List.getElem?_eq_getElem _⟩
  have f0 : DataW.trod enc Tryd.prog W base spare held n' 3 ((cs.drop 0).take (Tryd.prog.cellsOf 3)) = xs[0]? := hf 0 _ rfl
  have f3 : DataW.trod enc Tryd.prog W base spare held n' 9 ((cs.drop 3).take (Tryd.prog.cellsOf 9)) = xs[3]? := hf 3 _ rfl
  have f4 : DataW.trod enc Tryd.prog W base spare held n' 9 ((cs.drop 4).take (Tryd.prog.cellsOf 9)) = xs[4]? := hf 4 _ rfl
  obtain ⟨y0, h0⟩ := hx 0 (by omega)
  obtain ⟨y3, h3⟩ := hx 3 (by omega)
  obtain ⟨y4, h4⟩ := hx 4 (by omega)
  rw [h0] at f0
  rw [h3] at f3
  rw [h4] at f4
  obtain ⟨kind, e0, _, _⟩ := DataW.trod_int Tryd.underlying3 f0
  obtain ⟨s, e3, _, hs⟩ := DataW.trod_string Tryd.underlying9 f3
  obtain ⟨t, e4, _, ht⟩ := DataW.trod_string Tryd.underlying9 f4
  rw [Tryd.cellsInt] at e0
  rw [Tryd.cellsStr] at e3 e4
  exact ⟨kind, s, t, take_one e0, take_one e3, take_one e4, hs, ht⟩

theorem bs_of (s : ByteArray) : s = bs s.data.toList := by unfold bs; cases s; simp

/-- A script's steps, out of its reading. -/
theorem ops_open {H : Type} {enc : TypeId × Value → H} {W : World} {base n m len : Nat} {spare : Nat → Bool} {held : Bool} {a : Addr} {D : Nat → DataW H} {Pl : Nat → List MemPlace} (hlen : 0 < len) (hm : len ≤ m)
    (hel : ∀ i, i < m → ∃ cs', W.cells? base (a.add (i * Tryd.prog.cellsOf 26)) (Tryd.prog.cellsOf 26) = some cs' ∧ DataW.trod enc Tryd.prog W base spare held n 26 cs' = some (D i, Pl i)) :
    ∃ b off, a = ⟨b, off, none⟩ ∧ b < W.heap.size ∧ OpsAt W b off len := by
  obtain ⟨b, off, spot⟩ := a
  have key : ∀ i, i < len → ∃ (kind : Int) (s t : ByteArray), W.cell? ((⟨b, off, spot⟩ : Addr).add (i * 6)) = some (.int .i64 kind) ∧ W.cell? (((⟨b, off, spot⟩ : Addr).add (i * 6)).add 3) = some (.string s) ∧ W.cell? (((⟨b, off, spot⟩ : Addr).add (i * 6)).add 4) = some (.string t) ∧ s.size ≤ maxLen ∧ t.size ≤ maxLen := by
    intro i hi
    obtain ⟨cs', hc, ht⟩ := hel i (by omega)
    rw [Tryd.cellsOp] at hc
    obtain ⟨_, _, hcell⟩ := World.cells?_some hc
    obtain ⟨kind, s, t, e0, e3, e4, hs, ht'⟩ := op_open ht
    refine ⟨kind, s, t, ?_, (hcell 3 (by omega)).trans e3, (hcell 4 (by omega)).trans e4, hs, ht'⟩
    have := (hcell 0 (by omega)).trans e0
    simpa [Addr.add] using this
  obtain ⟨k0, s0, t0, h0, _⟩ := key 0 hlen
  have hspot : spot = none := by simpa [Addr.add] using World.cell?_spot h0
  subst hspot
  have hb : b < W.heap.size := by simpa [Addr.add] using World.block_lt_of_cell? W _ h0
  refine ⟨b, off, rfl, hb, fun k hk => ?_⟩
  obtain ⟨kind, s, t, e0, e3, e4, hs, ht⟩ := key k hk
  have add_none : ∀ o j : Nat, (⟨b, o, none⟩ : Addr).add j = ⟨b, o + j, none⟩ := fun o j => by simp [Addr.add]
  rw [add_none] at e0 e3 e4
  rw [add_none] at e3 e4
  refine ⟨kind, s.data.toList, t.data.toList, e0, by rw [← bs_of]; exact e3, by rw [← bs_of]; exact e4, ?_, ?_⟩
  · have := Lib.size_eq s
    unfold maxLen at hs; omega
  · have := Lib.size_eq t
    unfold maxLen at ht; omega

end Go.Proofs.YtekkkoipcghlmaaDoor
