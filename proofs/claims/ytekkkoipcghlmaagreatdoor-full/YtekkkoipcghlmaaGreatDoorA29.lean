import Derived.Test.YtekkkoipcghlmaaGreatDoorA28
set_option linter.all false
namespace Go.Proofs.YtekkkoipcghlmaaGreatDoor
open Go.RowKit
attribute [local go_sem ↓] Go.wp_at_zero Go.wp_at_succ

/-- The search between two steps of its run. -/
structure RAt (base : Nat) (w : World) (m0 : Mem) (G : List Nat) (wr : World) (m : Mem) (cls : List Cl) (wat : Int → List Int) (tr : Tr) (n : Nat) (S : List (Bool × List Int)) (D : List Nat) : Prop where
  mu : Mut base w m0 wr m
  rep : Rep m cls tr
  watAt : WatAt m wat
  still : Rest n cls wat tr
  passed : m.passed = (n : Int)
  heap : HeapOK m.all m.places
  free : Free m tr
  steps : StepsAt base wr m S
  told : Told G cls S D
  given : m.given = (pos cls G.length : Int)
  count : (m.nsteps : Int) + D.length ≤ 2 * m.conflicts
def BeginRes (base : Nat) (w : World) (m0 : Mem) (G : List Nat) (m : Mem) (w' : World) : Prop :=
  ∃ m' cls wat tr n S D, RAt base w m0 G w' m' cls wat tr n S D ∧ levels tr = 0 ∧ m'.rlen = m.rlen + m.rlen / 2 ∧ m'.rmet = 0 ∧ m'.broken = m.broken ∧ m'.conflicts = m.conflicts ∧ m'.asm = m.asm ∧ m'.assumed = m.assumed

theorem RAt.back {base : Nat} {w wr w' : World} {m0 m : Mem} {G : List Nat} {cls : List Cl} {wat : Int → List Int} {tr : Tr} {n : Nat} {S : List (Bool × List Int)} {D : List Nat} (h : RAt base w m0 G wr m cls wat tr n S D) (hb : BackRes base wr m cls tr 0 w') :
    ∃ m' tr' n', RAt base w m0 G w' m' cls wat tr' n' S D ∧ levels tr' = 0 ∧ m'.core = m.core ∧ m'.told = m.told ∧ m'.s = m.s ∧ m'.store = m.store := by
  rcases hb with ⟨hl, hm⟩ | ⟨s, m', hss, hm, hr, hh, hal, hk, hp⟩
  · exact ⟨m, tr, n, ⟨h.mu.trans hm, h.rep, h.watAt, h.still, h.passed, h.heap, h.free, h.steps.keep hm.to rfl, h.told, h.given, h.count⟩, by omega, rfl, rfl, rfl, rfl⟩
  · obtain ⟨g1, g2, g3, g4⟩ := hk.core
    obtain ⟨hmin, hrest⟩ := h.still.cut hss
    have hl0 : levels (tr.take s) = 0 := (starts_cut hss).2.2.1
    have e1 : m'.given = m.given := congrArg (fun x => x.1.2.2) g1
    have e2 : m'.conflicts = m.conflicts := congrArg (fun x => x.2.2.1) g1
    have e3 : m'.nsteps = m.nsteps := congrArg (fun x => x.2.1) g2
    refine ⟨m', tr.take s, s, ⟨h.mu.trans hm, hr, fun l a b => by rw [g3]; exact h.watAt l a b, hrest, ?_, hh, fun u h0 h12 hn => ?_, h.steps.keep hm.to g2, h.told, by rw [e1]; exact h.given, by rw [e2, e3]; exact h.count⟩, hl0, g1, g2, hm.s, g4⟩
    · rw [hp, h.passed]; omega
    · rw [hal]
      rcases Classical.em (∃ (i : Nat) (e : Int × Int), s ≤ i ∧ tr[i]? = some e ∧ (u : Int) = (e.1.natAbs : Int)) with h' | h'
      · exact .inr h'
      · refine .inl (h.free u h0 h12 (fun i e hi he => ?_))
        rcases Nat.lt_or_ge i s with hlt | hge
        · exact hn i e (by rw [List.getElem?_take_of_lt hlt]; exact hi) he
        · exact h' ⟨i, e, hge, hi, by omega⟩
theorem take_map_pos {a b : List Cl} {n : Nat} (h : a.take n = b.take n) : pos a n = pos b n := by unfold pos; rw [h]
theorem RAt.drop {base : Nat} {w wr w' : World} {m0 m : Mem} {G : List Nat} {cls : List Cl} {wat : Int → List Int} {tr : Tr} {n : Nat} {S : List (Bool × List Int)} {D : List Nat} (h : RAt base w m0 G wr m cls wat tr n S D) (h0 : levels tr = 0) (hd : DropRes base wr m cls G.length tr G n w') :
    ∃ m' cls' wat' tr' S' D', RAt base w m0 G w' m' cls' wat' tr' n S' D' ∧ levels tr' = 0 ∧ m'.core = m.core ∧ m'.s = m.s := by
  obtain ⟨m', new, wat', tr', S', hm, hr, hw, hi, hdu, ha, hpl, hc, hp, hst, hch, hns, hswf⟩ := hd
  have hlen := h.told.len
  have hngl : G.length ≤ new.length := hdu.ngle
  have e1 : m'.given = m.given := congrArg (fun x => x.1.2.2) hc
  have e2 : m'.conflicts = m.conflicts := congrArg (fun x => x.2.2.1) hc
  have htk : masksDB new = G ++ (((dbOf new).drop G.length).map Sp.maskOf) := by
    have h1 : (dbOf new).take G.length = (dbOf cls).take G.length := by
      unfold dbOf
      rw [← List.map_take, ← List.map_take, hdu.given]
    have h2 : ((dbOf cls).take G.length).map Sp.maskOf = G := by
      have := h.told.masks
      unfold masksDB at this
      rw [List.map_take, this, List.take_left']
      rfl
    unfold masksDB
    conv => lhs; rw [← List.take_append_drop G.length (dbOf new), List.map_append]
    rw [h1, h2]
  refine ⟨m', new, wat', tr', S', _, ⟨h.mu.trans hm, hr, hw, hi, by rw [hp]; exact h.passed, by rw [ha, hpl]; exact h.heap, fun u a b c => ?_, hst, ⟨hch, htk, ?_, hswf⟩, ?_, ?_⟩, levels_zero (hdu.level h.still.trok h0), hc, hm.s⟩
  · rw [ha]
    refine h.free u a b (fun i e hi he => ?_)
    obtain ⟨f, hf⟩ := get_len hdu.len.symm hi
    exact c i f hf (by rw [hdu.fst i f e hf hi]; exact he)
  · refine (List.Sublist.map code (hdu.sub.trans ?_)).nodup h.told.codes
    rw [show G.length + (cls.length - G.length) = cls.length by omega, show (dbOf cls).take cls.length = dbOf cls from List.take_of_length_le (by unfold dbOf; rw [List.length_map]; exact Nat.le_refl _)]
    exact List.Sublist.refl _
  · rw [e1, h.given, take_map_pos hdu.given]
  · rw [e2]
    have := h.count
    rw [List.length_map, List.length_drop]
    have : (dbOf new).length = new.length := by unfold dbOf; rw [List.length_map]
    omega

set_option maxRecDepth 100000 in
set_option maxHeartbeats 32000000 in
theorem beginAnew_any (base : Nat) (w : World) (m0 : Mem) (G : List Nat) (wr : World) (m : Mem) (cls : List Cl) (wat : Int → List Int) (tr : Tr) (n : Nat) (S : List (Bool × List Int)) (D : List Nat) (h : RAt base w m0 G wr m cls wat tr n S D) (hG : 0 < G.length) (hsz : m.store.length ≤ 9000000) (hcf : m.conflicts ≤ 3300000) (hr0 : 0 ≤ m.rlen) (hr1 : m.rlen ≤ 1000000000) (hbs : base ≤ w.heap.size) :
    Calls Tryz.prog 77 #[.pointer (some ⟨m0.s, 0, none⟩)] wr fun e w' => e = .returned (.tuple #[]) ∧ BeginRes base w m0 G m w' := by
  have HBK := hide (goBack_any base m cls tr 0 wr h.mu.at h.rep h.still.trok h.heap (by omega) (Nat.le_trans hbs h.mu.to.only.size))
  rw [h.mu.s] at HBK
  have HDR : Hid (∀ w1, BackRes base wr m cls tr 0 w1 → ∃ m1 tr1 n1, m1.core = m.core ∧ RAt base w m0 G w1 m1 cls wat tr1 n1 S D ∧ levels tr1 = 0 ∧ Calls Tryz.prog 124 #[.pointer (some ⟨m0.s, 0, none⟩)] w1 fun e w' => e = .returned (.tuple #[]) ∧ DropRes base w1 m1 cls G.length tr1 G n1 w') := hide (by
    intro w1 hb
    obtain ⟨m1, tr1, n1, h1, hl, hc, ht, hs, hst⟩ := h.back hb
    refine ⟨m1, tr1, n1, hc, h1, hl, ?_⟩
    have hch := h1.told.chain
    have hlen := h1.told.len
    have e2 : m1.conflicts = m.conflicts := congrArg (fun x => x.2.2.1) hc
    have hDm : ((dbOf cls).drop G.length).map Sp.maskOf = D := by
      have := h1.told.masks
      unfold masksDB at this
      rw [List.map_drop, this, List.drop_left']
      rfl
    have := dropUnused_any base m1 cls wat tr1 n1 G.length G S w1 h1.mu.at h1.rep h1.still hl hG (by omega) h1.given h1.steps (by rw [hDm]; exact hch) h1.told.swf (by
      have := h1.count
      omega) (by rw [hst]; exact hsz) (Nat.le_trans hbs h1.mu.to.only.size)
    rw [h1.mu.s] at this
    exact this)
  have HNX : Hid (∀ w1 w2 m1 tr1 n1, m1.core = m.core → RAt base w m0 G w1 m1 cls wat tr1 n1 S D → levels tr1 = 0 → DropRes base w1 m1 cls G.length tr1 G n1 w2 → ∃ m2 : Mem, m2.s = m0.s ∧ Calls Tryz.prog 125 #[.pointer (some ⟨m0.s, 8, none⟩)] w2 fun e w' => e = .returned (.tuple #[]) ∧ BeginRes base w m0 G m w') := hide (by
    intro w1 w2 m1 tr1 n1 hc h1 hl hd
    obtain ⟨m2, cls2, wat2, tr2, S2, D2, h2, hl2, hc2, hs2⟩ := h1.drop hl hd
    have hcc := hc2.trans hc
    have e1 : m2.rlen = m.rlen := congrArg (fun x => x.1.1) hcc
    have e3 : m2.broken = m.broken := congrArg (fun x => x.2.1) hcc
    have e4 : m2.conflicts = m.conflicts := congrArg (fun x => x.2.2.1) hcc
    have e5 : m2.asm = m.asm := congrArg (fun x => x.2.2.2.1) hcc
    have e6 : m2.assumed = m.assumed := congrArg (fun x => x.2.2.2.2) hcc
    refine ⟨m2, h2.mu.s, ?_⟩
    have := roundsNext_any base m2 w2 h2.mu.at (by rw [e1]; exact hr0) (by rw [e1]; exact hr1)
    rw [h2.mu.s] at this
    refine this.mono (fun e w' hh => ?_)
    obtain ⟨he, hm⟩ := hh
    refine ⟨he, _, cls2, wat2, tr2, n1, S2, D2, ⟨h2.mu.trans hm, ⟨h2.rep.store, h2.rep.order, h2.rep.starts, h2.rep.len, h2.rep.taken, h2.rep.free, h2.rep.odr, h2.rep.ordr⟩, h2.watAt, h2.still, h2.passed, h2.heap, h2.free, h2.steps.keep hm.to rfl, h2.told, h2.given, h2.count⟩, hl2, ?_, rfl, e3, e4, e5, e6⟩
    show m2.rlen + m2.rlen / 2 = _
    rw [e1])
  clear h
  go_enter Tryz.func77, Tryz.ntmps77
  go_wp2_with fail
  refine (unhide HBK).mono ?_
  rintro e w1 ⟨rfl, hb⟩
  obtain ⟨m1, tr1, n1, hc1, h1, hl1, hd1⟩ := unhide HDR w1 hb
  have HD := hide hd1
  have H1 := hide (And.intro hc1 (And.intro h1 hl1))
  clear hb hd1 hc1 h1 hl1 HBK HDR
  go_wp2_with fail
  refine (unhide HD).mono ?_
  rintro e w2 ⟨rfl, hd2⟩
  obtain ⟨hc1, h1, hl1⟩ := unhide H1
  obtain ⟨m2, hs2, hn2⟩ := unhide HNX w1 w2 m1 tr1 n1 hc1 h1 hl1 hd2
  have HN := hide hn2
  clear hn2 hd2 hc1 h1 hl1 HD HNX
  go_wp2_with fail
  refine (unhide HN).mono ?_
  rintro e w3 ⟨rfl, h3⟩
  have H3 := hide h3
  clear h3
  go_wp2
  try go_end0
  exact ⟨rfl, unhide H3⟩

end Go.Proofs.YtekkkoipcghlmaaGreatDoor

namespace Go.Proofs.YtekkkoipcghlmaaGreatDoor
open Go.RowKit
attribute [local go_sem ↓] Go.wp_at_zero Go.wp_at_succ

theorem lies_read {w : World} {v : Value} {xs : List Int} (hv : Lies w v (ints xs)) : ∃ vo vc, v = .slice vo xs.length vc ∧ ∀ j x, xs[j]? = some x → ∃ b off, vo = some ⟨b, off, none⟩ ∧ w.cell? ⟨b, off + j, none⟩ = some (.int .i64 x) := by
  rcases hv with ⟨h0, ao, cap, he⟩ | ⟨b, off, cap, hp, he, hb, hc⟩
  · have h1 : xs = [] := by
      cases xs with
      | nil => rfl
      | cons a r => simp [ints] at h0
    subst h1
    exact ⟨ao, cap, he, fun j x hj => by simp at hj⟩
  · rw [ints_len] at he
    refine ⟨_, cap, he, fun j x hj => ⟨b, off, rfl, hc j _ ?_⟩⟩
    unfold ints
    rw [List.getElem?_map, hj]
    rfl

set_option maxRecDepth 100000 in
set_option maxHeartbeats 1600000 in
theorem index_any (v : Value) (xs : List Int) (x : Int) (w : World) (hl : xs.length ≤ 100000000) (hv : Lies w v (ints xs)) :
    Calls Tryz.prog 157 #[v, .int .i64 x] w fun e w' => (∃ z : Int, e = .returned (.int .i64 z) ∧ (0 ≤ z ↔ x ∈ xs)) ∧ w' = w := by
  obtain ⟨vo, vc, rfl, hc⟩ := lies_read hv
  have HC := hide hc
  clear hv hc
  generalize hN : xs.length = N at *
  go_enter Tryz.func157, Tryz.ntmps157
  go_wp2
  go_loop [8] (fun v8 => ∃ k : Nat, k ≤ N ∧ v8 = .int .i64 (k : Int) ∧ Hid (∀ j : Nat, j < k → xs[j]? ≠ some x)) (fun v8 => N - (intOf v8).toNat)
  case atStart => exact ⟨0, Nat.zero_le _, rfl, hide (fun j hj => by omega)⟩
  case round =>
    obtain ⟨k, hk, rfl, HN⟩ := hrel
    by_cases hkn : k < N
    · have hg : xs[k]? = some (xs[k]'(by omega)) := List.getElem?_eq_getElem _
      obtain ⟨b, off, hvo, hcell⟩ := unhide HC k _ hg
      subst hvo
      have HG := hide hg
      clear hg
      generalize (xs[k]'(by omega)) = y at *
      have hki : (k : Int) < (N : Int) := by omega
      by_cases hxy : x = y
      · subst hxy
        go_wp2
        try go_ret
        refine ⟨⟨_, rfl, fun _ => List.mem_of_getElem? (unhide HG), fun _ => by omega⟩, rfl⟩
      · go_wp2
        refine ⟨⟨k + 1, by omega, by go_num, hide (fun j hj => ?_)⟩, ?_⟩
        · by_cases hjk : j = k
          · subst hjk
            rw [unhide HG]
            intro h
            simp at h
            exact hxy h.symm
          · exact unhide HN j (by omega)
        · simp only [intOf]
          omega
    · have hki : ¬ (k : Int) < (N : Int) := by omega
      go_wp2
      try go_ret
      refine ⟨⟨_, rfl, fun h => by omega, fun h => ?_⟩, rfl⟩
      obtain ⟨j, hj⟩ := List.getElem?_of_mem h
      exact absurd hj (unhide HN j (by have := (List.getElem?_eq_some_iff.1 hj).1; omega))

set_option maxRecDepth 100000 in
theorem contains_any (v : Value) (xs : List Int) (x : Int) (w : World) (hl : xs.length ≤ 100000000) (hv : Lies w v (ints xs)) :
    Calls Tryz.prog 116 #[v, .int .i64 x] w fun e w' => (∃ b : Bool, e = .returned (.bool b) ∧ (b = true ↔ x ∈ xs)) ∧ w' = w := by
  obtain ⟨vo, vc, hsh, -⟩ := lies_read hv
  have HI := hide (index_any v xs x w hl hv)
  clear hv
  subst hsh
  go_enter Tryz.func116, Tryz.ntmps116
  go_wp2_with fail
  refine (unhide HI).mono ?_
  rintro e w1 ⟨⟨z, rfl, hz⟩, rfl⟩
  go_wp2
  try go_ret
  exact ⟨⟨_, rfl, by simp⟩, rfl⟩

/-- Each number once. -/
def once (l : List Int) : List Int := l.foldl (fun acc x => if x ∈ acc then acc else acc ++ [x]) []
theorem once_snoc (l : List Int) (x : Int) : once (l ++ [x]) = if x ∈ once l then once l else once l ++ [x] := by unfold once; rw [List.foldl_append]; rfl
theorem once_len (l : List Int) : (once l).length ≤ l.length := by
  have : ∀ n, (once (l.take n)).length ≤ n := by
    intro n
    induction n with
    | zero => simp [once]
    | succ n ih =>
      by_cases h : n < l.length
      · rw [List.take_succ_eq_append_getElem h, once_snoc]
        split
        · omega
        · rw [List.length_append]; simp; omega
      · rw [List.take_of_length_le (by omega)]
        rw [List.take_of_length_le (by omega)] at ih
        omega
  have h := this l.length
  rw [List.take_length] at h
  exact h

set_option maxRecDepth 100000 in
set_option maxHeartbeats 1600000 in
theorem eachOnce_any (v : Value) (xs : List Int) (w : World) (hl : xs.length ≤ 10000000) (hv : Lies w v (ints xs)) :
    Calls Tryz.prog 71 #[v] w fun e w' => ∃ u, e = .returned u ∧ w'.ownsRow w.heap.size 3 1 u (once xs).length (ints (once xs)) ∧ Below w.heap.size w w' := by
  obtain ⟨vo, vc, rfl, hc⟩ := lies_read hv
  have HC : Hid (∀ wr, Below w.heap.size w wr → ∀ j x, xs[j]? = some x → ∃ b off, vo = some ⟨b, off, none⟩ ∧ wr.cell? ⟨b, off + j, none⟩ = some (.int .i64 x)) := hide (fun wr hb j x hj => by
    obtain ⟨vo', vc', he, h⟩ := lies_read (hv.below hb)
    cases he
    exact h j x hj)
  clear hv hc
  generalize hN : xs.length = N at *
  go_enter Tryz.func71, Tryz.ntmps71
  go_wp2
  go_loopw [3, 8] (fun v3 v8 wr => ∃ k : Nat, k ≤ N ∧ v8 = .int .i64 (k : Int) ∧ Hid (wr.ownsRow w.heap.size 3 1 v3 (once (xs.take k)).length (ints (once (xs.take k)))) ∧ Hid (Below w.heap.size w wr)) (fun _ v8 _ => N - (intOf v8).toNat)
  case atStart => exact ⟨0, Nat.zero_le _, rfl, hide (owns_nil _ _ _), hide (Below.refl _ _)⟩
  case round =>
    rename_i v3
    obtain ⟨k, hk, rfl, HO, HB⟩ := hrel
    obtain ⟨ao, cp, hsh⟩ := owns_shape (unhide HO)
    subst hsh
    by_cases hkn : k < N
    · have hg : xs[k]? = some (xs[k]'(by omega)) := List.getElem?_eq_getElem _
      obtain ⟨b, off, hvo, hcell⟩ := unhide HC _ (unhide HB) k _ hg
      subst hvo
      have HTK : Hid (xs.take (k + 1) = xs.take k ++ [xs[k]'(by omega)]) := hide (List.take_succ_eq_append_getElem (by omega))
      have HOL := hide (once_len (xs.take k))
      clear hg
      generalize (xs[k]'(by omega)) = y at *
      have hki : (k : Int) < (N : Int) := by omega
      have hol : (once (xs.take k)).length ≤ 10000000 := by have := unhide HOL; rw [List.length_take] at this; omega
      have HCO := hide (contains_any _ (once (xs.take k)) y wr (by omega) (lies_of_owns (unhide HO) (ints_len _)))
      have HSN := hide (once_snoc (xs.take k) y)
      generalize once (xs.take k) = oc at *
      generalize hon : oc.length = on at *
      go_wp2_with fail
      refine (unhide HCO).mono ?_
      rintro e w1 ⟨⟨bb, rfl, hbb⟩, rfl⟩
      have hbs := (unhide HB).size
      cases bb
      · have hny : y ∉ oc := fun h => by have := hbb.2 h; cases this
        have HNY := hide hny
        clear hbb hny HCO
        go_wp2_with (at_builtin; refine append_cell (base := w.heap.size) rfl _ _ 25 3 rfl Tryz.underlying25 Tryz.infoInt rfl (by decide) (unhide HO) rfl rfl rfl (by omega) (by omega) ?_; intro g' cap' w4 hown4 hgr4 hloc4; have HO4 := hide hown4; have HG4 := hide hgr4; clear hown4 hgr4 hloc4)
        have HBW : Hid (Below w.heap.size w w4) := hide (by
          have h1 : Below w.heap.size w (w1.alloc (.cells #[.int .i64 y] 3)) := (unhide HB).trans ((Below.refl _ _).alloc hbs _)
          exact h1.grown (unhide HG4) h1.size (fun q hq => ((unhide HO).lt q hq).1))
        refine ⟨⟨k + 1, by omega, by go_num, ?_, HBW⟩, ?_⟩
        · rw [unhide HTK, unhide HSN, if_neg (unhide HNY), ints_snoc, List.length_append, hon]
          exact HO4
        · simp only [intOf]
          omega
      · have hy : y ∈ oc := hbb.1 rfl
        have HY := hide hy
        clear hbb hy HCO
        go_wp2
        refine ⟨⟨k + 1, by omega, by go_num, ?_, HB⟩, ?_⟩
        · rw [unhide HTK, unhide HSN, if_pos (unhide HY), hon]
          exact HO
        · simp only [intOf]
          omega
    · have hki : ¬ (k : Int) < (N : Int) := by omega
      have hkk : k = N := by omega
      have hT : xs.take k = xs := List.take_of_length_le (by omega)
      rw [hT] at HO ⊢
      clear hT
      go_wp2
      try go_ret
      exact ⟨_, rfl, unhide HO, unhide HB⟩

end Go.Proofs.YtekkkoipcghlmaaGreatDoor

namespace Go.Proofs.YtekkkoipcghlmaaGreatDoor
open Go.RowKit
attribute [local go_sem ↓] Go.wp_at_zero Go.wp_at_succ

/-- A queue that is alone yet, nothing being counted. -/
def Mem.qrows (m : Mem) : List Row := [structRow 161 m.q m.qCells, structRow 112 m.qb [.pointer (some ⟨m.q, 0, none⟩)], intRow m.al m.all, intRow m.co m.counts, intRow m.pl m.places]
structure QS (base : Nat) (w : World) (m : Mem) : Prop where
  pack : Pack base w m.qrows
  counts : m.counts.length = 13
  places : m.places.length = 13
  zero : ∀ c, c ∈ m.counts → c = 0
section
variable {base : Nat} {w w' : World} {m : Mem}
theorem QS.cell (h : QS base w m) (j : Nat) (hj : j < 6) : w.cell? ⟨m.q, j, none⟩ = m.qCells[j]? := World.ownsRow.cellAt (h.pack.rows 0 _ rfl) j (by simpa [structRow, Mem.qCells] using hj)
theorem QS.free (h : QS base w m) (j : Nat) : w.frozen? ⟨m.q, j, none⟩ = false := World.ownsRow.frozenAt (h.pack.rows 0 _ rfl) j
theorem QS.bcell (h : QS base w m) : w.cell? ⟨m.qb, 0, none⟩ = some (.pointer (some ⟨m.q, 0, none⟩)) := World.ownsRow.cellAt (h.pack.rows 1 _ rfl) 0 (by simp [structRow])
theorem QS.below (h : QS base w m) (hb : Below w.heap.size w w') : QS base w' m := ⟨h.pack.below hb, h.counts, h.places, h.zero⟩
theorem row_read {v : Value} {l : List Int} {n : Nat} (h : w.ownsRow base 3 1 v l.length (ints l)) (hl : l.length = n) (hn : 0 < n) : ∃ g cap, v = .slice (some ⟨g, 0, none⟩) n cap ∧ g < w.heap.size ∧ (∀ j x, l[j]? = some x → w.cell? ⟨g, j, none⟩ = some (.int .i64 x)) ∧ ∀ j, w.frozen? ⟨g, j, none⟩ = false := by
  obtain ⟨g, cap, hv, -, hg⟩ := World.ownsRow.form h (by omega)
  rw [hv] at h
  subst hl
  refine ⟨g, cap, hv, hg, fun j x hj => ?_, fun j => h.frozenAt j⟩
  have := (List.getElem?_eq_some_iff.1 hj).1
  rw [h.cellAt j (by omega)]
  unfold ints
  rw [List.getElem?_map, hj]
  rfl
end

set_option maxRecDepth 100000 in
set_option maxHeartbeats 1600000 in
theorem ahead0_any (base : Nat) (m : Mem) (a b : Nat) (w : World) (hS : QS base w m) (ha : 0 < a) (ha' : a ≤ m.all.length) (hb : 0 < b) (hb' : b ≤ m.all.length) (hbd : ∀ v, v ∈ m.all → 1 ≤ v ∧ v ≤ 12) (hl : m.all.length ≤ 12) :
    Calls Tryz.prog 183 #[.pointer (some ⟨m.q, 0, none⟩), .int .i64 a, .int .i64 b] w fun e w' => e = .returned (.bool false) ∧ Below w.heap.size w w' := by
  obtain ⟨g, cap, hal, hg, hcell, -⟩ := row_read (hS.pack.rows 2 _ rfl) rfl (by omega)
  obtain ⟨g2, cap2, hco, hg2, hcell2, -⟩ := row_read (hS.pack.rows 3 _ rfl) hS.counts (by omega)
  have hq0 : w.cell? ⟨m.q, 0, none⟩ = some (.func (.func 107) #[] #[.pointer (some ⟨m.qb, 0, none⟩)]) := by rw [hS.cell 0 (by decide)]; rfl
  have hq2 : w.cell? ⟨m.q, 2, none⟩ = some (.slice (some ⟨g, 0, none⟩) m.all.length cap) := by rw [hS.cell 2 (by decide), ← show m.al = _ from hal]; rfl
  have hq3 : w.cell? ⟨m.q, 3, none⟩ = some (.slice (some ⟨g2, 0, none⟩) 13 cap2) := by rw [hS.cell 3 (by decide), ← show m.co = _ from hco]; rfl
  have hqb := hS.bcell
  obtain ⟨a', rfl⟩ : ∃ a', a = a' + 1 := ⟨a - 1, by omega⟩
  obtain ⟨b', rfl⟩ : ∃ b', b = b' + 1 := ⟨b - 1, by omega⟩
  have hga : m.all[a']? = some m.all[a'] := List.getElem?_eq_getElem (by omega)
  have hgb : m.all[b']? = some m.all[b'] := List.getElem?_eq_getElem (by omega)
  have hca := hcell a' _ hga
  have hcb := hcell b' _ hgb
  have ba := hbd _ (List.mem_of_getElem? hga)
  have bb := hbd _ (List.mem_of_getElem? hgb)
  clear hga hgb
  generalize m.all[a'] = x at *
  generalize m.all[b'] = y at *
  have zero : ∀ j, j < 13 → m.counts[j]? = some 0 := fun j hj => by
    have h1 : m.counts[j]? = some (m.counts[j]'(by rw [hS.counts]; exact hj)) := List.getElem?_eq_getElem _
    rw [h1, hS.zero _ (List.mem_of_getElem? h1)]
  have hc1 := hcell2 x.toNat _ (zero x.toNat (by omega))
  have hc2 := hcell2 y.toNat _ (zero y.toNat (by omega))
  obtain ⟨x', rfl⟩ : ∃ x' : Nat, x = x' := ⟨x.toNat, by omega⟩
  obtain ⟨y', rfl⟩ : ∃ y' : Nat, y = y' := ⟨y.toNat, by omega⟩
  simp only [Int.toNat_natCast] at hc1 hc2
  clear hcell hcell2 hbd hal hco hS zero
  generalize m.all.length = N at *
  have hwa : IntKind.i64.wrap (a' : Int) = a' := by rw [IntKind.wrap_i64]; omega
  have hwb : IntKind.i64.wrap (b' : Int) = b' := by rw [IntKind.wrap_i64]; omega
  have hia : (a' : Int) < (N : Int) := by omega
  have hib : (b' : Int) < (N : Int) := by omega
  have hka : a' < N := by omega
  have hkb : b' < N := by omega
  go_enter Tryz.func183, Tryz.ntmps183
  have HC := hide (fun n => first_any m.q m.qb g2 cap2 x' y' 0 0 (w.drewN n) hqb hq3 (by omega) (by omega) hc1 hc2)
  go_wp2_with fail
  go_quiet ((go_at_call 107; refine Calls.quiet_of (unhide HC _)))
  go_wp2
  go_ret
  exact ⟨rfl, belowDrew (Below.refl _ _) _⟩

set_option maxRecDepth 100000 in
set_option maxHeartbeats 3200000 in
theorem rise0_any (base : Nat) (m : Mem) (v : Nat) (w : World) (hS : QS base w m) (hv : v ≤ 12) (hp : m.places[v]? = some (m.all.length : Int)) (hn : 0 < m.all.length) (hbd : ∀ v, v ∈ m.all → 1 ≤ v ∧ v ≤ 12) (hl : m.all.length ≤ 12) :
    Calls Tryz.prog 154 #[.pointer (some ⟨m.q, 0, none⟩), .int .i64 v] w fun e w' => e = .returned (.tuple #[]) ∧ Below w.heap.size w w' := by
  obtain ⟨g4, cap4, hpl, hg4, hcell4, hfz4⟩ := row_read (hS.pack.rows 4 _ rfl) hS.places (by omega)
  have hq1 : w.cell? ⟨m.q, 1, none⟩ = some (.func (.func 108) #[] #[.pointer (some ⟨m.qb, 0, none⟩)]) := by rw [hS.cell 1 (by decide)]; rfl
  have hq4 : w.cell? ⟨m.q, 4, none⟩ = some (.slice (some ⟨g4, 0, none⟩) 13 cap4) := by rw [hS.cell 4 (by decide), ← show m.pl = _ from hpl]; rfl
  have hqb := hS.bcell
  have hcv := hcell4 v _ hp
  have HC := hide (place_any m.q m.qb g4 cap4 v w hqb hq4 hv)
  have HAH : Hid (∀ wr, Below w.heap.size w wr → 1 < m.all.length → Calls Tryz.prog 183 #[.pointer (some ⟨m.q, 0, none⟩), .int .i64 (m.all.length : Int), .int .i64 ((m.all.length : Int) / 2)] wr fun e w' => e = .returned (.bool false) ∧ Below wr.heap.size wr w') := hide (by
    intro wr hb h1
    have := ahead0_any base m m.all.length (m.all.length / 2) wr (hS.below hb) (by omega) (by omega) (by omega) (by omega) hbd hl
    rw [show ((m.all.length / 2 : Nat) : Int) = (m.all.length : Int) / 2 from by omega] at this
    exact this)
  clear hS hpl hcell4 hfz4 hp
  generalize m.all.length = N at *
  go_enter Tryz.func154, Tryz.ntmps154
  go_wp2_with fail
  refine (unhide HC).mono ?_
  rintro e w1 ⟨rfl, n1, rfl⟩
  have HB1 : Hid (Below w.heap.size w (w.drewN n1)) := hide (belowDrew (Below.refl _ _) _)
  go_wp2
  go_loopw [4] (fun a wr => a = .int .i64 (N : Int) ∧ Hid (Below w.heap.size w wr)) (fun a _ => (intOf a).toNat)
  case atStart => exact ⟨rfl, HB1⟩
  case round =>
    obtain ⟨rfl, HB⟩ := hrel
    by_cases h1 : 1 < N
    · have HA := hide (unhide HAH wr (unhide HB) h1)
      have h1i : (1 : Int) < (N : Int) := by omega
      go_wp2_with fail
      refine (unhide HA).mono ?_
      rintro e w2 ⟨rfl, hb2⟩
      have HB2 : Hid (Below w.heap.size w w2) := hide ((unhide HB).trans (hb2.mono (unhide HB).size))
      clear hb2
      go_wp2
      try go_end0
      exact ⟨rfl, unhide HB2⟩
    · have h1i : ¬ (1 : Int) < (N : Int) := by omega
      go_wp2
      try go_end0
      exact ⟨rfl, unhide HB⟩

end Go.Proofs.YtekkkoipcghlmaaGreatDoor
