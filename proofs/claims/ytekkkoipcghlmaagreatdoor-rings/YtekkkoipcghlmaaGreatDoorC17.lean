import Derived.Test.YtekkkoipcghlmaaGreatDoorC16
set_option linter.all false
namespace Go.Proofs.YtekkkoipcghlmaaGreatDoor
open Go.RowKit
attribute [local go_sem ↓] Go.wp_at_zero Go.wp_at_succ

/-- What is left out of a lesson comes of the rest. -/
structure CI (DB : List (List Int)) (tr : Tr) (lits : List Int) (known comes : List Bool) : Prop where
  klen : known.length = 13
  clen : comes.length = 13
  ks : ∀ v, marked known v = true → v ∈ lits.map Int.natAbs ∨ marked comes v = true
  cs : ∀ v, marked comes v = true → ∃ (k : Nat) (f : Int × Int) (c : List Int), tr[k]? = some f ∧ f.1.natAbs = v ∧ c ∈ DB ∧ ∀ y, y ∈ c → y = f.1 ∨ ∃ j r, j < k ∧ tr[j]? = some (-y, r) ∧ (y.natAbs ∈ lits.map Int.natAbs ∨ marked comes y.natAbs = true)
/-- A clause that a conflict taught. -/
structure Taught (DB : List (List Int)) (tr : Tr) (lits : List Int) : Prop where
  wf : wfLits lits
  head : ∃ p rest i r, lits = -p :: rest ∧ tr[i]? = some (p, r) ∧ lev tr i = levels tr ∧ ∀ x, x ∈ rest → ∃ (j : Nat) (s : Int), tr[j]? = some (-x, s) ∧ 0 < lev tr j ∧ lev tr j < levels tr
  fol : FolI DB lits

theorem CI.add {DB : List (List Int)} {cls : List Cl} {tr : Tr} {lits : List Int} {known comes : List Bool} (h : CI DB tr lits known comes) (hT : TrOK cls tr) (hDB : dbOf cls = DB) {k : Nat} {f : Int × Int} (hk : tr[k]? = some f) (hd : dec f = false)
    (hc : ∀ (c : Nat) cl, cls[c]? = some cl → f.2 = (pos cls c : Int) → ∀ y, y ∈ cl.lits → y = f.1 ∨ marked known y.natAbs = true) : CI DB tr lits (known.set f.1.natAbs true) (comes.set f.1.natAbs true) := by
  have hb := hT.bd k f hk
  have kl : f.1.natAbs < known.length := by rw [h.klen]; omega
  have cl : f.1.natAbs < comes.length := by rw [h.clen]; omega
  refine ⟨by rw [List.length_set]; exact h.klen, by rw [List.length_set]; exact h.clen, fun v hv => ?_, fun v hv => ?_⟩
  · rw [marked_set _ _ _ kl, Bool.or_eq_true, beq_iff_eq] at hv
    rw [marked_set _ _ _ cl, Bool.or_eq_true, beq_iff_eq]
    rcases hv with hv | rfl
    · rcases h.ks v hv with h1 | h1
      · exact .inl h1
      · exact .inr (.inl h1)
    · exact .inr (.inr rfl)
  · have up : ∀ u, marked comes u = true → marked (comes.set f.1.natAbs true) u = true := fun u hu => by rw [marked_set _ _ _ cl, hu]; rfl
    rw [marked_set _ _ _ cl, Bool.or_eq_true, beq_iff_eq] at hv
    rcases hv with hv | rfl
    · obtain ⟨k', f', c', a1, a2, a3, a4⟩ := h.cs v hv
      refine ⟨k', f', c', a1, a2, a3, fun y hy => (a4 y hy).imp id ?_⟩
      rintro ⟨j, r, b1, b2, b3⟩
      exact ⟨j, r, b1, b2, b3.imp id (up _)⟩
    · obtain ⟨c, cl', rest, g1, g2, g3, g4⟩ := hT.reason k f hk hd
      refine ⟨k, f, cl'.lits, hk, rfl, by rw [← hDB]; exact db_mem g1, fun y hy => ?_⟩
      have hor := hc c cl' g1 g2 y hy
      rw [g3] at hy
      rcases List.mem_cons.1 hy with rfl | hy
      · exact .inl rfl
      · obtain ⟨j, r, hj, hjr⟩ := g4 y hy
        rcases hor with rfl | hm
        · exact .inl rfl
        · exact .inr ⟨j, r, hj, hjr, (h.ks _ hm).imp id (up _)⟩
theorem CI.taught {DB : List (List Int)} {cls : List Cl} {tr : Tr} {x : Int} {rest : List Int} {known comes : List Bool} (h : CI DB tr (x :: rest) known comes) (hT : TrOK cls tr) (hL : Lesson DB tr (x :: rest)) : Taught DB tr (x :: rest.filter (fun y => !marked comes y.natAbs)) := by
  obtain ⟨p, rest', i, r, he, hi, hlv, hr⟩ := hL.head
  simp only [List.cons.injEq] at he
  obtain ⟨rfl, rfl⟩ := he
  have htru : ∀ y, y ∈ -p :: rest → ∃ j s, tr[j]? = some (-y, s) := fun y hy => by
    rcases List.mem_cons.1 hy with rfl | hy
    · exact ⟨i, r, by rw [Int.neg_neg]; exact hi⟩
    · obtain ⟨j, s, hj, -⟩ := hr y hy
      exact ⟨j, s, hj⟩
  refine ⟨⟨?_, fun y hy => ?_⟩, ⟨p, _, i, r, rfl, hi, hlv, fun y hy => hr y (List.mem_filter.1 hy).1⟩, ?_⟩
  · refine hL.wf.1.sublist ?_
    simp only [List.map_cons]
    exact (List.Sublist.map _ List.filter_sublist).cons_cons _
  · refine hL.wf.2 y ?_
    rcases List.mem_cons.1 hy with rfl | hy
    · simp
    · exact List.mem_cons_of_mem _ (List.mem_filter.1 hy).1
  · obtain ⟨S, hS, c, hc, hcf⟩ := hL.set
    let T : Nat → Int := fun i => ((tr[i]?).getD (0, 0)).1
    have hTe : ∀ {i : Nat} {e : Int × Int}, tr[i]? = some e → T i = e.1 := fun {i e} h => by show ((tr[i]?).getD (0, 0)).1 = _; rw [h]; rfl
    refine lesson_fol (T := T) (S := fun j => ∃ f, tr[j]? = some f ∧ (S j ∨ f.1.natAbs ∈ (-p :: rest).map Int.natAbs ∨ marked comes f.1.natAbs = true)) (D := fun j => -T j ∈ -p :: rest.filter (fun y => !marked comes y.natAbs)) (fun j hj hnd => ?_) hc (fun y hy => ?_) (fun j _ hd => hd)
    · obtain ⟨f, hf, hor⟩ := hj
      have hTj := hTe hf
      simp only [hTj] at hnd ⊢
      cases hm : marked comes f.1.natAbs
      · by_cases hin : f.1.natAbs ∈ (-p :: rest).map Int.natAbs
        · exfalso
          obtain ⟨y, hy, hya⟩ := List.mem_map.1 hin
          obtain ⟨j', s, hj'⟩ := htru y hy
          have := hT.one hj' hf (by simp [hya])
          subst this
          rw [hf] at hj'
          cases hj'
          apply hnd
          simp only [Int.neg_neg]
          rcases List.mem_cons.1 hy with rfl | hy
          · simp
          · refine List.mem_cons_of_mem _ (List.mem_filter.2 ⟨hy, ?_⟩)
            simp only [Int.natAbs_neg] at hm
            simp [hm]
        · have hSj : S j := by
            rcases hor with h1 | h1 | h1
            · exact h1
            · exact absurd h1 hin
            · rw [hm] at h1; cases h1
          obtain ⟨e, he, hcase⟩ := hS j hSj
          rw [hf] at he
          cases he
          rcases hcase with h1 | ⟨c', hc', hy⟩
          · exact absurd (List.mem_map.2 ⟨_, h1, by simp⟩) hin
          · refine ⟨c', hc', fun y hyc => (hy y hyc).imp id ?_⟩
            rintro ⟨j', r', hlt, hs', hj'⟩
            exact ⟨j', hlt, ⟨_, hj', .inl hs'⟩, hTe hj'⟩
      · obtain ⟨k, f', c', a1, a2, a3, a4⟩ := h.cs _ hm
        have := hT.one a1 hf a2
        subst this
        rw [hf] at a1
        cases a1
        refine ⟨c', a3, fun y hyc => (a4 y hyc).imp id ?_⟩
        rintro ⟨j', r', hlt, hj', hs'⟩
        refine ⟨j', hlt, ⟨_, hj', .inr ?_⟩, hTe hj'⟩
        simpa using hs'
    · obtain ⟨j, r', hs, hj⟩ := hcf y hy
      exact ⟨j, ⟨_, hj, .inl hs⟩, hTe hj⟩

/-- Does a literal come of what is known? -/
def ComesRes (w : World) (cls : List Cl) (f : Int × Int) (known : List Bool) (e : Ending) (w' : World) : Prop :=
  ∃ bb, e = .returned (.bool bb) ∧ (bb = true → dec f = false ∧ ∀ (c : Nat) cl, cls[c]? = some cl → f.2 = (pos cls c : Int) → ∀ y, y ∈ cl.lits → y = f.1 ∨ marked known y.natAbs = true) ∧ Below w.heap.size w w'

set_option maxRecDepth 100000 in
set_option maxHeartbeats 3200000 in
theorem comesOf_any (base : Nat) (m : Mem) (cls : List Cl) (tr : Tr) (E : List Row) (i : Nat) (kv : Value) (known : List Bool) (k : Nat) (f : Int × Int) (w : World) (hE : EAt base w m E) (hi : E[i]? = some (boolRow kv known)) (hkl : known.length = 13) (hR : Rep m cls tr) (hT : TrOK cls tr) (hwf : ∀ (c : Nat) cl, cls[c]? = some cl → wfLits cl.lits) (hk : tr[k]? = some f) (hsz : m.store.length ≤ 9900000) :
    Calls Tryz.prog 159 #[.pointer (some ⟨m.s, 0, none⟩), .int .i64 f.1, kv] w fun e w' => ComesRes w cls f known e w' := by
  have hb := hT.bd k f hk
  obtain ⟨gm, cm, hkv, -, -, -, -⟩ := marks_read hE hi hkl
  subst hkv
  have HFC : Hid (Calls Tryz.prog 128 #[.pointer (some ⟨m.s, 3, none⟩), .int .i64 f.1] w fun e w' => e = .returned (.agg #[.int .i64 (m.truth f.1.natAbs), .int .i64 (m.level f.1.natAbs), .int .i64 f.2]) ∧ Below w.heap.size w w') := hide (by
    have := fact_any base m f.1 w hE.at hb.2.1 hb.2.2
    rw [(hR.taken k f hk).2.2] at this
    exact this)
  have f2 := Tryz.field2
  by_cases hd : dec f = true
  · have hf2 : f.2 = -1 := by unfold dec at hd; simpa using hd
    have HR : Hid (∀ wx, Below w.heap.size w wx → ComesRes w cls f known (.returned (.bool false)) wx) := hide (fun wx hb => ⟨false, rfl, (fun h => by cases h), hb⟩)
    rw [hf2] at HFC
    clear hE hi hkl hR hT hwf hk hd hf2
    generalize m.truth f.1.natAbs = t at *
    generalize m.level f.1.natAbs = l at *
    generalize f.1 = x at *
    go_enter Tryz.func159, Tryz.ntmps159
    go_wp2_with fail
    refine (unhide HFC).mono ?_
    rintro e w1 ⟨rfl, hb1⟩
    go_wp2
    try go_ret
    exact unhide HR _ hb1
  · have hd' : dec f = false := by simpa using hd
    obtain ⟨c, cl, rest, hc, hp, hcl, -⟩ := hT.reason k f hk hd'
    have hwfc := hwf c cl hc
    have HLT : Hid (∀ wx, Below w.heap.size w wx → wx.cell? ⟨m.s, 0, none⟩ = some m.cl ∧ Calls Tryz.prog 112 #[m.cl, .int .i64 (pos cls c : Int)] wx fun e w' => (∃ g, e = .returned (litsV g (pos cls c) cl.lits.length) ∧ m.cl.ownBlock = some g) ∧ w' = wx) := hide (fun wx hb => by
      refine ⟨by rw [(hE.at.below hb).cell 0 (by decide)]; rfl, literals_any base m cls c cl wx (hE.at.below hb) hR.store hc (by omega)⟩)
    have HRD : Hid (∀ q wr g, q < cl.lits.length → m.cl.ownBlock = some g → Below w.heap.size w wr → ∃ y, cl.lits[q]? = some y ∧ (y ≠ 0 ∧ -12 ≤ y ∧ y ≤ 12) ∧ wr.cell? ⟨g, pos cls c + 2 + q, none⟩ = some (.int .i64 y) ∧ wr.cell? ⟨gm, y.natAbs, none⟩ = some (.bool (marked known y.natAbs))) := hide (by
      intro q wr g hq hg hbx
      have hy : cl.lits[q]? = some cl.lits[q] := List.getElem?_eq_getElem hq
      have hyb := hwfc.2 _ (List.mem_of_getElem? hy)
      obtain ⟨g', cap, hv, -, -, -, -, -, hcell, -⟩ := cls_cells base m cls c cl wr (hE.at.below hbx) hR.store hc
      rw [hv] at hg
      cases hg
      obtain ⟨gm', cm', h4, -, h5, -, -⟩ := marks_read (EMut.below hE hbx).eat hi hkl
      cases h4
      have hv : cl.lits[q].natAbs < known.length := by omega
      refine ⟨cl.lits[q], hy, hyb, hcell q hq, ?_⟩
      rw [h5 _ _ (List.getElem?_eq_getElem hv)]
      unfold marked
      rw [List.getElem?_eq_getElem hv]
      rfl)
    have HF : Hid (∀ wx, Below w.heap.size w wx → ComesRes w cls f known (.returned (.bool false)) wx) := hide (fun wx hb => ⟨false, rfl, (fun h => by cases h), hb⟩)
    have HT : Hid (∀ wx q, ¬ q < cl.lits.length → Below w.heap.size w wx → (∀ y, y ∈ cl.lits.take q → y = f.1 ∨ marked known y.natAbs = true) → ComesRes w cls f known (.returned (.bool true)) wx) := hide (fun wx q hq hb hy => ⟨true, rfl, fun _ => ⟨hd', fun c' cl' hc' hp' y hyc => by
      have hlt := (List.getElem?_eq_some_iff.1 hc).1
      have hlt' := (List.getElem?_eq_some_iff.1 hc').1
      have : c' = c := pos_inj cls hlt' hlt (by omega)
      subst this
      rw [hc] at hc'
      cases hc'
      rw [List.take_of_length_le (by omega)] at hy
      exact hy y hyc⟩, hb⟩)
    have HLE : Hid (cl.lits.length ≤ 1000) := hide (by
      have h1 := nodup_bound 13 (cl.lits.map Int.natAbs) hwfc.1 (fun v hv => by obtain ⟨x, hx, rfl⟩ := List.mem_map.1 hv; have := hwfc.2 x hx; omega)
      simp at h1; omega)
    have hroom : pos cls c + 2 + cl.lits.length ≤ m.store.length := by
      have hlt := (List.getElem?_eq_some_iff.1 hc).1
      have hcl2 : cls[c] = cl := by rw [List.getElem?_eq_getElem hlt] at hc; simpa using hc
      have := flat_room cls c hlt
      rw [hcl2, ← hR.store] at this
      exact this
    have HTS : Hid (∀ q y z, cl.lits[q]? = some y → z ∈ cl.lits.take (q + 1) → z ∈ cl.lits.take q ∨ z = y) := hide (fun q y z hy hz => by
      obtain ⟨h1, h2⟩ := List.getElem?_eq_some_iff.1 hy
      rw [List.take_succ_eq_append_getElem h1, h2] at hz
      rcases List.mem_append.1 hz with h | h
      · exact .inl h
      · exact .inr (by simpa using h))
    rw [hp] at HFC
    have hne : ((pos cls c : Nat) : Int) ≠ -1 := by omega
    have hneq : (((pos cls c : Nat) : Int) == -1) = false := by simp
    have hN := unhide HLE
    clear hE hi hkl hR hT hwf hk hd hd' hwfc hp hcl
    generalize m.truth f.1.natAbs = t at *
    generalize m.level f.1.natAbs = l at *
    generalize pos cls c = p at *
    generalize hNN : cl.lits.length = N at *
    clear hNN
    go_enter Tryz.func159, Tryz.ntmps159
    go_wp2_with fail
    refine (unhide HFC).mono ?_
    rintro e w1 ⟨rfl, hb1⟩
    obtain ⟨hc1, hlit⟩ := unhide HLT _ hb1
    have HL1 := hide hlit
    have HB1 := hide hb1
    clear hlit hb1
    go_wp2_with fail
    refine (unhide HL1).mono ?_
    rintro e w2 ⟨⟨g, rfl, hg⟩, rfl⟩
    have HG := hide hg
    clear hg
    obtain ⟨off, hlv, hoff⟩ := litsV_form g p N
    rw [hlv]
    clear hlv
    go_wp2
    go_loopw [25] (fun v25 wr => ∃ q : Nat, q ≤ N ∧ v25 = .int .i64 (q : Int) ∧ Hid (Below w.heap.size w wr) ∧ Hid (∀ y, y ∈ cl.lits.take q → y = f.1 ∨ marked known y.natAbs = true)) (fun v25 _ => N - (intOf v25).toNat)
    case atStart => exact ⟨0, Nat.zero_le _, rfl, HB1, hide (fun y hy => by simp at hy)⟩
    case round =>
      obtain ⟨q, hq, rfl, HB, HY⟩ := hrel
      by_cases hqN : q < N
      · obtain ⟨y, hy, hyb, hcy, hcm⟩ := unhide HRD q wr g (by omega) (unhide HG) (unhide HB)
        have hoff' := hoff (by omega)
        subst hoff'
        have HV := hide (fun wx => variableOf_any y wx hyb.2.1 hyb.2.2)
        have hqi : (q : Int) < (N : Int) := by omega
        have hvi : (y.natAbs : Int) < 13 := by omega
        have HST : Hid (y = f.1 ∨ marked known y.natAbs = true → ∀ z, z ∈ cl.lits.take (q + 1) → z = f.1 ∨ marked known z.natAbs = true) := hide (fun ho z hz => by
          rcases unhide HTS q y z hy hz with h | h
          · exact unhide HY z h
          · rw [h]; exact ho)
        clear hy hoff
        by_cases he : y = f.1
        · have HN := hide (unhide HST (.inl he))
          have hnq : (y != f.1) = false := by rw [he]; simp
          clear he HST
          generalize y.natAbs = v at *
          generalize f.1 = x at *
          go_wp2
          go_roundw
          case rel => exact ⟨q + 1, by omega, by go_num, HB, HN⟩
          case measure => simp [intOf]; omega
        · have hnq : (y != f.1) = true := by simpa using he
          by_cases hm : marked known y.natAbs = true
          · have HN := hide (unhide HST (.inr hm))
            rw [hm] at hcm
            clear he HST hm
            generalize y.natAbs = v at *
            generalize f.1 = x at *
            go_wp2_with fail
            refine (unhide HV _).mono ?_
            rintro e w3 ⟨rfl, rfl⟩
            go_wp2
            go_roundw
            case rel => exact ⟨q + 1, by omega, by go_num, HB, HN⟩
            case measure => simp [intOf]; omega
          · have hm' : marked known y.natAbs = false := by simpa using hm
            rw [hm'] at hcm
            have HFF := hide (unhide HF _ (unhide HB))
            clear he HST hm hm' HF HT
            generalize y.natAbs = v at *
            generalize f.1 = x at *
            go_wp2_with fail
            refine (unhide HV _).mono ?_
            rintro e w3 ⟨rfl, rfl⟩
            go_wp2
            try go_ret
            exact unhide HFF
      · have HFF := hide (unhide HT _ q (by omega) (unhide HB) (unhide HY))
        have hqi : ¬ (q : Int) < (N : Int) := by omega
        clear HF HT
        go_wp2
        try go_ret
        exact unhide HFF

end Go.Proofs.YtekkkoipcghlmaaGreatDoor
