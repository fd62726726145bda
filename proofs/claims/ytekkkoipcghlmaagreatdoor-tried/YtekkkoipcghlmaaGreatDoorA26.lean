import Derived.Test.YtekkkoipcghlmaaGreatDoorA06
import Derived.Test.YtekkkoipcghlmaaGreatDoorA25
set_option linter.all false
namespace Go.Proofs.YtekkkoipcghlmaaGreatDoor
open Go.RowKit

section

/-- A row of clauses that is no search's any more. -/
theorem row_cells (base : Nat) (v : Value) (cls : List Cl) (c : Nat) (cl : Cl) (w : World) (hS : w.ownsRow base 3 1 v (flat cls).length (ints (flat cls))) (hc : cls[c]? = some cl) : ∃ g cap, v = .slice (some ⟨g, 0, none⟩) (flat cls).length cap ∧ (flat cls).length ≤ cap ∧ g < w.heap.size ∧ pos cls c + 2 + cl.lits.length ≤ (flat cls).length ∧ w.cell? ⟨g, pos cls c, none⟩ = some (.int .i64 (cl.lits.length : Int)) ∧ w.cell? ⟨g, pos cls c + 1, none⟩ = some (.int .i64 (if cl.used then 1 else 0)) ∧
    (∀ k (hk : k < cl.lits.length), w.cell? ⟨g, pos cls c + 2 + k, none⟩ = some (.int .i64 cl.lits[k])) := by
  have hlt := (List.getElem?_eq_some_iff.1 hc).1
  have hcl : cls[c] = cl := by rw [List.getElem?_eq_getElem hlt] at hc; simpa using hc
  have hroom := flat_room cls c hlt
  rw [hcl] at hroom
  have hr := hS
  obtain ⟨g, cap, hv, hb, hg⟩ := World.ownsRow.form hr (by omega)
  rw [hv] at hr
  have get : ∀ j x, (flat cls)[j]? = some x → w.cell? ⟨g, j, none⟩ = some (.int .i64 x) := by
    intro j x hx
    obtain ⟨hj, e⟩ := List.getElem?_eq_some_iff.1 hx
    rw [hr.cellAt j (by omega)]
    unfold ints
    rw [List.getElem?_map, hx]
    rfl
  refine ⟨g, cap, hv, ?_, hg, hroom, ?_, ?_, fun k hk => ?_⟩
  · rcases hr.2 with ⟨h0, _⟩ | ⟨g', cap', cur, hv', _, _, hle, _⟩
    · cases h0
    · cases hv'; exact hle
  · have := get _ _ (flat_len cls c hlt); rw [hcl] at this; exact this
  · have := get _ _ (flat_used cls c hlt); rw [hcl] at this; exact this
  · have := get _ _ (flat_lit cls c k hlt (by rw [hcl]; exact hk)); simp only [hcl] at this; exact this

set_option maxRecDepth 100000 in
theorem behindV_any (base : Nat) (v : Value) (cls : List Cl) (c : Nat) (cl : Cl) (w : World) (hS : w.ownsRow base 3 1 v (flat cls).length (ints (flat cls))) (hc : cls[c]? = some cl) (hsz : (flat cls).length ≤ 1000000000) : Calls Tryz.prog 156 #[v, .int .i64 (pos cls c : Int)] w fun e w' => e = .returned (.int .i64 ((pos cls c + 2 + cl.lits.length : Nat) : Int)) ∧ w' = w := by
  obtain ⟨g, cap, hv, -, hg, hroom, h1, -, -⟩ := row_cells base v cls c cl w hS hc
  rw [hv]
  clear hv hS hc
  generalize pos cls c = p at *
  generalize cl.lits.length = n at *
  generalize (flat cls).length = N at *
  go_enter Tryz.func156, Tryz.ntmps156
  go_wp2
  go_ret
  refine ⟨?_, rfl⟩
  go_num

set_option maxRecDepth 100000 in
theorem literalsV_any (base : Nat) (v : Value) (cls : List Cl) (c : Nat) (cl : Cl) (w : World) (hS : w.ownsRow base 3 1 v (flat cls).length (ints (flat cls))) (hc : cls[c]? = some cl) (hsz : (flat cls).length ≤ 1000000000) : Calls Tryz.prog 112 #[v, .int .i64 (pos cls c : Int)] w fun e w' => (∃ g, e = .returned (litsV g (pos cls c) cl.lits.length) ∧ v.ownBlock = some g) ∧ w' = w := by
  have HB := hide (behindV_any base v cls c cl w hS hc hsz)
  obtain ⟨g, cap, hv, hcap, hg, hroom, h1, -, -⟩ := row_cells base v cls c cl w hS hc
  rw [hv] at HB ⊢
  clear hv hS hc
  generalize pos cls c = p at *
  generalize cl.lits.length = n at *
  generalize (flat cls).length = N at *
  go_enter Tryz.func112, Tryz.ntmps112
  go_wp2_with fail
  refine (unhide HB).mono ?_
  rintro e w3 ⟨rfl, rfl⟩
  go_wp2
  all_goals go_ret
  · have h0 : n = 0 := by omega
    exact ⟨⟨g, by unfold litsV; rw [if_pos h0]; rfl, rfl⟩, rfl⟩
  · exact ⟨⟨g, by unfold litsV; rw [if_neg (by omega)]; rfl, rfl⟩, rfl⟩

set_option maxRecDepth 100000 in
theorem isUsedV_any (base : Nat) (v : Value) (cls : List Cl) (c : Nat) (cl : Cl) (w : World) (hS : w.ownsRow base 3 1 v (flat cls).length (ints (flat cls))) (hc : cls[c]? = some cl) (hsz : (flat cls).length ≤ 1000000000) : Calls Tryz.prog 165 #[v, .int .i64 (pos cls c : Int)] w fun e w' => e = .returned (.bool cl.used) ∧ w' = w := by
  obtain ⟨g, cap, hv, -, hg, hroom, h1, h2, -⟩ := row_cells base v cls c cl w hS hc
  have hu : ((if cl.used = true then (1 : Int) else 0) == 1) = cl.used := by cases cl.used <;> rfl
  have HU := hide hu
  rw [hv]
  clear hv hS hc hu
  generalize (if cl.used = true then (1 : Int) else 0) = uv at *
  generalize pos cls c = p at *
  generalize cl.lits.length = n at *
  generalize (flat cls).length = N at *
  go_enter Tryz.func165, Tryz.ntmps165
  go_wp2
  go_ret
  exact ⟨by rw [← unhide HU]; rfl, rfl⟩
end

end Go.Proofs.YtekkkoipcghlmaaGreatDoor

namespace Go.Proofs.YtekkkoipcghlmaaGreatDoor
open Go.RowKit
attribute [local go_sem ↓] Go.wp_at_zero Go.wp_at_succ

theorem Tryz.store_nil (a : Addr) (n c : Nat) (w : World) : (binOp .eql 118 (.slice (some a) n c) (.slice none 0 0)).run Tryz.prog w = .ok (.bool false) w := by kernel_rfl

set_option maxRecDepth 100000 in
set_option maxHeartbeats 1600000 in
theorem clone_any (base b off cap : Nat) (xs : List Int) (w : World) (hn : 0 < xs.length) (hl : xs.length ≤ 10000000) (hv : Lies w (.slice (some ⟨b, off, none⟩) xs.length cap) (ints xs)) (hbs : base ≤ w.heap.size) :
    Calls Tryz.prog 163 #[.slice (some ⟨b, off, none⟩) xs.length cap] w fun e w' => ∃ v, e = .returned v ∧ w'.ownsRow base 3 1 v xs.length (ints xs) ∧ (∀ g, v.ownBlock = some g → w.heap.size ≤ g) ∧ Below w.heap.size w w' := by
  have HL := hide hv
  have H1C : Hid (∀ u, u ∈ ints xs → u.oneCell' = true) := hide (by
    intro u hu
    obtain ⟨x, -, rfl⟩ := List.mem_map.1 hu
    rfl)
  have HLL := hide (ints_len xs)
  clear hv
  generalize hN : xs.length = N at *
  have hnil := Tryz.store_nil
  have HOWN : Hid ((w.alloc (.cells #[] 3)).ownsRow base 3 1 (.slice (some ⟨w.heap.size, 0, none⟩) 0 0) 0 []) := hide ⟨rfl, .inr ⟨w.heap.size, 0, #[], rfl, hbs, heap_alloc_new w _, Nat.le_refl _, by unfold maxLen; omega, by simp, by simp⟩⟩
  have HLI : Hid (Lies (w.alloc (.cells #[] 3)) (.slice (some ⟨b, off, none⟩) N cap) (ints xs)) := hide ((unhide HL).below ((Below.refl _ _).alloc (Nat.le_refl _) _))
  have HBA : Hid (Below w.heap.size w (w.alloc (.cells #[] 3))) := hide ((Below.refl _ _).alloc (Nat.le_refl _) _)
  have hba : base ≤ (w.alloc (.cells #[] 3)).heap.size := Nat.le_trans hbs (unhide HBA).size
  have HFIN : Hid (∀ (v' : Value) (w' : World), w'.ownsRow base 3 1 v' (0 + (ints xs).length) ([] ++ ints xs) → (w.alloc (.cells #[] 3)).grownBy w' (Value.slice (some ⟨w.heap.size, 0, none⟩) 0 0).ownBlock → (v'.ownBlock = (Value.slice (some ⟨w.heap.size, 0, none⟩) 0 0).ownBlock ∨ v'.ownBlock = some (w.alloc (.cells #[] 3)).heap.size) → w'.ownsRow base 3 1 v' N (ints xs) ∧ (∀ g, v'.ownBlock = some g → w.heap.size ≤ g) ∧ Below w.heap.size w w') := hide (by
    intro v' w' h1 h2 h3
    rw [Nat.zero_add, List.nil_append, unhide HLL] at h1
    refine ⟨h1, fun g hg => ?_, ?_⟩
    · rcases h3 with h3 | h3
      · rw [h3] at hg; simp [Value.ownBlock] at hg; omega
      · rw [h3] at hg
        have := (unhide HBA).size
        simp at hg
        simp at this
        omega
    · have hsz := (unhide HBA).size
      have h4 := Only.grown (F := fun k => k = w.heap.size) h2 (fun k hk => by simp [Value.ownBlock] at hk; omega)
      exact (unhide HBA).trans (h4.below (fun k hk => by omega) hsz))
  clear HL HBA
  go_enter Tryz.func163, Tryz.ntmps163
  go_wp2_with (at_builtin; refine append_list (base := base) rfl _ _ 118 118 3 3 rfl Tryz.underlying118 Tryz.underlying118 Tryz.infoInt rfl (by decide) (unhide HOWN) rfl rfl (unhide HLI) (unhide H1C) (by rw [unhide HLL]; omega) hba ?_; intro v5 w5 hown5 hgr5 hloc5 hnn5 hnil5; have HF := hide (unhide HFIN v5 w5 hown5 hgr5 hloc5); clear hown5 hgr5 hloc5 hnn5 hnil5)
  try go_ret
  exact ⟨v5, rfl, unhide HF⟩

end Go.Proofs.YtekkkoipcghlmaaGreatDoor

namespace Go.Proofs.YtekkkoipcghlmaaGreatDoor
open Go.RowKit

theorem Rep.stored {m : Mem} {cls : List Cl} {tr : Tr} (h : Rep m cls tr) (v : Value) (l : List Int) {cls' : List Cl} (hl : l = flat cls') : Rep (m.stored v l) cls' tr := ⟨hl, h.order, h.starts, h.len, h.taken, h.free, h.odr, h.ordr⟩
/-- A reason lies elsewhere now. -/
theorem Rep.reasoned {m : Mem} {cls : List Cl} {tr : Tr} (h : Rep m cls tr) {i : Nat} {x r0 r : Int} (hi : tr[i]? = some (x, r0)) (hx : x ≠ 0 ∧ -12 ≤ x ∧ x ≤ 12) (hd : ∀ (j : Nat) (e : Int × Int), tr[j]? = some e → dec e = false) (hr : dec (x, r) = false) (hone : ∀ (j : Nat) (e : Int × Int), tr[j]? = some e → e.1.natAbs = x.natAbs → j = i) : Rep (m.reasoned x.natAbs r) cls (tr.set i (x, r)) := by
  have hil := (List.getElem?_eq_some_iff.1 hi).1
  have hd' : ∀ (j : Nat) (e : Int × Int), (tr.set i (x, r))[j]? = some e → dec e = false := fun j e hj => by
    rcases set_get hj with ⟨rfl, _, rfl⟩ | ⟨_, hj⟩
    · exact hr
    · exact hd j e hj
  have z1 := levels_zero hd
  have z2 := levels_zero hd'
  have s1 : startsOf tr = [] := List.length_eq_zero_iff.1 (by rw [startsOf_len]; exact z1)
  have s2 : startsOf (tr.set i (x, r)) = [] := List.length_eq_zero_iff.1 (by rw [startsOf_len]; exact z2)
  have l0 : ∀ j, Go.Proofs.YtekkkoipcghlmaaGreatDoor.lev tr j = 0 := fun j => by have := lev_le tr j; omega
  have l1 : ∀ j, Go.Proofs.YtekkkoipcghlmaaGreatDoor.lev (tr.set i (x, r)) j = 0 := fun j => by have := lev_le (tr.set i (x, r)) j; omega
  have hlen := h.len
  have t0 : ∀ v, v < 13 → (m.reasoned x.natAbs r).truth v = m.truth v ∧ (m.reasoned x.natAbs r).level v = m.level v ∧ (m.reasoned x.natAbs r).reason v = if v = x.natAbs then r else m.reason v := fun v hv => by
    show (((m.facts.set (x.natAbs * 3 + 2) r)[v * 3]?).getD 0 = _) ∧ (((m.facts.set (x.natAbs * 3 + 2) r)[v * 3 + 1]?).getD 0 = _) ∧ (((m.facts.set (x.natAbs * 3 + 2) r)[v * 3 + 2]?).getD 0 = _)
    rw [List.getElem?_set_ne (by omega), List.getElem?_set_ne (by omega)]
    refine ⟨rfl, rfl, ?_⟩
    by_cases e : v = x.natAbs
    · rw [if_pos e, e, List.getElem?_set_self (by omega)]; rfl
    · rw [if_neg e, List.getElem?_set_ne (by omega)]; rfl
  refine ⟨h.store, ?_, ?_, ?_, fun j e hj => ?_, fun v a b c => ?_, h.odr, h.ordr⟩
  · show m.order = _
    rw [h.order, List.map_set, set_same]
    rw [List.getElem?_map, hi]; rfl
  · show m.starts = _
    rw [h.starts, s1, s2]
  · show (m.facts.set _ _).length = 39
    rw [List.length_set]; exact hlen
  · rcases set_get hj with ⟨rfl, _, rfl⟩ | ⟨hne, hj⟩
    · obtain ⟨a1, a2, a3⟩ := t0 x.natAbs (by omega)
      obtain ⟨b1, b2, b3⟩ := h.taken j _ hi
      show (m.reasoned x.natAbs r).truth x.natAbs = x ∧ (m.reasoned x.natAbs r).level x.natAbs = _ ∧ (m.reasoned x.natAbs r).reason x.natAbs = r
      rw [a1, a2, a3, if_pos rfl, l1]
      rw [l0] at b2
      exact ⟨b1, b2, rfl⟩
    · obtain ⟨b1, b2, b3⟩ := h.taken j e hj
      have hne' : e.1.natAbs ≠ x.natAbs := fun he => hne (hone j e hj he)
      have hlt : e.1.natAbs < 13 := by
        rcases Nat.lt_or_ge e.1.natAbs 13 with h' | h'
        · exact h'
        · have : m.truth e.1.natAbs = 0 := by
            unfold Mem.truth
            rw [List.getElem?_eq_none (by omega)]; rfl
          omega
      obtain ⟨a1, a2, a3⟩ := t0 e.1.natAbs hlt
      rw [a1, a2, a3, if_neg hne', l1]
      rw [l0] at b2
      exact ⟨b1, b2, b3⟩
  · obtain ⟨a1, -, -⟩ := t0 v b
    rw [a1]
    refine h.free v a b (fun j e hj he => ?_)
    by_cases hji : j = i
    · subst hji
      rw [hi] at hj
      cases hj
      exact c j (x, r) (by rw [List.getElem?_set_self hil]) he
    · exact c j e (by rw [List.getElem?_set_ne (fun h => hji h.symm)]; exact hj) he

/-- While clauses go. -/
structure DUAt (base : Nat) (w : World) (m0 : Mem) (old : List Cl) (ov : Value) (ng : Nat) (tr0 : Tr) (G : List Nat) (k : Nat) (wr : World) (m : Mem) (new : List Cl) (tr : Tr) (S : List (Bool × List Int)) : Prop where
  em : EMut base w m0 [] wr m [intRow ov (flat old)]
  rep : Rep m new tr
  du : DU old ng tr0 k new tr
  all : m.all = m0.all
  places : m.places = m0.places
  core : m.core = m0.core
  passed : m.passed = m0.passed
  steps : StepsAt base wr m S
  chain : Chain G (stepMasks S) (((dbOf new).drop ng).map Sp.maskOf ++ ((dbOf old).drop (ng + k)).map Sp.maskOf)
  nst : m.nsteps + new.length = m0.nsteps + ng + k
  swf : ∀ s, s ∈ S → wfLits s.2
section
variable {base : Nat} {w wr wr' wr2 : World} {m0 m : Mem} {old new : List Cl} {ov : Value} {ng k : Nat} {tr0 tr : Tr} {G : List Nat} {S : List (Bool × List Int)} {cl : Cl} {c : Nat}
theorem EMut.rowMut {m m' : Mem} {r : Row} (h : EMut base w m [] wr m' [r]) : Mut base w m wr m' := (h.trans (EMut.drop (E := []) h.eat)).mut
theorem DUAt.row (h : DUAt base w m0 old ov ng tr0 G k wr m new tr S) : wr.ownsRow base 3 1 ov (flat old).length (ints (flat old)) := h.em.eat.row (i := 0) rfl
theorem DUAt.below (h : DUAt base w m0 old ov ng tr0 G k wr m new tr S) (hb : Below wr.heap.size wr wr') : DUAt base w m0 old ov ng tr0 G k wr' m new tr S :=
  ⟨h.em.trans (EMut.below h.em.eat hb), h.rep, h.du, h.all, h.places, h.core, h.passed, h.steps.keep (PMut.below h.em.at.pack hb) rfl, h.chain, h.nst, h.swf⟩
/-- A clause of the old row. -/
theorem DUAt.lits (h : DUAt base w m0 old ov ng tr0 G k wr m new tr S) (hc : old[c]? = some cl) (hn : cl.lits ≠ []) : ∃ g cap, ov = .slice (some ⟨g, 0, none⟩) (flat old).length cap ∧ StepAt base wr m (litsV g (pos old c) cl.lits.length) cl.lits := by
  obtain ⟨g, cap, hv, hcap, hg, hroom, -, -, hl⟩ := row_cells base ov old c cl wr h.row hc
  have hp : 0 < cl.lits.length := List.length_pos_iff.2 hn
  refine ⟨g, cap, hv, ?_, fun k hk => ?_, fun k hk => ?_⟩
  · unfold litsV
    rw [if_neg (by omega)]
    refine .inr ⟨g, pos old c + 2, cl.lits.length, by rw [ints_len]; exact hp, by rw [ints_len], hg, fun j x hx => ?_⟩
    have hj := (List.getElem?_eq_some_iff.1 hx).1
    rw [ints_len] at hj
    rw [hl j hj, ← hx]
    unfold ints
    rw [List.getElem?_map, List.getElem?_eq_getElem hj]
    rfl
  · have : k = g := by
      unfold litsV at hk
      split at hk <;> (simp [Value.ownBlock] at hk; exact hk.symm)
    subst this
    exact ⟨fun hf => h.em.eat.pack.not_both hf ⟨0, _, rfl, by show ov.ownBlock = _; rw [hv]; rfl⟩, hg⟩
  · have : k = g := by
      unfold litsV at hk
      split at hk <;> (simp [Value.ownBlock] at hk; exact hk.symm)
    subst this
    have hro := h.row
    exact (hro.lt k (by rw [hv]; rfl)).1
theorem drop_one (hc : old[ng + k]? = some cl) : ((dbOf old).drop (ng + k)).map Sp.maskOf = Sp.maskOf cl.lits :: ((dbOf old).drop (ng + (k + 1))).map Sp.maskOf := by
  have hlt := (List.getElem?_eq_some_iff.1 hc).1
  have hd : ng + k < (dbOf old).length := by unfold dbOf; rw [List.length_map]; exact hlt
  have he : (dbOf old)[ng + k] = cl.lits := by
    have : (dbOf old)[ng + k]? = some cl.lits := by unfold dbOf; rw [List.getElem?_map, hc]; rfl
    rw [List.getElem?_eq_getElem hd] at this
    simpa using this
  rw [List.drop_eq_getElem_cons hd, he]
  rfl
/-- It goes. -/
theorem DUAt.goes (h : DUAt base w m0 old ov ng tr0 G k wr m new tr S) (hc : old[ng + k]? = some cl) (hn : ¬ ∃ (i : Nat) (e0 : Int × Int), tr0[i]? = some e0 ∧ e0.2 = (pos old (ng + k) : Int)) {v val : Value} (hwf : wfLits cl.lits) (hv : StepAt base wr m val cl.lits) (hm : Mut base wr m wr' (m.stepped v (m.steps ++ [val, .bool true]) (m.nsteps + 1))) :
    DUAt base w m0 old ov ng tr0 G (k + 1) wr' (m.stepped v (m.steps ++ [val, .bool true]) (m.nsteps + 1)) new tr (S ++ [(true, cl.lits)]) := by
  refine ⟨h.em.trans (EMut.call h.em.eat hm), ⟨h.rep.store, h.rep.order, h.rep.starts, h.rep.len, h.rep.taken, h.rep.free, h.rep.odr, h.rep.ordr⟩, h.du.drop hc hn, h.all, h.places, h.core, h.passed, h.steps.add hm.to rfl rfl (hv.keep hm.to), ?_, ?_, fun s hs => ?_⟩
  rotate_right
  · rcases List.mem_append.1 hs with h' | h'
    · exact h.swf s h'
    · simp at h'; subst h'; exact hwf
  · have := h.chain
    rw [drop_one hc] at this
    rw [stepMasks_snoc]
    exact Chain.go this
  · show m.nsteps + 1 + new.length = _
    have := h.nst
    omega
theorem new_flat (new : List Cl) (l : List Int) : flat new ++ [(l.length : Int), 0] ++ l = flat (new ++ [⟨false, l⟩]) := by
  rw [flat_append, flat_cons, flat_nil, List.append_nil]
  simp [Cl.cells]
theorem chain_more (hc : old[ng + k]? = some cl) (hng : ng ≤ new.length) : ((dbOf (new ++ [⟨false, cl.lits⟩])).drop ng).map Sp.maskOf ++ ((dbOf old).drop (ng + (k + 1))).map Sp.maskOf = ((dbOf new).drop ng).map Sp.maskOf ++ ((dbOf old).drop (ng + k)).map Sp.maskOf := by
  rw [drop_one hc, db_snoc, drop_snoc (by unfold dbOf; rw [List.length_map]; exact hng), List.map_append, List.append_assoc]
  rfl
/-- It stays. -/
theorem DUAt.stays (h : DUAt base w m0 old ov ng tr0 G k wr m new tr S) (hc : old[ng + k]? = some cl) (hn : ¬ ∃ (i : Nat) (e0 : Int × Int), tr0[i]? = some e0 ∧ e0.2 = (pos old (ng + k) : Int)) {v : Value} (hm : Mut base wr m wr' (m.stored v (m.store ++ [(cl.lits.length : Int), 0] ++ cl.lits))) :
    DUAt base w m0 old ov ng tr0 G (k + 1) wr' (m.stored v (m.store ++ [(cl.lits.length : Int), 0] ++ cl.lits)) (new ++ [⟨false, cl.lits⟩]) tr S := by
  refine ⟨h.em.trans (EMut.call h.em.eat hm), h.rep.stored _ _ (by rw [h.rep.store, new_flat]), h.du.keep hc hn, h.all, h.places, h.core, h.passed, h.steps.keep hm.to rfl, ?_, ?_, h.swf⟩
  · rw [chain_more hc h.du.ngle]; exact h.chain
  · show m.nsteps + (new ++ [(⟨false, cl.lits⟩ : Cl)]).length = _
    have := h.nst
    simp
    omega
/-- It stays, and its place is told. -/
theorem DUAt.moves (h : DUAt base w m0 old ov ng tr0 G k wr m new tr S) (hT : TrOK old tr0) (h0 : levels tr0 = 0) (hc : old[ng + k]? = some cl) {i : Nat} {x : Int} (hi : tr[i]? = some (x, (pos old (ng + k) : Int))) {v : Value} (hm : Mut base wr m wr' (m.stored v (m.store ++ [(cl.lits.length : Int), 0] ++ cl.lits))) (hm2 : Mut base wr' (m.stored v (m.store ++ [(cl.lits.length : Int), 0] ++ cl.lits)) wr2 ((m.stored v (m.store ++ [(cl.lits.length : Int), 0] ++ cl.lits)).reasoned x.natAbs ((flat new).length : Int))) :
    DUAt base w m0 old ov ng tr0 G (k + 1) wr2 ((m.stored v (m.store ++ [(cl.lits.length : Int), 0] ++ cl.lits)).reasoned x.natAbs ((flat new).length : Int)) (new ++ [⟨false, cl.lits⟩]) (tr.set i (x, ((flat new).length : Int))) S := by
  have hm3 := hm.trans hm2
  obtain ⟨e0, he0⟩ := get_len h.du.len hi
  have hx : x ≠ 0 ∧ -12 ≤ x ∧ x ≤ 12 := by
    have h1 := h.du.fst i _ e0 hi he0
    have h2 := hT.bd i e0 he0
    simp only at h1
    rw [h1]; exact h2
  refine ⟨h.em.trans (EMut.call h.em.eat hm3), (h.rep.stored v _ (cls' := new ++ [⟨false, cl.lits⟩]) (by rw [h.rep.store, new_flat])).reasoned hi hx (h.du.level hT h0) (by simp [dec]) (fun j e hj he => ?_), h.du.move hT h0 hc hi, h.all, h.places, h.core, h.passed, h.steps.keep hm3.to rfl, ?_, ?_, h.swf⟩
  · obtain ⟨f0, hf0⟩ := get_len h.du.len hj
    refine hT.one hf0 he0 ?_
    have h1 := h.du.fst i _ e0 hi he0
    have h2 := h.du.fst j e f0 hj hf0
    simp only at h1
    rw [← h1, ← h2, he]
  · rw [chain_more hc h.du.ngle]; exact h.chain
  · show m.nsteps + (new ++ [(⟨false, cl.lits⟩ : Cl)]).length = _
    have := h.nst
    simp
    omega
end

end Go.Proofs.YtekkkoipcghlmaaGreatDoor
