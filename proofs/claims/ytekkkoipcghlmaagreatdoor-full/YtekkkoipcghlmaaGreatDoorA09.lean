import Derived.Test.YtekkkoipcghlmaaGreatDoorA08
import Derived.Test.YtekkkoipcghlmaaGreatDoorA05
import Derived.OwnWalk
set_option linter.all false
namespace Go.Proofs.YtekkkoipcghlmaaGreatDoor
open Go.RowKit

/-- All but the clauses, the watches and the trail is as it was. -/
def Mem.but (m0 m : Mem) : Mem := { m0 with cl := m.cl, wl := m.wl, fa := m.fa, od := m.od, odr := m.odr, ordr := m.ordr, st := m.st, ws := m.ws, store := m.store, facts := m.facts, order := m.order, starts := m.starts, lists := m.lists }
def Kept (m0 m : Mem) : Prop := m = m0.but m
theorem Kept.refl (m : Mem) : Kept m m := rfl
theorem Kept.trans {a b c : Mem} (h : Kept a b) (h' : Kept b c) : Kept a c := by
  unfold Kept at h h' ⊢
  rw [h] at h'
  exact h'
/-- The lists of the watches, but for one. -/
def WatEx (m : Mem) (wat : Int → List Int) (u : Int) : Prop := ∀ l, -12 ≤ l → l ≤ 12 → l ≠ u → m.lists[(l + 12).toNat]? = some (wat l)
def WatAt (m : Mem) (wat : Int → List Int) : Prop := ∀ l, -12 ≤ l → l ≤ 12 → m.lists[(l + 12).toNat]? = some (wat l)

structure VAt (base : Nat) (w : World) (m0 : Mem) (cls0 : List Cl) (tr0 : Tr) (i0 : Nat) (u : Int) (L : List Int) (v0 : Value) (wr : World) (m : Mem) (cls : List Cl) (wat : Int → List Int) (tr : Tr) (stay todo : List Int) (bad : Int) : Prop where
  mu : Mut base w m0 wr m
  rep : Rep m cls tr
  wats : WatEx m wat u
  own : m.lists[(u + 12).toNat]? = some (stay ++ L.drop stay.length)
  head : m.ws[(u + 12).toNat]? = some v0
  wl : m.wl = m0.wl
  kept : Kept m0 m
  vis : Vis i0 u cls wat tr stay todo bad
  went : Went cls0 tr0 cls tr
  size : m.store.length = m0.store.length

theorem Vis.clause {i0 : Nat} {u : Int} {cls : List Cl} {wat : Int → List Int} {tr : Tr} {stay todo : List Int} {bad p : Int} (h : Vis i0 u cls wat tr stay (p :: todo) bad) : ∃ c cl o r, cls[c]? = some cl ∧ p = (pos cls c : Int) ∧ (cl.lits = o :: u :: r ∨ cl.lits = u :: o :: r) := by
  obtain ⟨c, cl, h1, h2, a, b, r, h3, h4⟩ := (h.own.2 p).1 (by simp)
  rcases h4 with rfl | rfl
  · exact ⟨c, cl, b, r, h1, h2, .inr h3⟩
  · exact ⟨c, cl, a, r, h1, h2, .inl h3⟩
theorem wf_mem {l : List Int} (h : wfLits l) {x : Int} (hx : x ∈ l) : x ≠ 0 ∧ -12 ≤ x ∧ x ≤ 12 := h.2 x hx
theorem flat_len_set {cls : List Cl} {c : Nat} {cl : Cl} (hc : cls[c]? = some cl) {l : List Int} (hl : l.length = cl.lits.length) : (flat (cls.set c ⟨cl.used, l⟩)).length = (flat cls).length := by
  have hlt := (List.getElem?_eq_some_iff.1 hc).1
  have hcl : cls[c] = cl := by rw [List.getElem?_eq_getElem hlt] at hc; simpa using hc
  rw [flat_set _ _ _ hlt, flat_split cls c hlt, hcl]
  simp only [List.length_append, Cl.cells_len, hl]

section
variable {base : Nat} {w : World} {m0 : Mem} {cls0 : List Cl} {tr0 : Tr} {i0 : Nat} {u : Int} {L : List Int} {v0 : Value} {wr wr' : World} {m : Mem} {cls : List Cl} {wat : Int → List Int} {tr : Tr} {stay todo : List Int} {bad p : Int} {c : Nat} {cl : Cl} {o : Int} {r : List Int}
theorem VAt.ubd (h : VAt base w m0 cls0 tr0 i0 u L v0 wr m cls wat tr stay todo bad) : u ≠ 0 ∧ -12 ≤ u ∧ u ≤ 12 := by
  obtain ⟨q, hq⟩ := h.vis.here
  have := h.vis.trok.bd i0 _ hq
  simp at this
  omega
/-- It watches another literal. -/
theorem VAt.move (h : VAt base w m0 cls0 tr0 i0 u L v0 wr m cls wat tr stay (p :: todo) bad) (hc : cls[c]? = some cl) (hp : p = (pos cls c : Int)) (hl : cl.lits = o :: u :: r ∨ cl.lits = u :: o :: r) (ho : m.truth o.natAbs ≠ o) {k : Nat} {y : Int} {v : Value} (hk : r[k]? = some y) (hy : m.truth y.natAbs ≠ -y)
    (hm : Mut base wr m wr' ((m.withCls (cls.set c ⟨cl.used, o :: y :: r.set k u⟩)).watch1 (y + 12).toNat v p)) : VAt base w m0 cls0 tr0 i0 u L v0 wr' ((m.withCls (cls.set c ⟨cl.used, o :: y :: r.set k u⟩)).watch1 (y + 12).toNat v p) (cls.set c ⟨cl.used, o :: y :: r.set k u⟩) (upd wat y (wat y ++ [p])) tr stay todo bad := by
  have hwf := h.vis.wf c cl hc
  have hin : ∀ x, x = o ∨ x = u ∨ x ∈ r → x ∈ cl.lits := fun x hx => by rcases hl with hl | hl <;> rw [hl] <;> simp only [List.mem_cons] <;> rcases hx with hx | hx | hx <;> simp [hx]
  have hyr : y ∈ r := List.mem_of_getElem? hk
  have bo := wf_mem hwf (hin o (.inl rfl))
  have byy := wf_mem hwf (hin y (.inr (.inr hyr)))
  have ub := h.ubd
  have hM : Moves tr u cl.lits (o :: y :: r.set k u) y := ⟨o, r, k, hl, hk, rfl, fun hT => ho ((h.rep.is_true o bo.1 bo.2.1 bo.2.2).2 hT), fun hT => hy ((h.rep.is_false y byy.1 byy.2.1 byy.2.2).2 hT)⟩
  obtain ⟨hV, hyu⟩ := h.vis.move hc hp hM
  have hne : (u + 12).toNat ≠ (y + 12).toNat := fun e => hyu (by omega)
  refine ⟨h.mu.trans hm, ?_, fun l h1 h2 h3 => ?_, ?_, ?_, h.wl, h.kept.trans rfl, hV, h.went.trans ⟨SameCl.set hc hM.perm, [], by simp, by simp⟩, ?_⟩
  · have := h.rep.turn (cls.set c ⟨cl.used, o :: y :: r.set k u⟩)
    exact ⟨this.store, this.order, this.starts, this.len, this.taken, this.free, this.odr, this.ordr⟩
  · show (m.lists.set (y + 12).toNat ((m.lists[(y + 12).toNat]?).getD [] ++ [p]))[(l + 12).toNat]? = _
    have hwy := h.wats y byy.2.1 byy.2.2 hyu
    by_cases e : l = y
    · subst e
      rw [List.getElem?_set_self (List.getElem?_eq_some_iff.1 hwy).1, hwy]
      simp [upd]
    · rw [List.getElem?_set_ne (fun e' => e (by omega))]
      unfold upd
      rw [if_neg e]
      exact h.wats l h1 h2 h3
  · show (m.lists.set (y + 12).toNat ((m.lists[(y + 12).toNat]?).getD [] ++ [p]))[(u + 12).toNat]? = _
    rw [List.getElem?_set_ne (fun e => hne e.symm)]; exact h.own
  · show (m.ws.set (y + 12).toNat v)[(u + 12).toNat]? = _
    rw [List.getElem?_set_ne (fun e => hne e.symm)]; exact h.head
  · show (flat _).length = _
    rw [flat_len_set hc hM.perm.length_eq, ← h.rep.store]; exact h.size

/-- A place is written into the list of u. -/
def Mem.put (m : Mem) (k j : Nat) (p : Int) : Mem := { m with lists := m.lists.set k (((m.lists[k]?).getD []).set j p) }
/-- Behind a clause that goes on watching u, ahead of what comes of it. -/
structure VMid (base : Nat) (w : World) (m0 : Mem) (cls0 : List Cl) (tr0 : Tr) (i0 : Nat) (u : Int) (L : List Int) (v0 : Value) (wr : World) (m : Mem) (cls : List Cl) (wat : Int → List Int) (tr : Tr) (stay todo : List Int) (bad p : Int) (c : Nat) (cl : Cl) (o : Int) (r : List Int) : Prop where
  mu : Mut base w m0 wr m
  rep : Rep m (cls.set c ⟨cl.used, o :: u :: r⟩) tr
  wats : WatEx m wat u
  own : m.lists[(u + 12).toNat]? = some ((stay ++ [p]) ++ L.drop (stay ++ [p]).length)
  head : m.ws[(u + 12).toNat]? = some v0
  wl : m.wl = m0.wl
  kept : Kept m0 m
  vis : Vis i0 u cls wat tr stay (p :: todo) bad
  went : Went cls0 tr0 (cls.set c ⟨cl.used, o :: u :: r⟩) tr
  size : m.store.length = m0.store.length
  at_ : cls[c]? = some cl
  place : p = (pos cls c : Int)
  lits : cl.lits = o :: u :: r ∨ cl.lits = u :: o :: r
  why : Tru tr o ∨ ∀ x, x ∈ r → Tru tr (-x)
theorem VMid.stays (h : VMid base w m0 cls0 tr0 i0 u L v0 wr m cls wat tr stay todo bad p c cl o r) : Stays tr u cl.lits (o :: u :: r) o := ⟨r, h.lits, rfl, h.why⟩
theorem VMid.obd (h : VMid base w m0 cls0 tr0 i0 u L v0 wr m cls wat tr stay todo bad p c cl o r) : o ≠ 0 ∧ -12 ≤ o ∧ o ≤ 12 := wf_mem (h.vis.wf c cl h.at_) (by rcases h.lits with hl | hl <;> rw [hl] <;> simp)
theorem VMid.wf (h : VMid base w m0 cls0 tr0 i0 u L v0 wr m cls wat tr stay todo bad p c cl o r) : wfLits (o :: u :: r) := by
  have hw := h.vis.wf c cl h.at_
  have hp := h.stays.perm
  refine ⟨(hp.map Int.natAbs).nodup_iff.2 hw.1, fun x hx => hw.2 x (hp.mem_iff.1 hx)⟩
theorem VMid.trok (h : VMid base w m0 cls0 tr0 i0 u L v0 wr m cls wat tr stay todo bad p c cl o r) : TrOK (cls.set c ⟨cl.used, o :: u :: r⟩) tr := by
  refine h.vis.trok.change h.at_ h.stays.perm.length_eq ?_
  rcases h.lits with hl | hl
  · exact .inl hl.symm
  · refine .inr (fun x hx hT => ?_)
    rw [hl] at hx; simp at hx; subst hx
    exact h.vis.not_true hT
/-- Something was false before. -/
theorem VMid.isBad (h : VMid base w m0 cls0 tr0 i0 u L v0 wr m cls wat tr stay todo bad p c cl o r) (hb : bad ≠ -1) : VAt base w m0 cls0 tr0 i0 u L v0 wr m (cls.set c ⟨cl.used, o :: u :: r⟩) wat tr (stay ++ [p]) todo bad :=
  ⟨h.mu, h.rep, h.wats, h.own, h.head, h.wl, h.kept, h.vis.stay_bad h.at_ h.place h.stays hb, h.went, h.size⟩
theorem VMid.isFalse (h : VMid base w m0 cls0 tr0 i0 u L v0 wr m cls wat tr stay todo (-1) p c cl o r) (hm : Mut base wr m wr' m) (ho : m.truth o.natAbs = -o) : VAt base w m0 cls0 tr0 i0 u L v0 wr' m (cls.set c ⟨cl.used, o :: u :: r⟩) wat tr (stay ++ [p]) todo p :=
  ⟨h.mu.trans hm, h.rep, h.wats, h.own, h.head, h.wl, h.kept, h.vis.stay_false h.at_ h.place h.stays ((h.rep.is_false o h.obd.1 h.obd.2.1 h.obd.2.2).1 ho), h.went, h.size⟩
theorem VMid.isTrue (h : VMid base w m0 cls0 tr0 i0 u L v0 wr m cls wat tr stay todo (-1) p c cl o r) (hm : Mut base wr m wr' m) (ho : m.truth o.natAbs ≠ -o) (ho0 : m.truth o.natAbs ≠ 0) : VAt base w m0 cls0 tr0 i0 u L v0 wr' m (cls.set c ⟨cl.used, o :: u :: r⟩) wat tr (stay ++ [p]) todo (-1) := by
  have hT : Tru tr o := by
    rcases Classical.em (Tru tr o) with hT | hT
    · exact hT
    · exact absurd ((h.rep.is_open h.trok o h.obd.1 h.obd.2.1 h.obd.2.2).2 ⟨hT, fun hF => ho ((h.rep.is_false o h.obd.1 h.obd.2.1 h.obd.2.2).2 hF)⟩) ho0
  exact ⟨h.mu.trans hm, h.rep, h.wats, h.own, h.head, h.wl, h.kept, h.vis.stay_true h.at_ h.place h.stays hT, h.went, h.size⟩
theorem VMid.take (h : VMid base w m0 cls0 tr0 i0 u L v0 wr m cls wat tr stay todo (-1) p c cl o r) {od : Value} (hm : Mut base wr m wr' (m.taken o p od)) (ho0 : m.truth o.natAbs = 0) : VAt base w m0 cls0 tr0 i0 u L v0 wr' (m.taken o p od) (cls.set c ⟨cl.used, o :: u :: r⟩) wat (tr ++ [(o, p)]) (stay ++ [p]) todo (-1) := by
  obtain ⟨n1, n2⟩ := (h.rep.is_open h.trok o h.obd.1 h.obd.2.1 h.obd.2.2).1 ho0
  have hp1 : p ≠ -1 := by have := h.place; omega
  refine ⟨h.mu.trans hm, h.rep.take h.trok h.obd n1 n2 hp1 od, h.wats, h.own, h.head, h.wl, h.kept.trans rfl, h.vis.stay_take h.at_ h.place h.stays n1 n2, h.went.trans ⟨SameCl.refl _, [(o, p)], rfl, fun e he => ?_⟩, h.size⟩
  simp at he
  subst he
  simp [dec, hp1]
end

end Go.Proofs.YtekkkoipcghlmaaGreatDoor

namespace Go.Proofs.YtekkkoipcghlmaaGreatDoor
open Go.RowKit

/-- 'x = append(x, v)' where there is room, x a shorter slice of a row. -/
theorem append_room1 {P : Program} {ops : Array Oper} {rest : List Oper} {o : Oper} {a : Act} {Q : Exit → Act → World → Prop} {wz : World} {base n N cap bytes g : Nat} {val z : Value} {xs : List Value} {tt : TypeId}
    (hgd : o.guard = none) (s x : Operand) (t e : TypeId) (ho : o.op = .call { callee := .builtin .append, args := #[s, x], argTypes := #[t, t] })
    (ht : P.underlying t = some (.slice e)) (hinfo : (P.info? e).map (fun i => (i.zero, i.size, i.bytes)) = some (some z, 1, bytes))
    (hown : wz.ownsRow base e 1 (.slice (some ⟨g, 0, none⟩) N cap) N xs) (hn : n < N) (hs : a.eval s = .slice (some ⟨g, 0, none⟩) n cap) (hx : a.eval x = .slice (some ⟨wz.heap.size, 0, none⟩) 1 1) (h1 : val.oneCell' = true)
    (h : ∀ (w' : World), w'.ownsRow base e 1 (.slice (some ⟨g, 0, none⟩) N cap) N (xs.set n val) → (wz.alloc (.cells #[val] tt)).grownBy w' (some g) → wpList P ops Q rest (a.put o.dst (.slice (some ⟨g, 0, none⟩) (n + 1) cap)) w') :
    wpList P ops Q (o :: rest) a (wz.alloc (.cells #[val] tt)) := by
  obtain ⟨i0, hi0, hz0, hz1, hz2⟩ := info_parts hinfo
  have hown1 := hown.alloc (.cells #[val] tt)
  obtain ⟨hlen, hrow⟩ := hown1
  rcases hrow with ⟨h0, _⟩ | ⟨g', cap', cur, hv, hb, hg, hle, hcap, hcs, htake⟩
  · cases h0
  · cases hv
    rw [Nat.mul_one] at hcs htake hlen
    have hr := run_append_room (P := P) (wz.alloc (.cells #[val] tt)) t o.type e i0 ht hi0 g n cap cur hg ⟨wz.heap.size, 0, none⟩ 1 1 [val] (by rw [hz1]; rfl) (World.news_of_block (heap_alloc_new wz _)) (by intro u hu; simp at hu; subst hu; exact h1) (by omega) (by rw [hz1]; simp; omega)
    rw [hz1] at hr
    simp only [Nat.mul_one, List.length_cons, List.length_nil, Nat.zero_add] at hr
    have hcur : (cur.toList.take n ++ [val] ++ cur.toList.drop (n + 1)) = cur.toList.set n val := by
      rw [List.set_eq_take_append_cons_drop, if_pos (by simp; omega)]
      simp
    rw [hcur] at hr
    refine wpList_plain hgd fun K hK => ?_
    unfold Oper.wp execOp
    simp only [ho, resolve, invoke, builtin, Sem.run_bind, Sem.run_pure, Result.andThen_ok, List.map_toArray, List.map_cons, List.map_nil, hs, hx, hr]
    refine hK _ _ (h _ ⟨by rw [List.length_set, Nat.mul_one]; exact hlen, .inr ⟨g, cap, (cur.toList.set n val).toArray, rfl, hb, setRow_heap _ g cur _ e (0, 0) hg, hle, hcap, by simp; omega, ?_⟩⟩ ⟨rfl, rfl, rfl, by simp, fun k _ hk => setRow_other _ g k _ (fun e => hk (by rw [e]))⟩)
    rw [Nat.mul_one, ← htake, List.take_set]

end Go.Proofs.YtekkkoipcghlmaaGreatDoor
