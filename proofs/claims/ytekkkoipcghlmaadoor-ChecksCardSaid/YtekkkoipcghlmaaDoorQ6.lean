import Derived.Test.YtekkkoipcghlmaaDoorQ5
import Derived.Maps.OwnSet
import Derived.OneCell
namespace Go.Proofs.YtekkkoipcghlmaaDoor
open Go.RowKit Go.Maps

def ents (E : List (Nat × Nat)) : List Value := E.flatMap fun x => [.int .u32 (x.1 : Int), .int .i64 (x.2 : Int)]
theorem ents_len (E : List (Nat × Nat)) : (ents E).length = E.length * 2 := by
  induction E with
  | nil => rfl
  | cons a r ih => simp only [ents, List.flatMap_cons, List.length_append, List.length_cons, List.length_nil] at ih ⊢; omega
theorem ents_get (E : List (Nat × Nat)) : ∀ (i : Nat) (x : Nat × Nat), E[i]? = some x → (ents E)[i * 2]? = some (.int .u32 (x.1 : Int)) ∧ (ents E)[i * 2 + 1]? = some (.int .i64 (x.2 : Int)) := by
  induction E with
  | nil => intro i x h; simp at h
  | cons a r ih =>
    intro i x h
    cases i with
    | zero => simp at h; subst h; exact ⟨rfl, rfl⟩
    | succ i =>
      have := ih i x (by simpa using h)
      rw [show (i + 1) * 2 = i * 2 + 1 + 1 from by omega]
      exact this
theorem ents_set (E : List (Nat × Nat)) (t' : Nat) : ∀ (i c t : Nat), E[i]? = some (c, t) → (ents E).set (i * 2 + 1) (.int .i64 (t' : Int)) = ents (E.set i (c, t')) := by
  induction E with
  | nil => intro i c t h; simp at h
  | cons a r ih =>
    intro i c t h
    cases i with
    | zero => simp at h; subst h; rfl
    | succ i =>
      have := ih i c t (by simpa using h)
      rw [show (i + 1) * 2 + 1 = i * 2 + 1 + 1 + 1 from by omega]
      simp only [ents, List.flatMap_cons, List.cons_append, List.nil_append, List.set_cons_succ] at this ⊢
      rw [this]
theorem ents_snoc (E : List (Nat × Nat)) (c t : Nat) : ents (E ++ [(c, t)]) = ents E ++ [.int .u32 (c : Int), .int .i64 (t : Int)] := by
  unfold ents; rw [List.flatMap_append]; rfl

/-- What the entries stand for: each clause as often as it is there. -/
structure Bag (E : List (Nat × Nat)) (L : List Nat) : Prop where
  count : ∀ x, x ∈ E → L.count x.1 = x.2
  none : ∀ c, (∀ x, x ∈ E → x.1 ≠ c) → L.count c = 0
  once : ∀ (i j : Nat) (x y : Nat × Nat), E[i]? = some x → E[j]? = some y → x.1 = y.1 → i = j

theorem Bag.live {E : List (Nat × Nat)} {L : List Nat} (h : Bag E L) : Live E L := by
  intro c
  constructor
  · intro hc
    have hp : 0 < L.count c := List.count_pos_iff.2 hc
    by_cases hx : ∃ x, x ∈ E ∧ x.1 = c
    · obtain ⟨x, hx, rfl⟩ := hx
      exact ⟨x.2, hx, by rw [← h.count x hx]; exact hp⟩
    · have := h.none c (fun x hx' e => hx ⟨x, hx', e⟩); omega
  · rintro ⟨t, ht, h0⟩
    have := h.count (c, t) ht
    exact List.count_pos_iff.1 (by simp only at this; omega)

theorem set_mem {E : List (Nat × Nat)} {i : Nat} {z x : Nat × Nat} (h : x ∈ E.set i z) : x = z ∨ ∃ j, j ≠ i ∧ E[j]? = some x := by
  obtain ⟨j, hj⟩ := List.getElem?_of_mem h
  by_cases e : j = i
  · subst e
    rw [List.getElem?_set_self'] at hj
    cases hE : E[j]? with
    | none => rw [hE] at hj; cases hj
    | some y => rw [hE] at hj; simp at hj; exact .inl hj.symm
  · rw [List.getElem?_set_ne (fun h => e h.symm)] at hj
    exact .inr ⟨j, e, hj⟩

theorem Bag.set {E : List (Nat × Nat)} {L L' : List Nat} (h : Bag E L) {i c t t' : Nat} (hi : E[i]? = some (c, t)) (h1 : L'.count c = t') (h2 : ∀ d, d ≠ c → L'.count d = L.count d) : Bag (E.set i (c, t')) L' := by
  have hmem : ∀ d, (∀ x, x ∈ E.set i (c, t') → x.1 ≠ d) → (∀ x, x ∈ E → x.1 ≠ d) ∧ d ≠ c := by
    intro d hd
    have hil : i < E.length := (List.getElem?_eq_some_iff.1 hi).1
    have hc : (c, t') ∈ E.set i (c, t') := List.mem_set hil _
    have hdc : d ≠ c := fun e => hd _ hc e.symm
    refine ⟨fun x hx e => ?_, hdc⟩
    obtain ⟨j, hj⟩ := List.getElem?_of_mem hx
    by_cases hji : j = i
    · subst hji; rw [hi] at hj; cases hj; exact hdc e.symm
    · exact hd x (List.mem_of_getElem? (i := j) (by rw [List.getElem?_set_ne (fun h => hji h.symm)]; exact hj)) e
  refine ⟨fun x hx => ?_, fun d hd => ?_, fun a b x y hx hy hxy => ?_⟩
  · rcases set_mem hx with rfl | ⟨j, hj, hjx⟩
    · exact h1
    · have hne : x.1 ≠ c := fun e => hj (h.once j i x (c, t) hjx hi e)
      rw [h2 _ hne]; exact h.count x (List.mem_of_getElem? hjx)
  · obtain ⟨ha, hb⟩ := hmem d hd
    rw [h2 d hb]; exact h.none d ha
  · have hval : ∀ (a : Nat) (x : Nat × Nat), (E.set i (c, t'))[a]? = some x → ∃ x', E[a]? = some x' ∧ x'.1 = x.1 := by
      intro a x hx
      by_cases e : a = i
      · subst e
        rw [List.getElem?_set_self', hi] at hx
        simp at hx
        exact ⟨(c, t), hi, by rw [← hx]⟩
      · rw [List.getElem?_set_ne (fun h => e h.symm)] at hx
        exact ⟨x, hx, rfl⟩
    obtain ⟨x', hx', e1⟩ := hval a x hx
    obtain ⟨y', hy', e2⟩ := hval b y hy
    exact h.once a b x' y' hx' hy' (by rw [e1, e2, hxy])

theorem Bag.add {E : List (Nat × Nat)} {L : List Nat} (h : Bag E L) {i c t : Nat} (hi : E[i]? = some (c, t)) : Bag (E.set i (c, t + 1)) (L ++ [c]) :=
  h.set hi (by have := h.count (c, t) (List.mem_of_getElem? hi); rw [List.count_append]; simp only at this; rw [this]; simp) (fun d hd => by
    rw [List.count_append, List.count_eq_zero_of_not_mem (l := [c]) (by simpa using hd)]; rfl)
theorem Bag.drop {E : List (Nat × Nat)} {L : List Nat} (h : Bag E L) {i c t : Nat} (hi : E[i]? = some (c, t)) : Bag (E.set i (c, t - 1)) (L.erase c) :=
  h.set hi (by have := h.count (c, t) (List.mem_of_getElem? hi); rw [List.count_erase_self]; simp only at this; rw [this]) (fun d hd => List.count_erase_of_ne hd)
theorem Bag.new {E : List (Nat × Nat)} {L : List Nat} (h : Bag E L) {c : Nat} (hc : ∀ x, x ∈ E → x.1 ≠ c) : Bag (E ++ [(c, 1)]) (L ++ [c]) := by
  refine ⟨fun x hx => ?_, fun d hd => ?_, fun a b x y hx hy hxy => ?_⟩
  · rcases List.mem_append.1 hx with hx | hx
    · rw [List.count_append, h.count x hx, List.count_eq_zero_of_not_mem (l := [c]) (by simpa using hc x hx)]; rfl
    · simp at hx; subst hx
      rw [List.count_append, h.none c hc]; simp
  · have hdc : d ≠ c := fun e => hd (c, 1) (by simp) e.symm
    rw [List.count_append, h.none d (fun x hx => hd x (by simp [hx])), List.count_eq_zero_of_not_mem (l := [c]) (by simpa using hdc)]
  · have hlt : ∀ (a : Nat) (x : Nat × Nat), (E ++ [(c, 1)])[a]? = some x → (E[a]? = some x ∧ a < E.length) ∨ (a = E.length ∧ x = (c, 1)) := by
      intro a x hx
      rcases Nat.lt_trichotomy a E.length with h | h | h
      · rw [List.getElem?_append_left h] at hx; exact .inl ⟨hx, h⟩
      · subst h; simp at hx; exact .inr ⟨rfl, hx.symm⟩
      · rw [List.getElem?_eq_none (by simp; omega)] at hx; cases hx
    rcases hlt a x hx with ⟨h1, h1'⟩ | ⟨h1, rfl⟩ <;> rcases hlt b y hy with ⟨h2, h2'⟩ | ⟨h2, rfl⟩
    · exact h.once a b x y h1 h2 hxy
    · exact absurd hxy (hc x (List.mem_of_getElem? h1))
    · exact absurd hxy.symm (hc y (List.mem_of_getElem? h2))
    · omega
theorem Bag.start : Bag [] [] := ⟨fun x hx => (by cases hx), fun c _ => rfl, fun i j x y hx => (by simp at hx)⟩

/-- The program's list in memory. -/
def Key (c : Nat) : Lit := .int .u32 (c : Int)
def Z0 : DataW Unit := .lit (.int .i64 0)
structure Places (D : DataW Unit) (E : List (Nat × Nat)) : Prop where
  there : ∀ (i : Nat) (x : Nat × Nat), E[i]? = some x → Maps.has D (Key x.1) = true ∧ D.atKey (Key x.1) Z0 = .lit (.int .i64 (i : Int))
  not : ∀ c, (∀ x, x ∈ E → x.1 ≠ c) → Maps.has D (Key c) = false

structure ListAt (base : Nat) (w : World) (p bm : Nat) (ev : Value) (D : DataW Unit) (E : List (Nat × Nat)) : Prop where
  block : w.heap[p]? = some (.cells #[ev, .map (some bm)] 86 (0, 0))
  lep : base ≤ p
  lem : base ≤ bm
  row : w.ownsRow base 102 2 ev E.length (ents E)
  map : w.ownsMap Tryd.prog 50 (plainElem Tryd.prog 3) bm E.length D
  places : Places D E

/-- The program's list stands for L. -/
def St (base : Nat) (w : World) (p bm n : Nat) (L : List Nat) : Prop := ∃ ev D E, ListAt base w p bm ev D E ∧ Bag E L ∧ E.length ≤ n

theorem Tryd.keyLaw : Keyed Tryd.prog 50 := int_keyed Tryd.underlying50
theorem Tryd.zeroInt (w : World) : (zeroValue 3).run Tryd.prog w = .ok (.int .i64 0) w := by kernel_rfl
theorem key_wf {c : Nat} (h : c < 2 ^ 24) : (Lit.int .u32 (c : Int)).wf = true := WalkArith.wf_u32 (by omega)
theorem keyOf_clause {c : Nat} (h : c < 2 ^ 24) : keyOf Tryd.prog 50 (.int .u32 (c : Int)) = some (Key c) := keyOf_int_mk Tryd.underlying50 (key_wf h)

end Go.Proofs.YtekkkoipcghlmaaDoor
