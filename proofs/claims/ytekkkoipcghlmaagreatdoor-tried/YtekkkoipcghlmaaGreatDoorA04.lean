import Derived.Test.YtekkkoipcghlmaaGreatDoorA03
import Derived.Test.YtekkkoipcghlmaaGreatDoorA01
import Derived.Deep.AppendLies
import Derived.Laws.OwnMore
import Derived.Test.YtekkkoipcghlmaaGreatDoorProg
set_option linter.all false
namespace Go.Proofs.YtekkkoipcghlmaaGreatDoor

/-- Between two visits: of the first n literals it is known what comes of them. -/
structure Rest (n : Nat) (cls : List Cl) (wat : Int → List Int) (tr : Tr) : Prop where
  trok : TrOK cls tr
  wf : ∀ (c : Nat) cl, cls[c]? = some cl → wfLits cl.lits
  lists : ∀ l, (wat l).Nodup ∧ ∀ p, p ∈ wat l ↔ Watcher cls l p
  ok : ∀ (c : Nat) cl, cls[c]? = some cl → WOK tr n cl.lits
  le : n ≤ tr.length
  top : ∀ i, n ≤ i → i < tr.length → lev tr i = levels tr
/-- A clause is false. -/
structure Struck (cls : List Cl) (wat : Int → List Int) (tr : Tr) (n : Nat) (bad : Int) : Prop where
  trok : TrOK cls tr
  wf : ∀ (c : Nat) cl, cls[c]? = some cl → wfLits cl.lits
  lists : ∀ l, (wat l).Nodup ∧ ∀ p, p ∈ wat l ↔ Watcher cls l p
  lt : n < tr.length
  top : lev tr n = levels tr
  ok : ∀ (c : Nat) cl, cls[c]? = some cl → WOK tr n cl.lits
  falls : ∃ (c : Nat) (cl : Cl), cls[c]? = some cl ∧ bad = (pos cls c : Int) ∧ ∀ x, x ∈ cl.lits → Tru tr (-x)

/-- The same clauses, their literals in another order. -/
def SameCl (a b : List Cl) : Prop := a.length = b.length ∧ ∀ (c : Nat) x y, a[c]? = some x → b[c]? = some y → x.used = y.used ∧ y.lits.Perm x.lits
theorem SameCl.refl (a : List Cl) : SameCl a a := ⟨rfl, fun c x y h1 h2 => by rw [h1] at h2; cases h2; exact ⟨rfl, List.Perm.refl _⟩⟩
theorem SameCl.get {a b : List Cl} (h : SameCl a b) {c : Nat} {y : Cl} (hc : b[c]? = some y) : ∃ x, a[c]? = some x ∧ x.used = y.used ∧ y.lits.Perm x.lits := by
  have hlt := (List.getElem?_eq_some_iff.1 hc).1
  rw [← h.1] at hlt
  exact ⟨a[c], List.getElem?_eq_getElem hlt, h.2 c _ y (List.getElem?_eq_getElem hlt) hc⟩
theorem SameCl.trans {a b d : List Cl} (h : SameCl a b) (h' : SameCl b d) : SameCl a d :=
  ⟨h.1.trans h'.1, fun c x z hx hz => by
    obtain ⟨y, hy, e1, p1⟩ := h'.get hz
    obtain ⟨e2, p2⟩ := h.2 c x y hx hy
    exact ⟨e2.trans e1, p1.trans p2⟩⟩
theorem SameCl.set {a : List Cl} {c : Nat} {cl : Cl} {l : List Int} (hc : a[c]? = some cl) (hp : l.Perm cl.lits) : SameCl a (a.set c ⟨cl.used, l⟩) := by
  have hlt := (List.getElem?_eq_some_iff.1 hc).1
  refine ⟨by simp, fun d x y hx hy => ?_⟩
  rcases get_set hlt hy with ⟨rfl, rfl⟩ | ⟨_, hy⟩
  · rw [hc] at hx; cases hx; exact ⟨rfl, hp⟩
  · rw [hx] at hy; cases hy; exact ⟨rfl, List.Perm.refl _⟩
theorem SameCl.place {a b : List Cl} (h : SameCl a b) (i : Nat) : pos b i = pos a i := by
  have key : ∀ n, n ≤ a.length → pos b n = pos a n := by
    intro n
    induction n with
    | zero => intro _; rw [pos_zero, pos_zero]
    | succ n ih =>
      intro hn
      have ha : n < a.length := by omega
      have hb : n < b.length := by have := h.1; omega
      rw [pos_succ a n ha, pos_succ b n hb, ih (by omega)]
      have := (h.2 n a[n] b[n] (List.getElem?_eq_getElem ha) (List.getElem?_eq_getElem hb)).2.length_eq
      omega
  rcases Nat.lt_or_ge a.length i with hi | hi
  · rw [pos_end a (by omega), pos_end b (by have := h.1; omega), ← pos_end a (Nat.le_refl _), ← pos_end b (Nat.le_refl _), ← h.1]
    exact key _ (Nat.le_refl _)
  · exact key i hi
theorem set_perm {y u : Int} : ∀ (r : List Int) (k : Nat), r[k]? = some y → (y :: r.set k u).Perm (u :: r)
  | [], k, h => by simp at h
  | a :: t, 0, h => by
    simp at h; subst h
    simp only [List.set_cons_zero]
    exact List.Perm.swap _ _ _
  | a :: t, k + 1, h => by
    rw [List.getElem?_cons_succ] at h
    have := set_perm (u := u) t k h
    simp only [List.set_cons_succ]
    exact (List.Perm.swap _ _ _).trans ((List.Perm.cons a this).trans (List.Perm.swap _ _ _))
theorem Stays.perm {tr : Tr} {u o : Int} {l l' : List Int} (h : Stays tr u l l' o) : l'.Perm l := by
  obtain ⟨r, hl, rfl, -⟩ := h
  rcases hl with rfl | rfl
  · exact List.Perm.refl _
  · exact List.Perm.swap _ _ _
theorem Moves.perm {tr : Tr} {u y : Int} {l l' : List Int} (h : Moves tr u l l' y) : l'.Perm l := by
  obtain ⟨o, r, k, hl, hk, rfl, -, -⟩ := h
  have h1 : (o :: y :: r.set k u).Perm (o :: u :: r) := List.Perm.cons o (set_perm r k hk)
  rcases hl with rfl | rfl
  · exact h1
  · exact h1.trans (List.Perm.swap _ _ _)
/-- What propagation may change. -/
def Went (a : List Cl) (tr : Tr) (b : List Cl) (tr' : Tr) : Prop := SameCl a b ∧ ∃ t, tr' = tr ++ t ∧ ∀ e, e ∈ t → dec e = false
theorem Went.refl (a : List Cl) (tr : Tr) : Went a tr a tr := ⟨SameCl.refl a, [], by simp, by simp⟩
theorem Went.trans {a b d : List Cl} {t1 t2 t3 : Tr} (h : Went a t1 b t2) (h' : Went b t2 d t3) : Went a t1 d t3 := by
  obtain ⟨s1, x, rfl, hx⟩ := h
  obtain ⟨s2, y, rfl, hy⟩ := h'
  refine ⟨s1.trans s2, x ++ y, by rw [List.append_assoc], fun e he => ?_⟩
  rcases List.mem_append.1 he with he | he
  · exact hx e he
  · exact hy e he

theorem lists_upd {cls : List Cl} {wat : Int → List Int} {u : Int} {stay : List Int} (h1 : ∀ l, l ≠ u → (wat l).Nodup ∧ ∀ p, p ∈ wat l ↔ Watcher cls l p) (h2 : stay.Nodup ∧ ∀ p, p ∈ stay ↔ Watcher cls u p) :
    ∀ l, (upd wat u stay l).Nodup ∧ ∀ p, p ∈ upd wat u stay l ↔ Watcher cls l p := by
  intro l
  unfold upd
  by_cases e : l = u
  · subst e; rw [if_pos rfl]; exact h2
  · rw [if_neg e]; exact h1 l e
theorem Rest.visit {n : Nat} {cls : List Cl} {wat : Int → List Int} {tr : Tr} (h : Rest n cls wat tr) {x r : Int} (hx : tr[n]? = some (x, r)) : Vis n (-x) cls wat tr [] (wat (-x)) (-1) := by
  have hlt := (List.getElem?_eq_some_iff.1 hx).1
  refine ⟨h.trok, h.wf, ⟨r, by rw [Int.neg_neg]; exact hx⟩, h.top n (Nat.le_refl _) hlt, fun l _ => h.lists l, by rw [List.nil_append]; exact h.lists (-x), h.ok, fun _ c cl hc hn => ?_, fun e => absurd rfl e⟩
  have hw := h.ok c cl hc
  rcases hw with hw | ⟨a, b, q, h1, h2, h3⟩
  · exact .inl hw
  · have hno : ¬ watched (-x) cl.lits := fun hww => hn ((h.lists (-x)).2 _ |>.2 ((watcher_self hc).2 hww))
    rw [h1, watched_two] at hno
    have up : ∀ {a b : Int}, Watch tr n a b → ¬ (-x) = a → Watch tr (n + 1) a b := fun {a b} hw hne i s hi hs => by
      by_cases e : i = n
      · subst e
        rw [hx] at hs
        simp at hs
        exact absurd (by omega) hne
      · exact hw i s (by omega) hs
    exact .inr ⟨a, b, q, h1, up h2 (fun e => hno (.inl e)), up h3 (fun e => hno (.inr e))⟩
theorem Vis.rest {n : Nat} {u : Int} {cls : List Cl} {wat : Int → List Int} {tr : Tr} {stay : List Int} (h : Vis n u cls wat tr stay [] (-1)) : Rest (n + 1) cls (upd wat u stay) tr := by
  have hlt := h.lt
  refine ⟨h.trok, h.wf, lists_upd h.lists (by have := h.own; rw [List.append_nil] at this; exact this), fun c cl hc => h.high rfl c cl hc (by simp), by omega, fun i hi hl => ?_⟩
  have h1 := lev_mono tr (i := n) (j := i) (by omega)
  have h2 := lev_le tr i
  have := h.top
  omega
theorem Vis.struck {n : Nat} {u : Int} {cls : List Cl} {wat : Int → List Int} {tr : Tr} {stay : List Int} {bad : Int} (h : Vis n u cls wat tr stay [] bad) (hb : bad ≠ -1) : Struck cls (upd wat u stay) tr n bad :=
  ⟨h.trok, h.wf, lists_upd h.lists (by have := h.own; rw [List.append_nil] at this; exact this), h.lt, h.top, h.low, h.falls hb⟩

end Go.Proofs.YtekkkoipcghlmaaGreatDoor

namespace Go.Proofs.YtekkkoipcghlmaaGreatDoor
open Go.RowKit

theorem belowDrew {B : Nat} {a w : World} (h : Below B a w) (q : Nat) : Below B a (w.drewN q) := h.trans ⟨rfl, rfl, rfl, Nat.le_refl _, fun _ _ => rfl⟩
/-- All blocks but some stay. -/
structure Only (F : Nat → Prop) (w w' : World) : Prop where
  os : w'.os = w.os
  tape : w'.tape = w.tape
  output : w'.output = w.output
  size : w.heap.size ≤ w'.heap.size
  block : ∀ k, k < w.heap.size → ¬ F k → w'.heap[k]? = w.heap[k]?

section
variable {F G : Nat → Prop} {a b c w w' : World}
theorem Only.refl (F : Nat → Prop) (w : World) : Only F w w := ⟨rfl, rfl, rfl, Nat.le_refl _, fun _ _ _ => rfl⟩
theorem Only.trans (h : Only F a b) (h' : Only F b c) : Only F a c :=
  ⟨h'.os.trans h.os, h'.tape.trans h.tape, h'.output.trans h.output, Nat.le_trans h.size h'.size, fun k hk hn => (h'.block k (Nat.lt_of_lt_of_le hk h.size) hn).trans (h.block k hk hn)⟩
theorem Only.weaken (h : Only F a b) (hF : ∀ k, k < a.heap.size → F k → G k) : Only G a b := ⟨h.os, h.tape, h.output, h.size, fun k hk hn => h.block k hk (fun hf => hn (hF k hk hf))⟩
theorem Only.of_below (F : Nat → Prop) (h : Below a.heap.size a b) : Only F a b := ⟨h.os, h.tape, h.output, h.size, fun k hk _ => h.block k hk⟩
theorem Only.alloc (F : Nat → Prop) (w : World) (o : Obj) : Only F w (w.alloc o) := Only.of_below F ((Below.refl _ _).alloc (Nat.le_refl _) o)
theorem Only.setCell {p : Addr} (hp : F p.block) (w : World) (u : Value) : Only F w (w.setCell p u) :=
  ⟨rfl, rfl, rfl, by simp [World.setCell], fun k _ hn => Below.heap_setCell _ _ _ _ (fun e => hn (by rw [e]; exact hp))⟩
theorem Only.grown {row : Option Nat} (hg : w.grownBy w' row) (hr : ∀ k, row = some k → F k) : Only F w w' :=
  ⟨hg.os, hg.tape, hg.output, hg.size, fun k hk hn => hg.block k hk (fun e => hn (hr k e.symm))⟩
theorem Only.below {B : Nat} (h : Only F w w') (hF : ∀ k, F k → B ≤ k) (hB : B ≤ w.heap.size) : Below B w w' :=
  ⟨h.os, h.tape, h.output, h.size, fun k hk => h.block k (by omega) (fun hf => by have := hF k hf; omega)⟩
end

theorem owns_at {w w' : World} {base : Nat} {e : TypeId} {s : Nat} {v : Value} {n : Nat} {xs : List Value} (h : w.ownsRow base e s v n xs) (hb : ∀ g, v.ownBlock = some g → w'.heap[g]? = w.heap[g]?) : w'.ownsRow base e s v n xs := by
  obtain ⟨h1, h2⟩ := h
  refine ⟨h1, ?_⟩
  rcases h2 with h2 | ⟨g, cap, cur, hv, h3, h4, h5⟩
  · exact .inl h2
  · exact .inr ⟨g, cap, cur, hv, h3, (hb g (by rw [hv]; rfl)).trans h4, h5⟩
theorem lt_of_block {w : World} {p : Nat} {o : Obj} (h : w.heap[p]? = some o) : p < w.heap.size := (Array.getElem?_eq_some_iff.1 h).1
/-- A row lies in no block of another make. -/
theorem row_ne {w : World} {base : Nat} {e : TypeId} {s : Nat} {v : Value} {n : Nat} {xs : List Value} (h : w.ownsRow base e s v n xs) {p : Nat} {cs : Array Value} {t : TypeId} {fz : Nat × Nat} (hp : w.heap[p]? = some (.cells cs t fz)) (ht : t ≠ e) : v.ownBlock ≠ some p := by
  intro he
  rcases h.2 with ⟨hv, _⟩ | ⟨g, cap, cur, hv, _, hg, _⟩
  · rw [hv] at he; cases he
  · rw [hv] at he
    simp [Value.ownBlock] at he
    subst he
    rw [hp] at hg
    simp at hg
    exact ht hg.2.1

end Go.Proofs.YtekkkoipcghlmaaGreatDoor

namespace Go.Proofs.YtekkkoipcghlmaaGreatDoor
open Go.RowKit

/-- A list's row; or, as a row of one entry, a struct's block. -/
structure Row where
  ty : TypeId
  sz : Nat
  v : Value
  n : Nat
  xs : List Value
def Row.ok (base : Nat) (w : World) (r : Row) : Prop := w.ownsRow base r.ty r.sz r.v r.n r.xs
/-- Rows that lie apart. -/
structure Pack (base : Nat) (w : World) (L : List Row) : Prop where
  rows : ∀ (i : Nat) r, L[i]? = some r → r.ok base w
  apart : ∀ (i j : Nat) r r' g, L[i]? = some r → L[j]? = some r' → r.v.ownBlock = some g → r'.v.ownBlock = some g → i = j
def foot (L : List Row) (k : Nat) : Prop := ∃ (i : Nat) (r : Row), L[i]? = some r ∧ r.v.ownBlock = some k
/-- What a call on such rows may do: it changes them alone, and takes new memory alone. -/
structure PMut (base : Nat) (w : World) (L : List Row) (w' : World) (L' : List Row) : Prop where
  pack : Pack base w' L'
  only : Only (foot L) w w'
  grows : ∀ k, foot L' k → foot L k ∨ w.heap.size ≤ k

theorem Only.then {F G : Nat → Prop} {a b c : World} (h : Only F a b) (h' : Only G b c) (hG : ∀ k, G k → F k ∨ a.heap.size ≤ k) : Only F a c :=
  ⟨h'.os.trans h.os, h'.tape.trans h.tape, h'.output.trans h.output, Nat.le_trans h.size h'.size, fun k hk hn => (h'.block k (Nat.lt_of_lt_of_le hk h.size) (fun hg => by
    rcases hG k hg with hf | hf
    · exact hn hf
    · omega)).trans (h.block k hk hn)⟩
section
variable {base : Nat} {w w' w1 w2 : World} {L L' L1 L2 E : List Row} {r : Row} {i : Nat}
theorem Pack.lt (h : Pack base w L) {k : Nat} (hk : foot L k) : base ≤ k ∧ k < w.heap.size := by
  obtain ⟨i, r, hi, hr⟩ := hk
  exact (h.rows i r hi).lt k hr
theorem Pack.keep (h : Pack base w L) (hk : ∀ k, foot L k → w'.heap[k]? = w.heap[k]?) : Pack base w' L :=
  ⟨fun i r hi => owns_at (h.rows i r hi) (fun g hg => hk g ⟨i, r, hi, hg⟩), h.apart⟩
theorem Pack.below (h : Pack base w L) (hb : Below w.heap.size w w') : Pack base w' L := h.keep (fun _ hk => hb.block _ (h.lt hk).2)
theorem PMut.refl (h : Pack base w L) : PMut base w L w L := ⟨h, Only.refl _ _, fun _ hk => .inl hk⟩
theorem PMut.below (h : Pack base w L) (hb : Below w.heap.size w w') : PMut base w L w' L := ⟨h.below hb, Only.of_below _ hb, fun _ hk => .inl hk⟩
theorem PMut.trans (h : PMut base w L w1 L1) (h' : PMut base w1 L1 w2 L2) : PMut base w L w2 L2 :=
  ⟨h'.pack, h.only.then h'.only h.grows, fun k hk => by
    rcases h'.grows k hk with h1 | h1
    · exact h.grows k h1
    · exact .inr (Nat.le_trans h.only.size h1)⟩
theorem PMut.toBelow (h : PMut base w L w' L') (hp : Pack base w L) {b : Nat} (hb : b ≤ base) (hs : b ≤ w.heap.size) : Below b w w' := h.only.below (fun k hk => by have := (hp.lt hk).1; omega) hs
theorem foot_append {k : Nat} : foot (L ++ E) k ↔ foot L k ∨ foot E k := by
  constructor
  · rintro ⟨i, r, hi, hr⟩
    by_cases h : i < L.length
    · rw [List.getElem?_append_left h] at hi; exact .inl ⟨i, r, hi, hr⟩
    · rw [List.getElem?_append_right (by omega)] at hi; exact .inr ⟨_, r, hi, hr⟩
  · rintro (⟨i, r, hi, hr⟩ | ⟨i, r, hi, hr⟩)
    · exact ⟨i, r, by rw [List.getElem?_append_left (List.getElem?_eq_some_iff.1 hi).1]; exact hi, hr⟩
    · exact ⟨L.length + i, r, by rw [List.getElem?_append_right (by omega), Nat.add_sub_cancel_left]; exact hi, hr⟩
theorem Pack.left (h : Pack base w (L ++ E)) : Pack base w L :=
  ⟨fun i r hi => h.rows i r (by rw [List.getElem?_append_left (List.getElem?_eq_some_iff.1 hi).1]; exact hi), fun i j r r' g hi hj hr hr' => h.apart i j r r' g (by rw [List.getElem?_append_left (List.getElem?_eq_some_iff.1 hi).1]; exact hi) (by rw [List.getElem?_append_left (List.getElem?_eq_some_iff.1 hj).1]; exact hj) hr hr'⟩
theorem Pack.right (h : Pack base w (L ++ E)) : Pack base w E :=
  ⟨fun i r hi => h.rows (L.length + i) r (by rw [List.getElem?_append_right (by omega), Nat.add_sub_cancel_left]; exact hi), fun i j r r' g hi hj hr hr' => by
    have := h.apart (L.length + i) (L.length + j) r r' g (by rw [List.getElem?_append_right (by omega), Nat.add_sub_cancel_left]; exact hi) (by rw [List.getElem?_append_right (by omega), Nat.add_sub_cancel_left]; exact hj) hr hr'
    omega⟩
theorem Pack.not_both (h : Pack base w (L ++ E)) {k : Nat} (h1 : foot L k) (h2 : foot E k) : False := by
  obtain ⟨i, r, hi, hr⟩ := h1
  obtain ⟨j, r', hj, hr'⟩ := h2
  have hlt := (List.getElem?_eq_some_iff.1 hi).1
  have := h.apart i (L.length + j) r r' k (by rw [List.getElem?_append_left hlt]; exact hi) (by rw [List.getElem?_append_right (by omega), Nat.add_sub_cancel_left]; exact hj) hr hr'
  omega
theorem Pack.join (h1 : Pack base w L) (h2 : Pack base w E) (hn : ∀ k, foot L k → foot E k → False) : Pack base w (L ++ E) := by
  refine ⟨fun i r hi => ?_, fun i j r r' g hi hj hr hr' => ?_⟩
  · by_cases h : i < L.length
    · rw [List.getElem?_append_left h] at hi; exact h1.rows i r hi
    · rw [List.getElem?_append_right (by omega)] at hi; exact h2.rows _ r hi
  · by_cases h : i < L.length
    · rw [List.getElem?_append_left h] at hi
      by_cases h' : j < L.length
      · rw [List.getElem?_append_left h'] at hj; exact h1.apart i j r r' g hi hj hr hr'
      · rw [List.getElem?_append_right (by omega)] at hj; exact (hn g ⟨i, r, hi, hr⟩ ⟨_, r', hj, hr'⟩).elim
    · rw [List.getElem?_append_right (by omega)] at hi
      by_cases h' : j < L.length
      · rw [List.getElem?_append_left h'] at hj; exact (hn g ⟨j, r', hj, hr'⟩ ⟨_, r, hi, hr⟩).elim
      · rw [List.getElem?_append_right (by omega)] at hj
        have := h2.apart _ _ r r' g hi hj hr hr'
        omega
/-- Rows beside stay. -/
theorem PMut.frame (h : PMut base w L w' L') (hp : Pack base w (L ++ E)) : PMut base w (L ++ E) w' (L' ++ E) := by
  have hE : Pack base w' E := hp.right.keep (fun k hk => h.only.block k (hp.right.lt hk).2 (fun hf => hp.not_both hf hk))
  refine ⟨h.pack.join hE (fun k h1 h2 => ?_), h.only.weaken (fun k _ hf => foot_append.2 (.inl hf)), fun k hk => ?_⟩
  · rcases h.grows k h1 with h3 | h3
    · exact hp.not_both h3 h2
    · have := (hp.right.lt h2).2; omega
  · rcases foot_append.1 hk with h1 | h1
    · rcases h.grows k h1 with h3 | h3
      · exact .inl (foot_append.2 (.inl h3))
      · exact .inr h3
    · exact .inl (foot_append.2 (.inr h1))
/-- A list that lies beside the rows. -/
theorem PMut.lies (h : PMut base w L w' L') {v : Value} {vs : List Value} (hl : Lies w v vs) (hn : ∀ k, v.ownBlock = some k → ¬ foot L k) : Lies w' v vs := by
  rcases hl with hl | ⟨b, off, cap, hp, hv, hlt, hc⟩
  · exact .inl hl
  · refine .inr ⟨b, off, cap, hp, hv, Nat.lt_of_lt_of_le hlt h.only.size, fun k x hx => ?_⟩
    rw [← hc k x hx]
    exact World.cell?_of_block (h.only.block b hlt (hn b (by rw [hv]; rfl)))

theorem set_get {α : Type} {l : List α} {i j : Nat} {x y : α} (h : (l.set i x)[j]? = some y) : (j = i ∧ i < l.length ∧ y = x) ∨ (j ≠ i ∧ l[j]? = some y) := by
  by_cases e : j = i
  · subst e
    have hlt := (List.getElem?_eq_some_iff.1 h).1
    rw [List.length_set] at hlt
    rw [List.getElem?_set_self hlt] at h
    cases h
    exact .inl ⟨rfl, hlt, rfl⟩
  · rw [List.getElem?_set_ne (fun h => e h.symm)] at h; exact .inr ⟨e, h⟩
/-- One row is another one now: in its own block, or in a new one. -/
theorem PMut.row (hp : Pack base w L) (hi : L[i]? = some r) {r' : Row} (hr : r'.ok base w') (hg : w.grownBy w' r.v.ownBlock) (hloc : r'.v.ownBlock = none ∨ r'.v.ownBlock = r.v.ownBlock ∨ ∃ g, r'.v.ownBlock = some g ∧ w.heap.size ≤ g) : PMut base w L w' (L.set i r') := by
  have hlt := (List.getElem?_eq_some_iff.1 hi).1
  have loc : ∀ g, r'.v.ownBlock = some g → r.v.ownBlock = some g ∨ w.heap.size ≤ g := by
    intro g hg
    rcases hloc with h | h | ⟨g', h, h'⟩
    · rw [h] at hg; cases hg
    · exact .inl (by rw [← h]; exact hg)
    · rw [h] at hg; cases hg; exact .inr h'
  have other : ∀ (j : Nat) q g, j ≠ i → L[j]? = some q → q.v.ownBlock = some g → r'.v.ownBlock = some g → False := by
    intro j q g hj hq hqg hrg
    rcases loc g hrg with h | h
    · exact hj (hp.apart j i q r g hq hi hqg h)
    · have := (hp.lt ⟨j, q, hq, hqg⟩).2; omega
  refine ⟨⟨fun j q hj => ?_, fun j k q q' g hj hk hq hq' => ?_⟩, ?_, ?_⟩
  · rcases set_get hj with ⟨rfl, _, rfl⟩ | ⟨hne, hj⟩
    · exact hr
    · refine (hp.rows j q hj).kept hg ?_
      cases hq : q.v.ownBlock with
      | none => exact .inl rfl
      | some g => exact .inr (fun e => hne (hp.apart j i q r g hj hi hq e.symm))
  · rcases set_get hj with ⟨e1, _, e2⟩ | ⟨hne, hj1⟩ <;> rcases set_get hk with ⟨e3, _, e4⟩ | ⟨hne', hk1⟩
    · rw [e1, e3]
    · exact (other k q' g hne' hk1 hq' (by rw [← e2]; exact hq)).elim
    · exact (other j q g hne hj1 hq (by rw [← e4]; exact hq')).elim
    · exact hp.apart j k q q' g hj1 hk1 hq hq'
  · exact Only.grown hg (fun k hk => ⟨i, r, hi, hk⟩)
  · rintro k ⟨j, q, hj, hq⟩
    rcases set_get hj with ⟨rfl, _, rfl⟩ | ⟨_, hj⟩
    · rcases loc k hq with h | h
      · exact .inl ⟨_, r, hi, h⟩
      · exact .inr h
    · exact .inl ⟨j, q, hj, hq⟩
/-- A cell of a row is written. -/
theorem PMut.store (hp : Pack base w L) (hi : L[i]? = some r) {g cap : Nat} (hv : r.v = .slice (some ⟨g, 0, none⟩) r.n cap) (j : Nat) (u : Value) : PMut base w L (w.setCell ⟨g, j, none⟩ u) (L.set i ⟨r.ty, r.sz, r.v, r.n, r.xs.set j u⟩) := by
  have h := hp.rows i r hi
  unfold Row.ok at h
  rw [hv] at h
  have h2 := h.stored j u
  refine PMut.row hp hi (r' := ⟨r.ty, r.sz, r.v, r.n, r.xs.set j u⟩) ?_ ?_ (.inr (.inl rfl))
  · unfold Row.ok; rw [hv]; exact h2.1
  · rw [hv]; exact h2.2
/-- A row is cut. -/
theorem owns_cut {e : TypeId} {s g n cap m : Nat} {xs : List Value} (h : w.ownsRow base e s (.slice (some ⟨g, 0, none⟩) n cap) n xs) (hm : m ≤ n) : w.ownsRow base e s (.slice (some ⟨g, 0, none⟩) m cap) m (xs.take (m * s)) := by
  obtain ⟨h1, h2⟩ := h
  refine ⟨by rw [List.length_take, h1]; exact Nat.min_eq_left (Nat.mul_le_mul_right _ hm), ?_⟩
  rcases h2 with ⟨h0, _⟩ | ⟨g', cap', cur, hv, hg, hh, hn, hcap, hsz, htake⟩
  · cases h0
  · cases hv
    refine .inr ⟨g, cap, cur, rfl, hg, hh, by omega, hcap, hsz, ?_⟩
    rw [← htake, List.take_take, Nat.min_eq_left (Nat.mul_le_mul_right _ hm)]
theorem grown_refl (w : World) (row : Option Nat) : w.grownBy w row := ⟨rfl, rfl, rfl, Nat.le_refl _, fun _ _ _ => rfl⟩
theorem PMut.cut (hp : Pack base w L) (hi : L[i]? = some r) {g cap m : Nat} (hv : r.v = .slice (some ⟨g, 0, none⟩) r.n cap) (hm : m ≤ r.n) : PMut base w L w (L.set i ⟨r.ty, r.sz, .slice (some ⟨g, 0, none⟩) m cap, m, r.xs.take (m * r.sz)⟩) := by
  have h := hp.rows i r hi
  unfold Row.ok at h
  rw [hv] at h
  exact PMut.row hp hi (r' := ⟨r.ty, r.sz, .slice (some ⟨g, 0, none⟩) m cap, m, r.xs.take (m * r.sz)⟩) (owns_cut h hm) (grown_refl _ _) (.inr (.inl (by rw [hv]; rfl)))
/-- A new row beside. -/
theorem Pack.add (hp : Pack base w L) (hr : r.ok base w') (hb : Below w.heap.size w w') (hn : ∀ g, r.v.ownBlock = some g → w.heap.size ≤ g) : Pack base w' (L ++ [r]) := by
  refine (hp.below hb).join ⟨fun i q hi => ?_, fun i j q q' g hi hj _ _ => ?_⟩ (fun k h1 h2 => ?_)
  · have hl := (List.getElem?_eq_some_iff.1 hi).1
    simp at hl
    subst hl
    simp at hi
    rw [← hi]; exact hr
  · have h1 := (List.getElem?_eq_some_iff.1 hi).1
    have h2 := (List.getElem?_eq_some_iff.1 hj).1
    simp at h1 h2
    omega
  · obtain ⟨i, q, hi, hq⟩ := h2
    have hl := (List.getElem?_eq_some_iff.1 hi).1
    simp at hl
    subst hl
    simp at hi
    subst hi
    have := hn k hq
    have := (hp.lt h1).2
    omega
/-- A struct's block as a row. -/
theorem owns_struct {s : Nat} {cs : Array Value} {t : TypeId} (h : w.heap[s]? = some (.cells cs t (0, 0))) (hb : base ≤ s) : w.ownsRow base t cs.size (.slice (some ⟨s, 0, none⟩) 1 1) 1 cs.toList :=
  ⟨by simp, .inr ⟨s, 1, cs, rfl, hb, h, Nat.le_refl _, by unfold maxLen; omega, by simp, by rw [Nat.one_mul]; exact List.take_of_length_le (by simp)⟩⟩
end

end Go.Proofs.YtekkkoipcghlmaaGreatDoor

namespace Go.Proofs.YtekkkoipcghlmaaGreatDoor
open Go.RowKit

/-- A search's memory: its blocks and lists, and what stands in them. (odr, ordr: what lies in the row of the order; the search's own slice od of it may be shorter.) -/
structure Mem where
  s : Nat
  q : Nat
  qb : Nat
  cl : Value
  wl : Value
  fa : Value
  od : Value
  odr : Value
  st : Value
  al : Value
  co : Value
  pl : Value
  asm : Value
  sp : Value
  ws : List Value
  store : List Int
  facts : List Int
  order : List Int
  ordr : List Int
  starts : List Int
  all : List Int
  counts : List Int
  places : List Int
  assumed : List Int
  lists : List (List Int)
  steps : List Value
  nsteps : Nat
  passed : Int
  rlen : Int
  rmet : Int
  given : Int
  broken : Int
  conflicts : Int
  qc : Int

def structRow (t : TypeId) (b : Nat) (xs : List Value) : Row := ⟨t, xs.length, .slice (some ⟨b, 0, none⟩) 1 1, 1, xs⟩
def Mem.sCells (m : Mem) : List Value := [m.cl, .int .i64 12, m.wl, m.fa, m.od, m.st, .int .i64 m.passed, .pointer (some ⟨m.q, 0, none⟩), .int .i64 m.rlen, .int .i64 m.rmet, .int .i64 m.given, .int .i64 m.broken, m.asm, .int .i64 m.conflicts, m.sp]
def Mem.qCells (m : Mem) : List Value := [.func (.func 107) #[] #[.pointer (some ⟨m.qb, 0, none⟩)], .func (.func 108) #[] #[.pointer (some ⟨m.qb, 0, none⟩)], m.al, m.co, m.pl, .int .i64 m.qc]
def intRow (v : Value) (l : List Int) : Row := ⟨3, 1, v, l.length, ints l⟩
def listRow (x : Value × List Int) : Row := ⟨117, 1, x.1, x.2.length, ints x.2⟩
/-- The rows: 0 the search, 1 the queue, 2 the box that its functions hold, 3 the clauses, 4 the lists of the watches, 5 the facts, 6 the order, 7 the starts, 8 the heap, 9 the counts, 10 the places, 11 what is assumed, 12 the steps; then each watch's list. -/
def Mem.rows (m : Mem) : List Row :=
  structRow 120 m.s m.sCells :: structRow 161 m.q m.qCells :: structRow 112 m.qb [.pointer (some ⟨m.q, 0, none⟩)] :: intRow m.cl m.store :: ⟨227, 1, m.wl, m.ws.length, m.ws⟩ :: ⟨170, 3, m.fa, 13, ints m.facts⟩ ::
  intRow m.odr m.ordr :: intRow m.st m.starts :: intRow m.al m.all :: intRow m.co m.counts :: intRow m.pl m.places :: intRow m.asm m.assumed :: ⟨131, 2, m.sp, m.nsteps, m.steps⟩ :: (m.ws.zip m.lists).map listRow
/-- The search lies there, apart from all else. -/
structure SAt (base : Nat) (w : World) (m : Mem) : Prop where
  pack : Pack base w m.rows
  ws : m.ws.length = 25
  ls : m.lists.length = 25
  counts : m.counts.length = 13
  places : m.places.length = 13

section
variable {base : Nat} {w : World} {m : Mem}
theorem SAt.cell (h : SAt base w m) (j : Nat) (hj : j < 15) : w.cell? ⟨m.s, j, none⟩ = m.sCells[j]? := by
  have := h.pack.rows 0 _ rfl
  exact World.ownsRow.cellAt this j (by simpa [structRow, Mem.sCells] using hj)
theorem SAt.free (h : SAt base w m) (j : Nat) : w.frozen? ⟨m.s, j, none⟩ = false := World.ownsRow.frozenAt (h.pack.rows 0 _ rfl) j
theorem SAt.qcell (h : SAt base w m) (j : Nat) (hj : j < 6) : w.cell? ⟨m.q, j, none⟩ = m.qCells[j]? := by
  have := h.pack.rows 1 _ rfl
  exact World.ownsRow.cellAt this j (by simpa [structRow, Mem.qCells] using hj)
theorem SAt.qfree (h : SAt base w m) (j : Nat) : w.frozen? ⟨m.q, j, none⟩ = false := World.ownsRow.frozenAt (h.pack.rows 1 _ rfl) j
theorem SAt.bcell (h : SAt base w m) : w.cell? ⟨m.qb, 0, none⟩ = some (.pointer (some ⟨m.q, 0, none⟩)) := World.ownsRow.cellAt (h.pack.rows 2 _ rfl) 0 (by simp [structRow])
theorem SAt.below {w' : World} (h : SAt base w m) (hb : Below w.heap.size w w') : SAt base w' m := ⟨h.pack.below hb, h.ws, h.ls, h.counts, h.places⟩
end

/-- What a call on the search may do. -/
structure Mut (base : Nat) (w : World) (m : Mem) (w' : World) (m' : Mem) : Prop where
  to : PMut base w m.rows w' m'.rows
  ws : m'.ws.length = 25
  ls : m'.lists.length = 25
  counts : m'.counts.length = 13
  places : m'.places.length = 13
  s : m'.s = m.s
  q : m'.q = m.q
  qb : m'.qb = m.qb
section
variable {base : Nat} {w w' w1 w2 : World} {m m' m1 m2 : Mem}
theorem Mut.at (h : Mut base w m w' m') : SAt base w' m' := ⟨h.to.pack, h.ws, h.ls, h.counts, h.places⟩
theorem Mut.refl (h : SAt base w m) : Mut base w m w m := ⟨PMut.refl h.pack, h.ws, h.ls, h.counts, h.places, rfl, rfl, rfl⟩
theorem Mut.below (h : SAt base w m) (hb : Below w.heap.size w w') : Mut base w m w' m := ⟨PMut.below h.pack hb, h.ws, h.ls, h.counts, h.places, rfl, rfl, rfl⟩
theorem Mut.trans (h : Mut base w m w1 m1) (h' : Mut base w1 m1 w2 m2) : Mut base w m w2 m2 := ⟨h.to.trans h'.to, h'.ws, h'.ls, h'.counts, h'.places, h'.s.trans h.s, h'.q.trans h.q, h'.qb.trans h.qb⟩
end

end Go.Proofs.YtekkkoipcghlmaaGreatDoor
