import Derived.Test.YtekkkoipcghlmaaGreatDoorA20
import Derived.Test.YtekkkoipcghlmaaGreatDoorA04
import Derived.Test.YtekkkoipcghlmaaGreatDoorA22
set_option linter.all false
namespace Go.Proofs.YtekkkoipcghlmaaGreatDoor
open Go.RowKit

section
variable {cls cls' : List Cl} {cl : Cl} {wat : Int → List Int} {tr : Tr} {n : Nat} {l p : Int}
theorem watcher_more : Watcher (cls ++ [cl]) l p ↔ Watcher cls l p ∨ (p = ((flat cls).length : Int) ∧ watched l cl.lits) := by
  constructor
  · rintro ⟨c, d, hc, hp, hw⟩
    by_cases h : c < cls.length
    · rw [List.getElem?_append_left h] at hc
      exact .inl ⟨c, d, hc, by rw [hp, pos_append _ _ (by omega)], hw⟩
    · have hlt := (List.getElem?_eq_some_iff.1 hc).1
      simp at hlt
      have : c = cls.length := by omega
      subst this
      simp at hc
      subst hc
      exact .inr ⟨by rw [hp, pos_append _ _ (Nat.le_refl _), pos_end _ (Nat.le_refl _)], hw⟩
  · rintro (⟨c, d, hc, hp, hw⟩ | ⟨hp, hw⟩)
    · have hlt := (List.getElem?_eq_some_iff.1 hc).1
      exact ⟨c, d, by rw [List.getElem?_append_left hlt]; exact hc, by rw [pos_append _ _ (by omega)]; exact hp, hw⟩
    · exact ⟨cls.length, cl, by simp, by rw [hp, pos_append _ _ (Nat.le_refl _), pos_end _ (Nat.le_refl _)], hw⟩
theorem watcher_lt (h : Watcher cls l p) : p < ((flat cls).length : Int) := by
  obtain ⟨c, d, hc, hp, -⟩ := h
  have hlt := (List.getElem?_eq_some_iff.1 hc).1
  have := flat_room cls c hlt
  omega
/-- A clause more is watched. -/
def addWat (wat : Int → List Int) (lits : List Int) (p : Int) : Int → List Int := fun l => match lits with
  | a :: b :: _ => if l = a ∨ l = b then wat l ++ [p] else wat l
  | _ => wat l
theorem lists_more (h : ∀ l, (wat l).Nodup ∧ ∀ p, p ∈ wat l ↔ Watcher cls l p) (cl : Cl) : ∀ l, (addWat wat cl.lits ((flat cls).length : Int) l).Nodup ∧ ∀ p, p ∈ addWat wat cl.lits ((flat cls).length : Int) l ↔ Watcher (cls ++ [cl]) l p := by
  intro l
  obtain ⟨h1, h2⟩ := h l
  have hno : ((flat cls).length : Int) ∉ wat l := fun hm => by
    have := watcher_lt ((h2 _).1 hm); omega
  have none : ¬ watched l cl.lits → addWat wat cl.lits ((flat cls).length : Int) l = wat l → (addWat wat cl.lits ((flat cls).length : Int) l).Nodup ∧ ∀ p, p ∈ addWat wat cl.lits ((flat cls).length : Int) l ↔ Watcher (cls ++ [cl]) l p := by
    intro hn he
    rw [he]
    refine ⟨h1, fun p => ?_⟩
    rw [watcher_more, h2]
    constructor
    · exact .inl
    · rintro (h | ⟨-, h⟩)
      · exact h
      · exact absurd h hn
  cases hl : cl.lits with
  | nil => rw [← hl]; exact none (by rw [hl]; rintro ⟨a, b, r, h, -⟩; cases h) (by unfold addWat; rw [hl])
  | cons a t =>
    cases t with
    | nil => rw [← hl]; exact none (by rw [hl]; rintro ⟨a, b, r, h, -⟩; cases h) (by unfold addWat; rw [hl])
    | cons b r =>
      by_cases e : l = a ∨ l = b
      · unfold addWat
        simp only [if_pos e]
        refine ⟨List.nodup_append.2 ⟨h1, by simp, ?_⟩, fun p => ?_⟩
        · rintro x hx y hy rfl
          simp at hy
          subst hy
          exact hno hx
        · rw [List.mem_append, h2, watcher_more, hl, watched_two]
          simp [e]
      · rw [← hl]
        exact none (by rw [hl, watched_two]; exact e) (by unfold addWat; rw [hl]; simp only [if_neg e])
theorem addWat_at {m m' : Mem} {lits : List Int} (hW : WatAt m wat) (h : Watched m m' lits p) (hwf : wfLits lits) (hl : m.lists.length = 25) : WatAt m' (addWat wat lits p) := by
  intro l h0 h1
  cases lits with
  | nil => unfold Watched at h; subst h; exact hW l h0 h1
  | cons a t =>
    cases t with
    | nil => unfold Watched at h; subst h; exact hW l h0 h1
    | cons b r =>
      obtain ⟨v1, v2, rfl⟩ := h
      have ha := hwf.2 a (by simp)
      have hb := hwf.2 b (by simp)
      have hab : a ≠ b := by
        have := hwf.1
        simp only [List.map_cons, List.nodup_cons, List.mem_cons, not_or] at this
        exact fun e => this.1.1 (by rw [e])
      have wa := hW a ha.2.1 ha.2.2
      have wb := hW b hb.2.1 hb.2.2
      have wl := hW l h0 h1
      have hk : (a + 12).toNat ≠ (b + 12).toNat := by omega
      have hka : (a + 12).toNat < m.lists.length := by omega
      have hkb : (b + 12).toNat < m.lists.length := by omega
      have eb : (m.lists.set (a + 12).toNat ((m.lists[(a + 12).toNat]?).getD [] ++ [p]))[(b + 12).toNat]? = some (wat b) := by rw [List.getElem?_set_ne hk]; exact wb
      show ((m.lists.set (a + 12).toNat ((m.lists[(a + 12).toNat]?).getD [] ++ [p])).set (b + 12).toNat (((m.lists.set (a + 12).toNat ((m.lists[(a + 12).toNat]?).getD [] ++ [p]))[(b + 12).toNat]?).getD [] ++ [p]))[(l + 12).toNat]? = some (if l = a ∨ l = b then wat l ++ [p] else wat l)
      rw [eb]
      by_cases e2 : l = b
      · rw [if_pos (.inr e2), e2, List.getElem?_set_self (by rw [List.length_set]; exact hkb)]
        rfl
      · rw [List.getElem?_set_ne (by omega)]
        by_cases e1 : l = a
        · rw [if_pos (.inl e1), e1, List.getElem?_set_self hka, wa]
          rfl
        · rw [List.getElem?_set_ne (by omega), wl, if_neg (by rintro (h | h) <;> contradiction)]

theorem Watcher.same {a b : List Cl} (he : dbOf a = dbOf b) {l p : Int} (h : Watcher a l p) : Watcher b l p := by
  obtain ⟨c, d, hc, hp, hw⟩ := h
  obtain ⟨d', h1, h2⟩ := db_get he hc
  exact ⟨c, d', h1, by rw [hp, db_pos he], by rw [h2]; exact hw⟩
theorem Struck.same {a b : List Cl} {bad : Int} (h : Struck a wat tr n bad) (he : dbOf a = dbOf b) : Struck b wat tr n bad := by
  refine ⟨h.trok.same he, fun c cl hc => ?_, fun l => ⟨(h.lists l).1, fun p => ?_⟩, h.lt, h.top, fun c cl hc => ?_, ?_⟩
  · obtain ⟨d, h1, h2⟩ := db_get he.symm hc
    rw [← h2]; exact h.wf c d h1
  · rw [(h.lists l).2]
    exact ⟨fun h => h.same he, fun h => h.same he.symm⟩
  · obtain ⟨d, h1, h2⟩ := db_get he.symm hc
    rw [← h2]; exact h.ok c d h1
  · obtain ⟨c, cl, h1, h2, h3⟩ := h.falls
    obtain ⟨d, h4, h5⟩ := db_get he h1
    exact ⟨c, d, h4, by rw [h2, db_pos he], by rw [h5]; exact h3⟩
theorem Rest.same {a b : List Cl} (h : Rest n a wat tr) (he : dbOf a = dbOf b) : Rest n b wat tr := by
  refine ⟨h.trok.same he, fun c cl hc => ?_, fun l => ⟨(h.lists l).1, fun p => ?_⟩, fun c cl hc => ?_, h.le, h.top⟩
  · obtain ⟨d, h1, h2⟩ := db_get he.symm hc
    rw [← h2]; exact h.wf c d h1
  · rw [(h.lists l).2]
    exact ⟨fun h => h.same he, fun h => h.same he.symm⟩
  · obtain ⟨d, h1, h2⟩ := db_get he.symm hc
    rw [← h2]; exact h.ok c d h1
/-- Back to a level. -/
theorem Struck.cut {bad : Int} (h : Struck cls wat tr n bad) {lv s : Nat} (hs : (startsOf tr)[lv]? = some s) : s ≤ n ∧ Rest s cls wat (tr.take s) := by
  obtain ⟨hlt, -, hl, -⟩ := starts_cut hs
  have hlv : lv < levels tr := by
    have := (List.getElem?_eq_some_iff.1 hs).1
    rw [startsOf_len] at this
    exact this
  have hsn : s ≤ n := by
    rcases Nat.lt_or_ge n s with hn | hn
    · have := (lev_cut hs n).1 hn
      have := h.top
      omega
    · exact hn
  have hlen : (tr.take s).length = s := by rw [List.length_take]; omega
  exact ⟨hsn, h.trok.cut s, h.wf, h.lists, fun c cl hc => (h.ok c cl hc).cut hs hsn, by omega, fun i h1 h2 => by omega⟩
theorem Rest.cut (h : Rest n cls wat tr) {lv s : Nat} (hs : (startsOf tr)[lv]? = some s) : min n s = s ∧ Rest s cls wat (tr.take s) := by
  obtain ⟨hlt, -, hl, -⟩ := starts_cut hs
  have hlv : lv < levels tr := by
    have := (List.getElem?_eq_some_iff.1 hs).1
    rw [startsOf_len] at this
    exact this
  have hsn : s ≤ n := by
    rcases Nat.lt_or_ge n s with hn | hn
    · have h1 := (lev_cut hs n).1 hn
      have h2 := h.top n (Nat.le_refl _) (by omega)
      omega
    · exact hn
  have hlen : (tr.take s).length = s := by rw [List.length_take]; omega
  exact ⟨by omega, h.trok.cut s, h.wf, h.lists, fun c cl hc => (h.ok c cl hc).cut hs hsn, by omega, fun i h1 h2 => by omega⟩
/-- What was learnt is laid in, and its first literal taken. -/
theorem Rest.learn {x : Int} {rest : List Int} (h : Rest n cls wat tr) (hn : n = tr.length) (hl : cl.lits = x :: rest) (hwf : wfLits cl.lits) (h1 : ¬ Tru tr x) (h2 : ¬ Tru tr (-x)) (hr : ∀ y, y ∈ rest → Tru tr (-y)) (h0 : rest = [] → levels tr = 0) (hb : ∀ b r, rest = b :: r → ∀ (j : Nat) (q : Int), tr[j]? = some (-b, q) → levels tr ≤ lev tr j) :
    Rest n (cls ++ [cl]) (addWat wat cl.lits ((flat cls).length : Int)) (tr ++ [(x, ((flat cls).length : Int))]) := by
  have hx := hwf.2 x (by rw [hl]; simp)
  have hd : dec (x, ((flat cls).length : Int)) = false := by simp [dec]
  have hlev : levels (tr ++ [(x, ((flat cls).length : Int))]) = levels tr := by
    rw [levels_append]
    simp [levels, hd]
  have hll : lev (tr ++ [(x, ((flat cls).length : Int))]) tr.length = levels tr := by rw [lev_last, hlev]
  have hget : (tr ++ [(x, ((flat cls).length : Int))])[tr.length]? = some (x, ((flat cls).length : Int)) := by simp
  refine ⟨?_, fun c d hc => ?_, lists_more h.lists cl, fun c d hc => ?_, by simp; omega, fun i h3 h4 => ?_⟩
  · have := (h.trok.more [cl]).take (c := cls.length) (cl := cl) hx h1 h2 (by simp) hl hr
    rw [pos_append _ _ (Nat.le_refl _), pos_end _ (Nat.le_refl _)] at this
    exact this
  · by_cases hlt : c < cls.length
    · rw [List.getElem?_append_left hlt] at hc; exact h.wf c d hc
    · have hlt' := (List.getElem?_eq_some_iff.1 hc).1
      simp at hlt'
      have : c = cls.length := by omega
      subst this
      simp at hc
      subst hc
      exact hwf
  · by_cases hlt : c < cls.length
    · rw [List.getElem?_append_left hlt] at hc
      exact (h.ok c d hc).append h.le _
    · have hlt' := (List.getElem?_eq_some_iff.1 hc).1
      simp at hlt'
      have : c = cls.length := by omega
      subst this
      simp at hc
      subst hc
      rw [hl]
      cases hrest : rest with
      | nil => exact .inl ⟨x, rfl, tr.length, _, hget, by rw [hll]; exact h0 hrest⟩
      | cons b r =>
        refine .inr ⟨x, b, r, rfl, fun i q hi hq => ?_, fun i q hi hq => ?_⟩
        · rw [List.getElem?_append_left (by omega)] at hq
          exact absurd ⟨i, q, hq⟩ h2
        · rw [List.getElem?_append_left (by omega)] at hq
          exact ⟨tr.length, _, hget, by rw [hll, lev_append (by omega)]; exact hb b r hrest i q hq⟩
  · simp at h4
    have : i = tr.length := by omega
    subst this
    rw [hll, hlev]
/-- What is learnt was not there. -/
theorem Struck.fresh {bad : Int} (h : Struck cls wat tr n bad) {DB : List (List Int)} {lits : List Int} (ht : Taught DB tr lits) {c : Nat} {d : Cl} (hc : cls[c]? = some d) (hsame : ∀ x, x ∈ d.lits ↔ x ∈ lits) : False := by
  obtain ⟨p, rest, i, r, hl, hi, hlv, hr⟩ := ht.head
  have hfalse : ∀ x, x ∈ d.lits → Tru tr (-x) := fun x hx => by
    have := (hsame x).1 hx
    rw [hl] at this
    rcases List.mem_cons.1 this with rfl | hx'
    · rw [Int.neg_neg]; exact ⟨i, r, hi⟩
    · obtain ⟨j, s, hj, -⟩ := hr x hx'
      exact ⟨j, s, hj⟩
  have hlow : ∀ x, x ∈ d.lits → x ≠ -p → ∃ j s, j < n ∧ tr[j]? = some (-x, s) := fun x hx hne => by
    have := (hsame x).1 hx
    rw [hl] at this
    rcases List.mem_cons.1 this with rfl | hx'
    · exact absurd rfl hne
    · obtain ⟨j, s, hj, -, hlt⟩ := hr x hx'
      refine ⟨j, s, ?_, hj⟩
      rcases Nat.lt_or_ge j n with h' | h'
      · exact h'
      · have := lev_mono tr h'
        have := h.top
        omega
  rcases h.ok c d hc with ⟨x, he, j, s, hj, -⟩ | ⟨a, b, q, he, w1, w2⟩
  · exact h.trok.not_both ⟨j, s, hj⟩ (hfalse x (by rw [he]; simp))
  · have hne : a ≠ b := by
      have := (h.wf c d hc).1
      rw [he] at this
      simp only [List.map_cons, List.nodup_cons, List.mem_cons, not_or] at this
      exact fun e => this.1.1 (by rw [e])
    by_cases ea : a = -p
    · obtain ⟨j, s, hj, hjs⟩ := hlow b (by rw [he]; simp) (fun e => hne (by rw [ea, e]))
      obtain ⟨k, t, hk, -⟩ := w2 j s hj hjs
      exact h.trok.not_both ⟨k, t, hk⟩ (hfalse a (by rw [he]; simp))
    · obtain ⟨j, s, hj, hjs⟩ := hlow a (by rw [he]; simp) ea
      obtain ⟨k, t, hk, -⟩ := w1 j s hj hjs
      exact h.trok.not_both ⟨k, t, hk⟩ (hfalse b (by rw [he]; simp))
end

/-- The clauses are the same sets. -/
def SameDB (A B : List (List Int)) : Prop := ∀ c, c ∈ A → ∃ d, d ∈ B ∧ ∀ x, x ∈ c ↔ x ∈ d
theorem StableI.same {A B : List (List Int)} {F : Int → Prop} (h : StableI B F) (hs : SameDB A B) : StableI A F := by
  intro c hc
  obtain ⟨d, hd, he⟩ := hs c hc
  obtain ⟨⟨x, hx, hn⟩, h2⟩ := h d hd
  exact ⟨⟨x, (he x).2 hx, hn⟩, fun y hy hny hot => h2 y ((he y).1 hy) hny (fun z hz hne => hot z ((he z).2 hz) hne)⟩
theorem FolI.same {A B : List (List Int)} {r : List Int} (h : FolI A r) (hs : SameDB A B) : FolI B r := fun F hF hr => h F (hF.same hs) hr

end Go.Proofs.YtekkkoipcghlmaaGreatDoor

namespace Go.Proofs.YtekkkoipcghlmaaGreatDoor

theorem wf_inj {l : List Int} (h : wfLits l) {x y : Int} (hx : x ∈ l) (hy : y ∈ l) (he : x.natAbs = y.natAbs) : x = y := by
  obtain ⟨i, hi⟩ := List.getElem?_of_mem hx
  obtain ⟨j, hj⟩ := List.getElem?_of_mem hy
  have hi' := (List.getElem?_eq_some_iff.1 hi).1
  have hj' := (List.getElem?_eq_some_iff.1 hj).1
  have : i = j := (List.getElem_inj (h₀ := by simpa using hi') (h₁ := by simpa using hj') h.1).1 (by
    rw [List.getElem_map, List.getElem_map]
    rw [List.getElem?_eq_getElem hi'] at hi
    rw [List.getElem?_eq_getElem hj'] at hj
    simp at hi hj
    rw [hi, hj, he])
  subst this
  rw [hi] at hj
  simpa using hj
theorem wf_opp {l : List Int} (h : wfLits l) {x : Int} (hx : x ∈ l) (hy : -x ∈ l) : False := by
  have := wf_inj h hx hy (by simp)
  have := (h.2 x hx).1
  omega
theorem wf_len {l : List Int} (h : wfLits l) : l.length ≤ 12 := by
  have hb : ∀ v, v ∈ l.map Int.natAbs → 0 < v ∧ v < 13 := by
    intro v hv
    obtain ⟨x, hx, rfl⟩ := List.mem_map.1 hv
    have := h.2 x hx
    omega
  have := nodup_bound 13 (0 :: l.map Int.natAbs) (List.nodup_cons.2 ⟨fun h0 => by have := hb 0 h0; omega, h.1⟩) (fun x hx => by
    rcases List.mem_cons.1 hx with rfl | hx
    · omega
    · exact (hb x hx).2)
  simp at this
  omega
/-- A clause as a number: a digit for each variable. -/
def dig (l : List Int) (v : Nat) : Nat := if (v : Int) ∈ l then 1 else if -(v : Int) ∈ l then 2 else 0
def codeN (l : List Int) : Nat → Nat
  | 0 => 0
  | n + 1 => codeN l n + 3 ^ n * dig l (n + 1)
theorem dig_le (l : List Int) (v : Nat) : dig l v ≤ 2 := by
  unfold dig
  split
  · omega
  · split <;> omega
theorem codeN_lt (l : List Int) : ∀ n, codeN l n < 3 ^ n
  | 0 => by simp [codeN]
  | n + 1 => by
    have h1 := codeN_lt l n
    have h2 : 3 ^ n * dig l (n + 1) ≤ 3 ^ n * 2 := Nat.mul_le_mul_left _ (dig_le l _)
    rw [codeN, Nat.pow_succ]
    omega
theorem codeN_inj (a b : List Int) : ∀ n, codeN a n = codeN b n → ∀ v, 0 < v → v ≤ n → dig a v = dig b v
  | 0, _, v, h0, h1 => by omega
  | n + 1, h, v, h0, h1 => by
    have ha := codeN_lt a n
    have hb := codeN_lt b n
    rw [codeN, codeN] at h
    have hp : 0 < 3 ^ n := Nat.pow_pos (by decide)
    have e1 : (codeN a n + 3 ^ n * dig a (n + 1)) % 3 ^ n = codeN a n := by rw [Nat.add_mul_mod_self_left, Nat.mod_eq_of_lt ha]
    have e2 : (codeN b n + 3 ^ n * dig b (n + 1)) % 3 ^ n = codeN b n := by rw [Nat.add_mul_mod_self_left, Nat.mod_eq_of_lt hb]
    have e3 : codeN a n = codeN b n := by rw [← e1, ← e2, h]
    by_cases hv : v = n + 1
    · subst hv
      have e4 : 3 ^ n * dig a (n + 1) = 3 ^ n * dig b (n + 1) := by omega
      exact Nat.eq_of_mul_eq_mul_left hp e4
    · exact codeN_inj a b n e3 v h0 (by omega)
def code (l : List Int) : Nat := codeN l 12
theorem code_lt (l : List Int) : code l < 531441 := codeN_lt l 12
theorem code_mem {a b : List Int} (ha : wfLits a) (h : code a = code b) {x : Int} (hx : x ∈ a) : x ∈ b := by
  have hb := ha.2 x hx
  have hd := codeN_inj a b 12 h x.natAbs (by omega) (by omega)
  rcases Int.lt_or_lt_of_ne hb.1 with hn | hp
  · have e : -(x.natAbs : Int) = x := by omega
    have e' : (x.natAbs : Int) = -x := by omega
    unfold dig at hd
    rw [e, e', if_neg (fun h => wf_opp ha hx h), if_pos hx] at hd
    by_cases h1 : -x ∈ b
    · rw [if_pos h1] at hd; omega
    · rw [if_neg h1] at hd
      by_cases h2 : x ∈ b
      · exact h2
      · rw [if_neg h2] at hd; omega
  · have e : (x.natAbs : Int) = x := by omega
    unfold dig at hd
    rw [e, if_pos hx] at hd
    by_cases h1 : x ∈ b
    · exact h1
    · rw [if_neg h1] at hd
      split at hd <;> omega
theorem code_same {a b : List Int} (h : ∀ x, x ∈ a ↔ x ∈ b) : code a = code b := by
  have hd : ∀ v, dig a v = dig b v := fun v => by unfold dig; simp only [h]
  have : ∀ n, codeN a n = codeN b n := by
    intro n
    induction n with
    | zero => rfl
    | succ n ih => rw [codeN, codeN, ih, hd]
  exact this 12
/-- Clauses that differ as sets are not many. -/
theorem codes_len {D : List (List Int)} (h : (D.map code).Nodup) : D.length ≤ 531441 := by
  have := nodup_bound 531441 (D.map code) h (fun x hx => by
    obtain ⟨l, -, rfl⟩ := List.mem_map.1 hx
    exact code_lt l)
  simpa using this
theorem flat_small {cls : List Cl} (h : ∀ (c : Nat) cl, cls[c]? = some cl → wfLits cl.lits) : (flat cls).length ≤ 14 * cls.length := by
  induction cls with
  | nil => simp [flat]
  | cons a r ih =>
    rw [flat_cons, List.length_append, Cl.cells_len, List.length_cons]
    have h1 := wf_len (h 0 a rfl)
    have h2 := ih (fun c cl hc => h (c + 1) cl (by simpa using hc))
    omega

/-- How far the rounds are: all conflicts, those of rounds that are over; the round that is on has so many. -/
structure Rounds (conf rlen rmet : Int) (nl : Nat) : Prop where
  fin : ∃ fin : Int, conf = fin + rmet ∧ 0 ≤ fin ∧ fin ≤ 3 * rlen
  met0 : 0 ≤ rmet
  met : rmet ≤ (nl : Int)
  lt : rmet < rlen
  four : 4 ≤ rlen
  most : rlen ≤ 800000
theorem Rounds.bound {conf rlen rmet : Int} {nl : Nat} (h : Rounds conf rlen rmet nl) : 0 ≤ conf ∧ conf < 3200000 := by
  obtain ⟨f, h1, h2, h3⟩ := h.fin
  have := h.met0
  have := h.lt
  have := h.most
  omega
theorem Rounds.begin (nl : Nat) : Rounds 0 4 0 nl := ⟨⟨0, by omega, by omega, by omega⟩, by omega, by omega, by omega, by omega, by omega⟩
theorem Rounds.on {conf rlen rmet : Int} {nl : Nat} (h : Rounds conf rlen rmet nl) (hn : ¬ rlen ≤ rmet + 1) : Rounds (conf + 1) rlen (rmet + 1) (nl + 1) := by
  obtain ⟨f, h1, h2, h3⟩ := h.fin
  have := h.met0
  have := h.met
  exact ⟨⟨f, by omega, h2, h3⟩, by omega, by omega, by omega, h.four, h.most⟩
theorem Rounds.next {conf rlen rmet : Int} {nl nl' : Nat} (h : Rounds conf rlen rmet nl) (hn : rlen ≤ rmet + 1) (hl : nl + 1 ≤ 531441) : Rounds (conf + 1) (rlen + rlen / 2) 0 nl' := by
  obtain ⟨f, h1, h2, h3⟩ := h.fin
  have := h.met0
  have := h.met
  have := h.lt
  have := h.four
  exact ⟨⟨f + rlen, by omega, by omega, by omega⟩, by omega, by omega, by omega, by omega, by omega⟩

end Go.Proofs.YtekkkoipcghlmaaGreatDoor

namespace Go.Proofs.YtekkkoipcghlmaaGreatDoor
open Go.RowKit

/-- What the search's walk alone changes. -/
def Mem.core (m : Mem) : (Int × Int × Int) × Int × Int × Value × List Int := ((m.rlen, m.rmet, m.given), m.broken, m.conflicts, m.asm, m.assumed)
def Mem.told (m : Mem) : List Value × Nat × Value := (m.steps, m.nsteps, m.sp)
theorem KeptL.core {a b : Mem} (h : KeptL a b) : b.core = a.core ∧ b.told = a.told ∧ b.lists = a.lists ∧ b.passed = a.passed ∧ b.facts = a.facts := by
  unfold KeptL at h; rw [h]; exact ⟨rfl, rfl, rfl, rfl, rfl⟩
theorem KeptG.core {a b : Mem} (h : KeptG a b) : b.core = a.core ∧ b.told = a.told ∧ b.lists = a.lists ∧ b.store = a.store := by
  unfold KeptG at h; rw [h]; exact ⟨rfl, rfl, rfl, rfl⟩
theorem KeptC.core {a b : Mem} (h : KeptC a b) : b.core = a.core ∧ b.told = a.told ∧ b.lists = a.lists ∧ b.store = a.store ∧ b.passed = a.passed ∧ b.facts = a.facts := by
  unfold KeptC at h; rw [h]; exact ⟨rfl, rfl, rfl, rfl, rfl, rfl⟩
theorem KeptQ.core {a b : Mem} (h : KeptQ a b) : b.core = a.core ∧ b.told = a.told ∧ b.lists = a.lists ∧ b.store = a.store ∧ b.passed = a.passed ∧ b.facts = a.facts := h.keptC.core
theorem KeptP.core {a b : Mem} (h : KeptP a b) : b.core = a.core ∧ b.told = a.told ∧ b.all = a.all ∧ b.places = a.places := by
  unfold KeptP at h; rw [h]; exact ⟨rfl, rfl, rfl, rfl⟩
/-- Each open variable can be taken out of the heap. -/
def Free (m : Mem) (tr : Tr) : Prop := ∀ u : Nat, 0 < u → u ≤ 12 → (∀ (i : Nat) (e : Int × Int), tr[i]? = some e → e.1.natAbs ≠ u) → (u : Int) ∈ m.all

/-- The level to go back to, and what is so there. -/
theorem learn_level {cls : List Cl} {wat : Int → List Int} {tr : Tr} {n : Nat} {bad : Int} {f : Nat → Int} {DB : List (List Int)} {x0 : Int} {rest rest' : List Int} {lvl : Int} (h : Struck cls wat tr n bad) (hf : ∀ (j : Nat) (e : Int × Int), tr[j]? = some e → f e.1.natAbs = (lev tr j : Int)) (ht : Taught DB tr (x0 :: rest)) (hp : rest'.Perm rest)
    (hl : (rest' = [] ∧ lvl = 0) ∨ ∃ y r, rest' = y :: r ∧ lvl = f y.natAbs ∧ ∀ z, z ∈ r → f z.natAbs ≤ f y.natAbs) (hpos : 0 < levels tr) :
    ∃ L : Nat, lvl = (L : Int) ∧ L < levels tr ∧ ∀ s, (startsOf tr)[L]? = some s → (¬ Tru (tr.take s) x0) ∧ (¬ Tru (tr.take s) (-x0)) ∧ (∀ y, y ∈ rest' → Tru (tr.take s) (-y)) ∧ (rest' = [] → levels (tr.take s) = 0) ∧ ∀ b r, rest' = b :: r → ∀ (j : Nat) (q : Int), (tr.take s)[j]? = some (-b, q) → levels (tr.take s) ≤ lev (tr.take s) j := by
  obtain ⟨p, rest1, i, r, he, hi, hlv, hr⟩ := ht.head
  simp only [List.cons.injEq] at he
  obtain ⟨rfl, rfl⟩ := he
  have lv : ∀ z, z ∈ rest' → ∃ j q, tr[j]? = some (-z, q) ∧ f z.natAbs = (lev tr j : Int) ∧ lev tr j < levels tr := fun z hz => by
    obtain ⟨j, q, hj, -, hlt⟩ := hr z (hp.mem_iff.1 hz)
    exact ⟨j, q, hj, by have := hf j _ hj; simpa using this, hlt⟩
  obtain ⟨L, hL, hLlt, hle⟩ : ∃ L : Nat, lvl = (L : Int) ∧ L < levels tr ∧ ((∀ z, z ∈ rest' → f z.natAbs ≤ (L : Int)) ∧ (rest' = [] → L = 0) ∧ ∀ b t, rest' = b :: t → f b.natAbs = (L : Int)) := by
    rcases hl with ⟨h1, h2⟩ | ⟨y, t, h1, h2, h3⟩
    · subst h1
      exact ⟨0, h2, hpos, fun z hz => (by cases hz), fun _ => rfl, fun b t hb => (by cases hb)⟩
    · obtain ⟨j, q, hj, hfj, hlt⟩ := lv y (by rw [h1]; simp)
      refine ⟨lev tr j, by rw [h2, hfj], hlt, fun z hz => ?_, fun h => (by rw [h1] at h; cases h), fun b t' hb => ?_⟩
      · rw [h1] at hz
        rcases List.mem_cons.1 hz with rfl | hz
        · omega
        · have := h3 z hz; omega
      · rw [h1] at hb
        simp only [List.cons.injEq] at hb
        rw [← hb.1]; exact hfj
  refine ⟨L, hL, hLlt, fun s hs => ?_⟩
  obtain ⟨hslt, -, hls, -⟩ := starts_cut hs
  have hcut := lev_cut hs
  have get : ∀ (j : Nat) (e : Int × Int), (tr.take s)[j]? = some e → j < s ∧ tr[j]? = some e := by
    intro j e hj
    have hlt := (List.getElem?_eq_some_iff.1 hj).1
    rw [List.length_take] at hlt
    rw [List.getElem?_take_of_lt (by omega)] at hj
    exact ⟨by omega, hj⟩
  have hno : ∀ (j : Nat) (e : Int × Int), (tr.take s)[j]? = some e → e.1.natAbs ≠ p.natAbs := by
    intro j e hj hn
    obtain ⟨h1, h2⟩ := get j e hj
    have := h.trok.one h2 hi (by simpa using hn)
    subst this
    have := (hcut j).1 h1
    omega
  refine ⟨?_, ?_, fun y hy => ?_, fun h0 => by rw [hls]; exact hle.2.1 h0, fun b t hb j q hj => ?_⟩
  · rintro ⟨j, q, hj⟩
    exact hno j _ hj (by simp)
  · rintro ⟨j, q, hj⟩
    exact hno j _ hj (by simp)
  · obtain ⟨j, q, hj, hfj, -⟩ := lv y hy
    have h1 := hle.1 y hy
    have hjs : j < s := by
      rcases Nat.lt_or_ge j s with h | h
      · exact h
      · have := (hcut j).2 h; omega
    exact ⟨j, q, by rw [List.getElem?_take_of_lt hjs]; exact hj⟩
  · obtain ⟨hjs, hj'⟩ := get j _ hj
    rw [hls, lev_take hjs]
    have h1 := hf j _ hj'
    have h2 := hle.2.2 b t hb
    simp at h1
    omega

/-- Behind going back: what there is to learn. -/
structure LPure (cls0 : List Cl) (wat : Int → List Int) (cls : List Cl) (tr : Tr) (x0 : Int) (rest : List Int) : Prop where
  db : dbOf cls = dbOf cls0
  still : Rest tr.length cls wat tr
  wf : wfLits (x0 :: rest)
  fol : FolI (dbOf cls0) (x0 :: rest)
  new : ∀ d, d ∈ dbOf cls0 → ¬ ∀ x, x ∈ d ↔ x ∈ x0 :: rest
  open1 : ¬ Tru tr x0
  open2 : ¬ Tru tr (-x0)
  false_ : ∀ y, y ∈ rest → Tru tr (-y)
  zero : rest = [] → levels tr = 0
  high : ∀ b r, rest = b :: r → ∀ (j : Nat) (q : Int), tr[j]? = some (-b, q) → levels tr ≤ lev tr j
/-- The memory meanwhile; the clause lies beside. -/
structure LMem (base : Nat) (w : World) (m0 : Mem) (wr : World) (m : Mem) (cls : List Cl) (tr : Tr) (wat : Int → List Int) (n : Nat) (sl : Value) (lits : List Int) (T : List Value × Nat × Value) : Prop where
  em : EMut base w m0 [] wr m [intRow sl lits]
  rep : Rep m cls tr
  heap : HeapOK m.all m.places
  free : Free m tr
  core : m.core = m0.core
  told : m.told = T
  watAt : WatAt m wat
  passed : m.passed = (n : Int)

theorem wf_perm {x0 : Int} {rest rest' : List Int} (h : wfLits (x0 :: rest)) (hp : rest'.Perm rest) : wfLits (x0 :: rest') := by
  have hpc : (x0 :: rest').Perm (x0 :: rest) := List.Perm.cons _ hp
  exact ⟨(hpc.map _).nodup_iff.2 h.1, fun x hx => h.2 x (hpc.mem_iff.1 hx)⟩

theorem LMem.of {base : Nat} {w w3 w4 : World} {m0 m1 : Mem} {cls0 cls1 : List Cl} {wat : Int → List Int} {tr : Tr} {n L : Nat} {bad : Int} {sl : Value} {x0 : Int} {rest rest' : List Int}
    (hst : Struck cls0 wat tr n bad) (hW : WatAt m0 wat) (hpa : m0.passed = (n : Int) + 1) (hfree : Free m0 tr)
    (hR : Rep m1 cls1 tr) (hdb : dbOf cls1 = dbOf cls0) (hall : ∀ v, v ∈ m1.all ↔ v ∈ m0.all) (hk : KeptL m0 m1) (hsz : m1.store.length = m0.store.length) (ht : Taught (dbOf cls0) tr (x0 :: rest)) (hp : rest'.Perm rest)
    (hLlt : L < levels tr) (hs : ∀ s, (startsOf tr)[L]? = some s → (¬ Tru (tr.take s) x0) ∧ (¬ Tru (tr.take s) (-x0)) ∧ (∀ y, y ∈ rest' → Tru (tr.take s) (-y)) ∧ (rest' = [] → levels (tr.take s) = 0) ∧ ∀ b r, rest' = b :: r → ∀ (j : Nat) (q : Int), (tr.take s)[j]? = some (-b, q) → levels (tr.take s) ≤ lev (tr.take s) j)
    (hem : EMut base w m0 [] w3 m1 [intRow sl (x0 :: rest')]) (hb : BackRes base w3 m1 cls1 tr L w4) : ∃ m4 s, LPure cls0 wat cls1 (tr.take s) x0 rest' ∧ LMem base w m0 w4 m4 cls1 (tr.take s) wat (tr.take s).length sl (x0 :: rest') m0.told ∧ m4.store.length = m0.store.length := by
  rcases hb with ⟨h1, -⟩ | ⟨s, m4, hss, hm4, hr4, hh4, hal4, hk4, hp4⟩
  · omega
  · obtain ⟨o1, o2, o3, o4, o5⟩ := hs s hss
    obtain ⟨hsn, hrest⟩ := (hst.same hdb.symm).cut hss
    have hlen : (tr.take s).length = s := by
      obtain ⟨hlt, -⟩ := starts_cut hss
      rw [List.length_take]; omega
    obtain ⟨c1, c2, c3, c4, c5⟩ := hk.core
    obtain ⟨g1, g2, g3, g4⟩ := hk4.core
    have hpc : (x0 :: rest').Perm (x0 :: rest) := List.Perm.cons _ hp
    refine ⟨m4, s, ⟨hdb, by rw [hlen]; exact hrest, wf_perm ht.wf hp, ht.fol.weaken (fun x hx => hpc.mem_iff.2 hx), fun d hd hsame => ?_, o1, o2, o3, o4, o5⟩, ⟨hem.trans (EMut.call hem.eat hm4), hr4, hh4, fun u h0 h12 hn => ?_, g1.trans c1, g2.trans c2, fun l a b => ?_, ?_⟩, by rw [g4]; exact hsz⟩
    · obtain ⟨cl, hcl, rfl⟩ := List.mem_map.1 hd
      obtain ⟨c, hc⟩ := List.getElem?_of_mem hcl
      exact hst.fresh ht hc (fun x => (hsame x).trans hpc.mem_iff)
    · rw [hal4]
      rcases Classical.em (∃ (i : Nat) (e : Int × Int), s ≤ i ∧ tr[i]? = some e ∧ (u : Int) = (e.1.natAbs : Int)) with h | h
      · exact .inr h
      · refine .inl ((hall _).2 (hfree u h0 h12 (fun i e hi he => ?_)))
        rcases Nat.lt_or_ge i s with hlt | hge
        · exact hn i e (by rw [List.getElem?_take_of_lt hlt]; exact hi) he
        · exact h ⟨i, e, hge, hi, by omega⟩
    · rw [g3, c3]; exact hW l a b
    · rw [hp4, c4, hpa, hlen]; omega

end Go.Proofs.YtekkkoipcghlmaaGreatDoor
