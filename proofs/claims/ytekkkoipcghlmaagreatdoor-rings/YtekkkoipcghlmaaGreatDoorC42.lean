import Derived.Test.YtekkkoipcghlmaaGreatDoorC41
import Derived.Test.YtekkkoipcghlmaaGreatDoorC39
import Derived.Test.YtekkkoipcghlmaaGreatDoorC36
import Derived.Test.YtekkkoipcghlmaaGreatDoorC34
set_option linter.all false
namespace Go.Proofs.YtekkkoipcghlmaaGreatDoor
open Go.RowKit

set_option maxRecDepth 100000 in
set_option maxHeartbeats 10000000 in
theorem proof_all (s t : List UInt8) (w : World) (hs2 : s.length ≤ 9223372036854775807) (ht2 : t.length ≤ 9223372036854775807) (he : Env w) :
    Calls Tryz.prog 50 #[.string (bs s), .string (bs t)] w fun e W => CheckRes s t w e W := by
  have hszt := bs_size t
  have hbA : Below w.heap.size w ((w.alloc (.cells #[.int .i64 0] 35)).alloc (.cells #[.int .i64 0] 3)) := ((Below.refl _ w).alloc (Nat.le_refl _) _).alloc (by simp) _
  have hsA : ((w.alloc (.cells #[.int .i64 0] 35)).alloc (.cells #[.int .i64 0] 3)).heap.size = w.heap.size + 2 := by simp
  have e0 := (Boxed.new w 35 (.int .i64 0)).alloc (.cells #[.int .i64 0] 3)
  have e1 := Boxed.new (w.alloc (.cells #[.int .i64 0] 35)) 3 (.int .i64 0)
  simp only [World.size_alloc] at e1
  have HBO : Hid (∀ W1, Below ((w.alloc (.cells #[.int .i64 0] 35)).alloc (.cells #[.int .i64 0] 3)).heap.size ((w.alloc (.cells #[.int .i64 0] 35)).alloc (.cells #[.int .i64 0] 3)) W1 → Boxed W1 w.heap.size 35 (.int .i64 0) ∧ Boxed W1 (w.heap.size + 1) 3 (.int .i64 0) ∧ Below w.heap.size w W1) :=
    hide (fun W1 hb => ⟨(hb.block _ (by rw [hsA]; omega)).trans e0, (hb.block _ (by rw [hsA]; omega)).trans e1, hbA.trans (hb.mono (by rw [hsA]; omega))⟩)
  have early : ∀ (er : Int) (k : Int) (v : Value), er ≠ 0 → CheckOut s t (er, k) →
      (Calls Tryz.prog 91 #[.string (bs s)] ((w.alloc (.cells #[.int .i64 0] 35)).alloc (.cells #[.int .i64 0] 3)) fun e W => Below ((w.alloc (.cells #[.int .i64 0] 35)).alloc (.cells #[.int .i64 0] 3)).heap.size ((w.alloc (.cells #[.int .i64 0] 35)).alloc (.cells #[.int .i64 0] 3)) W ∧ e = .returned (.tuple #[v, .int .i64 er, .int .i64 k])) →
      Calls Tryz.prog 50 #[.string (bs s), .string (bs t)] w fun e W => CheckRes s t w e W := by
    intro er k v hne hco hrd
    have HCO := hide hco
    have HRD := hide hrd
    have hq : (er == (0 : Int)) = false := by rw [beq_eq_false_iff_ne]; exact hne
    clear hco hrd hne e0 e1 hbA hsA
    go_enter Tryz.func50, Tryz.ntmps50
    go_wp2_with fail
    refine (unhide HRD).mono ?_
    rintro e W1 ⟨hb1, rfl⟩
    obtain ⟨b0, b1, b2⟩ := unhide HBO W1 hb1
    have hr0 : W1.cell? ⟨w.heap.size, 0, none⟩ = some (.int .i64 0) := b0.cell
    have hf0 : W1.frozen? ⟨w.heap.size, 0, none⟩ = false := b0.frozen
    have hr1 : W1.cell? ⟨w.heap.size + 1, 0, none⟩ = some (.int .i64 0) := b1.cell
    have hf1 : W1.frozen? ⟨w.heap.size + 1, 0, none⟩ = false := b1.frozen
    have a0 : Boxed (W1.setCell ⟨w.heap.size, 0, none⟩ (.int .i64 er)) w.heap.size 35 (.int .i64 er) := b0.set _
    have a1 : Boxed (W1.setCell ⟨w.heap.size, 0, none⟩ (.int .i64 er)) (w.heap.size + 1) 3 (.int .i64 0) := (Below.heap_setCell W1 _ _ _ (by simp)).trans b1
    have k0 : ((W1.setCell ⟨w.heap.size, 0, none⟩ (.int .i64 er)).setCell ⟨w.heap.size + 1, 0, none⟩ (.int .i64 k)).cell? ⟨w.heap.size, 0, none⟩ = some (.int .i64 er) := Boxed.cell (t := 35) ((Below.heap_setCell _ _ _ _ (by simp)).trans a0)
    have k1 : ((W1.setCell ⟨w.heap.size, 0, none⟩ (.int .i64 er)).setCell ⟨w.heap.size + 1, 0, none⟩ (.int .i64 k)).cell? ⟨w.heap.size + 1, 0, none⟩ = some (.int .i64 k) := (a1.set _).cell
    have HPB : Hid (Below w.heap.size w ((W1.setCell ⟨w.heap.size, 0, none⟩ (.int .i64 er)).setCell ⟨w.heap.size + 1, 0, none⟩ (.int .i64 k))) := hide ((b2.setCell (p := ⟨w.heap.size, 0, none⟩) (by simp) _).setCell (p := ⟨w.heap.size + 1, 0, none⟩) (by simp) _)
    have HK0 := hide k0
    have HK1 := hide k1
    clear b0 b1 b2 a0 a1 k0 k1
    go_wp2
    have k0 := unhide HK0
    have k1 := unhide HK1
    refine bodyPost_ret (v := .tuple #[.int .i64 er, .int .i64 k]) (by simp [results, Tryz.results50, go_sem, k0, k1]) rfl ?_
    exact ⟨(er, k), rfl, unhide HCO, unhide HPB⟩
  by_cases hs : 6000 < s.length
  · exact early 4 0 _ (by decide) (.inl ⟨hs, rfl⟩) (read_long s _ hs hs2)
  · cases hn : Sp.scanSegs 0 (Sp.segs s) with
    | some n =>
      refine early 5 n (.slice none 0 0) (by decide) (.inr ⟨by omega, .inl ⟨n, hn, rfl⟩⟩) ((read_any s _ (by omega) (he.below hbA)).mono ?_)
      rintro e W ⟨hb, ⟨k, hk, rfl⟩ | ⟨hk, _⟩⟩
      · rw [hn] at hk; cases hk; exact ⟨hb, rfl⟩
      · rw [hn] at hk; cases hk
    | none =>
      by_cases ht : 6000 < t.length
      · have HRD := hide (read_any s _ (by omega) (he.below hbA))
        have HN := hide hn
        clear e0 e1 hbA hsA hn early
        go_enter Tryz.func50, Tryz.ntmps50
        go_wp2_with fail
        refine (unhide HRD).mono ?_
        rintro e W1 ⟨hb1, ⟨k, hk, rfl⟩ | ⟨-, v, rfl, -⟩⟩
        · exfalso; rw [unhide HN] at hk; cases hk
        obtain ⟨b0, b1, b2⟩ := unhide HBO W1 hb1
        have hr0 : W1.cell? ⟨w.heap.size, 0, none⟩ = some (.int .i64 0) := b0.cell
        have hf0 : W1.frozen? ⟨w.heap.size, 0, none⟩ = false := b0.frozen
        have hr1 : W1.cell? ⟨w.heap.size + 1, 0, none⟩ = some (.int .i64 0) := b1.cell
        have hf1 : W1.frozen? ⟨w.heap.size + 1, 0, none⟩ = false := b1.frozen
        have a0 : Boxed (W1.setCell ⟨w.heap.size, 0, none⟩ (.int .i64 4)) w.heap.size 35 (.int .i64 4) := b0.set _
        have a1 : Boxed (W1.setCell ⟨w.heap.size, 0, none⟩ (.int .i64 4)) (w.heap.size + 1) 3 (.int .i64 0) := (Below.heap_setCell W1 _ _ _ (by simp)).trans b1
        have k0 : ((W1.setCell ⟨w.heap.size, 0, none⟩ (.int .i64 4)).setCell ⟨w.heap.size + 1, 0, none⟩ (.int .i64 0)).cell? ⟨w.heap.size, 0, none⟩ = some (.int .i64 4) := Boxed.cell (t := 35) ((Below.heap_setCell _ _ _ _ (by simp)).trans a0)
        have k1 : ((W1.setCell ⟨w.heap.size, 0, none⟩ (.int .i64 4)).setCell ⟨w.heap.size + 1, 0, none⟩ (.int .i64 0)).cell? ⟨w.heap.size + 1, 0, none⟩ = some (.int .i64 0) := (a1.set _).cell
        have HPB : Hid (Below w.heap.size w ((W1.setCell ⟨w.heap.size, 0, none⟩ (.int .i64 4)).setCell ⟨w.heap.size + 1, 0, none⟩ (.int .i64 0))) := hide ((b2.setCell (p := ⟨w.heap.size, 0, none⟩) (by simp) _).setCell (p := ⟨w.heap.size + 1, 0, none⟩) (by simp) _)
        have HK0 := hide k0
        have HK1 := hide k1
        clear b0 b1 b2 a0 a1 k0 k1
        go_wp2
        have k0 := unhide HK0
        have k1 := unhide HK1
        refine bodyPost_ret (v := .tuple #[.int .i64 4, .int .i64 0]) (by simp [results, Tryz.results50, go_sem, k0, k1]) rfl ?_
        exact ⟨(4, 0), rfl, .inr ⟨by omega, .inr ⟨unhide HN, .inl ⟨ht, rfl⟩⟩⟩, unhide HPB⟩
      · exact proof_any s t w (by omega) (by omega) hn he

set_option maxRecDepth 100000 in
theorem checkGo_any (s t : List UInt8) (w : World) (hs2 : s.length ≤ 9223372036854775807) (ht2 : t.length ≤ 9223372036854775807) (he : Env w) :
    Calls Tryz.prog 31 #[.string (bs s), .string (bs t)] w fun e W => CheckRes s t w e W := by
  have HP := hide (proof_all s t w hs2 ht2 he)
  go_enter Tryz.func31, Tryz.ntmps31
  go_wp2_with fail
  refine (unhide HP).mono ?_
  rintro e w1 ⟨⟨a, b⟩, rfl, ho, hb1⟩
  have HO := hide ho
  clear ho
  go_wp2
  go_ret2
  exact ⟨(a, b), rfl, unhide HO, hb1⟩

end Go.Proofs.YtekkkoipcghlmaaGreatDoor

namespace Go.Proofs.YtekkkoipcghlmaaGreatDoor
open Go.RowKit

theorem checkK {s t : List UInt8} {r : Int × Int} (w : World) (h : CheckOut s t r) (hs : s.length ≤ 9223372036854775807) (ht : t.length ≤ 9223372036854775807) (he : Env w) :
    Calls Tryz.prog 31 #[.string (bs s), .string (bs t)] w fun e w' => e = .returned (.tuple #[.int .i64 r.1, .int .i64 r.2]) ∧ Below w.heap.size w w' := by
  refine (checkGo_any s t w hs ht he).mono ?_
  rintro e w' ⟨r', rfl, h', hb⟩
  rw [CheckOut.unique h' h]
  exact ⟨rfl, hb⟩

end Go.Proofs.YtekkkoipcghlmaaGreatDoor

namespace Go.Proofs.YtekkkoipcghlmaaGreatDoor
open Go.RowKit

set_option maxRecDepth 100000 in
set_option maxHeartbeats 1600000 in
theorem entailedK (v cv : Value) (L : List (List Int)) (c : List Int) (n : Nat) (w : World) (hl : L.length ≤ 10000000) (hn : n ≤ 12) (hL : ∀ c, c ∈ L → Lits c ∧ c.length ≤ 10000000) (hc : Lits c) (hcl : c.length ≤ 10000000) (hv : RowsK w v L) (hcv : Lies w cv (ints c)) (hent : ∀ b, (∀ d, d ∈ L → holdsOf b d = true) → holdsOf b c = true) :
    Calls Tryz.prog 32 #[v, cv, .int .i64 n] w fun e w' => e = .returned (.bool true) ∧ ∃ q, w' = w.drewN q := by
  have HALL : Hid (∀ b q, b < 4096 → Calls Tryz.prog 22 #[v, .int .i64 (b : Nat)] (w.drewN q) fun e w' => e = .returned (.bool (L.all (holdsOf b))) ∧ ∃ q2, w' = (w.drewN q).drewN q2) := hide (fun b q hb => allK_any v L b (w.drewN q) hl hb hL hv)
  have HHO : Hid (∀ b q, b < 4096 → Calls Tryz.prog 45 #[cv, .int .i64 (b : Nat)] (w.drewN q) fun e w' => e = .returned (.bool (holdsOf b c)) ∧ ∃ q2, w' = (w.drewN q).drewN q2) := hide (fun b q hb => holdsK_any cv c b (w.drewN q) hcl hb hc hcv)
  have HEN : Hid (∀ b, L.all (holdsOf b) = false ∨ holdsOf b c = true) := hide (fun b => by
    cases h : L.all (holdsOf b)
    · exact .inl rfl
    · rw [List.all_eq_true] at h; exact .inr (hent b h))
  obtain ⟨a1, n1, c1, hsh1⟩ : ∃ a n c, v = .slice a n c := by
    obtain ⟨vs, h1, -⟩ := hv
    obtain ⟨a, c, h⟩ := lies_shape h1; exact ⟨a, _, c, h⟩
  obtain ⟨a2, n2, c2, hsh2⟩ : ∃ a n c, cv = .slice a n c := by
    obtain ⟨a, c, h⟩ := lies_shape hcv; exact ⟨a, _, c, h⟩
  have hpn := pow_in n hn
  have e2 : ((2 : Int) ^ n) = ((2 ^ n : Nat) : Int) := by simp
  have hsh : wrap64 ((2 : Int) ^ n) = ((2 ^ n : Nat) : Int) := by
    rw [e2]
    generalize 2 ^ n = p at *
    exact (IntWalk.i64_left _).symm.trans (IntWalk.i64_in _ ⟨by omega, by omega⟩)
  subst hsh1 hsh2
  clear hL hv hc hcv hent
  generalize hN : 2 ^ n = N at *
  clear hN
  go_enter Tryz.func32, Tryz.ntmps32
  go_wp2
  go_loopw [7, 8, 9] (fun i _ _ wr => ∃ k q : Nat, k ≤ N ∧ i = .int .i64 k ∧ wr = w.drewN q) (fun i _ _ _ => N - (intOf i).toNat)
  case atStart => exact ⟨0, 0, Nat.zero_le _, rfl, rfl⟩
  case round =>
    obtain ⟨k, q, hk, rfl, rfl⟩ := hrel
    by_cases hlt : k < N
    · have HAK := hide (unhide HALL k q (by omega))
      have HHK := hide (fun q => unhide HHO k q (by omega))
      have hen := unhide HEN k
      clear HALL HHO HEN
      generalize L.all (holdsOf k) = ba at *
      generalize holdsOf k c = bc at *
      rcases hen with rfl | rfl
      · go_wp2_with fail
        refine (unhide HAK).mono ?_
        rintro e w2 ⟨rfl, q3, rfl⟩
        rw [World.drewN_drewN]
        go_wp2_with fail
        refine (unhide HHK _).mono ?_
        rintro e w2 ⟨rfl, q4, rfl⟩
        go_wp2
        go_roundw
        case rel => exact ⟨k + 1, _, by omega, by go_num, rfl⟩
        case measure => simp [intOf]; omega
      · go_wp2_with fail
        refine (unhide HAK).mono ?_
        rintro e w2 ⟨rfl, q3, rfl⟩
        rw [World.drewN_drewN]
        go_wp2_with fail
        refine (unhide HHK _).mono ?_
        rintro e w2 ⟨rfl, q4, rfl⟩
        cases ba
        · go_wp2
          go_roundw
          case rel => exact ⟨k + 1, _, by omega, by go_num, rfl⟩
          case measure => simp [intOf]; omega
        · go_wp2
          go_roundw
          case rel => exact ⟨k + 1, _, by omega, by go_num, rfl⟩
          case measure => simp [intOf]; omega
    · have hkn : k = N := by omega
      subst hkn
      go_wp2
      go_ret
      exact ⟨rfl, _, rfl⟩

/-- The first k steps follow. -/
def OkTo (G : List Nat) (p : List (List Int)) (k : Nat) : Prop := ∀ j (_ : j < k) (h : j < p.length), Sp.Fol (G ++ (p.take j).map Sp.maskOf) (Sp.maskOf p[j])
def rowsOf (p : List (List Int)) : List (List UInt8 × Bool) := p.map (fun c => (Sp.toldBody c, true))
theorem rowsOf_snoc (a : List (List Int)) (c : List Int) (rest : List (List UInt8 × Bool)) : rowsOf (a ++ [c]) ++ rest = rowsOf a ++ ((Sp.toldBody c, true) :: rest) := by
  unfold rowsOf
  rw [List.map_append, List.append_assoc]
  rfl
section
variable {G : List Nat} {p : List (List Int)} {r : Int × Int}
theorem out_ok (hp : ∀ c, c ∈ p → ∀ x, x ∈ c → Sp.Lt x) : ∀ (k n : Nat) (rest : List (List UInt8 × Bool)), OkTo G p k → k ≤ p.length → Sp.Outcome (G ++ (p.take k).map Sp.maskOf) (n + k) rest r → Sp.Outcome G n (rowsOf (p.take k) ++ rest) r := by
  intro k
  induction k with
  | zero => intro n rest _ _ h; simpa [rowsOf] using h
  | succ k ih =>
    intro n rest hk hl h
    have hk' : k < p.length := by omega
    have e : p.take (k + 1) = p.take k ++ [p[k]] := List.take_succ_eq_append_getElem hk'
    rw [e] at h ⊢
    have e2 := rowsOf_snoc (p.take k) p[k] rest
    rw [e2]
    refine ih n _ (fun j hj h => hk j (by omega) h) (by omega) (out_add (hp _ (List.getElem_mem hk')) (hk k (by omega) hk') ?_)
    rw [List.map_append, ← List.append_assoc] at h
    have e3 : n + k + 1 = n + (k + 1) := by omega
    rw [e3]
    exact h
theorem out_bad (hp : ∀ c, c ∈ p → ∀ x, x ∈ c → Sp.Lt x) {k : Nat} (hk : OkTo G p k) (hl : k < p.length) (hf : ¬ Sp.Fol (G ++ (p.take k).map Sp.maskOf) (Sp.maskOf p[k])) (rest : List (List UInt8 × Bool)) : Sp.Outcome G 0 (rowsOf (p.take (k + 1)) ++ rest) (8, (k : Int) + 1) := by
  have e : p.take (k + 1) = p.take k ++ [p[k]] := List.take_succ_eq_append_getElem hl
  have e2 : rowsOf (p.take (k + 1)) ++ rest = rowsOf (p.take k) ++ ((Sp.toldBody p[k], true) :: rest) := by rw [e]; exact rowsOf_snoc _ _ _
  rw [e2]
  refine out_ok hp k 0 _ hk (by omega) ?_
  have hc := hp _ (List.getElem_mem hl)
  have hm : Sp.stepMask (Sp.toldBody p[k]) = Sp.maskOf p[k] := by
    unfold Sp.stepMask
    rw [Sp.step_told _ hc]
    show Sp.maskOf ((p[k].map Sp.lw).map Sp.lit) = _
    rw [Sp.lits_told _ hc]
  have hok : Sp.stepOk (Sp.toldBody p[k], true) = true := by
    have := Sp.ok_told _ hc
    unfold Sp.okLine at this
    unfold Sp.stepOk
    rw [Sp.step_told _ hc]
    simp only [Bool.and_true]
    rw [Sp.words_told _ hc] at this
    exact this
  exact .inr ⟨hok, .inr ⟨by rw [Sp.step_told _ hc], .inr ⟨by rw [hm]; exact hf, by simp⟩⟩⟩
end

section
variable {l p : List (List Int)} {k : Nat}
theorem segs_rows (hp : ∀ c, c ∈ p → ∀ x, x ∈ c → Sp.Lt x) (k : Nat) (t : List UInt8) : Sp.segs (Sp.textOf (p.take k) ++ t) = rowsOf (p.take k) ++ Sp.segs t := Sp.segs_text (p.take k) t (fun c hc => hp c (List.mem_of_mem_take hc))
theorem sound_ok (hl : ∀ c, c ∈ l → ∀ x, x ∈ c → Sp.Lt x) (hp : ∀ c, c ∈ p → ∀ x, x ∈ c → Sp.Lt x) (h1 : (Sp.textOf l).length ≤ 6000) (h2 : (Sp.textOf (p.take k)).length ≤ 6000) (hk : OkTo (l.map Sp.maskOf) p k) (hkl : k ≤ p.length) : CheckOut (Sp.textOf l) (Sp.textOf (p.take k)) (0, 0) := by
  refine .inr ⟨h1, .inr ⟨scan_told l hl, .inr ⟨h2, ?_⟩⟩⟩
  rw [masks_told l hl]
  have := segs_rows hp k []
  rw [List.append_nil] at this
  rw [this]
  exact out_ok hp k 0 _ hk hkl rfl
theorem sound_bad (hl : ∀ c, c ∈ l → ∀ x, x ∈ c → Sp.Lt x) (hp : ∀ c, c ∈ p → ∀ x, x ∈ c → Sp.Lt x) (h1 : (Sp.textOf l).length ≤ 6000) {t : List UInt8} (h2 : (Sp.textOf (p.take (k + 1)) ++ t).length ≤ 6000) (hk : OkTo (l.map Sp.maskOf) p k) (hkl : k < p.length) (hf : ¬ Sp.Fol (l.map Sp.maskOf ++ (p.take k).map Sp.maskOf) (Sp.maskOf p[k])) : CheckOut (Sp.textOf l) (Sp.textOf (p.take (k + 1)) ++ t) (8, (k : Int) + 1) := by
  refine .inr ⟨h1, .inr ⟨scan_told l hl, .inr ⟨h2, ?_⟩⟩⟩
  rw [masks_told l hl, segs_rows hp (k + 1) t]
  exact out_bad hp hk hkl hf _
/-- What is accepted is entailed. -/
theorem ok_holds (hl : ∀ c, c ∈ l → ∀ x, x ∈ c → x ≠ 0) (hp : ∀ c, c ∈ p → ∀ x, x ∈ c → x ≠ 0) {b : Nat} (hb : ∀ d, d ∈ l → holdsOf b d = true) : ∀ k, OkTo (l.map Sp.maskOf) p k → ∀ j (_ : j < k) (h : j < p.length), holdsOf b p[j] = true := by
  intro k
  induction k with
  | zero => intro _ j hj; omega
  | succ k ih =>
    intro hk j hj h
    have ih := ih (fun j hj h => hk j (by omega) h)
    by_cases hjk : j < k
    · exact ih j hjk h
    · have : j = k := by omega
      subst this
      refine (holdsB_mask (hp _ (List.getElem_mem h))).1 (fol_ent (hk j (by omega) h) (fun c hc => ?_))
      rcases List.mem_append.1 hc with hc | hc
      · obtain ⟨d, hd, rfl⟩ := List.mem_map.1 hc
        exact holds_mask (hl d hd) (hb d hd)
      · obtain ⟨d, hd, rfl⟩ := List.mem_map.1 hc
        obtain ⟨i, hi, rfl⟩ := List.getElem_of_mem hd
        rw [List.length_take] at hi
        rw [List.getElem_take]
        exact holds_mask (hp _ (List.getElem_mem _)) (ih i (by omega) (by omega))
end

theorem owns_take {w : World} {base : Nat} {e : TypeId} {ao : Option Addr} {n c k : Nat} {xs : List Value} (h : w.ownsRow base e 1 (.slice ao n c) n xs) (hk : k ≤ n) : w.ownsRow base e 1 (.slice ao k c) k (xs.take k) := by
  have h1 := h.1
  refine ⟨by rw [List.length_take]; omega, ?_⟩
  rcases h.2 with ⟨hv, h0⟩ | ⟨g, cap, cur, hv, a1, a2, a3, a4, a5, a6⟩
  · cases hv
    exact .inl ⟨by rw [show k = 0 from by omega], by omega⟩
  · cases hv
    refine .inr ⟨g, c, cur, rfl, a1, a2, by omega, a4, a5, ?_⟩
    rw [← a6, List.take_take]
    congr 1
    omega
theorem rowsAt_take {w : World} {base : Nat} {vs : List Value} {l : List (List Int)} (h : RowsAt w base vs l) (k : Nat) : RowsAt w base (vs.take k) (l.take k) := by
  refine ⟨by rw [List.length_take, List.length_take, h.1], fun i x c hx hc => ?_⟩
  rw [List.getElem?_take] at hx hc
  split at hx
  · rename_i hi
    rw [if_pos hi] at hc
    exact h.2 i x c hx hc
  · cases hx
end Go.Proofs.YtekkkoipcghlmaaGreatDoor

namespace Go.Proofs.YtekkkoipcghlmaaGreatDoor
open Sp

theorem Fol.mono {L M : List Nat} {m : Nat} (h : ∀ c, c ∈ L → c ∈ M) (hf : Fol L m) : Fol M m := by
  rcases hf with hf | hf
  · exact .inl hf
  · exact .inr fun U hU hs => hf U hU (fun c hc => hs c (h c hc))

/-- A proof's steps, followed. -/
def Runs : List (Bool × Nat) → List Nat → List Nat → Prop
  | [], L, L' => L' = L
  | x :: r, L, L' => (x.1 = true ∧ x.2 ∈ L ∧ Runs r (L.erase x.2) L') ∨ (x.1 = false ∧ Fol L x.2 ∧ Runs r (L ++ [x.2]) L')
theorem Runs.append : ∀ {a b : List (Bool × Nat)} {L M N : List Nat}, Runs a L M → Runs b M N → Runs (a ++ b) L N
  | [], _, _, _, _, h1, h2 => by
    have h1 : _ = _ := h1
    subst h1
    exact h2
  | x :: r, _, _, _, _, h1, h2 => by
    rcases h1 with ⟨a1, a2, a3⟩ | ⟨a1, a2, a3⟩
    · exact .inl ⟨a1, a2, Runs.append a3 h2⟩
    · exact .inr ⟨a1, a2, Runs.append a3 h2⟩
/-- More clauses besides. -/
theorem Runs.more : ∀ {s : List (Bool × Nat)} {L L' M R : List Nat}, Runs s L L' → M.Perm (L ++ R) → ∃ M', Runs s M M' ∧ M'.Perm (L' ++ R)
  | [], L, L', M, R, h, hp => by
    have h : L' = L := h
    subst h
    exact ⟨M, rfl, hp⟩
  | x :: r, L, L', M, R, h, hp => by
    rcases h with ⟨a1, a2, a3⟩ | ⟨a1, a2, a3⟩
    · obtain ⟨M', h1, h2⟩ := Runs.more (M := M.erase x.2) (R := R) a3 (by
        have := hp.erase x.2
        rwa [List.erase_append_left _ a2] at this)
      exact ⟨M', .inl ⟨a1, hp.mem_iff.2 (List.mem_append_left _ a2), h1⟩, h2⟩
    · obtain ⟨M', h1, h2⟩ := Runs.more (M := M ++ [x.2]) (R := R) a3 (by
        refine (hp.append_right [x.2]).trans ?_
        rw [List.append_assoc, List.append_assoc]
        exact List.Perm.append_left L List.perm_append_comm)
      exact ⟨M', .inr ⟨a1, Fol.mono (fun c hc => hp.mem_iff.2 (List.mem_append_left _ hc)) a2, h1⟩, h2⟩
theorem Chain.runs {G : List Nat} {s : List (Bool × Nat)} {D : List Nat} (h : Chain G s D) : ∀ M, (∀ g, g ∈ G → g ∈ M) → ∃ M', Runs s M M' ∧ M'.Perm (M ++ D) := by
  refine h (fun s D => ∀ M, (∀ g, g ∈ G → g ∈ M) → ∃ M', Runs s M M' ∧ M'.Perm (M ++ D)) (fun M _ => ⟨M, rfl, by rw [List.append_nil]⟩) (fun s D r ih hf _ M hM => ?_) (fun s A B r ih M hM => ?_)
  · obtain ⟨M', h1, h2⟩ := ih M hM
    refine ⟨M' ++ [r], Runs.append h1 (.inr ⟨rfl, Fol.mono (fun c hc => ?_) hf, rfl⟩), ?_⟩
    · rcases List.mem_append.1 hc with hc | hc
      · exact h2.mem_iff.2 (List.mem_append_left _ (hM c hc))
      · exact h2.mem_iff.2 (List.mem_append_right _ hc)
    · rw [← List.append_assoc]
      exact h2.append_right [r]
  · obtain ⟨M', h1, h2⟩ := ih M hM
    have hr : r ∈ M' := h2.mem_iff.2 (by simp)
    refine ⟨M'.erase r, Runs.append h1 (.inl ⟨rfl, hr, rfl⟩), ?_⟩
    have hp : (M ++ (A ++ r :: B)).Perm (r :: (M ++ (A ++ B))) := by
      rw [← List.append_assoc, ← List.append_assoc]
      exact List.perm_middle
    have := (h2.trans hp).erase r
    rwa [List.erase_cons_head] at this
theorem Chain.pos {G : List Nat} {s : List (Bool × Nat)} {D : List Nat} (h : Chain G s D) : ∀ x, x ∈ s → x.2 ≠ 0 := by
  have : (∀ x, x ∈ s → x.2 ≠ 0) ∧ ∀ d, d ∈ D → d ≠ 0 := by
    refine h (fun s D => (∀ x, x ∈ s → x.2 ≠ 0) ∧ ∀ d, d ∈ D → d ≠ 0) ⟨fun x hx => (by cases hx), fun x hx => (by cases hx)⟩ (fun s D r ih _ hr => ⟨fun x hx => ?_, fun d hd => ?_⟩) (fun s A B r ih => ⟨fun x hx => ?_, fun d hd => ?_⟩)
    · rcases List.mem_append.1 hx with hx | hx
      · exact ih.1 x hx
      · simp at hx; subst hx; exact hr
    · rcases List.mem_append.1 hd with hd | hd
      · exact ih.2 d hd
      · simp at hd; subst hd; exact hr
    · rcases List.mem_append.1 hx with hx | hx
      · exact ih.1 x hx
      · simp at hx; subst hx; exact ih.2 r (by simp)
    · rcases List.mem_append.1 hd with hd | hd
      · exact ih.2 d (List.mem_append_left _ hd)
      · exact ih.2 d (List.mem_append_right _ (List.mem_cons_of_mem _ hd))
  exact this.1

/-- A step's line. -/
def stepRow (s : Bool × Nat) : List UInt8 := (if s.1 then [100, 32] else []) ++ toldBody (litsOf s.2)
def linesText (s : List (Bool × Nat)) : List UInt8 := s.flatMap (fun x => stepRow x ++ [10])
def StepOK (x : Bool × Nat) : Prop := x.2 < 2 ^ 24 ∧ (x.1 = true → x.2 ≠ 0)
theorem lits_lt (m : Nat) : ∀ x, x ∈ litsOf m → Lt x := fun x hx => litsOf_bd m x hx
theorem line_no (x : Bool × Nat) : (10 : UInt8) ∉ stepRow x := by
  unfold stepRow
  rw [List.mem_append, not_or]
  refine ⟨?_, told_no _ (lits_lt _)⟩
  cases x.1 <;> decide
theorem linesText_append (a b : List (Bool × Nat)) : linesText (a ++ b) = linesText a ++ linesText b := by simp [linesText]
theorem segs_lines (s : List (Bool × Nat)) (r : List UInt8) : segs (linesText s ++ r) = s.map (fun x => (stepRow x, true)) ++ segs r := by
  induction s with
  | nil => rfl
  | cons x s ih =>
    have e : linesText (x :: s) ++ r = stepRow x ++ 10 :: (linesText s ++ r) := by simp [linesText]
    rw [e, segs_line _ _ (line_no x), ih]
    rfl
theorem lits_ne {m : Nat} (h : m < 2 ^ 24) (h0 : m ≠ 0) : litsOf m ≠ [] := fun e => h0 (litsOf_inj h (by decide) (e.trans (by decide)))
theorem step_line {x : Bool × Nat} (h : StepOK x) : stepOf (stepRow x) = (x.1, (litsOf x.2).map lw) := by
  obtain ⟨g, m⟩ := x
  cases g
  · exact step_told _ (lits_lt m)
  · have hne := lits_ne h.1 (h.2 rfl)
    have hw : words (stepRow (true, m)) = [100] :: (litsOf m).map lw := by
      have e : stepRow (true, m) = [100] ++ 32 :: toldBody (litsOf m) := rfl
      have hw2 := words_told (litsOf m) (lits_lt m)
      have hb : toldBody (litsOf m) ≠ [] := by
        cases hl : litsOf m with
        | nil => exact absurd hl hne
        | cons y r =>
          have hy : Lt y := lits_lt m y (by rw [hl]; simp)
          unfold toldBody
          rw [List.map_cons]
          exact join_ne _ _ (lw_facts y hy).2.2.2.1
      unfold words at hw2 ⊢
      rw [if_neg hb] at hw2
      rw [e, if_neg (by simp), wordsAux_run _ _ _ (by decide), List.nil_append, wordsAux, if_pos rfl, hw2]
    unfold stepOf
    rw [hw]
    simp
theorem stepMask_line {x : Bool × Nat} (h : StepOK x) : stepMask (stepRow x) = x.2 := by
  unfold stepMask
  rw [step_line h]
  show maskOf (((litsOf x.2).map lw).map lit) = _
  rw [lits_told _ (lits_lt _), mask_lits h.1]
theorem stepOk_line {x : Bool × Nat} (h : StepOK x) : stepOk (stepRow x, true) = true := by
  unfold stepOk
  rw [step_line h]
  simp only [Bool.and_true]
  rw [List.all_eq_true]
  intro w hw
  obtain ⟨y, hy, rfl⟩ := List.mem_map.1 hw
  have hy := lits_lt _ y hy
  rw [(lw_facts y hy).1]
  simpa using hy.1
theorem Runs.out : ∀ {s : List (Bool × Nat)} {L L' : List Nat} {n : Nat} {rest : List (List UInt8 × Bool)} {r : Int × Int}, Runs s L L' → (∀ x, x ∈ s → StepOK x) → Sp.Outcome L' (n + s.length) rest r → Sp.Outcome L n (s.map (fun x => (stepRow x, true)) ++ rest) r
  | [], L, L', n, rest, r, h, _, ho => by
    have h : L' = L := h
    subst h
    exact ho
  | x :: s, L, L', n, rest, r, h, hs, ho => by
    have hx := hs x (by simp)
    have ho' : Sp.Outcome L' (n + 1 + s.length) rest r := by
      have : n + 1 + s.length = n + (x :: s).length := by rw [List.length_cons]; omega
      rw [this]; exact ho
    refine .inr ⟨stepOk_line hx, ?_⟩
    rcases h with ⟨a1, a2, a3⟩ | ⟨a1, a2, a3⟩
    · exact .inl ⟨by rw [step_line hx]; exact a1, .inl ⟨by rw [stepMask_line hx]; exact a2, by rw [stepMask_line hx]; exact Runs.out a3 (fun y hy => hs y (List.mem_cons_of_mem _ hy)) ho'⟩⟩
    · exact .inr ⟨by rw [step_line hx]; exact a1, .inl ⟨by rw [stepMask_line hx]; exact a2, by rw [stepMask_line hx]; exact Runs.out a3 (fun y hy => hs y (List.mem_cons_of_mem _ hy)) ho'⟩⟩

/-- A text is a proof of clauses that is accepted. -/
def Accepted (G : List Nat) (pb : List UInt8) : Prop := ∃ s M R, pb = linesText s ∧ (∀ x, x ∈ s → StepOK x) ∧ Runs s G M ∧ M.Perm (G ++ R)
theorem Accepted.nil (G : List Nat) : Accepted G [] := ⟨[], G, [], rfl, fun x hx => (by cases hx), rfl, by rw [List.append_nil]⟩
theorem Accepted.add {G : List Nat} {pb : List UInt8} (h : Accepted G pb) (H : List Nat) : Accepted (G ++ H) pb := by
  obtain ⟨s, M, R, h1, h2, h3, h4⟩ := h
  obtain ⟨M', h5, h6⟩ := Runs.more (M := G ++ H) (R := H) h3 (List.Perm.refl _)
  refine ⟨s, M', R, h1, h2, h5, h6.trans ((h4.append_right H).trans ?_)⟩
  rw [List.append_assoc, List.append_assoc]
  exact List.Perm.append_left G List.perm_append_comm
theorem Accepted.addTo {G : List Nat} {pb : List UInt8} (h : Accepted G pb) (c : List Int) : Accepted (addTo G c).2 pb := by
  unfold Go.Proofs.YtekkkoipcghlmaaGreatDoor.addTo
  split
  · exact h
  · split
    · exact h
    · split
      · exact h
      · exact h.add _
theorem opp_core {core : List Int} (h : ∀ y, y ∈ core → y ≠ 0 ∧ -12 ≤ y ∧ y ≤ 12) : maskOf (core.map (fun x => -x)) = oppMask (maskOf core) := by
  have hm : maskOf core < 2 ^ 24 := maskOf_lt _ (fun y hy => (h y hy).2)
  have hn : ∀ y, y ∈ core.map (fun x => -x) → y ≠ 0 ∧ -12 ≤ y ∧ y ≤ 12 := fun y hy => by
    obtain ⟨z, hz, rfl⟩ := List.mem_map.1 hy
    have := h z hz
    omega
  have hm2 : maskOf (core.map (fun x => -x)) < 2 ^ 24 := maskOf_lt _ (fun y hy => (hn y hy).2)
  apply Nat.eq_of_testBit_eq
  intro i
  rcases Nat.lt_or_ge i 24 with hi | hi
  · rw [oppMask_bit hm i hi, maskOf_testBit, maskOf_testBit, Bool.eq_iff_iff, List.any_eq_true, List.any_eq_true]
    have key : ∀ y, y ≠ 0 → (bitIx (-y) = i ↔ bitIx y = opp i) := fun y hy => by
      unfold bitIx opp
      by_cases hp : 0 < y
      · rw [if_pos hp, if_neg (by omega)]
        split <;> omega
      · rw [if_neg hp, if_pos (by omega)]
        split <;> omega
    constructor
    · rintro ⟨y, hy, e⟩
      obtain ⟨z, hz, rfl⟩ := List.mem_map.1 hy
      exact ⟨z, hz, by rw [beq_iff_eq] at e ⊢; exact (key z (h z hz).1).1 e⟩
    · rintro ⟨z, hz, e⟩
      exact ⟨-z, List.mem_map.2 ⟨z, hz, rfl⟩, by rw [beq_iff_eq] at e ⊢; exact (key z (h z hz).1).2 e⟩
  · rw [Nat.testBit_lt_two_pow (Nat.lt_of_lt_of_le hm2 (Nat.pow_le_pow_right (by decide) hi)), Nat.testBit_lt_two_pow (Nat.lt_of_lt_of_le (opp_lt24 _) (Nat.pow_le_pow_right (by decide) hi))]
theorem stepsText_lines (S : List (Bool × List Int)) : stepsText S = linesText (stepMasks S) := by
  unfold stepsText linesText stepMasks
  rw [List.flatMap_map]
  congr 1
  funext s
  unfold stepText stepRow told
  rw [List.append_assoc]
theorem told_lines (m : Nat) : told (litsOf m) = linesText [(false, m)] := by simp [linesText, stepRow, told]

/-- What Solve writes is accepted behind what there was. -/
theorem Accepted.solve {base x : Nat} {kv pv vm vc : Value} {ms : List Nat} {pb : List UInt8} {A : List Int} {B kind cf : Int} {w w' : World} (ha : Accepted ms pb) (h : SolveRes base x kv ms pv pb A B w kind vm vc cf w') (hA : Lits A) :
    ∃ pv' S, XAt base w' x kv ms pv' (pb ++ S) ∧ S.length ≤ 1000000000 ∧ Accepted ms (pb ++ S) ∧ (kind = 2 → ∃ core U, (∃ p : Int → Bool, core = A.filter p) ∧ w'.ownsRow w.heap.size 3 1 vc core.length (ints core) ∧ pb ++ S = linesText U ++ told (litsOf (oppMask (maskOf core)))) := by
  have hkeep := h
  obtain ⟨S, D, pv', core, hW, hch, hwf, hlen, h4, h5, h6⟩ := h
  obtain ⟨s0, M0, R0, e0, ok0', r0, p0⟩ := ha
  obtain ⟨M1, r1, p1⟩ := hch.runs M0 (fun g hg => p0.mem_iff.2 (List.mem_append_left _ hg))
  have hstep : ∀ x, x ∈ stepMasks S → StepOK x := fun x hx => by
    have hp := hch.pos x hx
    obtain ⟨s, hs, rfl⟩ := List.mem_map.1 hx
    exact ⟨maskOf_lt _ (fun y hy => ((hwf s hs).2 y hy).2), fun _ => hp⟩
  have hl1 := stepsText_len S
  have hl2 : (told (litsOf (oppMask (maskOf core)))).length ≤ 97 := maskTold_len _
  by_cases hk : kind = 2
  · have hc : (∃ p : Int → Bool, core = A.filter p) ∧ w'.ownsRow w.heap.size 3 1 vc core.length (ints core) ∧ Sp.Fol (ms ++ D) (Sp.maskOf (core.map (fun x => -x))) := by
      rcases h6 with ⟨a, -⟩ | ⟨-, -, a, b, c⟩ | ⟨a, -⟩
      · omega
      · exact ⟨a, b, c⟩
      · omega
    have hcl : ∀ y, y ∈ core → y ≠ 0 ∧ -12 ≤ y ∧ y ≤ 12 := fun y hy => by
      obtain ⟨p, rfl⟩ := hc.1
      exact hA y (List.mem_filter.1 hy).1
    rw [if_pos hk] at hW
    have hF := hc.2.2
    rw [opp_core hcl] at hF
    refine ⟨pv', _, hW.1, by rw [List.length_append]; omega, ⟨s0 ++ stepMasks S ++ [(false, oppMask (maskOf core))], M1 ++ [oppMask (maskOf core)], R0 ++ D ++ [oppMask (maskOf core)], ?_, ?_, ?_, ?_⟩, fun _ => ⟨core, s0 ++ stepMasks S, hc.1, hc.2.1, ?_⟩⟩
    · rw [linesText_append, linesText_append, e0, stepsText_lines, told_lines, List.append_assoc]
    · intro y hy
      rcases List.mem_append.1 hy with hy | hy
      · rcases List.mem_append.1 hy with hy | hy
        · exact ok0' y hy
        · exact hstep y hy
      · simp at hy; subst hy
        exact ⟨opp_lt24 _, fun h => by cases h⟩
    · refine Runs.append (Runs.append r0 r1) (.inr ⟨rfl, Fol.mono (fun c hc => ?_) hF, rfl⟩)
      rcases List.mem_append.1 hc with hc | hc
      · exact p1.mem_iff.2 (List.mem_append_left _ (p0.mem_iff.2 (List.mem_append_left _ hc)))
      · exact p1.mem_iff.2 (List.mem_append_right _ hc)
    · rw [← List.append_assoc, ← List.append_assoc]
      exact (p1.trans (p0.append_right D)).append_right _
    · rw [linesText_append, e0, stepsText_lines, List.append_assoc]
  · rw [if_neg hk] at hW
    refine ⟨pv', _, hW.1, by rw [List.append_nil]; omega, ⟨s0 ++ stepMasks S, M1, R0 ++ D, ?_, ?_, Runs.append r0 r1, ?_⟩, fun h => absurd h hk⟩
    · rw [List.append_nil, linesText_append, e0, stepsText_lines]
    · intro y hy
      rcases List.mem_append.1 hy with hy | hy
      · exact ok0' y hy
      · exact hstep y hy
    · rw [← List.append_assoc]
      exact p1.trans (p0.append_right D)

theorem maskText_text (ms : List Nat) : maskText ms = textOf (ms.map litsOf) := by
  unfold maskText textOf
  rw [List.flatMap_map]
theorem text_lt (ms : List Nat) : ∀ c, c ∈ ms.map litsOf → ∀ x, x ∈ c → Lt x := fun c hc x hx => by
  obtain ⟨m, _, rfl⟩ := List.mem_map.1 hc
  exact lits_lt m x hx
theorem masks_maskText {ms : List Nat} (h : ∀ m, m ∈ ms → m < 2 ^ 24) : masksOf (maskText ms) = ms := by
  rw [maskText_text, masks_told _ (text_lt ms), List.map_map]
  conv => rhs; rw [← List.map_id ms]
  apply List.map_congr_left
  intro m hm
  exact mask_lits (h m hm)
theorem scan_maskText (ms : List Nat) : scanSegs 0 (segs (maskText ms)) = none := by
  rw [maskText_text]
  exact scan_told _ (text_lt ms)
/-- What Check says of it. -/
theorem Accepted.check {G : List Nat} {pb : List UInt8} (h : Accepted G pb) (hG : ∀ m, m ∈ G → m < 2 ^ 24) (hl : (maskText G).length ≤ 6000) : CheckOut (maskText G) pb (if pb.length ≤ 6000 then (0, 0) else (4, 0)) := by
  refine .inr ⟨hl, .inr ⟨scan_maskText G, ?_⟩⟩
  by_cases hp : pb.length ≤ 6000
  · rw [if_pos hp]
    refine .inr ⟨hp, ?_⟩
    obtain ⟨s, M, R, rfl, h2, h3, -⟩ := h
    rw [masks_maskText hG]
    have := segs_lines s []
    rw [List.append_nil] at this
    rw [this]
    exact Runs.out h3 h2 rfl
  · rw [if_neg hp]
    exact .inl ⟨by omega, rfl⟩

end Go.Proofs.YtekkkoipcghlmaaGreatDoor

namespace Go.Proofs.YtekkkoipcghlmaaGreatDoor
open Go.RowKit

theorem lines_end : ∀ (U : List (Bool × Nat)), linesText U = [] ∨ ∃ Q, linesText U = Q ++ [10]
  | [] => .inl rfl
  | x :: r => by
    rcases lines_end r with h | ⟨Q, h⟩
    · exact .inr ⟨stepRow x, by show (stepRow x ++ [10]) ++ linesText r = _; rw [h, List.append_nil]⟩
    · exact .inr ⟨stepRow x ++ [10] ++ Q, by show (stepRow x ++ [10]) ++ linesText r = _; rw [h, List.append_assoc, List.append_assoc, List.append_assoc]⟩

/-- What followed finds. -/
theorem check_two {G : List Nat} {pb : List UInt8} (h : Accepted G pb) (hG : ∀ m, m ∈ G → m < 2 ^ 24) (hl : (maskText G).length ≤ 6000) (hp : pb.length ≤ 9000000000000000000) (w : World) (he : Env w) :
    Calls Tryz.prog 31 #[.string (bs (maskText G)), .string (bs pb)] w fun e w' => e = .returned (.tuple #[.int .i64 (if pb.length ≤ 6000 then 0 else 4), .int .i64 0]) ∧ Below w.heap.size w w' := by
  refine (checkK w (h.check hG hl) (by omega) (by omega) he).mono ?_
  rintro e w' ⟨rfl, hb⟩
  refine ⟨?_, hb⟩
  split <;> rfl

set_option maxRecDepth 100000 in
set_option maxHeartbeats 1600000 in
theorem followedK {base x : Nat} {kv pv : Value} {ms : List Nat} {pb : List UInt8} {w : World} (hX : XAt base w x kv ms pv pb) (hms : KeptOK ms) (hl : (maskText ms).length ≤ 6000) (ha : Accepted ms pb) (hpb : pb.length ≤ 9000000000000000000) (hU : ∃ U, pb = linesText U ++ [10]) (he : Env w) :
    Calls Tryz.prog 33 #[.pointer (some ⟨x, 0, none⟩), .string ⟨#[10]⟩] w fun e w' => e = .returned (.bool true) ∧ Below w.heap.size w w' := by
  have HPR := hide (proofX_any base x kv ms w pv pb hX)
  have HCL := hide (clausesX_any base x kv ms w pv pb hX (by have := hms.2.2; omega) (fun m hm => (hms.1 m hm).1) he.toEnvT)
  have HCH := hide (fun wx (hb : Below w.heap.size w wx) => check_two ha (fun m hm => (hms.1 m hm).1) hl hpb wx (he.below hb))
  have hsz := bs_size pb
  generalize maskText ms = mt at *
  obtain ⟨U, hU⟩ := hU
  have hends : pb = [10] ∨ ∃ Q, pb = Q ++ [10, 10] := by
    rcases lines_end U with h | ⟨Q, h⟩
    · left; rw [hU, h]; rfl
    · right; exact ⟨Q, by rw [hU, h, List.append_assoc]; rfl⟩
  clear hX ha hU hl
  rcases hends with rfl | ⟨Q, hQ⟩
  · have SL : ∀ wx, (Instr.slice 9 (.string (bs [10])) (some (.int .i64 0)) none none).run Tryz.prog wx = .ok (.string ⟨#[10]⟩) wx := fun wx => slice_from_bs 9 Tryz.underlying9 [10] 0 0 rfl (by decide) wx
    go_enter Tryz.func33, Tryz.ntmps33
    go_wp2_with fail
    refine (unhide HPR).mono ?_
    rintro e w1 ⟨rfl, rfl⟩
    go_wp2_with fail
    refine (unhide HCL).mono ?_
    rintro e w2 ⟨rfl, hb2⟩
    go_wp2_with fail
    refine (unhide HCH _ hb2).mono ?_
    rintro e w3 ⟨rfl, hb3⟩
    go_wp2
    go_ret
    exact ⟨by simp, hb2.trans (hb3.mono hb2.size)⟩
  · have hlen : pb.length = Q.length + 2 := by rw [hQ]; simp
    have hg : (bs pb)[Q.length]'(by rw [hsz]; omega) = 10 := by
      rw [bs_get (by omega)]
      simp [hQ]
    have hex : (bs pb).extract (Q.length + 1) (Q.length + 2) = ⟨#[10]⟩ := by
      rw [bs_extract, hQ, show Q ++ ([10, 10] : List UInt8) = (Q ++ [10]) ++ [10] from by simp, List.drop_left' (by simp)]
      simp [bs]
    have HQ := hide hQ
    clear hQ
    go_enter Tryz.func33, Tryz.ntmps33
    go_wp2_with fail
    refine (unhide HPR).mono ?_
    rintro e w1 ⟨rfl, rfl⟩
    go_wp2_with fail
    refine (unhide HCL).mono ?_
    rintro e w2 ⟨rfl, hb2⟩
    go_wp2_with fail
    refine (unhide HCH _ hb2).mono ?_
    rintro e w3 ⟨rfl, hb3⟩
    by_cases h6 : pb.length ≤ 6000
    · rw [if_pos h6]
      go_wp2
      go_ret
      exact ⟨by simp, hb2.trans (hb3.mono hb2.size)⟩
    · rw [if_neg h6]
      go_wp2
      go_ret
      exact ⟨by simp, hb2.trans (hb3.mono hb2.size)⟩

end Go.Proofs.YtekkkoipcghlmaaGreatDoor
