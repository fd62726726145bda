import Derived.Test.YtekkkoipcghlmaaDoorQ12
import Derived.Test.YtekkkoipcghlmaaDoorP12
namespace Go.Proofs.YtekkkoipcghlmaaDoor
open Go.RowKit

set_option maxRecDepth 100000 in
set_option maxHeartbeats 10000000 in
theorem proof_all (s t : List UInt8) (w : World) (hs2 : s.length ≤ 9223372036854775807) (ht2 : t.length ≤ 9223372036854775807) (he : Env w) :
    Calls Tryd.prog 15 #[.string (bs s), .string (bs t)] w fun e W => CheckRes s t w e W := by
  have hszt := bs_size t
  have hbA : Below w.heap.size w ((w.alloc (.cells #[.int .i64 0] 29)).alloc (.cells #[.int .i64 0] 3)) := ((Below.refl _ w).alloc (Nat.le_refl _) _).alloc (by simp) _
  have hsA : ((w.alloc (.cells #[.int .i64 0] 29)).alloc (.cells #[.int .i64 0] 3)).heap.size = w.heap.size + 2 := by simp
  have e0 := (Boxed.new w 29 (.int .i64 0)).alloc (.cells #[.int .i64 0] 3)
  have e1 := Boxed.new (w.alloc (.cells #[.int .i64 0] 29)) 3 (.int .i64 0)
  simp only [World.size_alloc] at e1
  have HBO : Hid (∀ W1, Below ((w.alloc (.cells #[.int .i64 0] 29)).alloc (.cells #[.int .i64 0] 3)).heap.size ((w.alloc (.cells #[.int .i64 0] 29)).alloc (.cells #[.int .i64 0] 3)) W1 → Boxed W1 w.heap.size 29 (.int .i64 0) ∧ Boxed W1 (w.heap.size + 1) 3 (.int .i64 0) ∧ Below w.heap.size w W1) :=
    hide (fun W1 hb => ⟨(hb.block _ (by rw [hsA]; omega)).trans e0, (hb.block _ (by rw [hsA]; omega)).trans e1, hbA.trans (hb.mono (by rw [hsA]; omega))⟩)
  have early : ∀ (er : Int) (k : Int) (v : Value), er ≠ 0 → CheckOut s t (er, k) →
      (Calls Tryd.prog 11 #[.string (bs s)] ((w.alloc (.cells #[.int .i64 0] 29)).alloc (.cells #[.int .i64 0] 3)) fun e W => Below ((w.alloc (.cells #[.int .i64 0] 29)).alloc (.cells #[.int .i64 0] 3)).heap.size ((w.alloc (.cells #[.int .i64 0] 29)).alloc (.cells #[.int .i64 0] 3)) W ∧ e = .returned (.tuple #[v, .int .i64 er, .int .i64 k])) →
      Calls Tryd.prog 15 #[.string (bs s), .string (bs t)] w fun e W => CheckRes s t w e W := by
    intro er k v hne hco hrd
    have HCO := hide hco
    have HRD := hide hrd
    have hq : (er == (0 : Int)) = false := by rw [beq_eq_false_iff_ne]; exact hne
    clear hco hrd hne e0 e1 hbA hsA
    go_enter Tryd.func15, Tryd.ntmps15
    go_wp2_with fail
    refine (unhide HRD).mono ?_
    rintro e W1 ⟨hb1, rfl⟩
    obtain ⟨b0, b1, b2⟩ := unhide HBO W1 hb1
    have hr0 : W1.cell? ⟨w.heap.size, 0, none⟩ = some (.int .i64 0) := b0.cell
    have hf0 : W1.frozen? ⟨w.heap.size, 0, none⟩ = false := b0.frozen
    have hr1 : W1.cell? ⟨w.heap.size + 1, 0, none⟩ = some (.int .i64 0) := b1.cell
    have hf1 : W1.frozen? ⟨w.heap.size + 1, 0, none⟩ = false := b1.frozen
    have a0 : Boxed (W1.setCell ⟨w.heap.size, 0, none⟩ (.int .i64 er)) w.heap.size 29 (.int .i64 er) := b0.set _
    have a1 : Boxed (W1.setCell ⟨w.heap.size, 0, none⟩ (.int .i64 er)) (w.heap.size + 1) 3 (.int .i64 0) := (Below.heap_setCell W1 _ _ _ (by simp)).trans b1
    have k0 : ((W1.setCell ⟨w.heap.size, 0, none⟩ (.int .i64 er)).setCell ⟨w.heap.size + 1, 0, none⟩ (.int .i64 k)).cell? ⟨w.heap.size, 0, none⟩ = some (.int .i64 er) := Boxed.cell (t := 29) ((Below.heap_setCell _ _ _ _ (by simp)).trans a0)
    have k1 : ((W1.setCell ⟨w.heap.size, 0, none⟩ (.int .i64 er)).setCell ⟨w.heap.size + 1, 0, none⟩ (.int .i64 k)).cell? ⟨w.heap.size + 1, 0, none⟩ = some (.int .i64 k) := (a1.set _).cell
    have HPB : Hid (Below w.heap.size w ((W1.setCell ⟨w.heap.size, 0, none⟩ (.int .i64 er)).setCell ⟨w.heap.size + 1, 0, none⟩ (.int .i64 k))) := hide ((b2.setCell (p := ⟨w.heap.size, 0, none⟩) (by simp) _).setCell (p := ⟨w.heap.size + 1, 0, none⟩) (by simp) _)
    have HK0 := hide k0
    have HK1 := hide k1
    clear b0 b1 b2 a0 a1 k0 k1
    go_wp2
    have k0 := unhide HK0
    have k1 := unhide HK1
    refine bodyPost_ret (v := .tuple #[.int .i64 er, .int .i64 k]) (by simp [results, Tryd.results15, go_sem, k0, k1]) rfl ?_
    exact ⟨(er, k), rfl, unhide HCO, unhide HPB⟩
  by_cases hs : 6000 < s.length
  · exact early 4 0 _ (by decide) (.inl ⟨hs, rfl⟩) (read_long s _ hs hs2)
  · cases hn : Sp.scanSegs 0 (Sp.segs s) with
    | some n =>
      refine early 5 n (.slice none 0 0) (by decide) (.inr ⟨by omega, .inl ⟨n, hn, rfl⟩⟩) ((read_any s _ (by omega) (he.below hbA)).mono ?_)
      rintro e W ⟨hb, ⟨k, hk, rfl⟩ | ⟨hk, _⟩⟩
      · rw [hn] at hk; cases hk; exact ⟨hb, rfl⟩
      · rw [hn] at hk; cases hk
    | none =>
      by_cases ht : 6000 < t.length
      · have HRD := hide (read_any s _ (by omega) (he.below hbA))
        have HN := hide hn
        clear e0 e1 hbA hsA hn early
        go_enter Tryd.func15, Tryd.ntmps15
        go_wp2_with fail
        refine (unhide HRD).mono ?_
        rintro e W1 ⟨hb1, ⟨k, hk, rfl⟩ | ⟨-, v, rfl, -⟩⟩
        · exfalso; rw [unhide HN] at hk; cases hk
        obtain ⟨b0, b1, b2⟩ := unhide HBO W1 hb1
        have hr0 : W1.cell? ⟨w.heap.size, 0, none⟩ = some (.int .i64 0) := b0.cell
        have hf0 : W1.frozen? ⟨w.heap.size, 0, none⟩ = false := b0.frozen
        have hr1 : W1.cell? ⟨w.heap.size + 1, 0, none⟩ = some (.int .i64 0) := b1.cell
        have hf1 : W1.frozen? ⟨w.heap.size + 1, 0, none⟩ = false := b1.frozen
        have a0 : Boxed (W1.setCell ⟨w.heap.size, 0, none⟩ (.int .i64 4)) w.heap.size 29 (.int .i64 4) := b0.set _
        have a1 : Boxed (W1.setCell ⟨w.heap.size, 0, none⟩ (.int .i64 4)) (w.heap.size + 1) 3 (.int .i64 0) := (Below.heap_setCell W1 _ _ _ (by simp)).trans b1
        have k0 : ((W1.setCell ⟨w.heap.size, 0, none⟩ (.int .i64 4)).setCell ⟨w.heap.size + 1, 0, none⟩ (.int .i64 0)).cell? ⟨w.heap.size, 0, none⟩ = some (.int .i64 4) := Boxed.cell (t := 29) ((Below.heap_setCell _ _ _ _ (by simp)).trans a0)
        have k1 : ((W1.setCell ⟨w.heap.size, 0, none⟩ (.int .i64 4)).setCell ⟨w.heap.size + 1, 0, none⟩ (.int .i64 0)).cell? ⟨w.heap.size + 1, 0, none⟩ = some (.int .i64 0) := (a1.set _).cell
        have HPB : Hid (Below w.heap.size w ((W1.setCell ⟨w.heap.size, 0, none⟩ (.int .i64 4)).setCell ⟨w.heap.size + 1, 0, none⟩ (.int .i64 0))) := hide ((b2.setCell (p := ⟨w.heap.size, 0, none⟩) (by simp) _).setCell (p := ⟨w.heap.size + 1, 0, none⟩) (by simp) _)
        have HK0 := hide k0
        have HK1 := hide k1
        clear b0 b1 b2 a0 a1 k0 k1
        go_wp2
        have k0 := unhide HK0
        have k1 := unhide HK1
        refine bodyPost_ret (v := .tuple #[.int .i64 4, .int .i64 0]) (by simp [results, Tryd.results15, go_sem, k0, k1]) rfl ?_
        exact ⟨(4, 0), rfl, .inr ⟨by omega, .inr ⟨unhide HN, .inl ⟨ht, rfl⟩⟩⟩, unhide HPB⟩
      · exact proof_any s t w (by omega) (by omega) hn he

set_option maxRecDepth 100000 in
theorem checkGo_any (s t : List UInt8) (w : World) (hs2 : s.length ≤ 9223372036854775807) (ht2 : t.length ≤ 9223372036854775807) (he : Env w) :
    Calls Tryd.prog 9 #[.string (bs s), .string (bs t)] w fun e W => CheckRes s t w e W := by
  have HP := hide (proof_all s t w hs2 ht2 he)
  go_enter Tryd.func9, Tryd.ntmps9
  go_wp2_with fail
  refine (unhide HP).mono ?_
  rintro e w1 ⟨⟨a, b⟩, rfl, ho, hb1⟩
  have HO := hide ho
  clear ho
  go_wp2
  go_ret2
  exact ⟨(a, b), rfl, unhide HO, hb1⟩

set_option maxRecDepth 100000 in
set_option maxHeartbeats 800000 in
theorem lawChecked_any (s t : List UInt8) (w : World) (hs2 : s.length ≤ 9223372036854775807) (ht2 : t.length ≤ 9223372036854775807) (he : Env w) :
    Calls Tryd.prog 6 #[.string (bs s), .string (bs t)] w fun e w' => e = .returned (.bool true) ∧ Below w.heap.size w w' := by
  have HP := hide (checkGo_any s t w hs2 ht2 he)
  have HQ := hide (fun wx => refCheck_any s t wx hs2 ht2)
  go_enter Tryd.func6, Tryd.ntmps6
  go_wp2_with fail
  refine (unhide HP).mono ?_
  rintro e w1 ⟨⟨a, b⟩, rfl, ho, hb1⟩
  have HO := hide ho
  clear ho
  go_wp2_with fail
  refine (unhide HQ w1).mono ?_
  rintro e w2 ⟨⟨a', b'⟩, rfl, ho', hb2⟩
  have hu := (unhide HO).unique ho'
  cases hu
  clear ho'
  go_wp2
  go_ret
  exact ⟨rfl, hb1.trans (hb2.mono hb1.size)⟩

end Go.Proofs.YtekkkoipcghlmaaDoor
