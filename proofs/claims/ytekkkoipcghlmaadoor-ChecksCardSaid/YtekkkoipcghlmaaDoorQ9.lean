import Derived.Test.YtekkkoipcghlmaaDoorQ8
import Derived.Carry
namespace Go.Proofs.YtekkkoipcghlmaaDoor
open Go.RowKit Go.Maps

theorem St.start {base : Nat} {w : World} {p bm : Nat} (hp : w.heap[p]? = some (.cells #[.slice none 0 0, .map (some bm)] 86 (0, 0))) (hb : w.ownsMap Tryd.prog 50 (plainElem Tryd.prog 3) bm 0 (.map [] : DataW Unit)) (h1 : base ≤ p) (h2 : base ≤ bm) : St base w p bm 0 [] :=
  ⟨.slice none 0 0, .map [], [], ⟨hp, h1, h2, World.ownsRow_nil _ _ _ _, hb, ⟨fun i x hx => (by simp at hx), fun c _ => rfl⟩⟩, Bag.start, Nat.le_refl _⟩

def NewRes (ms : List Nat) (w : World) (e : Ending) (w' : World) : Prop := ∃ p bm, e = .returned (.pointer (some ⟨p, 0, none⟩)) ∧ St w.heap.size w' p bm ms.length ms ∧ Below w.heap.size w w'

set_option maxRecDepth 100000 in
set_option maxHeartbeats 1600000 in
theorem newList_any (v : Value) (ms : List Nat) (w : World) (hl : ms.length ≤ 100000) (hs : Small ms) (hv : Lies w v (us ms)) :
    Calls Tryd.prog 27 #[v] w fun e w' => NewRes ms w e w' := by
  obtain ⟨ao, cap, rfl⟩ := lies_shape hv
  have hlen : (us ms).length = ms.length := by simp [us]
  rw [hlen] at hv ⊢
  have HV := hide hv
  have HS := hide hs
  clear hv hlen hs
  have hmm := @run_makeMap Tryd.prog
  go_enter Tryd.func27, Tryd.ntmps27
  go_wp2
  have HSt : Hid (St w.heap.size ((w.alloc (Obj.map #[] 0)).alloc (Obj.cells #[Value.slice none 0 0, Value.map (some w.heap.size)] 86)) (w.heap.size + 1) w.heap.size 0 []) := hide (St.start (by have := heap_alloc_new (w.alloc (Obj.map #[] 0)) (Obj.cells #[Value.slice none 0 0, Value.map (some w.heap.size)] 86); simpa using this) ((World.ownsMap_made w _ _ _).alloc _) (by omega) (Nat.le_refl _))
  have HB : Hid (Below w.heap.size w ((w.alloc (Obj.map #[] 0)).alloc (Obj.cells #[Value.slice none 0 0, Value.map (some w.heap.size)] 86))) := hide (((Below.refl _ _).alloc (Nat.le_refl _) _).alloc (by simp) _)
  go_loopw [11] (fun i wr => ∃ k : Nat, k ≤ ms.length ∧ i = .int .i64 k ∧ Hid (St w.heap.size wr (w.heap.size + 1) w.heap.size k (ms.take k)) ∧ Below w.heap.size w wr) (fun i _ => ms.length - (intOf i).toNat)
  case atStart => exact ⟨0, Nat.zero_le _, rfl, HSt, unhide HB⟩
  case round =>
    obtain ⟨k, hk, rfl, HST, hbel⟩ := hrel
    by_cases hlt : k < ms.length
    · rcases unhide HV with ⟨h0, _⟩ | ⟨b, off, cap', hp, hsl, hb, hc⟩
      · exfalso; have h0' : ms = [] := by simpa [us] using h0
        rw [h0'] at hlt; simp at hlt
      · simp only [Value.slice.injEq] at hsl
        obtain ⟨rfl, -, rfl⟩ := hsl
        have hcell : wr.cell? ⟨b, off + k, none⟩ = some (.int .u32 (ms[k] : Int)) := (hbel.cell (p := ⟨b, off + k, none⟩) hb).trans (hc k _ (by simp [us, hlt]))
        have hm := unhide HS ms[k] (List.getElem_mem hlt)
        have HT : Hid (ms.take (k + 1) = ms.take k ++ [ms[k]]) := hide (List.take_succ_eq_append_getElem hlt)
        generalize ms[k] = m at *
        have htl : (ms.take k).length ≤ k := List.length_take_le _ _
        have HA := hide (add_any w.heap.size (w.heap.size + 1) w.heap.size k m (ms.take k) wr (unhide HST) (by omega) (by omega) hm)
        clear hc htl
        go_wp2_with fail
        refine (unhide HA).mono ?_
        rintro e w2 ⟨rfl, h1, h2, -⟩
        have HN := hide h1
        clear h1
        go_wp2
        go_roundw
        case rel => exact ⟨k + 1, by omega, by go_num, hide (by rw [unhide HT]; exact unhide HN), hbel.trans h2⟩
        case measure => simp [intOf]; omega
    · have HT : Hid (ms.take k = ms) := hide (List.take_of_length_le (by omega))
      have HK : Hid (k = ms.length) := hide (by omega)
      go_wp2
      go_ret
      have hst := unhide HST
      rw [unhide HT, unhide HK] at hst
      exact ⟨_, _, rfl, hst, hbel⟩
end Go.Proofs.YtekkkoipcghlmaaDoor
