import Derived.Test.YtekkkoipcghlmabGreatDoorE39
import Derived.Carry
import Derived.Test.YtekkkoipcghlmabGreatDoorE37
set_option linter.all false
namespace Go.Proofs.YtekkkoipcghlmabGreatDoor
open Go.RowKit Go.Maps

theorem St.start {base : Nat} {w : World} {p bm : Nat} (hp : w.heap[p]? = some (.cells #[.slice none 0 0, .map (some bm)] 152 (0, 0))) (hb : w.ownsMap Tryz.prog 59 (plainElem Tryz.prog 3) bm 0 (.map [] : DataW Unit)) (h1 : base ≤ p) (h2 : base ≤ bm) : St base w p bm 0 [] :=
  ⟨.slice none 0 0, .map [], [], ⟨hp, h1, h2, World.ownsRow_nil _ _ _ _, hb, ⟨fun i x hx => (by simp at hx), fun c _ => rfl⟩⟩, Bag.start, Nat.le_refl _⟩

def NewRes (ms : List Nat) (w : World) (e : Ending) (w' : World) : Prop := ∃ p bm, e = .returned (.pointer (some ⟨p, 0, none⟩)) ∧ St w.heap.size w' p bm ms.length ms ∧ Below w.heap.size w w'

set_option maxRecDepth 100000 in
set_option maxHeartbeats 1600000 in
theorem newList_any (v : Value) (ms : List Nat) (w : World) (hl : ms.length ≤ 100000) (hs : Small ms) (hv : Lies w v (us ms)) :
    Calls Tryz.prog 66 #[v] w fun e w' => NewRes ms w e w' := by
  obtain ⟨ao, cap, rfl⟩ := lies_shape hv
  have hlen : (us ms).length = ms.length := by simp [us]
  rw [hlen] at hv ⊢
  have HV := hide hv
  have HS := hide hs
  clear hv hlen hs
  have hmm := @run_makeMap Tryz.prog
  go_enter Tryz.func66, Tryz.ntmps66
  go_wp2
  have HSt : Hid (St w.heap.size ((w.alloc (Obj.map #[] 0)).alloc (Obj.cells #[Value.slice none 0 0, Value.map (some w.heap.size)] 152)) (w.heap.size + 1) w.heap.size 0 []) := hide (St.start (by have := heap_alloc_new (w.alloc (Obj.map #[] 0)) (Obj.cells #[Value.slice none 0 0, Value.map (some w.heap.size)] 152); simpa using this) ((World.ownsMap_made w _ _ _).alloc _) (by omega) (Nat.le_refl _))
  have HB : Hid (Below w.heap.size w ((w.alloc (Obj.map #[] 0)).alloc (Obj.cells #[Value.slice none 0 0, Value.map (some w.heap.size)] 152))) := hide (((Below.refl _ _).alloc (Nat.le_refl _) _).alloc (by simp) _)
  go_loopw [11] (fun i wr => ∃ k : Nat, k ≤ ms.length ∧ i = .int .i64 k ∧ Hid (St w.heap.size wr (w.heap.size + 1) w.heap.size k (ms.take k)) ∧ Below w.heap.size w wr) (fun i _ => ms.length - (intOf i).toNat)
  case atStart => exact ⟨0, Nat.zero_le _, rfl, HSt, unhide HB⟩
  case round =>
    obtain ⟨k, hk, rfl, HST, hbel⟩ := hrel
    by_cases hlt : k < ms.length
    · rcases unhide HV with ⟨h0, _⟩ | ⟨b, off, cap', hp, hsl, hb, hc⟩
      · exfalso; have h0' : ms = [] := by simpa [us] using h0
        rw [h0'] at hlt; simp at hlt
      · simp only [Value.slice.injEq] at hsl
        obtain ⟨rfl, -, rfl⟩ := hsl
        have hcell : wr.cell? ⟨b, off + k, none⟩ = some (.int .u32 (ms[k] : Int)) := (hbel.cell (p := ⟨b, off + k, none⟩) hb).trans (hc k _ (by simp [us, hlt]))
        have hm := unhide HS ms[k] (List.getElem_mem hlt)
        have HT : Hid (ms.take (k + 1) = ms.take k ++ [ms[k]]) := hide (List.take_succ_eq_append_getElem hlt)
        generalize ms[k] = m at *
        have htl : (ms.take k).length ≤ k := List.length_take_le _ _
        have HA := hide (qadd_any w.heap.size (w.heap.size + 1) w.heap.size k m (ms.take k) wr (unhide HST) (by omega) (by omega) hm)
        clear hc htl
        go_wp2_with fail
        refine (unhide HA).mono ?_
        rintro e w2 ⟨rfl, h1, h2, -⟩
        have HN := hide h1
        clear h1
        go_wp2
        go_roundw
        case rel => exact ⟨k + 1, by omega, by go_num, hide (by rw [unhide HT]; exact unhide HN), hbel.trans h2⟩
        case measure => simp [intOf]; omega
    · have HT : Hid (ms.take k = ms) := hide (List.take_of_length_le (by omega))
      have HK : Hid (k = ms.length) := hide (by omega)
      go_wp2
      go_ret
      have hst := unhide HST
      rw [unhide HT, unhide HK] at hst
      exact ⟨_, _, rfl, hst, hbel⟩
end Go.Proofs.YtekkkoipcghlmabGreatDoor

namespace Go.Proofs.YtekkkoipcghlmabGreatDoor
open Go.RowKit Go.Maps

def CapOk : Value → Prop | .slice _ n c => n ≤ c | _ => True

set_option maxRecDepth 100000 in
set_option maxHeartbeats 400000 in
theorem wordsGo_cap (x : List UInt8) (en : Bool) (w : World) (hx : x.length ≤ 6000) (h : en = false → x.getLast? ≠ some 10) (he : Env w) :
    Calls Tryz.prog 71 #[.string (bs (lineOf x en))] w fun e w' => ∃ v, e = .returned (.tuple #[v, .bool en]) ∧ Lies w' v (strs (Sp.words x)) ∧ CapOk v ∧ Below w.heap.size w w' := by
  have hll : (lineOf x en).length ≤ 6001 := by unfold lineOf; cases en <;> simp <;> omega
  have HC := hide (Tryz.strings_CutSuffix (bs (lineOf x en)) ⟨#[10]⟩ w (by rw [bs_size]; omega))
  have hd : (bs (lineOf x en)).data.toList = lineOf x en := bs_data _
  have hcut := line_cut x en h
  rw [hd] at HC
  have e1 : (ByteArray.mk #[10]).data.toList = [10] := rfl
  rw [e1, hcut.1, hcut.2] at HC
  clear e1 hcut hd
  have HC : Hid (Calls Tryz.prog 107 #[.string (bs (lineOf x en)), .string ⟨#[10]⟩] w fun e w' => e = .returned (.tuple #[.string (bs x), .bool en]) ∧ w' = w) := HC
  obtain ⟨m, hm⟩ := he.len.2
  generalize bs (lineOf x en) = line at *
  by_cases hne : x = []
  · have hemp : (bs x).toList.isEmpty = true := by rw [bs_toList, hne]; rfl
    have HN := hide hne
    clear hne
    go_enter Tryz.func71, Tryz.ntmps71
    go_wp2_with fail
    refine (unhide HC).mono ?_
    rintro e w1 ⟨rfl, rfl⟩
    go_wp2
    go_ret2
    exact ⟨_, rfl, by rw [unhide HN]; exact Lies.nil _, Nat.le_refl _, Below.refl _ _⟩
  · have hemp : (bs x).toList.isEmpty = false := bs_nonempty hne
    have HN := hide hne
    clear hne
    have HS := hide (Tryz.strings_Split (bs x) ⟨#[32]⟩ m w (by rw [bs_size]; omega) hm (by decide))
    go_enter Tryz.func71, Tryz.ntmps71
    go_wp2_with fail
    refine (unhide HC).mono ?_
    rintro e w1 ⟨rfl, rfl⟩
    go_wp2_with fail
    refine (unhide HS).mono ?_
    rintro e w2 ⟨rfl, rfl⟩
    go_wp2
    go_ret2
    have hsp : Lib.splitB ⟨#[32]⟩ 0 (Lib.countB (bs x) ⟨#[32]⟩) (bs x) = (Sp.wordsAux [] x).map bs := split_bs x.length x (Nat.le_refl _)
    have hln := Lib.splitB_all (bs [32]) (by rw [bs_size]; simp) 0 (Lib.countB (bs x) (bs [32])) (bs x) rfl
    have hw : Sp.words x = Sp.wordsAux [] x := by unfold Sp.words; rw [if_neg (unhide HN)]
    refine ⟨_, rfl, ?_, Nat.le_refl _, (Below.refl _ _).alloc (Nat.le_refl _) _⟩
    rw [hsp, hw]
    have hc : Lib.countB (bs x) (bs [32]) + 1 = (strs (Sp.wordsAux [] x)).length := by
      have := hln.symm
      rw [split_bs x.length x (Nat.le_refl _)] at this
      simpa [strs] using this
    rw [List.map_map]
    show Lies _ (.slice (some ⟨_, 0, none⟩) (Lib.countB (bs x) (bs [32]) + 1) _) _
    rw [hc]
    exact lies_made (vs := strs (Sp.wordsAux [] x)) (by omega)

theorem tail_lies {w : World} {b off n cap : Nat} {y : Value} {ys : List Value} (h : Lies w (.slice (some ⟨b, off, none⟩) n cap) (y :: ys)) (hn : n = ys.length + 1) (hc : n ≤ cap) : ∃ vt, (∀ wx, (Instr.slice 44 (.slice (some ⟨b, off, none⟩) n cap) (some (.int .i64 1)) none none).run Tryz.prog wx = .ok vt wx) ∧ Lies w vt ys := by
  refine ⟨sliced (some ⟨b, off, none⟩) 1 n cap 1, fun wx => ?_, ?_⟩
  · rw [run_slice_l (P := Tryz.prog) wx 44 (some ⟨b, off, none⟩) n cap (by kernel_rfl) .i64 1 (by omega) (by omega)]
    have : (sizeOf (Tryz.prog.elem 44)).run Tryz.prog wx = .ok 1 wx := by
      rw [show Tryz.prog.elem 44 = 9 from by kernel_rfl]
      obtain ⟨i, hi, hz0, hz1, hz2⟩ := info_parts Tryz.infoStr
      simp [sizeOf, typeInfo, hi, hz1]
    rw [this]
    rfl
  · unfold sliced
    rw [show n - 1 = ys.length from by omega]
    by_cases hc1 : cap = 1
    · rw [if_pos hc1]
      have h0 : ys = [] := List.length_eq_zero_iff.1 (by omega)
      subst h0
      exact .inl ⟨rfl, _, _, rfl⟩
    · rw [if_neg hc1]
      exact lies_tail h _

def StepRes (x : List UInt8 × Bool) (w : World) (e : Ending) (w' : World) : Prop := ∃ c : Nat, e = .returned (.tuple #[.int .u32 (c : Int), .bool (Sp.stepOf x.1).1, .bool (Sp.stepOk x)]) ∧ (Sp.stepOk x = true → c = Sp.stepMask x.1) ∧ Below w.heap.size w w'

set_option maxRecDepth 100000 in
set_option maxHeartbeats 800000 in
theorem readStep_any (x : List UInt8) (en : Bool) (w : World) (hx : x.length ≤ 6000) (h : en = false → x.getLast? ≠ some 10) (he : Env w) :
    Calls Tryz.prog 103 #[.string (bs (lineOf x en))] w fun e w' => StepRes (x, en) w e w' := by
  have HW := hide (wordsGo_cap x en w hx h he)
  have HMM := hide (words_mem x)
  have hwl := Sp.words_len' x
  generalize bs (lineOf x en) = line at *
  go_enter Tryz.func103, Tryz.ntmps103
  go_wp2_with fail
  refine (unhide HW).mono ?_
  rintro e w1 ⟨v, rfl, hli, hcap, hb1⟩
  have HE1 := hide (he.below hb1)
  cases hws : Sp.words x with
  | nil =>
    have HSO : Hid (Sp.stepOf x = (false, [])) := hide (by unfold Sp.stepOf; rw [hws])
    rw [hws] at hli
    obtain ⟨ao, cap, rfl⟩ := lies_shape hli
    have HF := hide (fromWords_any _ [] w1 (by simp) (fun z hz => by cases hz) hli (unhide HE1))
    simp only [strs, List.map_nil, List.length_nil] at HF ⊢
    clear hli hws hwl hcap
    go_wp2_with fail
    refine (unhide HF).mono ?_
    rintro e w2 ⟨hb2, ⟨ha, rfl⟩ | ⟨ha, rfl⟩⟩
    · have HOK : Hid (Sp.stepOk (x, en) = false) := hide (by rw [step_ok (unhide HSO) en, ha]; rfl)
      clear ha
      cases en
      all_goals
        go_wp2
        go_ret3
        exact ⟨0, by rw [unhide HOK, show (Sp.stepOf x).1 = false from by rw [unhide HSO]]; rfl, fun h => (by rw [unhide HOK] at h; cases h), hb1.trans (hb2.mono hb1.size)⟩
    · have HOK : Hid (Sp.stepOk (x, en) = en) := hide (by rw [step_ok (unhide HSO) en, ha]; rfl)
      have HMK : Hid (Sp.maskOf [] = Sp.stepMask x) := hide (by unfold Sp.stepMask; rw [unhide HSO]; rfl)
      clear ha
      generalize Sp.maskOf [] = mk at *
      cases en
      all_goals
        go_wp2
        go_ret3
        exact ⟨mk, by rw [unhide HOK, show (Sp.stepOf x).1 = false from by rw [unhide HSO]]; rfl, fun _ => unhide HMK, hb1.trans (hb2.mono hb1.size)⟩
  | cons w0 r =>
    rw [hws] at hli hwl
    simp only [List.length_cons] at hwl
    have HM2 : Hid (∀ z, z ∈ w0 :: r → z.length ≤ 6000) := hide (fun z hz => by have := unhide HMM z (by rw [hws]; exact hz); omega)
    rcases hli with ⟨h0, _⟩ | ⟨b, off, cap, hp, rfl, hb, hc⟩
    · simp [strs] at h0
    · have hlen : (strs (w0 :: r)).length = r.length + 1 := by simp [strs]
      have hc0 : w1.cell? ⟨b, off, none⟩ = some (.string (bs w0)) := hc 0 _ rfl
      have HLI : Hid (Lies w1 (.slice (some ⟨b, off, none⟩) (strs (w0 :: r)).length cap) (strs (w0 :: r))) := hide (.inr ⟨b, off, cap, hp, rfl, hb, hc⟩)
      rw [hlen] at HLI hcap ⊢
      have hcap' : r.length + 1 ≤ cap := hcap
      clear hc hp hlen hcap
      by_cases hd : w0 = [100]
      · have HSO : Hid (Sp.stepOf x = (true, r)) := hide (by unfold Sp.stepOf; rw [hws]; simp [hd])
        have hq : ((bs w0).toList == [100]) = true := by rw [bs_toList, hd]; rfl
        obtain ⟨vt, hsl, hlt⟩ := tail_lies (unhide HLI) (by simp) hcap'
        have HF := hide (fromWords_any vt r w1 (by omega) (fun z hz => unhide HM2 z (by simp [hz])) hlt (unhide HE1))
        clear hlt hws hd
        go_wp2_with fail
        refine (unhide HF).mono ?_
        rintro e w2 ⟨hb2, ⟨ha, rfl⟩ | ⟨ha, rfl⟩⟩
        · have HOK : Hid (Sp.stepOk (x, en) = false) := hide (by rw [step_ok (unhide HSO) en, ha]; rfl)
          clear ha
          cases en
          all_goals
            go_wp2
            go_ret3
            exact ⟨0, by rw [unhide HOK, show (Sp.stepOf x).1 = true from by rw [unhide HSO]]; rfl, fun h => (by rw [unhide HOK] at h; cases h), hb1.trans (hb2.mono hb1.size)⟩
        · have HOK : Hid (Sp.stepOk (x, en) = en) := hide (by rw [step_ok (unhide HSO) en, ha]; rfl)
          have HMK : Hid (Sp.maskOf (r.map Sp.lit) = Sp.stepMask x) := hide (by unfold Sp.stepMask; rw [unhide HSO])
          clear ha
          generalize Sp.maskOf (r.map Sp.lit) = mk at *
          cases en
          all_goals
            go_wp2
            go_ret3
            exact ⟨mk, by rw [unhide HOK, show (Sp.stepOf x).1 = true from by rw [unhide HSO]]; rfl, fun _ => unhide HMK, hb1.trans (hb2.mono hb1.size)⟩
      · have HSO : Hid (Sp.stepOf x = (false, w0 :: r)) := hide (by unfold Sp.stepOf; rw [hws]; simp [hd])
        have hq : ((bs w0).toList == [100]) = false := by rw [bs_toList]; simpa using hd
        have HF := hide (fromWords_any _ (w0 :: r) w1 (by simp; omega) (unhide HM2) (unhide HLI) (unhide HE1))
        clear hws hd
        go_wp2_with fail
        refine (unhide HF).mono ?_
        rintro e w2 ⟨hb2, ⟨ha, rfl⟩ | ⟨ha, rfl⟩⟩
        · have HOK : Hid (Sp.stepOk (x, en) = false) := hide (by rw [step_ok (unhide HSO) en, ha]; rfl)
          clear ha
          cases en
          all_goals
            go_wp2
            go_ret3
            exact ⟨0, by rw [unhide HOK, show (Sp.stepOf x).1 = false from by rw [unhide HSO]]; rfl, fun h => (by rw [unhide HOK] at h; cases h), hb1.trans (hb2.mono hb1.size)⟩
        · have HOK : Hid (Sp.stepOk (x, en) = en) := hide (by rw [step_ok (unhide HSO) en, ha]; rfl)
          have HMK : Hid (Sp.maskOf ((w0 :: r).map Sp.lit) = Sp.stepMask x) := hide (by unfold Sp.stepMask; rw [unhide HSO])
          clear ha
          generalize Sp.maskOf ((w0 :: r).map Sp.lit) = mk at *
          cases en
          all_goals
            go_wp2
            go_ret3
            exact ⟨mk, by rw [unhide HOK, show (Sp.stepOf x).1 = false from by rw [unhide HSO]]; rfl, fun _ => unhide HMK, hb1.trans (hb2.mono hb1.size)⟩

end Go.Proofs.YtekkkoipcghlmabGreatDoor

namespace Go.Proofs.YtekkkoipcghlmabGreatDoor
open Go.RowKit Go.Maps

theorem stFollows {base p bm n m : Nat} {L : List Nat} {w : World} (hst : St base w p bm n L) (hn : n ≤ 10000000) (hl : L.length ≤ 10000000) (hL : Small L) (hm : m < 2 ^ 24) :
    Calls Tryz.prog 105 #[.pointer (some ⟨p, 0, none⟩), .int .u32 m] w fun e w' => FolRes L m w e w' := by
  obtain ⟨ev, D, E, hla, hbag, hEn⟩ := hst
  refine followsGo_any p ev E L m w (block_lt hla.block) hla.cell0 hla.lies (by omega) hbag.live (fun x hx => ?_) hL hm
  have hc := hbag.count x hx
  refine ⟨by rw [← hc]; exact Nat.le_trans List.count_le_length hl, fun h0 => hL _ (List.count_pos_iff.1 (by omega))⟩

theorem St.base_le {base p bm n : Nat} {L : List Nat} {w : World} (h : St base w p bm n L) : base ≤ w.heap.size := by
  obtain ⟨ev, D, E, hla, _, _⟩ := h
  exact Nat.le_trans hla.lep (Nat.le_of_lt (block_lt hla.block))

/-- What one step comes to. -/
def TakeOut (base p bm n : Nat) (L : List Nat) (x : List UInt8 × Bool) (er : Int) (w' : World) : Prop :=
  (Sp.stepOk x = false ∧ er = 6) ∨
  (Sp.stepOk x = true ∧ (Sp.stepOf x.1).1 = true ∧ ((Sp.stepMask x.1 ∉ L ∧ er = 7) ∨ (Sp.stepMask x.1 ∈ L ∧ er = 0 ∧ St base w' p bm (n + 1) (L.erase (Sp.stepMask x.1))))) ∨
  (Sp.stepOk x = true ∧ (Sp.stepOf x.1).1 = false ∧ ((¬ Sp.Fol L (Sp.stepMask x.1) ∧ er = 8) ∨ (Sp.Fol L (Sp.stepMask x.1) ∧ er = 0 ∧ St base w' p bm (n + 1) (L ++ [Sp.stepMask x.1]))))
def QTakeRes (base p bm n : Nat) (L : List Nat) (x : List UInt8 × Bool) (w : World) (e : Ending) (w' : World) : Prop := ∃ er : Int, e = .returned (.int .i64 er) ∧ TakeOut base p bm n L x er w' ∧ Below base w w' ∧ Frame bm w w'

theorem St.more {base p bm n : Nat} {L : List Nat} {w : World} (h : St base w p bm n L) : St base w p bm (n + 1) L := by
  obtain ⟨ev, D, E, h1, h2, h3⟩ := h
  exact ⟨ev, D, E, h1, h2, by omega⟩

set_option maxRecDepth 100000 in
set_option maxHeartbeats 800000 in
theorem qtake_any (base p bm n : Nat) (L : List Nat) (x : List UInt8) (en : Bool) (w : World) (hst : St base w p bm n L) (hn : n ≤ 100000) (hl : L.length ≤ 100000) (hL : Small L) (hx : x.length ≤ 6000) (h : en = false → x.getLast? ≠ some 10) (he : Env w) :
    Calls Tryz.prog 68 #[.pointer (some ⟨p, 0, none⟩), .string (bs (lineOf x en))] w fun e w' => QTakeRes base p bm n L (x, en) w e w' := by
  have HR := hide (readStep_any x en w hx h he)
  have HST := hide hst
  have hbs := hst.base_le
  have hml := stepMask_lt x
  have HSL := hide hL
  clear hst hL h he
  generalize bs (lineOf x en) = line at *
  go_enter Tryz.func68, Tryz.ntmps68
  go_wp2_with fail
  refine (unhide HR).mono ?_
  rintro e w1 ⟨c, rfl, hc, hb1⟩
  have hbb1 : Below base w w1 := hb1.mono hbs
  have hfr1 : Frame bm w w1 := Frame.below hb1
  have HS1 := hide ((unhide HST).below hb1)
  simp only at hc ⊢
  cases hok : Sp.stepOk (x, en)
  · have HOK := hide hok
    clear hok hc
    generalize (Sp.stepOf x).1 = gg
    go_wp2
    go_ret
    exact ⟨6, rfl, .inl ⟨unhide HOK, rfl⟩, hbb1, hfr1⟩
  · have hce := hc hok
    subst hce
    have HOK := hide hok
    clear hok hc
    cases hgo : (Sp.stepOf x).1
    · have HGO := hide hgo
      clear hgo
      have HF := hide (stFollows (unhide HS1) (by omega) (by omega) (unhide HSL) hml)
      have HAD := hide (fun (w2 : World) (hb2 : Below w1.heap.size w1 w2) => qadd_any base p bm n (Sp.stepMask x) L w2 ((unhide HS1).below hb2) (by omega) (by omega) hml)
      have HT1 : Hid (¬ Sp.Fol L (Sp.stepMask x) → ∀ w', TakeOut base p bm n L (x, en) 8 w') := hide (fun h w' => .inr (.inr ⟨unhide HOK, unhide HGO, .inl ⟨h, rfl⟩⟩))
      have HT2 : Hid (Sp.Fol L (Sp.stepMask x) → ∀ w', St base w' p bm (n + 1) (L ++ [Sp.stepMask x]) → TakeOut base p bm n L (x, en) 0 w') := hide (fun h w' hs => .inr (.inr ⟨unhide HOK, unhide HGO, .inr ⟨h, rfl, hs⟩⟩))
      generalize Sp.stepMask x = m at *
      go_wp2_with fail
      refine (unhide HF).mono ?_
      rintro e w2 ⟨r, rfl, hr, hb2⟩
      have HRR := hide hr
      clear hr
      have hbb2 : Below base w w2 := hbb1.trans (hb2.mono (Nat.le_trans hbs hb1.size))
      have hfr2 : Frame bm w w2 := hfr1.trans (Frame.below hb2)
      cases r
      · have HFN := hide (unhide HT1 (fun h => by have := (unhide HRR).2 h; cases this))
        go_wp2
        go_ret
        exact ⟨8, rfl, unhide HFN _, hbb2, hfr2⟩
      · have HFN := hide (unhide HT2 ((unhide HRR).1 rfl))
        go_wp2_with fail
        refine (unhide HAD w2 hb2).mono ?_
        rintro e w3 ⟨rfl, hs3, hb3, hf3⟩
        have HS3 := hide hs3
        clear hs3
        go_wp2
        go_ret
        exact ⟨0, rfl, unhide HFN _ (unhide HS3), hbb2.trans hb3, hfr2.trans hf3⟩
    · have HGO := hide hgo
      clear hgo
      have HDR := hide (drop_any base p bm n (Sp.stepMask x) L w1 (unhide HS1) (by omega) (by omega) hml)
      have HT1 : Hid (Sp.stepMask x ∉ L → ∀ w', TakeOut base p bm n L (x, en) 7 w') := hide (fun h w' => .inr (.inl ⟨unhide HOK, unhide HGO, .inl ⟨h, rfl⟩⟩))
      have HT2 : Hid (Sp.stepMask x ∈ L → ∀ w', St base w' p bm n (L.erase (Sp.stepMask x)) → TakeOut base p bm n L (x, en) 0 w') := hide (fun h w' hs => .inr (.inl ⟨unhide HOK, unhide HGO, .inr ⟨h, rfl, hs.more⟩⟩))
      generalize Sp.stepMask x = m at *
      go_wp2_with fail
      refine (unhide HDR).mono ?_
      rintro e w2 ⟨r, rfl, hr, hs2, hb2, hf2⟩
      have HRR := hide hr
      have HS2 := hide hs2
      clear hr hs2
      cases r
      · have HFN := hide (unhide HT1 (fun h => by have := (unhide HRR).2 h; cases this))
        go_wp2
        go_ret
        exact ⟨7, rfl, unhide HFN _, hbb1.trans hb2, hfr1.trans hf2⟩
      · have HFN := hide (unhide HT2 ((unhide HRR).1 rfl))
        go_wp2
        go_ret
        exact ⟨0, rfl, unhide HFN _ (unhide HS2), hbb1.trans hb2, hfr1.trans hf2⟩

end Go.Proofs.YtekkkoipcghlmabGreatDoor
