import Derived.Test.YtekkkoipcghlmaaGreatDoorA36
set_option linter.all false
namespace Go.Proofs.YtekkkoipcghlmaaGreatDoor
open Go.RowKit

def zeroRes : Obj := .cells #[.int .i64 0, .slice none 0 0, .slice none 0 0, .int .i64 0] 34
/-- The result's box is written. -/
def boxed4 (wx : World) (bx : Nat) (a b c d : Value) : World := (((wx.setCell ⟨bx, 0, none⟩ a).setCell ⟨bx, 1, none⟩ b).setCell ⟨bx, 2, none⟩ c).setCell ⟨bx, 3, none⟩ d
theorem box_facts {wx : World} {bx : Nat} (hz : wx.heap[bx]? = some zeroRes) : (wx.cell? ⟨bx, 0, none⟩ = some (.int .i64 0) ∧ wx.cell? ⟨bx, 1, none⟩ = some (.slice none 0 0) ∧ wx.cell? ⟨bx, 2, none⟩ = some (.slice none 0 0) ∧ wx.cell? ⟨bx, 3, none⟩ = some (.int .i64 0)) ∧ (wx.frozen? ⟨bx, 0, none⟩ = false ∧ wx.frozen? ⟨bx, 1, none⟩ = false ∧ wx.frozen? ⟨bx, 2, none⟩ = false ∧ wx.frozen? ⟨bx, 3, none⟩ = false) ∧
    ∀ a b c d, ((boxed4 wx bx a b c d).cell? ⟨bx, 0, none⟩ = some a ∧ (boxed4 wx bx a b c d).cell? ⟨bx, 1, none⟩ = some b ∧ (boxed4 wx bx a b c d).cell? ⟨bx, 2, none⟩ = some c ∧ (boxed4 wx bx a b c d).cell? ⟨bx, 3, none⟩ = some d) ∧ Only (fun k => k = bx) wx (boxed4 wx bx a b c d) := by
  have hro := owns_struct (base := 0) hz (Nat.zero_le _)
  refine ⟨⟨hro.cellAt 0 (by simp), hro.cellAt 1 (by simp), hro.cellAt 2 (by simp), hro.cellAt 3 (by simp)⟩, ⟨hro.frozenAt 0, hro.frozenAt 1, hro.frozenAt 2, hro.frozenAt 3⟩, fun a b c d => ?_⟩
  have s0 := (hro.stored 0 a).1
  have s1 := (s0.stored 1 b).1
  have s2 := (s1.stored 2 c).1
  have s3 := (s2.stored 3 d).1
  have e0 := s3.cellAt 0 (by simp)
  have e1 := s3.cellAt 1 (by simp)
  have e2 := s3.cellAt 2 (by simp)
  have e3 := s3.cellAt 3 (by simp)
  simp at e0 e1 e2 e3
  refine ⟨⟨e0, e1, e2, e3⟩, ?_⟩
  have k0 := Only.grown (F := fun k => k = bx) (hro.stored 0 a).2 (fun k hk => by simp [Value.ownBlock] at hk; exact hk.symm)
  have k1 := Only.grown (F := fun k => k = bx) (s0.stored 1 b).2 (fun k hk => by simp [Value.ownBlock] at hk; exact hk.symm)
  have k2 := Only.grown (F := fun k => k = bx) (s1.stored 2 c).2 (fun k hk => by simp [Value.ownBlock] at hk; exact hk.symm)
  have k3 := Only.grown (F := fun k => k = bx) (s2.stored 3 d).2 (fun k hk => by simp [Value.ownBlock] at hk; exact hk.symm)
  exact ((k0.then k1 (fun _ h => .inl h)).then k2 (fun _ h => .inl h)).then k3 (fun _ h => .inl h)
theorem wf_cells {l : List Int} (hl : wfLits l) {wx : World} {bx : Nat} (hz : wx.heap[bx]? = some zeroRes) {v : Value} (hv : Lies wx v (ints l)) (hb : v.ownBlock = some bx) : l = [] := by
  rcases hv with ⟨h0, -⟩ | ⟨b, off, cap, hp, he, -, hc⟩
  · cases l with
    | nil => rfl
    | cons a r => simp [ints] at h0
  · rw [he] at hb
    simp only [Value.ownBlock, Option.some.injEq] at hb
    subst hb
    cases l with
    | nil => rfl
    | cons x r =>
      have h1 := hc 0 (.int .i64 x) rfl
      rw [Nat.add_zero] at h1
      have hx := (hl.2 x (by simp)).1
      have hro := owns_struct (base := 0) hz (Nat.zero_le _)
      have hlt : off < 4 := by
        unfold World.cell? at h1
        rw [hz] at h1
        rcases Nat.lt_or_ge off 4 with h | h
        · exact h
        · exfalso
          simp [zeroRes] at h1
          rcases off with _ | _ | _ | _ | off
          · omega
          · omega
          · omega
          · omega
          · simp at h1
      have h2 := hro.cellAt off (by simpa using hlt)
      rw [h1] at h2
      rcases off with _ | _ | _ | _ | off
      · simp at h2; omega
      · simp at h2
      · simp at h2
      · simp at h2; omega
      · omega
theorem row_box {base : Nat} {wx W : World} {bx n : Nat} {v : Value} {xs : List Value} (h : wx.ownsRow base 3 1 v n xs) (hz : wx.heap[bx]? = some zeroRes) (ho : Only (fun k => k = bx) wx W) : W.ownsRow base 3 1 v n xs := by
  refine owns_at h (fun g hg => ho.block g (h.lt g hg).2 (fun e => ?_))
  subst e
  rcases h.2 with ⟨h0, _⟩ | ⟨g', cap', cur, hv', _, hh, _⟩
  · rw [h0] at hg; cases hg
  · rw [hv'] at hg
    simp only [Value.ownBlock, Option.some.injEq] at hg
    subst hg
    rw [hz] at hh
    unfold zeroRes at hh
    simp at hh
theorem StepAt.box {base : Nat} {wx W : World} {m : Mem} {bx : Nat} {v : Value} {l : List Int} (h : StepAt base wx m v l) (hl : wfLits l) (hz : wx.heap[bx]? = some zeroRes) (ho : Only (fun k => k = bx) wx W) : StepAt base W m v l := by
  refine ⟨?_, fun k hk => ⟨(h.apart k hk).1, Nat.lt_of_lt_of_le (h.apart k hk).2 ho.size⟩, h.low⟩
  have hv := h.lies
  rcases hv with hv | ⟨b, off, cap, hp, he, hb, hc⟩
  · exact .inl hv
  · refine .inr ⟨b, off, cap, hp, he, Nat.lt_of_lt_of_le hb ho.size, fun j x hx => ?_⟩
    rw [← hc j x hx]
    refine World.cell?_of_block (ho.block b hb (fun e => ?_))
    subst e
    have := wf_cells hl hz h.lies (by rw [he]; rfl)
    subst this
    simp [ints] at hp
theorem RunOut.box {base : Nat} {w wx W : World} {m0 m : Mem} {G : List Nat} {A : List Int} {B : Int} {S : List (Bool × List Int)} {D : List Nat} {kind : Int} {vm vc : Value} {bx : Nat} (h : RunOut base w m0 G A B wx m S D kind vm vc) (hz : wx.heap[bx]? = some zeroRes) (ho : Only (fun k => k = bx) wx W) (hbx : w.heap.size ≤ bx) (hnf : ¬ foot m.rows bx) : RunOut base w m0 G A B W m S D kind vm vc := by
  have hp := h.mu.at.pack
  have hpm : PMut base w m0.rows W m.rows := ⟨hp.keep (fun k hk => ho.block k (hp.lt hk).2 (fun e => hnf (e ▸ hk))), h.mu.to.only.then ho (fun k hk => .inr (by omega)), h.mu.to.grows⟩
  refine ⟨⟨hpm, h.mu.ws, h.mu.ls, h.mu.counts, h.mu.places, h.mu.s, h.mu.q, h.mu.qb⟩, ⟨h.steps.n, ?_⟩, h.chain, h.swf, h.most, h.conf0, h.confB, ?_⟩
  · obtain ⟨vs, h1, h2, h3⟩ := h.steps.vs
    exact ⟨vs, h1, h2, fun i v s hv hs => (h3 i v s hv hs).box (h.swf s (List.mem_of_getElem? hs)) hz ho⟩
  · rcases h.kinds with ⟨h1, h2, b, h3, h4, h5, h6, h7⟩ | ⟨h1, h2, p, h3, h4, h5⟩ | h1
    · exact .inl ⟨h1, h2, b, h3, h4, h5, row_box h6 hz ho, h7⟩
    · exact .inr (.inl ⟨h1, h2, p, row_box h3 hz ho, h4, h5⟩)
    · exact .inr (.inr h1)
theorem RunOut.rebase {base : Nat} {w w2 W : World} {m0 m2 m : Mem} {G : List Nat} {A : List Int} {B : Int} {S : List (Bool × List Int)} {D : List Nat} {kind : Int} {vm vc : Value} (h : RunOut base w2 m2 G A B W m S D kind vm vc) (hm : Mut base w m0 w2 m2) : RunOut base w m0 G A B W m S D kind vm vc := by
  have hs := hm.to.only.size
  refine ⟨hm.trans h.mu, h.steps, h.chain, h.swf, h.most, h.conf0, h.confB, ?_⟩
  rcases h.kinds with ⟨h1, h2, b, h3, h4, h5, h6, h7⟩ | ⟨h1, h2, p, h3, h4, h5⟩ | h1
  · exact .inl ⟨h1, h2, b, h3, h4, h5, owns_mono h6 hs, h7⟩
  · exact .inr (.inl ⟨h1, h2, p, owns_mono h3 hs, h4, h5⟩)
  · exact .inr (.inr h1)
/-- The first state of the loop. -/
theorem RunI.init {base : Nat} {w wr : World} {m0 m : Mem} {G : List Nat} {cls : List Cl} {wat : Int → List Int} {tr : Tr} {A : List Int} {B : Int} (h : AAt base w m0 G wr m cls wat tr) (hb : m.broken = -1) {w2 : World} {u : Value} (hm : Mut base wr m w2 (m.asmSet u A)) : RunI base w2 (m.asmSet u A) G A B w2 (m.asmSet u A) cls wat tr 0 [] [] := by
  have hlen : cls.length = G.length := by have := congrArg List.length h.masks; simpa [masksDB, dbOf] using this
  have hok : ∀ (c : Nat) cl, cls[c]? = some cl → WOK tr 0 cl.lits := by
    rcases h.ok with ⟨-, h2⟩ | ⟨h1, -⟩
    · exact h2
    · exact absurd hb h1
  have hnd : ∀ (i : Nat) (e : Int × Int), tr[i]? = some e → Go.Proofs.YtekkkoipcghlmaaGreatDoor.dec e = false := fun i e hi => level0 h.zero hi
  refine ⟨⟨Mut.refl hm.at, ⟨h.rep.store, h.rep.order, h.rep.starts, h.rep.len, h.rep.taken, h.rep.free, h.rep.odr, h.rep.ordr⟩, h.watAt, ⟨h.trok, h.wf, h.lists, hok, Nat.zero_le _, fun i _ _ => by have := lev_le tr i; have := h.zero; omega⟩, h.passed, h.heap, fun u a b _ => h.free u a b, ⟨h.told.2, [], rfl, h.told.1, fun i v s hv => by simp at hv⟩, ⟨Chain.nil, by rw [List.append_nil]; exact h.masks, ?_, fun s hs => by cases hs⟩, ?_, ?_⟩, ?_, hb, rfl, DecI.of_zero hnd, ?_, fun hB => ?_⟩
  · have : (dbOf cls).drop G.length = [] := List.drop_of_length_le (by unfold dbOf; rw [List.length_map]; omega)
    rw [this]; exact List.nodup_nil
  · show m.given = _
    rw [h.given, ← hlen, pos_end _ (Nat.le_refl _)]
  · show (m.nsteps : Int) + _ ≤ 2 * m.conflicts
    rw [h.told.2, h.rounds.2.2]; simp
  · show Rounds m.conflicts m.rlen m.rmet _
    rw [h.rounds.1, h.rounds.2.1, h.rounds.2.2]
    exact Rounds.begin _
  · cases cls with
    | nil => exact .inr rfl
    | cons a r => left; simp at hlen; omega
  · show m.conflicts < B
    rw [h.rounds.2.2]; exact hB
/-- There was a false clause at once. -/
theorem AAt.unsat {base : Nat} {w wr : World} {m0 m : Mem} {G : List Nat} {cls : List Cl} {wat : Int → List Int} {tr : Tr} {A : List Int} {B : Int} (h : AAt base w m0 G wr m cls wat tr) (hb : m.broken ≠ -1) {w1 w2 w3 : World} {u : Value} (hm : Mut base wr m w1 (m.asmSet u A)) (hm2 : Mut base w1 (m.asmSet u A) w2 ((m.asmSet u A).confSet 1)) (hbe : Below w2.heap.size w2 w3) (hB : 0 ≤ B) : RunOut base w1 (m.asmSet u A) G A B w3 ((m.asmSet u A).confSet 1) [] [] 2 (.slice none 0 0) (.slice none 0 0) := by
  obtain ⟨c, cl, hc, hfalse⟩ : ∃ (c : Nat) (cl : Cl), cls[c]? = some cl ∧ ∀ y, y ∈ cl.lits → Tru tr (-y) := by
    rcases h.ok with ⟨h1, -⟩ | ⟨-, h2⟩
    · exact absurd h1 hb
    · exact h2
  have hf := zero_fol h.trok h.zero hc hfalse
  have hm3 := Mut.below hm2.at hbe
  refine ⟨hm2.trans hm3, ⟨h.told.2, [], rfl, h.told.1, fun i v s hv => by simp at hv⟩, Chain.nil, fun s hs => (by cases hs), by simp, by show (0 : Int) ≤ 1; omega, fun hB' => by show (1 : Int) ≤ B; omega, .inr (.inl ⟨rfl, rfl, fun _ => false, ?_, fun k hk => (by cases hk), ?_⟩)⟩
  · rw [List.filter_eq_nil_iff.2 (by simp)]; exact owns_nil _ _ _
  · rw [List.filter_eq_nil_iff.2 (by simp), List.append_nil]
    refine hf.fol (wf_ne h.wf) (fun x hx => by cases hx) (fun c hc => ?_)
    rw [← h.masks]
    exact List.mem_map.2 ⟨c, hc, rfl⟩

end Go.Proofs.YtekkkoipcghlmaaGreatDoor
