import Derived.Test.YtekkkoipcghlmaaGreatDoorS30
import Derived.Test.YtekkkoipcghlmaaGreatDoorS33
import Derived.Test.YtekkkoipcghlmaaGreatDoorS36
import Derived.Test.YtekkkoipcghlmaaGreatDoorS01
import Derived.Lib.SplitLaws
import Derived.Test.YtekkkoipcghlmaaGreatDoorS29
import Derived.Lib.Bytealg
import Derived.RangeFuncNested
import Derived.RangeFuncWrites
set_option linter.all false
namespace Go.Proofs.YtekkkoipcghlmaaGreatDoor
open Go.RowKit
theorem Tryz.laysWS:Lays.n166 Tryz.prog Tryz.lays156_ren:={
 mixed:=Tryz.lays156.mixed
 f166:=Tryz.lays156.f166
 f240:=Tryz.lays156.f240
 f276:=Tryz.lays156.f276
 t0:=Tryz.lays156.t0
 a0:=Tryz.lays156.a0
 z0:=Tryz.lays156.z0
 v0:=Tryz.lays156.v0
 t3:=Tryz.lays156.t3
 a3:=Tryz.lays156.a3
 z3:=Tryz.lays156.z3
 v3:=Tryz.lays156.v3
 t4:=Tryz.lays156.t4
 a4:=Tryz.lays156.a4
 z4:=Tryz.lays156.z4
 v4:=Tryz.lays156.v4
 t9:=Tryz.lays156.t9
 a9:=Tryz.lays156.a9
 z9:=Tryz.lays156.z9
 v9:=Tryz.lays156.v9
 t20:=Tryz.lays156.t20
 a20:=Tryz.lays156.a20
 z20:=Tryz.lays156.z20
 v20:=Tryz.lays156.v20
 t37:=Tryz.lays156.t37
 a37:=Tryz.lays156.a37
 z37:=Tryz.lays156.z37
 v37:=Tryz.lays156.v37
 t70:=Tryz.lays156.t70
 a70:=Tryz.lays156.a70
 z70:=Tryz.lays156.z70
 v70:=Tryz.lays156.v70
 t72:=Tryz.lays156.t72
 a72:=Tryz.lays156.a72
 z72:=Tryz.lays156.z72
 v72:=Tryz.lays156.v72
 t75:=Tryz.lays156.t75
 a75:=Tryz.lays156.a75
 z75:=Tryz.lays156.z75
 v75:=Tryz.lays156.v75
 t164:=Tryz.lays156.t164
 a164:=Tryz.lays156.a164
 z164:=Tryz.lays156.z164
 v164:=Tryz.lays156.v164 }
theorem Tryz.laysST:Lays.n169 Tryz.prog Tryz.lays156_ren:={
 mixed:=Tryz.lays156.mixed
 f169:=Tryz.lays156.f169
 t0:=Tryz.lays156.t0
 a0:=Tryz.lays156.a0
 z0:=Tryz.lays156.z0
 v0:=Tryz.lays156.v0
 t3:=Tryz.lays156.t3
 a3:=Tryz.lays156.a3
 z3:=Tryz.lays156.z3
 v3:=Tryz.lays156.v3
 t9:=Tryz.lays156.t9
 a9:=Tryz.lays156.a9
 z9:=Tryz.lays156.z9
 v9:=Tryz.lays156.v9
 t37:=Tryz.lays156.t37
 a37:=Tryz.lays156.a37
 z37:=Tryz.lays156.z37
 v37:=Tryz.lays156.v37
 t70:=Tryz.lays156.t70
 a70:=Tryz.lays156.a70
 z70:=Tryz.lays156.z70
 v70:=Tryz.lays156.v70
 t72:=Tryz.lays156.t72
 a72:=Tryz.lays156.a72
 z72:=Tryz.lays156.z72
 v72:=Tryz.lays156.v72
 t127:=Tryz.lays156.t127
 a127:=Tryz.lays156.a127
 z127:=Tryz.lays156.z127
 v127:=Tryz.lays156.v127 }
theorem IsBuilder.below{T e:TypeId}{B b:Nat}{cs:List Value}{w w':World}(h:Lib.IsBuilder T e B b cs w)(hb:Below w.heap.size w w'):Lib.IsBuilder T e B b cs w':=by
 have key:∀p,Lib.BuilderAt T e B b p cs w->Lib.BuilderAt T e B b p cs w':=by
  rintro p ⟨h1,v,h2,h3,h4⟩
  have hlt:=(Array.getElem?_eq_some_iff.1 h2).1
  exact⟨h1,v,(hb.block b hlt).trans h2,owns_below h3 hb,h4⟩
 rcases h with h|h
 ·exact .inl (key _ h)
 ·exact .inr (key _ h)
def maskText(ms:List Nat):List UInt8:=ms.flatMap (fun m=>Sp.told (Sp.litsOf m))
theorem maskText_snoc(ms:List Nat)(m:Nat):maskText (ms++[m])=maskText ms++Sp.told (Sp.litsOf m):=by
 unfold maskText;rw[List.flatMap_append];simp
theorem maskTold_len(m:Nat):(Sp.told (Sp.litsOf m)).length<=97:=by
 have h1:=toldBody_len (Sp.litsOf m);have h2:=litsOf_len m
 simp[Sp.told];omega
theorem maskText_len(ms:List Nat):(maskText ms).length<=97*ms.length:=by
 induction ms with
 | nil=>simp[maskText]
 | cons a r ih=>
  have h1:=maskTold_len a
  simp only[maskText,List.flatMap_cons,List.length_append,List.length_cons]at ih⊢
  omega
theorem writeString_any(B b:Nat)(l t:List UInt8)(w:World)(h:Lib.IsBuilder 138 5 B b (Lib.byteCells l) w)(hlen:l.length+t.length<=140737488355328)(hBw:B<=w.heap.size):
  Calls Tryz.prog 88 #[.pointer (some ⟨b,0,none⟩),.string (bs t)] w fun e w'=>∃n:Int,e=.returned (.tuple #[.int .i64 n,.nilIface])/\Lib.IsBuilder 138 5 B b (Lib.byteCells (l++t)) w'/\Below B w w':=by
 refine(Any.Builder_WriteString Tryz.laysWS Tryz.Builder_Extra_156 B b (Lib.byteCells l) (bs t) w h (by rw[Lib.byteCells_length,bs_size];exact hlen) hBw).mono ?_
 rintro e w' ⟨rfl,hb,hbel⟩
 refine⟨_,rfl,.inr ?_,hbel⟩
 have e1:Lib.byteCells l++Lib.strCells (bs t)=Lib.byteCells (l++t):=by
  rw[Lib.strCells_eq,bs_data];simp[Lib.byteCells]
 rw[e1]at hb
 exact hb
theorem builderString_any(B b:Nat)(l:List UInt8)(w:World)(h:Lib.IsBuilder 138 5 B b (Lib.byteCells l) w)(hBw:B<=w.heap.size):
  Calls Tryz.prog 89 #[.pointer (some ⟨b,0,none⟩)] w fun e w'=>e=.returned (.string (bs l))/\Below B w w':=
 Any.Builder_String_any Tryz.laysST Tryz.Builder_Extra_156 B b l w h hBw
set_option maxRecDepth 100000 in
set_option maxHeartbeats 800000 in
theorem clausePlain_any(v:Value)(ms:List Nat)(w:World)(hl:ms.length<=10000000)(hm:∀m,m∈ms->m<2 ^ 24)(hv:Lies w v (us ms))(he:EnvT w):
  Calls Tryz.prog 48 #[v] w fun e w'=>e=.returned (.string (bs (maskText ms)))/\Below w.heap.size w w':=by
 have hfresh:=aq (Lib.fresh_isBuilder 138 5 w)
 have hb0:Below w.heap.size w (w.alloc (.cells #[.pointer none,.slice none 0 0] 138)):=(Below.refl _ _).alloc (Nat.le_refl _) _
 rcases hv with⟨h0,ao,cap,rfl⟩|⟨b,off,cap,hp,rfl,hb,hc⟩
 ·have hx:ms=[]:=by simpa [us] using h0
  subst hx
  go_enter Tryz.func48,Tryz.ntmps48
  go_wp2
  refine wp_loop_rounds 1 ?_
  rw[rounds_succ]
  go_wp2_with fail
  refine(builderString_any w.heap.size w.heap.size [] _ (dz hfresh) (by simp)).mono ?_
  rintro e w1 ⟨rfl,hb1⟩
  go_wp2
  go_ret
  exact⟨rfl,hb0.trans hb1⟩
 ·have hlen:(us ms).length=ms.length:=by simp[us]
  rw[hlen]at hp⊢
  go_enter Tryz.func48,Tryz.ntmps48
  go_wp2
  go_loopw [8] (fun i wr=>∃k:Nat,k<=ms.length/\i=.int .i64 k/\Lib.IsBuilder 138 5 w.heap.size w.heap.size (Lib.byteCells (maskText (ms.take k))) wr/\Below w.heap.size w wr) (fun i _=>ms.length-(intOf i).toNat)
  case atStart=>exact⟨0,Nat.zero_le _,rfl,dz hfresh,hb0⟩
  case round=>
   obtain⟨k,hk,rfl,hbu,hbel⟩:=hrel
   have HB:=aq hbu
   clear hbu
   have hml:=maskText_len (ms.take k)
   have hml2:(ms.take k).length<=k:=List.length_take_le _ _
   by_cases hlt:k<ms.length
   ·have hcell:wr.cell? ⟨b,off+k,none⟩=some (.int .u32 (ms[k]:Int)):=(hbel.cell (p:=⟨b,off+k,none⟩) hb).trans (hc k (.int .u32 (ms[k]:Int)) (by simp[us,hlt]))
    have hmm:=hm ms[k] (List.getElem_mem hlt)
    have HS:Hid (ms.take (k+1)=ms.take k++[ms[k]]):=aq (List.take_succ_eq_append_getElem hlt)
    generalize ms[k]=m at hcell HS hmm
    clear hc hm
    have htl:=maskTold_len m
    have HL:=aq (line_any m wr hmm (he.below hbel))
    have HSN:=aq (maskText_snoc (ms.take k) m)
    go_wp2_with fail
    refine(dz HL).mono ?_
    rintro e w1 ⟨rfl,hb1⟩
    have hsz:=hbel.size
    have hsz1:=hb1.size
    have HW:=aq (writeString_any w.heap.size w.heap.size (maskText (ms.take k)) (Sp.told (Sp.litsOf m)) w1 (IsBuilder.below (dz HB) hb1) (by omega) (by omega))
    go_wp2_with fail
    refine(dz HW).mono ?_
    rintro e w2 ⟨n,rfl,hbu2,hb2⟩
    have HB2:=aq hbu2
    clear hbu2
    go_wp2
    go_roundw
    case rel=>exact⟨k+1,by omega,by go_num,by rw[dz HS,dz HSN];exact dz HB2,(hbel.trans (hb1.mono hbel.size)).trans hb2⟩
    case measure=>simp[intOf];omega
   ·have HT:Hid (ms.take k=ms):=aq (List.take_of_length_le (by omega))
    have hsz:=hbel.size
    have HSt:=aq (builderString_any w.heap.size w.heap.size (maskText (ms.take k)) wr (dz HB) (by omega))
    go_wp2_with fail
    refine(dz HSt).mono ?_
    rintro e w1 ⟨rfl,hb1⟩
    go_wp2
    go_ret
    exact⟨by rw[dz HT];rfl,hbel.trans hb1⟩
end Go.Proofs.YtekkkoipcghlmaaGreatDoor
namespace Go.Proofs.YtekkkoipcghlmaaGreatDoor
open Go.RowKit
set_option maxRecDepth 100000 in
theorem clausesX_any(base x:Nat)(kv:Value)(ms:List Nat)(w:World)(pv:Value)(pb:List UInt8)(hX:XAt base w x kv ms pv pb)(hms:ms.length<=10000000)(hsm:∀m,m∈ms->m<2 ^ 24)(he:EnvT w):
  Calls Tryz.prog 27 #[.pointer (some ⟨x,0,none⟩)] w fun e w'=>e=.returned (.string (bs (maskText ms)))/\Below w.heap.size w w':=by
 have HP:=aq (clausePlain_any kv ms w hms hsm (lies_of_owns hX.row (by simp[us])) he)
 have hc0:w.cell? ⟨x,0,none⟩=some kv:=by simp[World.cell?,hX.block]
 obtain⟨ao,cp,hsh⟩:=owns_shape hX.row
 subst hsh
 clear hX
 go_enter Tryz.func27,Tryz.ntmps27
 go_wp2_with fail
 refine(dz HP).mono ?_
 rintro e w1 ⟨rfl,hb1⟩
 go_wp2
 go_ret
 exact⟨rfl,hb1⟩
set_option maxRecDepth 100000 in
theorem resetX_any(base x:Nat)(kv:Value)(ms:List Nat)(w:World)(pv:Value)(pb:List UInt8)(hX:XAt base w x kv ms pv pb):
  Calls Tryz.prog 26 #[.pointer (some ⟨x,0,none⟩)] w fun e w'=>e=.returned (.tuple #[])/\XAt base w' x (.slice none 0 0) [] (.slice none 0 0) []/\Only (·=x) w w':=by
 have hc0:w.cell? ⟨x,0,none⟩=some kv:=by simp[World.cell?,hX.block]
 have hc1:w.cell? ⟨x,1,none⟩=some (.int .i64 (sizes ms:Int)):=by simp[World.cell?,hX.block]
 have hf0:w.frozen? ⟨x,0,none⟩=false:=frozen_of_row w _ _ _ _ hX.block
 have hf1:w.frozen? ⟨x,1,none⟩=false:=frozen_of_row w _ _ _ _ hX.block
 have hc2:w.cell? ⟨x,2,none⟩=some pv:=by simp[World.cell?,hX.block]
 have hf2:w.frozen? ⟨x,2,none⟩=false:=frozen_of_row w _ _ _ _ hX.block
 have HX:=aq hX
 clear hX
 go_enter Tryz.func26,Tryz.ntmps26
 go_wp2
 go_end0
 have h0:=heap_setCell_same w x 0 _ _ (.slice none 0 0) (dz HX).block
 have h1:=heap_setCell_same _ x 1 _ _ (.int .i64 0) h0
 have h2:=heap_setCell_same _ x 2 _ _ (.slice none 0 0) h1
 exact⟨rfl,⟨by rw[h2];rfl,(dz HX).le,World.ownsRow_nil _ _ _ _,World.ownsRow_nil _ _ _ _⟩,(Only.setCell (F:=(·=x)) (p:=⟨x,0,none⟩) rfl _ _).trans ((Only.setCell (F:=(·=x)) (p:=⟨x,1,none⟩) rfl _ _).trans (Only.setCell (F:=(·=x)) (p:=⟨x,2,none⟩) rfl _ _))⟩
end Go.Proofs.YtekkkoipcghlmaaGreatDoor
namespace Go.Proofs.YtekkkoipcghlmaaGreatDoor
open Go.RowKit
theorem maskText_take(ms:List Nat)(k:Nat)(h:k<ms.length):maskText (ms.take (k+1))=maskText (ms.take k)++Sp.told (Sp.litsOf ms[k]):=by
 rw[List.take_succ_eq_append_getElem h,maskText_snoc]
set_option maxRecDepth 100000 in
set_option maxHeartbeats 800000 in
theorem clausesY_any(base y:Nat)(lv:Value)(vs:List Value)(ms:List Nat)(w:World)(hY:YAt base w y lv vs ms)(hms:ms.length<=10000000):
  Calls Tryz.prog 57 #[.pointer (some ⟨y,0,none⟩)] w fun e w'=>e=.returned (.string (bs (maskText ms)))/\Below w.heap.size w w':=by
 have hc0:w.cell? ⟨y,0,none⟩=some lv:=by simp[World.cell?,hY.block]
 have hylt:=lt_of_block hY.block
 obtain⟨ao,cp,hsh⟩:=owns_shape hY.row
 subst hsh
 have HY:=aq hY
 clear hY
 go_enter Tryz.func57,Tryz.ntmps57
 go_wp2
 go_loopw [3,4] (fun o i wr=>∃k:Nat,k<=ms.length/\i=.int .i64 k/\o=.string (bs (maskText (ms.take k)))/\Below w.heap.size w wr) (fun _ i _=>ms.length-(intOf i).toNat)
 case atStart=>exact⟨0,Nat.zero_le _,rfl,rfl,Below.refl _ _⟩
 case round=>
  obtain⟨k,hk,rfl,rfl,hbel⟩:=hrel
  have hcw:wr.cell? ⟨y,0,none⟩=some (.slice ao ms.length cp):=(hbel.cell (p:=⟨y,0,none⟩) hylt).trans hc0
  by_cases hlt:k<ms.length
  ·obtain⟨g,cp0,x,ao',cp',e1,hcx,e2,hlx⟩:=((dz HY).below hbel).pick hlt
   simp only[Value.slice.injEq]at e1
   obtain⟨rfl,-,rfl⟩:=e1
   have hml:=maskText_len (ms.take k)
   have hml2:(ms.take k).length<=k:=List.length_take_le _ _
   have HS:=aq (maskText_take ms k hlt)
   have htl:=maskTold_len ms[k]
   have HTO:=aq (told_any x (Sp.litsOf ms[k]) wr (Nat.le_trans (litsOf_len24 _) (by decide)) (litsOf_bd ms[k]) hlx)
   have hadd:∀wx,(Op.stringOp .add (bs (maskText (ms.take k))) (bs (Sp.told (Sp.litsOf ms[k])))).run Tryz.prog wx=.ok (.string (bs (maskText (ms.take k)++Sp.told (Sp.litsOf ms[k])))) wx:=fun wx=>add_bs _ _ (by omega) wx
   subst e2
   clear hlx
   generalize Sp.told (Sp.litsOf ms[k])=tl at *
   generalize (Sp.litsOf ms[k]).length=lk at *
   generalize maskText (ms.take k)=mt at *
   go_wp2_with fail
   refine(dz HTO).mono ?_
   rintro e w1 ⟨rfl,hb1⟩
   go_wp2
   go_roundw
   case rel=>exact⟨k+1,by omega,by go_num,by rw[dz HS],hbel.trans (hb1.mono hbel.size)⟩
   case measure=>simp[intOf];omega
  ·have HT:Hid (ms.take k=ms):=aq (List.take_of_length_le (by omega))
   go_wp2
   go_ret
   exact⟨by rw[dz HT];rfl,hbel⟩
end Go.Proofs.YtekkkoipcghlmaaGreatDoor
namespace Go.Proofs.YtekkkoipcghlmaaGreatDoor
open Go.RowKit
theorem rows_differ{w:World}{b1 b2 n m s1 s2:Nat}{e1 e2:TypeId}{x y:Value}{xs ys:List Value}(he:e1≠e2)(hx:w.ownsRow b1 e1 s1 x n xs)(hy:w.ownsRow b2 e2 s2 y m ys){g:Nat}(h1:x.ownBlock=some g)(h2:y.ownBlock=some g):False:=by
 rcases hy.2 with⟨hv,_⟩|⟨g',cap,cur,hv,_,hg,_⟩
 ·rw[hv]at h2;cases h2
 ·rw[hv]at h2
  simp[Value.ownBlock]at h2
  subst h2
  exact row_ne hx hg (Ne.symm he) h1
theorem YAt.overX{pv:Value}{pb:List UInt8}{base:Nat}{w w':World}{x y:Nat}{kv lv:Value}{vs:List Value}{ms ms':List Nat}(hY:YAt base w y lv vs ms')(hX:XAt base w x kv ms pv pb)(ho:Only (XF x kv) w w'):YAt base w' y lv vs ms':=by
 have hyx:y≠x:=by intro e;subst e;have:=hX.block.symm.trans hY.block;simp at this
 refine⟨(ho.block y (lt_of_block hY.block) (fun h=>h.elim hyx (row_ne hX.row hY.block (by decide)))).trans hY.block,hY.le,owns_at hY.row (fun g hg=>ho.block g (hY.row.lt g hg).2 (fun h=>h.elim (fun e=>row_ne hY.row hX.block (by decide) (by rw[←e];exact hg)) (fun e=>rows_differ (by decide) hX.row hY.row e hg))),hY.rows.1,fun i r c hr hc=>?_⟩
 have hrow:=hY.rows.2 i r c hr hc
 exact owns_at hrow (fun g hg=>ho.block g (hrow.lt g hg).2 (fun h=>h.elim (fun e=>row_ne hrow hX.block (by decide) (by rw[←e];exact hg)) (fun e=>rows_differ (by decide) hX.row hrow e hg)))
theorem XAt.overY{pv:Value}{pb:List UInt8}{base:Nat}{w w':World}{x y:Nat}{kv lv:Value}{vs:List Value}{ms ms':List Nat}(hX:XAt base w x kv ms pv pb)(hY:YAt base w y lv vs ms')(ho:Only (YF y lv) w w'):XAt base w' x kv ms pv pb:=by
 have hyx:x≠y:=by intro e;subst e;have:=hX.block.symm.trans hY.block;simp at this
 exact⟨(ho.block x (lt_of_block hX.block) (fun h=>h.elim hyx (row_ne hY.row hX.block (by decide)))).trans hX.block,hX.le,owns_at hX.row (fun g hg=>ho.block g (hX.row.lt g hg).2 (fun h=>h.elim (fun e=>row_ne hX.row hY.block (by decide) (by rw[←e];exact hg)) (fun e=>rows_differ (by decide) hX.row hY.row hg e))),owns_at hX.prow (fun g hg=>ho.block g (hX.prow.lt g hg).2 (fun h=>h.elim (fun e=>row_ne hX.prow hY.block (by decide) (by rw[←e];exact hg)) (fun e=>rows_differ (by decide) hX.prow hY.row hg e)))⟩
theorem XAt.overG{pv:Value}{pb:List UInt8}{base:Nat}{w w':World}{x g:Nat}{kv:Value}{ms:List Nat}(hX:XAt base w x kv ms pv pb)(ho:Only (·=g) w w')(h1:x≠g)(h2:kv.ownBlock≠some g)(h3:pv.ownBlock≠some g):XAt base w' x kv ms pv pb:=
 ⟨(ho.block x (lt_of_block hX.block) h1).trans hX.block,hX.le,owns_at hX.row (fun k hk=>ho.block k (hX.row.lt k hk).2 (fun e=>h2 (by rw[←e];exact hk))),owns_at hX.prow (fun k hk=>ho.block k (hX.prow.lt k hk).2 (fun e=>h3 (by rw[←e];exact hk)))⟩
theorem YAt.overG{base:Nat}{w w':World}{y g:Nat}{lv:Value}{vs:List Value}{ms:List Nat}(hY:YAt base w y lv vs ms)(ho:Only (·=g) w w')(h1:y≠g)(h2:lv.ownBlock≠some g)(h3:∀v,v∈vs->v.ownBlock≠some g):YAt base w' y lv vs ms:=
 ⟨(ho.block y (lt_of_block hY.block) h1).trans hY.block,hY.le,owns_at hY.row (fun k hk=>ho.block k (hY.row.lt k hk).2 (fun e=>h2 (by rw[←e];exact hk))),hY.rows.1,fun i r c hr hc=>
  owns_at (hY.rows.2 i r c hr hc) (fun k hk=>ho.block k ((hY.rows.2 i r c hr hc).lt k hk).2 (fun e=>h3 r (List.mem_of_getElem? hr) (by rw[←e];exact hk)))⟩
theorem lies_only{F:Nat->Prop}{w w':World}{v:Value}{vs:List Value}(h:Lies w v vs)(ho:Only F w w')(hn:vs≠[]->∀g,v.ownBlock=some g->g<w.heap.size->¬F g):Lies w' v vs:=by
 rcases h with h|⟨b,off,cap,hp,rfl,hb,hc⟩
 ·exact .inl h
 ·exact .inr ⟨b,off,cap,hp,rfl,Nat.lt_of_lt_of_le hb ho.size,fun k x hx=>(World.cell?_of_block (w:=w) (a:=⟨b,off+k,none⟩) (ho.block b hb (hn (List.length_pos_iff.1 hp) b rfl hb))).trans (hc k x hx)⟩
def opVal(kind a b:Int)(s t:List UInt8)(v:Value):Value:=.agg #[.int .i64 kind,.int .i64 a,.int .i64 b,.string (bs s),.string (bs t),v]
end Go.Proofs.YtekkkoipcghlmaaGreatDoor
namespace Go.Proofs.YtekkkoipcghlmaaGreatDoor
open Go.RowKit
theorem words_index(x:List UInt8):(Lib.index x [32]=-1/\∀cur,Sp.wordsAux cur x=[cur++x])∨
  ∃i:Nat,Lib.index x [32]=i/\i<x.length/\∀cur,Sp.wordsAux cur x=(cur++x.take i)::Sp.wordsAux [] (x.drop (i+1)):=by
 induction x with
 | nil=>exact .inl ⟨rfl,fun cur=>by simp[Sp.wordsAux]⟩
 | cons b l ih=>
  by_cases hb:b=32
  ·subst hb
   exact .inr ⟨0,by simp[Lib.index],by simp,fun cur=>by simp[Sp.wordsAux]⟩
  ·have hp:([32]:List UInt8).isPrefixOf (b::l)=false:=by
    simp[List.isPrefixOf];exact fun h=>hb h.symm
   rcases ih with⟨h1,h2⟩|⟨i,h1,h2,h3⟩
   ·refine .inl ⟨by unfold Lib.index;rw[hp,h1];rfl,fun cur=>?_⟩
    unfold Sp.wordsAux
    rw[if_neg hb,h2]
    simp
   ·refine .inr ⟨i+1,?_,by simp;omega,fun cur=>?_⟩
    ·unfold Lib.index
     rw[hp,h1]
     have:((i:Int)==-1)=false:=by rw[beq_eq_false_iff_ne];omega
     simp[this]
    ·conv=>lhs;unfold Sp.wordsAux
     rw[if_neg hb,h3]
     simp
theorem indexB_bs(x y:List UInt8):Lib.indexB (bs x) (bs y)=Lib.index x y:=by
 show Lib.index (bs x).data.toList (bs y).data.toList=_
 simp[bs]
theorem split_bs:∀(n:Nat) (x:List UInt8),x.length<=n->Lib.splitB (bs [32]) 0 (Lib.countB (bs x) (bs [32])) (bs x)=(Sp.wordsAux [] x).map bs:=by
 intro n
 have h1:1<=(bs [32]).size:=by rw[bs_size];simp
 have hz:(bs [32]).size=1:=by rw[bs_size];simp
 induction n with
 | zero=>
  intro x hx
  have:x=[]:=List.length_eq_zero_iff.1 (by omega)
  subst this
  have hi:Lib.indexB (bs []) (bs [32])=-1:=by rw[indexB_bs];rfl
  rw[Lib.countB_miss _ _ hi,Lib.splitB_miss _ _ _ _ hi];rfl
 | succ n ih=>
  intro x hx
  rcases words_index x with⟨h2,h3⟩|⟨i,h2,h3,h4⟩
  ·have hi:Lib.indexB (bs x) (bs [32])=-1:=by rw[indexB_bs];exact h2
   rw[Lib.splitB_miss _ _ _ _ hi,h3]
   simp
  ·have hi:Lib.indexB (bs x) (bs [32])=i:=by rw[indexB_bs];exact h2
   have hcut:(bs x).extract (i+1) (bs x).size=bs (x.drop (i+1)):=by
    rw[bs_extract,bs_size,List.take_of_length_le (by simp)]
   rw[Lib.countB_hit _ _ i h1 hi,hz,hcut,Nat.add_comm 1]
   unfold Lib.splitB
   have:((i:Int)==-1)=false:=by rw[beq_eq_false_iff_ne];omega
   rw[hi,this]
   simp only[Bool.false_eq_true,if_false,Int.toNat_natCast,Nat.add_zero,hz]
   rw[hcut,ih _ (by simp;omega),h4,bs_extract]
   simp
end Go.Proofs.YtekkkoipcghlmaaGreatDoor
namespace Go.Proofs.YtekkkoipcghlmaaGreatDoor
open Go.RowKit
theorem lies_made{w:World}{vs:List Value}{t:TypeId}{cap:Nat}(h:0<vs.length):Lies (w.alloc (.cells vs.toArray t)) (.slice (some ⟨w.heap.size,0,none⟩) vs.length cap) vs:=by
 refine .inr ⟨w.heap.size,0,cap,h,rfl,by simp,fun k x hx=>?_⟩
 rw[Nat.zero_add,World.cell?_alloc_at _ _ _ _ rfl]
 simpa using hx
def lineOf(x:List UInt8)(e:Bool):List UInt8:=if e then x++[10]else x
theorem line_cut(x:List UInt8)(e:Bool)(h:e=false->x.getLast?≠some 10):Lib.trimSuffix (lineOf x e) [10]=x/\Lib.hasSuffix (lineOf x e) [10]=e:=by
 have hs:Lib.hasSuffix (lineOf x e) [10]=e:=by
  unfold Lib.hasSuffix lineOf
  cases e
  ·rw[if_neg (by simp)]
   rw[Bool.eq_false_iff]
   intro hh
   rw[List.isSuffixOf_iff_suffix]at hh
   obtain⟨t,ht⟩:=hh
   apply h rfl
   rw[←ht];simp
  ·rw[if_pos rfl,List.isSuffixOf_iff_suffix]
   exact⟨x,rfl⟩
 refine⟨?_,hs⟩
 unfold Lib.trimSuffix
 rw[hs]
 cases e
 ·simp[lineOf]
 ·simp[lineOf]
set_option maxRecDepth 100000 in
set_option maxHeartbeats 400000 in
theorem wordsGo_any(x:List UInt8)(en:Bool)(w:World)(hx:x.length<=6000)(h:en=false->x.getLast?≠some 10)(he:Env w):
  Calls Tryz.prog 134 #[.string (bs (lineOf x en))] w fun e w'=>∃v,e=.returned (.tuple #[v,.bool en])/\Lies w' v (strs (Sp.words x))/\Below w.heap.size w w':=by
 have hll:(lineOf x en).length<=6001:=by unfold lineOf;cases en<;>simp<;>omega
 have HC:=aq (Tryz.strings_CutSuffix (bs (lineOf x en)) ⟨#[10]⟩ w (by rw[bs_size];omega))
 have hd:(bs (lineOf x en)).data.toList=lineOf x en:=bs_data _
 have hcut:=line_cut x en h
 rw[hd]at HC
 have e1:(ByteArray.mk #[10]).data.toList=[10]:=rfl
 rw[e1,hcut.1,hcut.2]at HC
 clear e1 hcut hd
 have HC:Hid (Calls Tryz.prog 174 #[.string (bs (lineOf x en)),.string ⟨#[10]⟩] w fun e w'=>e=.returned (.tuple #[.string (bs x),.bool en])/\w'=w):=HC
 obtain⟨m,hm⟩:=he.len.2
 generalize bs (lineOf x en)=line at *
 by_cases hne:x=[]
 ·have hemp:(bs x).toList.isEmpty=true:=by rw[bs_toList,hne];rfl
  have HN:=aq hne
  clear hne
  go_enter Tryz.func134,Tryz.ntmps134
  go_wp2_with fail
  refine(dz HC).mono ?_
  rintro e w1 ⟨rfl,rfl⟩
  go_wp2
  go_ret2
  exact⟨_,rfl,by rw[dz HN];exact Lies.nil _,Below.refl _ _⟩
 ·have hemp:(bs x).toList.isEmpty=false:=bs_nonempty hne
  have HN:=aq hne
  clear hne
  have HS:=aq (Tryz.strings_Split (bs x) ⟨#[32]⟩ m w (by rw[bs_size];omega) hm (by decide))
  go_enter Tryz.func134,Tryz.ntmps134
  go_wp2_with fail
  refine(dz HC).mono ?_
  rintro e w1 ⟨rfl,rfl⟩
  go_wp2_with fail
  refine(dz HS).mono ?_
  rintro e w2 ⟨rfl,rfl⟩
  go_wp2
  go_ret2
  have hsp:Lib.splitB ⟨#[32]⟩ 0 (Lib.countB (bs x) ⟨#[32]⟩) (bs x)=(Sp.wordsAux [] x).map bs:=split_bs x.length x (Nat.le_refl _)
  have hln:=Lib.splitB_all (bs [32]) (by rw[bs_size];simp) 0 (Lib.countB (bs x) (bs [32])) (bs x) rfl
  have hw:Sp.words x=Sp.wordsAux [] x:=by unfold Sp.words;rw[if_neg (dz HN)]
  refine⟨_,rfl,?_,(Below.refl _ _).alloc (Nat.le_refl _) _⟩
  rw[hsp,hw]
  have hc:Lib.countB (bs x) (bs [32])+1=(strs (Sp.wordsAux [] x)).length:=by
   have:=hln.symm
   rw[split_bs x.length x (Nat.le_refl _)]at this
   simpa [strs] using this
  rw[List.map_map]
  show Lies _ (.slice (some ⟨_,0,none⟩) (Lib.countB (bs x) (bs [32])+1) _) _
  rw[hc]
  exact lies_made (vs:=strs (Sp.wordsAux [] x)) (by omega)
end Go.Proofs.YtekkkoipcghlmaaGreatDoor
namespace Go.Proofs.YtekkkoipcghlmaaGreatDoor.Sp
def segsAux(cur:List UInt8):List UInt8->List (List UInt8×Bool)
 | []=>if cur=[]then []else [(cur,false)]
 | c::r=>if c=10 then(cur,true)::segsAux [] r else segsAux (cur++[c]) r
def segs(s:List UInt8):List (List UInt8×Bool):=segsAux [] s
def scanSegs:Nat->List (List UInt8×Bool)->Option Nat
 | _,[]=>none
 | n,x::r=>if !okLine x.1||!x.2 then some (n+1)else scanSegs (n+1) r
theorem segsAux_lines(r:List UInt8):∀cur,(segsAux cur r).map Prod.fst=linesAux cur r:=by
 induction r with
 | nil=>intro cur;unfold segsAux linesAux;split<;>rfl
 | cons c r ih=>
  intro cur
  unfold segsAux linesAux
  split
  ·rw[List.map_cons,ih]
  ·exact ih _
theorem lines_nil(r:List UInt8):∀cur,linesAux cur r=[]->endAux cur r=true:=by
 induction r with
 | nil=>
  intro cur h
  unfold linesAux at h
  split at h
  ·rename_i hc;subst hc;rfl
  ·cases h
 | cons c r ih=>
  intro cur h
  unfold linesAux at h
  unfold endAux
  split at h
  ·cases h
  ·rename_i hc;rw[if_neg hc];exact ih _ h
theorem scan_segs(r:List UInt8):∀(cur:List UInt8) (n:Nat),scanSegs n (segsAux cur r)=scan (endAux cur r) n (linesAux cur r):=by
 induction r with
 | nil=>
  intro cur n
  unfold segsAux linesAux endAux
  by_cases hc:cur=[]
  ·simp[hc,scanSegs,scan]
  ·have:cur.isEmpty=false:=by simpa using hc
   simp[hc,scanSegs,scan,this]
 | cons c r ih=>
  intro cur n
  unfold segsAux linesAux endAux
  by_cases hc:c=10
  ·rw[if_pos hc,if_pos hc,if_pos hc]
   unfold scanSegs scan
   rw[ih]
   have:(!endAux [] r&&(linesAux [] r).isEmpty)=false:=by
    cases he:(linesAux [] r).isEmpty
    ·simp
    ·rw[lines_nil r [] (by simpa using he)];rfl
   rw[this]
   simp
  ·rw[if_neg hc,if_neg hc,if_neg hc];exact ih _ n
theorem segsAux_no(r:List UInt8):∀cur,(10:UInt8)∉cur->∀x,x∈segsAux cur r->(10:UInt8)∉x.1:=by
 induction r with
 | nil=>
  intro cur h x hx
  unfold segsAux at hx
  split at hx
  ·cases hx
  ·simp at hx;subst hx;exact h
 | cons c r ih=>
  intro cur h x hx
  unfold segsAux at hx
  split at hx
  ·rcases List.mem_cons.1 hx with rfl|hx
   ·exact h
   ·exact ih [] (by simp) x hx
  ·rename_i hc
   exact ih _ (by simp[h];exact fun h'=>hc h'.symm) x hx
theorem segsAux_len(r:List UInt8):∀cur x,x∈segsAux cur r->x.1.length<=cur.length+r.length:=by
 induction r with
 | nil=>
  intro cur x hx
  unfold segsAux at hx
  split at hx
  ·cases hx
  ·simp at hx;subst hx;simp
 | cons c r ih=>
  intro cur x hx
  unfold segsAux at hx
  split at hx
  ·rcases List.mem_cons.1 hx with rfl|hx
   ·simp
   ·have:=ih [] x hx;simp at this⊢;omega
  ·have:=ih _ x hx;simp at this⊢;omega
theorem segsAux_count(r:List UInt8):∀cur,(segsAux cur r).length<=r.length+1:=by
 induction r with
 | nil=>intro cur;unfold segsAux;split<;>simp
 | cons c r ih=>
  intro cur
  unfold segsAux
  split
  ·have:=ih [];simp;omega
  ·have:=ih (cur++[c]);simp;omega
theorem segs_index(x:List UInt8):(Lib.indexByte x 10=-1/\∀cur,cur++x≠[]->segsAux cur x=[(cur++x,false)])∨
  ∃i:Nat,Lib.indexByte x 10=i/\i<x.length/\x.take (i+1)=x.take i++[10]/\∀cur,segsAux cur x=(cur++x.take i,true)::segsAux [] (x.drop (i+1)):=by
 induction x with
 | nil=>exact .inl ⟨rfl,fun cur h=>by simp at h;simp[segsAux,h]⟩
 | cons b l ih=>
  by_cases hb:b=10
  ·subst hb
   exact .inr ⟨0,by simp[Lib.indexByte],by simp,by simp,fun cur=>by simp[segsAux]⟩
  ·have hp:(b==10)=false:=by simpa using hb
   rcases ih with⟨h1,h2⟩|⟨i,h1,h2,h4,h3⟩
   ·refine .inl ⟨by unfold Lib.indexByte;rw[hp,h1];rfl,fun cur _=>?_⟩
    unfold segsAux
    rw[if_neg hb,h2 _ (by simp)]
    simp
   ·refine .inr ⟨i+1,?_,by simp;omega,by simp[h4],fun cur=>?_⟩
    ·unfold Lib.indexByte
     rw[hp,h1]
     have:((i:Int)==-1)=false:=by rw[beq_eq_false_iff_ne];omega
     simp[this]
    ·conv=>lhs;unfold segsAux
     rw[if_neg hb,h3]
     simp
end Go.Proofs.YtekkkoipcghlmaaGreatDoor.Sp
namespace Go.Proofs.YtekkkoipcghlmaaGreatDoor
open Go.RowKit
variable {F:Fence}{n:Nat}{P:Program}
theorem range_boxed{α:Type}{g:Operand}{ps:Array Tmp}{assign body:Code}{Q:Exit->Act->World->Prop}{a:Act}{w:World}
  (hro:F.round=none) (h1:1<=n) {gf:Nat} {lb:Array Value} (hg:a.eval g=.func (.func gf) #[] lb) (hFg:F.fn gf) (eg:∀args w,(callFunc gf args).run P w=.ok (.enter gf args) w)
  {encs:α->Array Value} (Bs:Nat) (hBs:Bs<w.heap.size) {S:List α->Prop} {G:List α->α->Prop}
  (hseq:∀(l:Nat) (J Jx:List α->World->Prop) (W:World),W.heap[Bs]?=w.heap[Bs]?->(∀s A v,J s A->J s (A.setCell ⟨Bs,0,none⟩ v))->(∀s A,J s A->J s A.drew)->
   (∀pre x W1,J pre W1->G pre x->YieldAt F (n-1-1) P l (encs x) W1 fun e W'=>
    (e=.returned (.bool true)/\J (pre++[x]) W'/\W'.heap[Bs]?=W1.heap[Bs]?)∨(e=.returned (.bool false)/\Jx (pre++[x]) W'))->
   J [] W->
   CallsIn F (n-1) P gf (#[.func (.yield l) #[] #[]]++lb) W fun e W'=>(∃v,e=.returned v)/\((∃xs,S xs/\J xs W')∨(∃pre,Jx pre W')))
  (hps:∀x,(encs x).size=ps.size)
  (I:List α->World->Prop) (Ix:List α->World->Prop) (hI:OwnFrom w.heap.size I) (hIx:OwnFrom w.heap.size Ix)
  (hIs:∀s A v,I s A->I s (A.setCell ⟨Bs,0,none⟩ v)) (hId:∀s A,I s A->I s A.drew) (h0:I [] w) (a₁:α->Act)
  (hassign:∀(l:Nat) (x:α) (W:World) (K:Act->World->Prop),K (a₁ x) W->
   assign.wpIn (F.inRound l) (n-1-1) P (Exit.then K (fun _ _ _=>False)) { tmps:=(ps.zip (encs x)).foldl (fun t (p,v)=>t.setIfInBounds p v) a.tmps,defers:=[] } W)
  (hbody:∀(l:Nat) (pre:List α) (x:α) (W:World),I pre W->G pre x->
   body.wpIn (F.inRound l) (n-1-1) P (ownPostG w.heap.size (fun A B=>B.heap[Bs]?=A.heap[Bs]?) I (fun c xs W'=>c=.ret/\Ix xs W') (pre++[x]) W) (a₁ x) W)
  (hdone:∀(D:Nat) (xs:List α) (W:World),w.heap.size<=D->S xs->I xs W->W.heap[D]?=some (.deferred (some []))->Q .normal { a with defers:={ target:=.collected D,args:=#[] }::a.defers } W)
  (hstop:∀(D:Nat) (pre:List α) (W:World),w.heap.size<=D->Ix pre W->W.heap[D]?=some (.deferred (some []))->Code.ret.wpIn F n P Q { a with defers:={ target:=.collected D,args:=#[] }::a.defers } W):
  (Code.rangeFunc g ps assign body).wpIn F n P Q a w:=by
 refine wpIn_rangeFunc fun fn hfn=>?_
 rw[hro]
 obtain⟨R,hR⟩:∃R:LoopState->Option Code->Loop,R=fun st pe=>{ state:=st,pending:=pe,fn,tmps:=a.tmps,params:=ps,assign,body,defers:=w.heap.size }:=⟨_,rfl⟩
 obtain⟨V,hV⟩:∃V,(w.alloc (.deferred (some []))).alloc (.loop (R .ready none))=V:=⟨_,rfl⟩
 have vL:V.heap[w.heap.size+1]?=some (.loop (R .ready none)):=by
  rw[←hV];have:=World.alloc_heap_new (w.alloc (.deferred (some []))) (.loop (R .ready none));rwa [World.size_alloc]at this
 have vD:V.heap[w.heap.size]?=some (.deferred (some [])):=by
  rw[←hV];exact(Below.heap_alloc _ _ _ (by simp)).trans (World.alloc_heap_new w _)
 have vB:V.heap[Bs]?=w.heap[Bs]?:=by
  rw[←hV];exact(Below.heap_alloc _ _ _ (by simp;omega)).trans (Below.heap_alloc _ _ _ hBs)
 have vI:I [] V:=by rw[←hV];exact hI.alloc _ (hI.alloc _ h0)
 refine⟨w.heap.size+1,[{ target:=.collected w.heap.size,args:=#[] }],V,{ target:=.fn (.func gf) lb,args:=#[.func (.yield (w.heap.size+1)) #[] #[]] },V,gf,
  #[.func (.yield (w.heap.size+1)) #[] #[]]++lb,V,?_,?_,?_,?_,fun _=>h1,?_⟩
 ·rw[←hV,hR];exact run_enterLoop_outer _ _ _ _ _
 ·simp only[resolve,hg]
  simp[go_sem]
 ·intro f' hf';simp[Target.leads]at hf';subst hf';exact hFg
 ·simp[invoke,go_sem,eg]
 ·refine(hseq (w.heap.size+1)
   (fun pre W=>I pre W/\W.heap[w.heap.size+1]?=some (.loop (R .ready none))/\W.heap[w.heap.size]?=some (.deferred (some [])))
   (fun pre W=>Ix pre W/\W.heap[w.heap.size+1]?=some (.loop (R .done (some .ret)))/\W.heap[w.heap.size]?=some (.deferred (some [])))
   V vB
   (fun s A v hs=>⟨hIs s A v hs.1,(Below.heap_setCell A _ _ _ (by simp;omega)).trans hs.2.1,(Below.heap_setCell A _ _ _ (by simp;omega)).trans hs.2.2⟩)
   (fun s A hs=>⟨hId s A hs.1,hs.2.1,hs.2.2⟩)
   ?_ ⟨vI,vL,vD⟩).mono ?_
  ·rintro pre x W ⟨hi,hl,hk⟩ hgx
   have hlt:w.heap.size+1<W.heap.size:=(Array.getElem?_eq_some_iff.1 hl).1
   have hy:=run_yield (P:=P) (args:=encs x) hl (by rw[hR];exact hps x)
   rw[hR]at hy
   refine⟨fn,_,assign,body,hy,roundIn_of_wpIn hfn (hassign _ x W _ ⟨_,run_beginRound hl (by rw[hR]),?_⟩)⟩
   obtain⟨X,hX⟩:∃X,W.putObj (w.heap.size+1) (.loop { R .ready none with state:=.busy })=X:=⟨_,rfl⟩
   have xL:X.heap[w.heap.size+1]?=some (.loop { R .ready none with state:=.busy }):=by rw[←hX];exact World.putObj_heap_same hlt
   have xD:X.heap[w.heap.size]?=some (.deferred (some [])):=by rw[←hX];exact(World.putObj_heap_other (by omega)).trans hk
   have xB:X.heap[Bs]?=W.heap[Bs]?:=by rw[←hX];exact World.putObj_heap_other (by omega)
   have xI:I pre X:=by rw[←hX];exact hI.putObj _ hi (by omega) hl rfl
   rw[hX]
   refine wpIn_mono (hbody _ pre x X xI hgx) ?_
   have fin:∀(jump:Option Code) (Y:World),KeepsFrom w.heap.size X Y->
     (Instr.endRound (w.heap.size+1) jump).run P Y=.ok (.bool jump.isNone) (Y.putObj (w.heap.size+1) (.loop (R (if jump.isNone then .ready else .done) jump)))/\
     Y.heap[w.heap.size+1]?=some (.loop { R .ready none with state:=.busy })/\
     (Y.putObj (w.heap.size+1) (.loop (R (if jump.isNone then .ready else .done) jump))).heap[w.heap.size+1]?=some (.loop (R (if jump.isNone then .ready else .done) jump))/\
     (Y.putObj (w.heap.size+1) (.loop (R (if jump.isNone then .ready else .done) jump))).heap[w.heap.size]?=some (.deferred (some [])):=fun jump Y hkY=>by
    have yL:=hkY.same _ _ (by omega) xL rfl
    have:=run_endRound (P:=P) jump yL
    rw[hR]at this⊢
    exact⟨this,by rw[hR]at yL;exact yL,World.putObj_heap_same (Array.getElem?_eq_some_iff.1 yL).1,(World.putObj_heap_other (by omega)).trans (hkY.same _ _ (Nat.le_refl _) xD rfl)⟩
   rintro e a3 Y hp
   cases e with
   | normal=>
    obtain⟨k3,b3,i3⟩:=hp
    obtain⟨hr,l3,l4,k4⟩:=fin none Y k3
    exact⟨_,_,hr,.inl ⟨rfl,⟨hI.putObj _ i3 (by omega) l3 rfl,l4,k4⟩,((World.putObj_heap_other (by omega)).trans b3).trans xB⟩⟩
   | ret=>
    obtain⟨k3,_,i3⟩:=hp
    obtain⟨hr,l3,l4,k4⟩:=fin (some .ret) Y k3
    exact⟨_,_,hr,.inr ⟨rfl,hIx.putObj _ i3 (by omega) l3 rfl,l4,k4⟩⟩
   | exit id=>obtain⟨_,hc,_⟩:=hp;cases hc
   | goto t=>obtain⟨_,hc,_⟩:=hp;cases hc
   | panic ch=>exact hp.elim
   | outgrown=>exact hp.elim
  ·rintro e Y ⟨⟨v,rfl⟩,(⟨xs,hS,hi,hl,hk⟩|⟨pre,hi,hl,hk⟩)⟩
   ·exact⟨none,_,by have:=run_endLoop (P:=P) hl (by rw[hR];simp);rw[hR]at this;exact this,hdone _ xs _ (Nat.le_refl _) hS (hI.putObj _ hi (by omega) hl rfl) ((World.putObj_heap_other (by omega)).trans hk)⟩
   ·exact⟨some .ret,_,by have:=run_endLoop (P:=P) hl (by rw[hR];simp);rw[hR]at this;exact this,hstop _ pre _ (Nat.le_refl _) (hIx.putObj _ hi (by omega) hl rfl) ((World.putObj_heap_other (by omega)).trans hk)⟩
end Go.Proofs.YtekkkoipcghlmaaGreatDoor
