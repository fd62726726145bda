import Derived.Test.YtekkkoipcghlmaaGreatDoorS42
import Derived.Deep.AppendLies
import Derived.WalkSmall
import Derived.Carry
import Derived.Test.YtekkkoipcghlmaaGreatDoorS39
set_option linter.all false
namespace Go.Proofs.YtekkkoipcghlmaaGreatDoor
open Go.RowKit Go.Maps
theorem Tryz.infoEntry:(Tryz.prog.info? 221).map (fun i=>(i.zero,i.size,i.bytes))=some (some (.agg #[.int .u32 0,.int .i64 0]),2,16):=by kernel_rfl
theorem Places.put{D:DataW Unit}{E:List (Nat×Nat)}(h:Places D E)(hD:IsMap D){m:Nat}(hno:∀x,x∈E->x.1≠m):Places (D.put (Key m) (.lit (.int .i64 (E.length:Int)))) (E++[(m,0)]):=by
 have hk:WideAt.IsKeyLit (Key m):=trivial
 have hne:∀c:Nat,c≠m->Key c≠Key m:=fun c hc e=>hc (by unfold Key at e;simp at e;omega)
 refine⟨fun i x hx=>?_,fun c hc=>?_⟩
 ·rcases Nat.lt_trichotomy i E.length with hi|hi|hi
  ·rw[List.getElem?_append_left hi]at hx
   have hxm:=hno x (List.mem_of_getElem? hx)
   rw[has_put_other (hne _ hxm),atKey_put_other (hne _ hxm)]
   exact h.there i x hx
  ·subst hi
   simp at hx
   subst hx
   exact⟨has_put_same hD hk _,atKey_put_same hD hk _ _⟩
  ·rw[List.getElem?_eq_none (by simp;omega)]at hx;cases hx
 ·have hcm:c≠m:=fun e=>hc (m,0) (by simp) e.symm
  rw[has_put_other (hne _ hcm)]
  exact h.not c (fun x hx=>hc x (by simp[hx]))
theorem ListAt.afterPut{base:Nat}{w w1:World}{p bm:Nat}{ev:Value}{D:DataW Unit}{E:List (Nat×Nat)}(h:ListAt base w p bm ev D E)(hg:w.grownBy w1 (some bm)):
  w1.heap[p]?=some (.cells #[ev,.map (some bm)] 186 (0,0))/\w1.ownsRow base 221 2 ev E.length (ents E)/\Below base w w1/\Frame bm w w1:=by
 have hsz:base<=w.heap.size:=Nat.le_trans h.lep (Nat.le_of_lt (block_lt h.block))
 refine⟨?_,h.row.kept hg (.inr (fun e=>h.row_not_map e.symm)),(Below.refl _ _).grown hg hsz (fun k hk=>by simp at hk;subst hk;exact h.lem),Frame.grown hg (fun k o hk _=>.inl (by simpa using hk.symm))⟩
 rw[hg.block p (block_lt h.block) (by simpa using fun e=>h.map_not_p e.symm)]
 exact h.block
theorem ListAt.added{base:Nat}{w w1 w2:World}{p bm:Nat}{ev:Value}{D:DataW Unit}{E:List (Nat×Nat)}(h:ListAt base w p bm ev D E){m g' cap':Nat}{o:Obj}(hno:∀x,x∈E->x.1≠m)
  (hown1:w1.ownsMap Tryz.prog 69 (plainElem Tryz.prog 3) bm (E.length+1) (D.put (Key m) (.lit (.int .i64 (E.length:Int))))) (hg1:w.grownBy w1 (some bm))
  (hown2:w2.ownsRow base 221 2 (.slice (some ⟨g',0,none⟩) (E.length+1) cap') (E.length+1) (ents E++[.int .u32 (m:Int),.int .i64 0]))
  (hg2:(w1.alloc o).grownBy w2 ev.ownBlock) (hloc:ev.ownBlock=some g'∨g'=(w1.alloc o).heap.size):
  w2.heap[p]?=some (.cells #[ev,.map (some bm)] 186 (0,0))/\
  ListAt base (w2.setCell ⟨p,0,none⟩ (.slice (some ⟨g',0,none⟩) (E.length+1) cap')) p bm (.slice (some ⟨g',0,none⟩) (E.length+1) cap') (D.put (Key m) (.lit (.int .i64 (E.length:Int)))) (E++[(m,0)])/\
  Below base w (w2.setCell ⟨p,0,none⟩ (.slice (some ⟨g',0,none⟩) (E.length+1) cap'))/\Frame bm w (w2.setCell ⟨p,0,none⟩ (.slice (some ⟨g',0,none⟩) (E.length+1) cap')):=by
 obtain⟨hp1,hr1,hb1,hf1⟩:=h.afterPut hg1
 have hp1':(w1.alloc o).heap[p]?=some (.cells #[ev,.map (some bm)] 186 (0,0)):=by rw[Below.heap_alloc _ _ _ (block_lt hp1)];exact hp1
 have hp2:w2.heap[p]?=some (.cells #[ev,.map (some bm)] 186 (0,0)):=by
  rw[hg2.block p (block_lt hp1') (fun e=>h.row_not_p e.symm)];exact hp1'
 have hgp:g'≠p:=by
  rcases hloc with hl|hl
  ·intro e;subst e;exact h.row_not_p hl
  ·have:=block_lt hp1;simp at hl;omega
 have hm2:=((hown1.alloc o).kept hg2 h.row_not_map)
 refine⟨hp2,⟨?_,h.lep,h.lem,?_,?_,?_⟩,?_,((hf1.trans (Frame.below ((Below.refl _ w1).alloc (Nat.le_refl _) o))).trans (Frame.grown hg2 (fun k o' hk ho=>.inr (row_frame (hr1.alloc o) k o' hk ho)))).trans (Frame.set hp2 (.inl rfl) _)⟩
 ·rw[heap_setCell_same w2 p 0 _ _ _ hp2];rfl
 ·rw[List.length_append,ents_snoc]
  exact ownsRow_setCell_other hown2 (a:=⟨p,0,none⟩) (by simp[Value.ownBlock];exact hgp) _
 ·rw[List.length_append]
  exact hm2.setCell (a:=⟨p,0,none⟩) h.map_not_p _
 ·exact h.places.put h.map.isMap hno
 ·have hsz1:base<=(w1.alloc o).heap.size:=Nat.le_trans h.lep (Nat.le_of_lt (block_lt hp1'))
  have hsz0:base<=w1.heap.size:=Nat.le_trans h.lep (Nat.le_of_lt (block_lt hp1))
  exact((hb1.alloc hsz0 o).grown hg2 hsz1 (fun k hk=>(h.row.lt k hk).1)).setCell (p:=⟨p,0,none⟩) h.lep _
theorem ListAt.lastCell{base:Nat}{w:World}{p bm g' cap' m:Nat}{D:DataW Unit}{E:List (Nat×Nat)}(h:ListAt base w p bm (.slice (some ⟨g',0,none⟩) (E.length+1) cap') D (E++[(m,0)])):w.cell? ⟨g',E.length*2+1,none⟩=some (.int .i64 0):=by
 have hr:=h.row
 rw[List.length_append,List.length_singleton]at hr
 rw[hr.cellAt (E.length*2+1) (by omega)]
 exact(ents_get (E++[(m,0)]) E.length (m,0) (by simp)).2
theorem ListAt.lastFree{base:Nat}{w:World}{p bm g' cap' m:Nat}{D:DataW Unit}{E:List (Nat×Nat)}(h:ListAt base w p bm (.slice (some ⟨g',0,none⟩) (E.length+1) cap') D (E++[(m,0)])):w.frozen? ⟨g',E.length*2+1,none⟩=false:=by
 have hr:=h.row
 rw[List.length_append,List.length_singleton]at hr
 exact hr.frozenAt (E.length*2+1)
theorem append_entry{ops:Array Oper}{rest:List Oper}{o:Oper}{a:Act}{Q:Exit->Act->World->Prop}{w1:World}{base n m:Nat}{v:Value}{xs:List Value}{tt:TypeId}
  (hgd:o.guard=none) (s x:Operand) (ho:o.op=.call { callee:=.builtin .append,args:=#[s,x],argTypes:=#[184,184] })
  (hown:w1.ownsRow base 221 2 v n xs) (hs:a.eval s=v) (hx:a.eval x=.slice (some ⟨w1.heap.size,0,none⟩) 1 1) (hn:n<=20000000) (hbase:base<=w1.heap.size)
  (h:∀(g cap:Nat) (w':World),w'.ownsRow base 221 2 (.slice (some ⟨g,0,none⟩) (n+1) cap) (n+1) (xs++[.int .u32 (m:Int),.int .i64 0])->(w1.alloc (.cells #[.int .u32 (m:Int),.int .i64 0] tt)).grownBy w' v.ownBlock->(v.ownBlock=some g∨g=(w1.alloc (.cells #[.int .u32 (m:Int),.int .i64 0] tt)).heap.size)->wpList Tryz.prog ops Q rest (a.put o.dst (.slice (some ⟨g,0,none⟩) (n+1) cap)) w'):
  wpList Tryz.prog ops Q (o::rest) a (w1.alloc (.cells #[.int .u32 (m:Int),.int .i64 0] tt)):=by
 obtain⟨i0,hi0,hz0,hz1,hz2⟩:=info_parts Tryz.infoEntry
 refine wpList_append_lies (P:=Tryz.prog) _ hgd s x 184 ho base 221 i0 _ 2 16 Tryz.underlying184 hi0 hz0 hz1 hz2 rfl (by decide) v n xs hs (hown.alloc _) ⟨w1.heap.size,0,none⟩ 1 1 [.int .u32 (m:Int),.int .i64 0] hx rfl (cell_two_new _ _ _ _) ?_ (by decide) (by unfold maxLen;omega) (by omega) (by simp;omega) _ rfl ?_
 ·intro u hu;simp at hu;rcases hu with rfl|rfl<;>rfl
 ·intro g cap w' h1 h2 h3 _
  exact h g cap w' h1 h2 h3
def QAddRes(base p bm n m:Nat)(L:List Nat)(w:World)(w':World):Prop:=St base w' p bm (n+1) (L++[m])/\Below base w w'/\Frame bm w w'
set_option maxRecDepth 100000 in
set_option maxHeartbeats 1600000 in
theorem qadd_any(base p bm n m:Nat)(L:List Nat)(w:World)(hst:St base w p bm n L)(hn:n<=10000000)(hl:L.length<=10000000)(hm:m<2 ^ 24):
  Calls Tryz.prog 136 #[.pointer (some ⟨p,0,none⟩),.int .u32 m] w fun e w'=>e=.returned (.tuple #[])/\QAddRes base p bm n m L w w':=by
 obtain⟨ev,D,E,hla,hbag,hEn⟩:=hst
 have hc0:=hla.cell0
 have hc1:=hla.cell1
 have HMAP:=aq hla.map
 have HLA:=aq hla
 have HBAG:=aq hbag
 rcases find_entry E m with hno|⟨i,t,hi⟩
 ·have HHAS:=aq (hla.places.not m hno)
  have HNO:=aq hno
  obtain⟨eo,ec,hes⟩:∃ao cap,ev=.slice ao E.length cap:=ents_shape hla.lies
  subst hes
  have hEl:E.length<=10000000:=by omega
  have hsz:base<=w.heap.size:=Nat.le_trans hla.lep (Nat.le_of_lt (block_lt hla.block))
  have HFB:Hid (Bag (E++[(m,1)]) (L++[m])):=aq (hbag.new hno)
  clear hla hbag hno
  go_enter Tryz.func136,Tryz.ntmps136
  go_wp2_with (first
   | (at_lookup;refine wpList_lookup_own_ok_int _ rfl _ _ 183 rfl 69 3 .i64 Tryz.keyLaw Tryz.underlying183 Tryz.underlying3 (Tryz.zeroInt _) bm _ D rfl (dz HMAP) _ _ rfl (keyOf_clause hm) ?_;rw[dz HHAS];intro c hat hwc;clear hat hwc)
   | (at_mapUpdate;refine wpList_mapUpdate_own _ rfl _ _ _ 183 rfl 69 3 Tryz.keyLaw Tryz.underlying183 _ bm E.length D rfl (dz HMAP) (by unfold maxLen;omega) _ _ _ rfl rfl (keyOf_clause hm) (.lit (.int .i64 (E.length:Int))) [] (plainElem_int Tryz.underlying3 (WalkArith.wf_i64 (by omega))) ?_;intro w1 hown1 hgrow1;have HOWN1:=aq hown1;have HG1:=aq hgrow1;have HP1:=aq (ListAt.afterPut (dz HLA) hgrow1);clear hown1 hgrow1;have hc01:w1.cell? ⟨p,0,none⟩=some (.slice eo E.length ec):=by simp[World.cell?,(dz HP1).1])
   | (at_builtin;refine append_entry (m:=m) rfl _ _ rfl (dz HP1).2.1 rfl rfl (by omega) (Nat.le_trans hsz (dz HP1).2.2.1.size) ?_;intro g' cap' w2 hown2 hgr2 hloc;have HADD:=aq (ListAt.added (dz HLA) (dz HNO) (dz HOWN1) (dz HG1) hown2 hgr2 hloc);clear hown2 hgr2 hloc;have hc02:w2.cell? ⟨p,0,none⟩=some (.slice eo E.length ec):=(by simp[World.cell?,(dz HADD).1]);have hf02:w2.frozen? ⟨p,0,none⟩=false:=frozen_of_row w2 p 0 _ _ (dz HADD).1;have hct3:=ListAt.lastCell (dz HADD).2.1;have hfr3:=ListAt.lastFree (dz HADD).2.1)
   | go_in)
  go_end0
  obtain⟨_,f1,f2⟩:=dz HADD
  have f3:=f1.times (g:=g') (cap:=cap') (i:=E.length) (c:=m) (t:=0) (t':=1) (by rw[List.length_append];rfl) (by simp)
  have e2:(E++[(m,0)]).set E.length (m,1)=E++[(m,1)]:=by simp
  rw[e2]at f3
  exact⟨rfl,⟨_,_,_,f3.1,dz HFB,by simp;omega⟩,f2.1.trans f3.2.1,f2.2.trans f3.2.2⟩
 ·have hil:i<E.length:=(List.getElem?_eq_some_iff.1 hi).1
  have hcnt:=hbag.count (m,t) (List.mem_of_getElem? hi)
  simp only at hcnt
  have htl:t<=10000000:=by rw[←hcnt];exact Nat.le_trans List.count_le_length hl
  obtain⟨hhas,hat0⟩:=hla.places.there i (m,t) hi
  have HHAS:=aq hhas
  have HAT:=aq hat0
  have HI:=aq hi
  obtain⟨g,cap,hsh⟩:∃g cap,ev=.slice (some ⟨g,0,none⟩) E.length cap:=by
   rcases hla.row.2 with⟨_,hn0⟩|⟨g,cap,cur,hv,_⟩
   ·omega
   ·exact⟨g,cap,hv⟩
  subst hsh
  have hct:w.cell? ⟨g,i*2+1,none⟩=some (.int .i64 (t:Int)):=by rw[hla.row.cellAt (i*2+1) (by omega)];exact(ents_get E i (m,t) hi).2
  have hfr:=hla.row.frozenAt (i*2+1)
  clear hla hbag hhas hat0 hi hcnt
  have HFIN:=aq (ListAt.times (dz HLA) (t':=t+1) rfl (dz HI))
  go_enter Tryz.func136,Tryz.ntmps136
  go_wp2_with (first|(at_lookup;refine wpList_lookup_own_ok_int _ rfl _ _ 183 rfl 69 3 .i64 Tryz.keyLaw Tryz.underlying183 Tryz.underlying3 (Tryz.zeroInt _) bm _ D rfl (dz HMAP) _ _ rfl (keyOf_clause hm) ?_;rw[dz HHAS];intro c hat hwc;obtain rfl:c=(i:Int):=at_inj hat (dz HAT);clear hat hwc)|go_in)
  go_end0
  have e1:((t:Int)+1)=((t+1:Nat):Int):=by omega
  obtain⟨f1,f2⟩:=dz HFIN
  rw[←e1]at f1 f2
  exact⟨rfl,⟨_,D,_,f1,(dz HBAG).add (dz HI),by rw[List.length_set];omega⟩,f2.1,f2.2⟩
end Go.Proofs.YtekkkoipcghlmaaGreatDoor
namespace Go.Proofs.YtekkkoipcghlmaaGreatDoor
open Go.RowKit Go.Maps
theorem St.start{base:Nat}{w:World}{p bm:Nat}(hp:w.heap[p]?=some (.cells #[.slice none 0 0,.map (some bm)] 186 (0,0)))(hb:w.ownsMap Tryz.prog 69 (plainElem Tryz.prog 3) bm 0 (.map []:DataW Unit))(h1:base<=p)(h2:base<=bm):St base w p bm 0 []:=
 ⟨.slice none 0 0,.map [],[],⟨hp,h1,h2,World.ownsRow_nil _ _ _ _,hb,⟨fun i x hx=>(by simp at hx),fun c _=>rfl⟩⟩,Bag.start,Nat.le_refl _⟩
def NewRes(ms:List Nat)(w:World)(e:Ending)(w':World):Prop:=∃p bm,e=.returned (.pointer (some ⟨p,0,none⟩))/\St w.heap.size w' p bm ms.length ms/\Below w.heap.size w w'
set_option maxRecDepth 100000 in
set_option maxHeartbeats 1600000 in
theorem newList_any(v:Value)(ms:List Nat)(w:World)(hl:ms.length<=100000)(hs:Small ms)(hv:Lies w v (us ms)):
  Calls Tryz.prog 92 #[v] w fun e w'=>NewRes ms w e w':=by
 obtain⟨ao,cap,rfl⟩:=lies_shape hv
 have hlen:(us ms).length=ms.length:=by simp[us]
 rw[hlen]at hv⊢
 have HV:=aq hv
 have HS:=aq hs
 clear hv hlen hs
 have hmm:=@run_makeMap Tryz.prog
 go_enter Tryz.func92,Tryz.ntmps92
 go_wp2
 have HSt:Hid (St w.heap.size ((w.alloc (Obj.map #[] 0)).alloc (Obj.cells #[Value.slice none 0 0,Value.map (some w.heap.size)] 186)) (w.heap.size+1) w.heap.size 0 []):=aq (St.start (by have:=heap_alloc_new (w.alloc (Obj.map #[] 0)) (Obj.cells #[Value.slice none 0 0,Value.map (some w.heap.size)] 186);simpa using this) ((World.ownsMap_made w _ _ _).alloc _) (by omega) (Nat.le_refl _))
 have HB:Hid (Below w.heap.size w ((w.alloc (Obj.map #[] 0)).alloc (Obj.cells #[Value.slice none 0 0,Value.map (some w.heap.size)] 186))):=aq (((Below.refl _ _).alloc (Nat.le_refl _) _).alloc (by simp) _)
 go_loopw [11] (fun i wr=>∃k:Nat,k<=ms.length/\i=.int .i64 k/\Hid (St w.heap.size wr (w.heap.size+1) w.heap.size k (ms.take k))/\Below w.heap.size w wr) (fun i _=>ms.length-(intOf i).toNat)
 case atStart=>exact⟨0,Nat.zero_le _,rfl,HSt,dz HB⟩
 case round=>
  obtain⟨k,hk,rfl,HST,hbel⟩:=hrel
  by_cases hlt:k<ms.length
  ·rcases dz HV with⟨h0,_⟩|⟨b,off,cap',hp,hsl,hb,hc⟩
   ·exfalso;have h0':ms=[]:=by simpa [us] using h0
    rw[h0']at hlt;simp at hlt
   ·simp only[Value.slice.injEq]at hsl
    obtain⟨rfl,-,rfl⟩:=hsl
    have hcell:wr.cell? ⟨b,off+k,none⟩=some (.int .u32 (ms[k]:Int)):=(hbel.cell (p:=⟨b,off+k,none⟩) hb).trans (hc k _ (by simp[us,hlt]))
    have hm:=dz HS ms[k] (List.getElem_mem hlt)
    have HT:Hid (ms.take (k+1)=ms.take k++[ms[k]]):=aq (List.take_succ_eq_append_getElem hlt)
    generalize ms[k]=m at *
    have htl:(ms.take k).length<=k:=List.length_take_le _ _
    have HA:=aq (qadd_any w.heap.size (w.heap.size+1) w.heap.size k m (ms.take k) wr (dz HST) (by omega) (by omega) hm)
    clear hc htl
    go_wp2_with fail
    refine(dz HA).mono ?_
    rintro e w2 ⟨rfl,h1,h2,-⟩
    have HN:=aq h1
    clear h1
    go_wp2
    go_roundw
    case rel=>exact⟨k+1,by omega,by go_num,aq (by rw[dz HT];exact dz HN),hbel.trans h2⟩
    case measure=>simp[intOf];omega
  ·have HT:Hid (ms.take k=ms):=aq (List.take_of_length_le (by omega))
   have HK:Hid (k=ms.length):=aq (by omega)
   go_wp2
   go_ret
   have hst:=dz HST
   rw[dz HT,dz HK]at hst
   exact⟨_,_,rfl,hst,hbel⟩
end Go.Proofs.YtekkkoipcghlmaaGreatDoor
namespace Go.Proofs.YtekkkoipcghlmaaGreatDoor
open Go.RowKit Go.Maps
def CapOk:Value->Prop|.slice _ n c=>n<=c|_=>True
set_option maxRecDepth 100000 in
set_option maxHeartbeats 400000 in
theorem wordsGo_cap(x:List UInt8)(en:Bool)(w:World)(hx:x.length<=6000)(h:en=false->x.getLast?≠some 10)(he:Env w):
  Calls Tryz.prog 134 #[.string (bs (lineOf x en))] w fun e w'=>∃v,e=.returned (.tuple #[v,.bool en])/\Lies w' v (strs (Sp.words x))/\CapOk v/\Below w.heap.size w w':=by
 have hll:(lineOf x en).length<=6001:=by unfold lineOf;cases en<;>simp<;>omega
 have HC:=aq (Tryz.strings_CutSuffix (bs (lineOf x en)) ⟨#[10]⟩ w (by rw[bs_size];omega))
 have hd:(bs (lineOf x en)).data.toList=lineOf x en:=bs_data _
 have hcut:=line_cut x en h
 rw[hd]at HC
 have e1:(ByteArray.mk #[10]).data.toList=[10]:=rfl
 rw[e1,hcut.1,hcut.2]at HC
 clear e1 hcut hd
 have HC:Hid (Calls Tryz.prog 174 #[.string (bs (lineOf x en)),.string ⟨#[10]⟩] w fun e w'=>e=.returned (.tuple #[.string (bs x),.bool en])/\w'=w):=HC
 obtain⟨m,hm⟩:=he.len.2
 generalize bs (lineOf x en)=line at *
 by_cases hne:x=[]
 ·have hemp:(bs x).toList.isEmpty=true:=by rw[bs_toList,hne];rfl
  have HN:=aq hne
  clear hne
  go_enter Tryz.func134,Tryz.ntmps134
  go_wp2_with fail
  refine(dz HC).mono ?_
  rintro e w1 ⟨rfl,rfl⟩
  go_wp2
  go_ret2
  exact⟨_,rfl,by rw[dz HN];exact Lies.nil _,Nat.le_refl _,Below.refl _ _⟩
 ·have hemp:(bs x).toList.isEmpty=false:=bs_nonempty hne
  have HN:=aq hne
  clear hne
  have HS:=aq (Tryz.strings_Split (bs x) ⟨#[32]⟩ m w (by rw[bs_size];omega) hm (by decide))
  go_enter Tryz.func134,Tryz.ntmps134
  go_wp2_with fail
  refine(dz HC).mono ?_
  rintro e w1 ⟨rfl,rfl⟩
  go_wp2_with fail
  refine(dz HS).mono ?_
  rintro e w2 ⟨rfl,rfl⟩
  go_wp2
  go_ret2
  have hsp:Lib.splitB ⟨#[32]⟩ 0 (Lib.countB (bs x) ⟨#[32]⟩) (bs x)=(Sp.wordsAux [] x).map bs:=split_bs x.length x (Nat.le_refl _)
  have hln:=Lib.splitB_all (bs [32]) (by rw[bs_size];simp) 0 (Lib.countB (bs x) (bs [32])) (bs x) rfl
  have hw:Sp.words x=Sp.wordsAux [] x:=by unfold Sp.words;rw[if_neg (dz HN)]
  refine⟨_,rfl,?_,Nat.le_refl _,(Below.refl _ _).alloc (Nat.le_refl _) _⟩
  rw[hsp,hw]
  have hc:Lib.countB (bs x) (bs [32])+1=(strs (Sp.wordsAux [] x)).length:=by
   have:=hln.symm
   rw[split_bs x.length x (Nat.le_refl _)]at this
   simpa [strs] using this
  rw[List.map_map]
  show Lies _ (.slice (some ⟨_,0,none⟩) (Lib.countB (bs x) (bs [32])+1) _) _
  rw[hc]
  exact lies_made (vs:=strs (Sp.wordsAux [] x)) (by omega)
theorem tail_lies{w:World}{b off n cap:Nat}{y:Value}{ys:List Value}(h:Lies w (.slice (some ⟨b,off,none⟩) n cap) (y::ys))(hn:n=ys.length+1)(hc:n<=cap):∃vt,(∀wx,(Instr.slice 177 (.slice (some ⟨b,off,none⟩) n cap) (some (.int .i64 1)) none none).run Tryz.prog wx=.ok vt wx)/\Lies w vt ys:=by
 refine⟨sliced (some ⟨b,off,none⟩) 1 n cap 1,fun wx=>?_,?_⟩
 ·rw[run_slice_l (P:=Tryz.prog) wx 177 (some ⟨b,off,none⟩) n cap (by kernel_rfl) .i64 1 (by omega) (by omega)]
  have:(sizeOf (Tryz.prog.elem 177)).run Tryz.prog wx=.ok 1 wx:=by
   rw[show Tryz.prog.elem 177=9 from by kernel_rfl]
   obtain⟨i,hi,hz0,hz1,hz2⟩:=info_parts Tryz.infoStr
   simp[sizeOf,typeInfo,hi,hz1]
  rw[this]
  rfl
 ·unfold sliced
  rw[show n-1=ys.length from by omega]
  by_cases hc1:cap=1
  ·rw[if_pos hc1]
   have h0:ys=[]:=List.length_eq_zero_iff.1 (by omega)
   subst h0
   exact .inl ⟨rfl,_,_,rfl⟩
  ·rw[if_neg hc1]
   exact lies_tail h _
def StepRes(x:List UInt8×Bool)(w:World)(e:Ending)(w':World):Prop:=∃c:Nat,e=.returned (.tuple #[.int .u32 (c:Int),.bool (Sp.stepOf x.1).1,.bool (Sp.stepOk x)])/\(Sp.stepOk x=true->c=Sp.stepMask x.1)/\Below w.heap.size w w'
set_option maxRecDepth 100000 in
set_option maxHeartbeats 800000 in
theorem readStep_any(x:List UInt8)(en:Bool)(w:World)(hx:x.length<=6000)(h:en=false->x.getLast?≠some 10)(he:Env w):
  Calls Tryz.prog 139 #[.string (bs (lineOf x en))] w fun e w'=>StepRes (x,en) w e w':=by
 have HW:=aq (wordsGo_cap x en w hx h he)
 have HMM:=aq (words_mem x)
 have hwl:=Sp.words_len' x
 generalize bs (lineOf x en)=line at *
 go_enter Tryz.func139,Tryz.ntmps139
 go_wp2_with fail
 refine(dz HW).mono ?_
 rintro e w1 ⟨v,rfl,hli,hcap,hb1⟩
 have HE1:=aq (he.below hb1)
 cases hws:Sp.words x with
 | nil=>
  have HSO:Hid (Sp.stepOf x=(false,[])):=aq (by unfold Sp.stepOf;rw[hws])
  rw[hws]at hli
  obtain⟨ao,cap,rfl⟩:=lies_shape hli
  have HF:=aq (fromWords_any _ [] w1 (by simp) (fun z hz=>by cases hz) hli (dz HE1))
  simp only[strs,List.map_nil,List.length_nil]at HF⊢
  clear hli hws hwl hcap
  go_wp2_with fail
  refine(dz HF).mono ?_
  rintro e w2 ⟨hb2,⟨ha,rfl⟩|⟨ha,rfl⟩⟩
  ·have HOK:Hid (Sp.stepOk (x,en)=false):=aq (by rw[step_ok (dz HSO) en,ha];rfl)
   clear ha
   cases en
   all_goals
    go_wp2
    go_ret3
    exact⟨0,by rw[dz HOK,show(Sp.stepOf x).1=false from by rw[dz HSO]];rfl,fun h=>(by rw[dz HOK]at h;cases h),hb1.trans (hb2.mono hb1.size)⟩
  ·have HOK:Hid (Sp.stepOk (x,en)=en):=aq (by rw[step_ok (dz HSO) en,ha];rfl)
   have HMK:Hid (Sp.maskOf []=Sp.stepMask x):=aq (by unfold Sp.stepMask;rw[dz HSO];rfl)
   clear ha
   generalize Sp.maskOf []=mk at *
   cases en
   all_goals
    go_wp2
    go_ret3
    exact⟨mk,by rw[dz HOK,show(Sp.stepOf x).1=false from by rw[dz HSO]];rfl,fun _=>dz HMK,hb1.trans (hb2.mono hb1.size)⟩
 | cons w0 r=>
  rw[hws]at hli hwl
  simp only[List.length_cons]at hwl
  have HM2:Hid (∀z,z∈w0::r->z.length<=6000):=aq (fun z hz=>by have:=dz HMM z (by rw[hws];exact hz);omega)
  rcases hli with⟨h0,_⟩|⟨b,off,cap,hp,rfl,hb,hc⟩
  ·simp[strs]at h0
  ·have hlen:(strs (w0::r)).length=r.length+1:=by simp[strs]
   have hc0:w1.cell? ⟨b,off,none⟩=some (.string (bs w0)):=hc 0 _ rfl
   have HLI:Hid (Lies w1 (.slice (some ⟨b,off,none⟩) (strs (w0::r)).length cap) (strs (w0::r))):=aq (.inr ⟨b,off,cap,hp,rfl,hb,hc⟩)
   rw[hlen]at HLI hcap⊢
   have hcap':r.length+1<=cap:=hcap
   clear hc hp hlen hcap
   by_cases hd:w0=[100]
   ·have HSO:Hid (Sp.stepOf x=(true,r)):=aq (by unfold Sp.stepOf;rw[hws];simp[hd])
    have hq:((bs w0).toList==[100])=true:=by rw[bs_toList,hd];rfl
    obtain⟨vt,hsl,hlt⟩:=tail_lies (dz HLI) (by simp) hcap'
    have HF:=aq (fromWords_any vt r w1 (by omega) (fun z hz=>dz HM2 z (by simp[hz])) hlt (dz HE1))
    clear hlt hws hd
    go_wp2_with fail
    refine(dz HF).mono ?_
    rintro e w2 ⟨hb2,⟨ha,rfl⟩|⟨ha,rfl⟩⟩
    ·have HOK:Hid (Sp.stepOk (x,en)=false):=aq (by rw[step_ok (dz HSO) en,ha];rfl)
     clear ha
     cases en
     all_goals
      go_wp2
      go_ret3
      exact⟨0,by rw[dz HOK,show(Sp.stepOf x).1=true from by rw[dz HSO]];rfl,fun h=>(by rw[dz HOK]at h;cases h),hb1.trans (hb2.mono hb1.size)⟩
    ·have HOK:Hid (Sp.stepOk (x,en)=en):=aq (by rw[step_ok (dz HSO) en,ha];rfl)
     have HMK:Hid (Sp.maskOf (r.map Sp.lit)=Sp.stepMask x):=aq (by unfold Sp.stepMask;rw[dz HSO])
     clear ha
     generalize Sp.maskOf (r.map Sp.lit)=mk at *
     cases en
     all_goals
      go_wp2
      go_ret3
      exact⟨mk,by rw[dz HOK,show(Sp.stepOf x).1=true from by rw[dz HSO]];rfl,fun _=>dz HMK,hb1.trans (hb2.mono hb1.size)⟩
   ·have HSO:Hid (Sp.stepOf x=(false,w0::r)):=aq (by unfold Sp.stepOf;rw[hws];simp[hd])
    have hq:((bs w0).toList==[100])=false:=by rw[bs_toList];simpa using hd
    have HF:=aq (fromWords_any _ (w0::r) w1 (by simp;omega) (dz HM2) (dz HLI) (dz HE1))
    clear hws hd
    go_wp2_with fail
    refine(dz HF).mono ?_
    rintro e w2 ⟨hb2,⟨ha,rfl⟩|⟨ha,rfl⟩⟩
    ·have HOK:Hid (Sp.stepOk (x,en)=false):=aq (by rw[step_ok (dz HSO) en,ha];rfl)
     clear ha
     cases en
     all_goals
      go_wp2
      go_ret3
      exact⟨0,by rw[dz HOK,show(Sp.stepOf x).1=false from by rw[dz HSO]];rfl,fun h=>(by rw[dz HOK]at h;cases h),hb1.trans (hb2.mono hb1.size)⟩
    ·have HOK:Hid (Sp.stepOk (x,en)=en):=aq (by rw[step_ok (dz HSO) en,ha];rfl)
     have HMK:Hid (Sp.maskOf ((w0::r).map Sp.lit)=Sp.stepMask x):=aq (by unfold Sp.stepMask;rw[dz HSO])
     clear ha
     generalize Sp.maskOf ((w0::r).map Sp.lit)=mk at *
     cases en
     all_goals
      go_wp2
      go_ret3
      exact⟨mk,by rw[dz HOK,show(Sp.stepOf x).1=false from by rw[dz HSO]];rfl,fun _=>dz HMK,hb1.trans (hb2.mono hb1.size)⟩
end Go.Proofs.YtekkkoipcghlmaaGreatDoor
namespace Go.Proofs.YtekkkoipcghlmaaGreatDoor
open Go.RowKit Go.Maps
theorem stFollows{base p bm n m:Nat}{L:List Nat}{w:World}(hst:St base w p bm n L)(hn:n<=10000000)(hl:L.length<=10000000)(hL:Small L)(hm:m<2 ^ 24):
  Calls Tryz.prog 141 #[.pointer (some ⟨p,0,none⟩),.int .u32 m] w fun e w'=>FolRes L m w e w':=by
 obtain⟨ev,D,E,hla,hbag,hEn⟩:=hst
 refine followsGo_any p ev E L m w (block_lt hla.block) hla.cell0 hla.lies (by omega) hbag.live (fun x hx=>?_) hL hm
 have hc:=hbag.count x hx
 refine⟨by rw[←hc];exact Nat.le_trans List.count_le_length hl,fun h0=>hL _ (List.count_pos_iff.1 (by omega))⟩
theorem St.base_le{base p bm n:Nat}{L:List Nat}{w:World}(h:St base w p bm n L):base<=w.heap.size:=by
 obtain⟨ev,D,E,hla,_,_⟩:=h
 exact Nat.le_trans hla.lep (Nat.le_of_lt (block_lt hla.block))
def TakeOut(base p bm n:Nat)(L:List Nat)(x:List UInt8×Bool)(er:Int)(w':World):Prop:=
 (Sp.stepOk x=false/\er=6)∨
 (Sp.stepOk x=true/\(Sp.stepOf x.1).1=true/\((Sp.stepMask x.1∉L/\er=7)∨(Sp.stepMask x.1∈L/\er=0/\St base w' p bm (n+1) (L.erase (Sp.stepMask x.1)))))∨
 (Sp.stepOk x=true/\(Sp.stepOf x.1).1=false/\((¬Sp.Fol L (Sp.stepMask x.1)/\er=8)∨(Sp.Fol L (Sp.stepMask x.1)/\er=0/\St base w' p bm (n+1) (L++[Sp.stepMask x.1]))))
def QTakeRes(base p bm n:Nat)(L:List Nat)(x:List UInt8×Bool)(w:World)(e:Ending)(w':World):Prop:=∃er:Int,e=.returned (.int .i64 er)/\TakeOut base p bm n L x er w'/\Below base w w'/\Frame bm w w'
theorem St.more{base p bm n:Nat}{L:List Nat}{w:World}(h:St base w p bm n L):St base w p bm (n+1) L:=by
 obtain⟨ev,D,E,h1,h2,h3⟩:=h
 exact⟨ev,D,E,h1,h2,by omega⟩
set_option maxRecDepth 100000 in
set_option maxHeartbeats 800000 in
theorem qtake_any(base p bm n:Nat)(L:List Nat)(x:List UInt8)(en:Bool)(w:World)(hst:St base w p bm n L)(hn:n<=100000)(hl:L.length<=100000)(hL:Small L)(hx:x.length<=6000)(h:en=false->x.getLast?≠some 10)(he:Env w):
  Calls Tryz.prog 94 #[.pointer (some ⟨p,0,none⟩),.string (bs (lineOf x en))] w fun e w'=>QTakeRes base p bm n L (x,en) w e w':=by
 have HR:=aq (readStep_any x en w hx h he)
 have HST:=aq hst
 have hbs:=hst.base_le
 have hml:=stepMask_lt x
 have HSL:=aq hL
 clear hst hL h he
 generalize bs (lineOf x en)=line at *
 go_enter Tryz.func94,Tryz.ntmps94
 go_wp2_with fail
 refine(dz HR).mono ?_
 rintro e w1 ⟨c,rfl,hc,hb1⟩
 have hbb1:Below base w w1:=hb1.mono hbs
 have hfr1:Frame bm w w1:=Frame.below hb1
 have HS1:=aq ((dz HST).below hb1)
 simp only at hc⊢
 cases hok:Sp.stepOk (x,en)
 ·have HOK:=aq hok
  clear hok hc
  generalize (Sp.stepOf x).1=gg
  go_wp2
  go_ret
  exact⟨6,rfl,.inl ⟨dz HOK,rfl⟩,hbb1,hfr1⟩
 ·have hce:=hc hok
  subst hce
  have HOK:=aq hok
  clear hok hc
  cases hgo:(Sp.stepOf x).1
  ·have HGO:=aq hgo
   clear hgo
   have HF:=aq (stFollows (dz HS1) (by omega) (by omega) (dz HSL) hml)
   have HAD:=aq (fun(w2:World) (hb2:Below w1.heap.size w1 w2)=>qadd_any base p bm n (Sp.stepMask x) L w2 ((dz HS1).below hb2) (by omega) (by omega) hml)
   have HT1:Hid (¬Sp.Fol L (Sp.stepMask x)->∀w',TakeOut base p bm n L (x,en) 8 w'):=aq (fun h w'=>.inr (.inr ⟨dz HOK,dz HGO,.inl ⟨h,rfl⟩⟩))
   have HT2:Hid (Sp.Fol L (Sp.stepMask x)->∀w',St base w' p bm (n+1) (L++[Sp.stepMask x])->TakeOut base p bm n L (x,en) 0 w'):=aq (fun h w' hs=>.inr (.inr ⟨dz HOK,dz HGO,.inr ⟨h,rfl,hs⟩⟩))
   generalize Sp.stepMask x=m at *
   go_wp2_with fail
   refine(dz HF).mono ?_
   rintro e w2 ⟨r,rfl,hr,hb2⟩
   have HRR:=aq hr
   clear hr
   have hbb2:Below base w w2:=hbb1.trans (hb2.mono (Nat.le_trans hbs hb1.size))
   have hfr2:Frame bm w w2:=hfr1.trans (Frame.below hb2)
   cases r
   ·have HFN:=aq (dz HT1 (fun h=>by have:=(dz HRR).2 h;cases this))
    go_wp2
    go_ret
    exact⟨8,rfl,dz HFN _,hbb2,hfr2⟩
   ·have HFN:=aq (dz HT2 ((dz HRR).1 rfl))
    go_wp2_with fail
    refine(dz HAD w2 hb2).mono ?_
    rintro e w3 ⟨rfl,hs3,hb3,hf3⟩
    have HS3:=aq hs3
    clear hs3
    go_wp2
    go_ret
    exact⟨0,rfl,dz HFN _ (dz HS3),hbb2.trans hb3,hfr2.trans hf3⟩
  ·have HGO:=aq hgo
   clear hgo
   have HDR:=aq (drop_any base p bm n (Sp.stepMask x) L w1 (dz HS1) (by omega) (by omega) hml)
   have HT1:Hid (Sp.stepMask x∉L->∀w',TakeOut base p bm n L (x,en) 7 w'):=aq (fun h w'=>.inr (.inl ⟨dz HOK,dz HGO,.inl ⟨h,rfl⟩⟩))
   have HT2:Hid (Sp.stepMask x∈L->∀w',St base w' p bm n (L.erase (Sp.stepMask x))->TakeOut base p bm n L (x,en) 0 w'):=aq (fun h w' hs=>.inr (.inl ⟨dz HOK,dz HGO,.inr ⟨h,rfl,hs.more⟩⟩))
   generalize Sp.stepMask x=m at *
   go_wp2_with fail
   refine(dz HDR).mono ?_
   rintro e w2 ⟨r,rfl,hr,hs2,hb2,hf2⟩
   have HRR:=aq hr
   have HS2:=aq hs2
   clear hr hs2
   cases r
   ·have HFN:=aq (dz HT1 (fun h=>by have:=(dz HRR).2 h;cases this))
    go_wp2
    go_ret
    exact⟨7,rfl,dz HFN _,hbb1.trans hb2,hfr1.trans hf2⟩
   ·have HFN:=aq (dz HT2 ((dz HRR).1 rfl))
    go_wp2
    go_ret
    exact⟨0,rfl,dz HFN _ (dz HS2),hbb1.trans hb2,hfr1.trans hf2⟩
end Go.Proofs.YtekkkoipcghlmaaGreatDoor
