import Derived.Test.YtekkkoipcghlmaaGreatDoorU42
import Derived.Deep.AppendLies
import Derived.WalkSmall
import Derived.Carry
import Derived.Test.YtekkkoipcghlmaaGreatDoorU40
set_option linter.all false
namespace Go.Proofs.YtekkkoipcghlmaaGreatDoor
open Go.RowKit Go.Maps
theorem aC0{w w':World}{base:Nat}{e:TypeId}{s:Nat}{v:Value}{n:Nat}{xs:List Value}(h:w.ownsRow base e s v n xs)(hb:Below w.heap.size w w'):w'.ownsRow base e s v n xs:=by
 refine h.kept (eQ hb) ?_
 cases hv:v.ownBlock with
 | none=>exact .inl rfl
 | some g=>exact .inr (by simp)
theorem cH{w:World}{p:Nat}{o:Obj}(h:w.heap[p]?=some o):p<w.heap.size:=(Array.getElem?_eq_some_iff.1 h).1
theorem ListAt.below{base:Nat}{w w':World}{p bm:Nat}{ev:Value}{D:DataW Unit}{E:List (Nat×Nat)}(h:ListAt base w p bm ev D E)(hb:Below w.heap.size w w'):ListAt base w' p bm ev D E:=
 ⟨by rw[hb.block p (cH h.block)];exact h.block,h.lep,h.lem,aC0 h.row hb,h.map.kept (eQ hb) (by simp),h.places⟩
theorem St.below{base:Nat}{w w':World}{p bm n:Nat}{L:List Nat}(h:St base w p bm n L)(hb:Below w.heap.size w w'):St base w' p bm n L:=by
 obtain⟨ev,D,E,h1,h2,h3⟩:=h
 exact⟨ev,D,E,h1.below hb,h2,h3⟩
def lP(o:Obj):Prop:=∀cs fz,o≠.cells cs 186 fz/\o≠.cells cs 221 fz
structure Frame(bm:Nat)(w w':World):Prop where
 size:w.heap.size<=w'.heap.size
 same:∀k o,w.heap[k]?=some o->lP o->k≠bm->w'.heap[k]?=some o
theorem Frame.refl(bm:Nat)(w:World):Frame bm w w:=⟨Nat.le_refl _,fun _ _ h _ _=>h⟩
theorem Frame.trans{bm:Nat}{a b c:World}(h:Frame bm a b)(h':Frame bm b c):Frame bm a c:=⟨Nat.le_trans h.size h'.size,fun k o hk hf hn=>h'.same k o (h.same k o hk hf hn) hf hn⟩
theorem Frame.below{bm:Nat}{a b:World}(h:Below a.heap.size a b):Frame bm a b:=⟨h.size,fun k _ hk _ _=>(h.block k (cH hk)).trans hk⟩
theorem Frame.set{bm:Nat}{a:World}{g j:Nat}{cs:Array Value}{t:TypeId}{fz:Nat×Nat}(hg:a.heap[g]?=some (.cells cs t fz))(ht:t=186∨t=221)(u:Value):Frame bm a (a.setCell ⟨g,j,none⟩ u):=
 ⟨by simp,fun k o hk hf _=>(Below.heap_setCell a _ _ _ (fun e=>by
  simp only at e
  subst e
  rw[hg]at hk
  cases hk
  rcases ht with rfl|rfl
  ·exact(hf cs fz).1 rfl
  ·exact(hf cs fz).2 rfl)).trans hk⟩
theorem Frame.grown{bm:Nat}{a b:World}{row:Option Nat}(h:a.grownBy b row)(hr:∀k o,row=some k->a.heap[k]?=some o->k=bm∨¬lP o):Frame bm a b:=
 ⟨h.size,fun k o hk hf hn=>(h.block k (cH hk) (fun e=>by rcases hr k o e.symm hk with h'|h';exact hn h';exact h' hf)).trans hk⟩
theorem aB9{w:World}{base:Nat}{v:Value}{n:Nat}{xs:List Value}(h:w.ownsRow base 221 2 v n xs):∀k o,v.ownBlock=some k->w.heap[k]?=some o->¬lP o:=by
 intro k o hk ho hf
 rcases h.2 with⟨hv,_⟩|⟨g,cap,cur,hv,_,hg,_⟩
 ·rw[hv]at hk;cases hk
 ·rw[hv]at hk
  simp[Value.ownBlock]at hk
  subst hk
  rw[hg]at ho
  cases ho
  exact(hf cur (0,0)).2 rfl
section
theorem ListAt.cell0{base:Nat}{w:World}{p bm:Nat}{ev:Value}{D:DataW Unit}{E:List (Nat×Nat)}(h:ListAt base w p bm ev D E):w.cell? ⟨p,0,none⟩=some ev:=by simp[World.cell?,h.block]
theorem ListAt.cell1{base:Nat}{w:World}{p bm:Nat}{ev:Value}{D:DataW Unit}{E:List (Nat×Nat)}(h:ListAt base w p bm ev D E):w.cell? ⟨p,1,none⟩=some (.map (some bm)):=by simp[World.cell?,h.block]
theorem ListAt.lies{base:Nat}{w:World}{p bm:Nat}{ev:Value}{D:DataW Unit}{E:List (Nat×Nat)}(h:ListAt base w p bm ev D E):EntsLie w ev E:=by
 by_cases h0:E=[]
 ·subst h0
  refine .inl ⟨rfl,?_⟩
  rcases h.row.2 with⟨hv,_⟩|⟨g,cap,cur,hv,_⟩
  ·exact⟨_,_,hv⟩
  ·exact⟨_,_,hv⟩
 ·have hp:=List.length_pos_iff.2 h0
  rcases h.row.2 with⟨hv,hn⟩|⟨g,cap,cur,rfl,_⟩
  ·omega
  ·refine .inr ⟨g,cap,hp,rfl,(h.row.lt g rfl).2,fun k x hx=>?_⟩
   have hk:k<E.length:=(List.getElem?_eq_some_iff.1 hx).1
   obtain⟨h1,h2⟩:=kZ E k x hx
   exact⟨by rw[h.row.cellAt (k*2) (by omega)];exact h1,by rw[h.row.cellAt (k*2+1) (by omega)];exact h2⟩
theorem ListAt.row_not_p{base:Nat}{w:World}{p bm:Nat}{ev:Value}{D:DataW Unit}{E:List (Nat×Nat)}(h:ListAt base w p bm ev D E):ev.ownBlock≠some p:=by
 intro he
 rcases h.row.2 with⟨hv,_⟩|⟨g,cap,cur,hv,_,hg,_⟩
 ·rw[hv]at he;cases he
 ·rw[hv]at he
  simp[Value.ownBlock]at he
  subst he
  rw[h.block]at hg
  simp at hg
theorem ListAt.row_not_map{base:Nat}{w:World}{p bm:Nat}{ev:Value}{D:DataW Unit}{E:List (Nat×Nat)}(h:ListAt base w p bm ev D E):some bm≠ev.ownBlock:=by
 intro he
 obtain⟨es,clock,hm,_⟩:=h.map
 rcases h.row.2 with⟨hv,_⟩|⟨g,cap,cur,hv,_,hg,_⟩
 ·rw[hv]at he;cases he
 ·rw[hv]at he
  simp[Value.ownBlock]at he
  subst he
  rw[hm]at hg
  simp at hg
theorem ListAt.map_not_p{base:Nat}{w:World}{p bm:Nat}{ev:Value}{D:DataW Unit}{E:List (Nat×Nat)}(h:ListAt base w p bm ev D E):bm≠p:=by
 intro he
 obtain⟨es,clock,hm,_⟩:=h.map
 subst he
 rw[h.block]at hm
 simp at hm
theorem ListAt.times{base:Nat}{w:World}{p bm:Nat}{ev:Value}{D:DataW Unit}{E:List (Nat×Nat)}(h:ListAt base w p bm ev D E){g cap i c t t':Nat}(hv:ev=.slice (some ⟨g,0,none⟩) E.length cap)(hi:E[i]?=some (c,t)):
  ListAt base (w.setCell ⟨g,i*2+1,none⟩ (.int .i64 (t':Int))) p bm ev D (E.set i (c,t'))/\Below base w (w.setCell ⟨g,i*2+1,none⟩ (.int .i64 (t':Int)))/\Frame bm w (w.setCell ⟨g,i*2+1,none⟩ (.int .i64 (t':Int))):=by
 subst hv
 have hs:=h.row.stored (i*2+1) (.int .i64 (t':Int))
 have hgp:p≠g:=fun e=>h.row_not_p (by simp[Value.ownBlock,e])
 have hgm:some bm≠some g:=fun e=>h.row_not_map (by simp[Value.ownBlock];simpa using e)
 obtain⟨cur,hgc⟩:∃cur,w.heap[g]?=some (.cells cur 221 (0,0)):=by
  rcases h.row.2 with⟨hv,_⟩|⟨g',cap',cur,hv,_,hg,_⟩
  ·cases hv
  ·simp at hv
   obtain⟨rfl,-⟩:=hv
   exact⟨cur,hg⟩
 refine⟨⟨?_,h.lep,h.lem,?_,?_,?_⟩,(Below.refl _ _).setCell (p:=⟨g,i*2+1,none⟩) (h.row.lt g rfl).1 _,Frame.set hgc (.inr rfl) _⟩
 ·rw[Below.heap_setCell _ _ _ _ hgp];exact h.block
 ·rw[aK5 E t' i c t hi]at hs
  rw[List.length_set];exact hs.1
 ·rw[List.length_set];exact h.map.kept hs.2 hgm
 ·have hval:∀(a:Nat) (x:Nat×Nat),(E.set i (c,t'))[a]?=some x->∃x',E[a]?=some x'/\x'.1=x.1:=by
   intro a x hx
   by_cases e:a=i
   ·subst e
    rw[List.getElem?_set_self',hi]at hx
    simp at hx
    exact⟨(c,t),hi,by rw[←hx]⟩
   ·rw[List.getElem?_set_ne (fun h=>e h.symm)]at hx
    exact⟨x,hx,rfl⟩
  refine⟨fun a x hx=>?_,fun d hd=>?_⟩
  ·obtain⟨x',h1,h2⟩:=hval a x hx
   rw[←h2];exact h.places.there a x' h1
  ·refine h.places.not d (fun x hx e=>?_)
   obtain⟨j,hj⟩:=List.getElem?_of_mem hx
   by_cases hji:j=i
   ·subst hji
    rw[hi]at hj;cases hj
    exact hd (c,t') (List.mem_set (List.getElem?_eq_some_iff.1 hi).1 _) e
   ·exact hd x (List.mem_of_getElem? (i:=j) (by rw[List.getElem?_set_ne (fun h=>hji h.symm)];exact hj)) e
end
def aI0(base p bm n m:Nat)(L:List Nat)(w:World)(e:Ending)(w':World):Prop:=∃r:Bool,e=.returned (.bool r)/\(r=true↔m∈L)/\St base w' p bm n (L.erase m)/\Below base w w'/\Frame bm w w'
theorem wV{D:DataW Unit}{k:Lit}{c i:Int}(h1:D.atKey k (.lit (.int .i64 0))=.lit (.int .i64 c))(h2:D.atKey k Z0=.lit (.int .i64 i)):c=i:=by
 have:=h1.symm.trans h2
 simpa using this
theorem pK(E:List (Nat×Nat))(m:Nat):(∀x,x∈E->x.1≠m)∨∃(i t:Nat),E[i]?=some (m,t):=by
 by_cases h:∃x,x∈E/\x.1=m
 ·obtain⟨x,hx,rfl⟩:=h
  obtain⟨i,hi⟩:=List.getElem?_of_mem hx
  exact .inr ⟨i,x.2,hi⟩
 ·exact .inl (fun x hx e=>h ⟨x,hx,e⟩)
set_option maxRecDepth 100000 in
set_option maxHeartbeats 1600000 in
theorem aI8(base p bm n m:Nat)(L:List Nat)(w:World)(hst:St base w p bm n L)(_hn:n<=10000000)(hl:L.length<=10000000)(hm:m<2 ^ 24):
  Calls Tryz.prog 140 #[.pointer (some ⟨p,0,none⟩),.int .u32 m] w fun e w'=>aI0 base p bm n m L w e w':=by
 obtain⟨ev,D,E,hla,hbag,hEn⟩:=hst
 have HST:Hid (St base w p bm n L):=aq ⟨ev,D,E,hla,hbag,hEn⟩
 have hc0:=hla.cell0
 have hc1:=hla.cell1
 have HMAP:=aq hla.map
 have HLA:=aq hla
 have HBAG:=aq hbag
 rcases pK E m with hno|⟨i,t,hi⟩
 ·have HNM:Hid (m∉L):=aq (List.count_eq_zero.1 (hbag.none m hno))
  have HHAS:=aq (hla.places.not m hno)
  clear hla hbag hno
  go_enter Tryz.func140,Tryz.ntmps140
  go_wp2_with (first|(at_lookup;refine wpList_lookup_own_ok_int _ rfl _ _ 183 rfl 69 3 .i64 Tryz.keyLaw Tryz.underlying183 Tryz.underlying3 (Tryz.zeroInt _) bm _ D rfl (dz HMAP) _ _ rfl (dU hm) ?_;rw[dz HHAS];intro c hat hwc)|go_in)
  go_ret
  exact⟨false,rfl,by simp[dz HNM],by rw[List.erase_of_not_mem (dz HNM)];exact dz HST,Below.refl _ _,Frame.refl _ _⟩
 ·have hil:i<E.length:=(List.getElem?_eq_some_iff.1 hi).1
  have hcnt:=hbag.count (m,t) (List.mem_of_getElem? hi)
  simp only at hcnt
  have htl:t<=10000000:=by rw[←hcnt];exact Nat.le_trans List.count_le_length hl
  obtain⟨hhas,hat0⟩:=hla.places.there i (m,t) hi
  have HHAS:=aq hhas
  have HAT:=aq hat0
  have HI:=aq hi
  have HCNT:=aq hcnt
  obtain⟨g,cap,hsh⟩:∃g cap,ev=.slice (some ⟨g,0,none⟩) E.length cap:=by
   rcases hla.row.2 with⟨_,hn0⟩|⟨g,cap,cur,hv,_⟩
   ·omega
   ·exact⟨g,cap,hv⟩
  subst hsh
  have hct:w.cell? ⟨g,i*2+1,none⟩=some (.int .i64 (t:Int)):=by rw[hla.row.cellAt (i*2+1) (by omega)];exact(kZ E i (m,t) hi).2
  have hfr:=hla.row.frozenAt (i*2+1)
  clear hla hbag hhas hat0 hi hcnt
  rcases Nat.eq_zero_or_pos t with ht0|ht0
  ·subst ht0
   have HNM:Hid (m∉L):=aq (List.count_eq_zero.1 (dz HCNT))
   go_enter Tryz.func140,Tryz.ntmps140
   go_wp2_with (first|(at_lookup;refine wpList_lookup_own_ok_int _ rfl _ _ 183 rfl 69 3 .i64 Tryz.keyLaw Tryz.underlying183 Tryz.underlying3 (Tryz.zeroInt _) bm _ D rfl (dz HMAP) _ _ rfl (dU hm) ?_;rw[dz HHAS];intro c hat hwc;obtain rfl:c=(i:Int):=wV hat (dz HAT);clear hat hwc)|go_in)
   go_ret
   exact⟨false,rfl,by simp[dz HNM],by rw[List.erase_of_not_mem (dz HNM)];exact dz HST,Below.refl _ _,Frame.refl _ _⟩
  ·have HIM:Hid (m∈L):=aq (List.count_pos_iff.1 (by rw[dz HCNT];exact ht0))
   have hq:((t:Int)==0)=false:=by rw[beq_eq_false_iff_ne];omega
   have HFIN:=aq (ListAt.times (dz HLA) (t':=t-1) rfl (dz HI))
   go_enter Tryz.func140,Tryz.ntmps140
   go_wp2_with (first|(at_lookup;refine wpList_lookup_own_ok_int _ rfl _ _ 183 rfl 69 3 .i64 Tryz.keyLaw Tryz.underlying183 Tryz.underlying3 (Tryz.zeroInt _) bm _ D rfl (dz HMAP) _ _ rfl (dU hm) ?_;rw[dz HHAS];intro c hat hwc;obtain rfl:c=(i:Int):=wV hat (dz HAT);clear hat hwc)|go_in)
   go_ret
   have e1:((t:Int)-1)=((t-1:Nat):Int):=by omega
   obtain⟨f1,f2⟩:=dz HFIN
   rw[←e1]at f1 f2
   exact⟨true,rfl,by simp[dz HIM],⟨_,D,_,f1,(dz HBAG).drop (dz HI),by rw[List.length_set];exact hEn⟩,f2.1,f2.2⟩
end Go.Proofs.YtekkkoipcghlmaaGreatDoor
namespace Go.Proofs.YtekkkoipcghlmaaGreatDoor
open Go.RowKit Go.Maps
theorem Tryz.infoEntry:(Tryz.prog.info? 221).map (fun i=>(i.zero,i.size,i.bytes))=some (some (.agg #[.int .u32 0,.int .i64 0]),2,16):=by kernel_rfl
theorem Places.put{D:DataW Unit}{E:List (Nat×Nat)}(h:Places D E)(hD:IsMap D){m:Nat}(hno:∀x,x∈E->x.1≠m):Places (D.put (Key m) (.lit (.int .i64 (E.length:Int)))) (E++[(m,0)]):=by
 have hk:WideAt.IsKeyLit (Key m):=trivial
 have hne:∀c:Nat,c≠m->Key c≠Key m:=fun c hc e=>hc (by unfold Key at e;simp at e;omega)
 refine⟨fun i x hx=>?_,fun c hc=>?_⟩
 ·rcases Nat.lt_trichotomy i E.length with hi|hi|hi
  ·rw[List.getElem?_append_left hi]at hx
   have hxm:=hno x (List.mem_of_getElem? hx)
   rw[has_put_other (hne _ hxm),atKey_put_other (hne _ hxm)]
   exact h.there i x hx
  ·subst hi
   simp at hx
   subst hx
   exact⟨has_put_same hD hk _,atKey_put_same hD hk _ _⟩
  ·rw[List.getElem?_eq_none (by simp;omega)]at hx;cases hx
 ·have hcm:c≠m:=fun e=>hc (m,0) (by simp) e.symm
  rw[has_put_other (hne _ hcm)]
  exact h.not c (fun x hx=>hc x (by simp[hx]))
theorem ListAt.afterPut{base:Nat}{w w1:World}{p bm:Nat}{ev:Value}{D:DataW Unit}{E:List (Nat×Nat)}(h:ListAt base w p bm ev D E)(hg:w.grownBy w1 (some bm)):
  w1.heap[p]?=some (.cells #[ev,.map (some bm)] 186 (0,0))/\w1.ownsRow base 221 2 ev E.length (ents E)/\Below base w w1/\Frame bm w w1:=by
 have hsz:base<=w.heap.size:=Nat.le_trans h.lep (Nat.le_of_lt (cH h.block))
 refine⟨?_,h.row.kept hg (.inr (fun e=>h.row_not_map e.symm)),(Below.refl _ _).grown hg hsz (fun k hk=>by simp at hk;subst hk;exact h.lem),Frame.grown hg (fun k o hk _=>.inl (by simpa using hk.symm))⟩
 rw[hg.block p (cH h.block) (by simpa using fun e=>h.map_not_p e.symm)]
 exact h.block
theorem ListAt.added{base:Nat}{w w1 w2:World}{p bm:Nat}{ev:Value}{D:DataW Unit}{E:List (Nat×Nat)}(h:ListAt base w p bm ev D E){m g' cap':Nat}{o:Obj}(hno:∀x,x∈E->x.1≠m)
  (hown1:w1.ownsMap Tryz.prog 69 (plainElem Tryz.prog 3) bm (E.length+1) (D.put (Key m) (.lit (.int .i64 (E.length:Int))))) (hg1:w.grownBy w1 (some bm))
  (hown2:w2.ownsRow base 221 2 (.slice (some ⟨g',0,none⟩) (E.length+1) cap') (E.length+1) (ents E++[.int .u32 (m:Int),.int .i64 0]))
  (hg2:(w1.alloc o).grownBy w2 ev.ownBlock) (hloc:ev.ownBlock=some g'∨g'=(w1.alloc o).heap.size):
  w2.heap[p]?=some (.cells #[ev,.map (some bm)] 186 (0,0))/\
  ListAt base (w2.setCell ⟨p,0,none⟩ (.slice (some ⟨g',0,none⟩) (E.length+1) cap')) p bm (.slice (some ⟨g',0,none⟩) (E.length+1) cap') (D.put (Key m) (.lit (.int .i64 (E.length:Int)))) (E++[(m,0)])/\
  Below base w (w2.setCell ⟨p,0,none⟩ (.slice (some ⟨g',0,none⟩) (E.length+1) cap'))/\Frame bm w (w2.setCell ⟨p,0,none⟩ (.slice (some ⟨g',0,none⟩) (E.length+1) cap')):=by
 obtain⟨hp1,hr1,hb1,hf1⟩:=h.afterPut hg1
 have hp1':(w1.alloc o).heap[p]?=some (.cells #[ev,.map (some bm)] 186 (0,0)):=by rw[Below.heap_alloc _ _ _ (cH hp1)];exact hp1
 have hp2:w2.heap[p]?=some (.cells #[ev,.map (some bm)] 186 (0,0)):=by
  rw[hg2.block p (cH hp1') (fun e=>h.row_not_p e.symm)];exact hp1'
 have hgp:g'≠p:=by
  rcases hloc with hl|hl
  ·intro e;subst e;exact h.row_not_p hl
  ·have:=cH hp1;simp at hl;omega
 have hm2:=((hown1.alloc o).kept hg2 h.row_not_map)
 refine⟨hp2,⟨?_,h.lep,h.lem,?_,?_,?_⟩,?_,((hf1.trans (Frame.below ((Below.refl _ w1).alloc (Nat.le_refl _) o))).trans (Frame.grown hg2 (fun k o' hk ho=>.inr (aB9 (hr1.alloc o) k o' hk ho)))).trans (Frame.set hp2 (.inl rfl) _)⟩
 ·rw[heap_setCell_same w2 p 0 _ _ _ hp2];rfl
 ·rw[List.length_append,aB8]
  exact ownsRow_setCell_other hown2 (a:=⟨p,0,none⟩) (by simp[Value.ownBlock];exact hgp) _
 ·rw[List.length_append]
  exact hm2.setCell (a:=⟨p,0,none⟩) h.map_not_p _
 ·exact h.places.put h.map.isMap hno
 ·have hsz1:base<=(w1.alloc o).heap.size:=Nat.le_trans h.lep (Nat.le_of_lt (cH hp1'))
  have hsz0:base<=w1.heap.size:=Nat.le_trans h.lep (Nat.le_of_lt (cH hp1))
  exact((hb1.alloc hsz0 o).grown hg2 hsz1 (fun k hk=>(h.row.lt k hk).1)).setCell (p:=⟨p,0,none⟩) h.lep _
theorem ListAt.lastCell{base:Nat}{w:World}{p bm g' cap' m:Nat}{D:DataW Unit}{E:List (Nat×Nat)}(h:ListAt base w p bm (.slice (some ⟨g',0,none⟩) (E.length+1) cap') D (E++[(m,0)])):w.cell? ⟨g',E.length*2+1,none⟩=some (.int .i64 0):=by
 have hr:=h.row
 rw[List.length_append,List.length_singleton]at hr
 rw[hr.cellAt (E.length*2+1) (by omega)]
 exact(kZ (E++[(m,0)]) E.length (m,0) (by simp)).2
theorem ListAt.lastFree{base:Nat}{w:World}{p bm g' cap' m:Nat}{D:DataW Unit}{E:List (Nat×Nat)}(h:ListAt base w p bm (.slice (some ⟨g',0,none⟩) (E.length+1) cap') D (E++[(m,0)])):w.frozen? ⟨g',E.length*2+1,none⟩=false:=by
 have hr:=h.row
 rw[List.length_append,List.length_singleton]at hr
 exact hr.frozenAt (E.length*2+1)
theorem sI{ops:Array Oper}{rest:List Oper}{o:Oper}{a:Act}{Q:Exit->Act->World->Prop}{w1:World}{base n m:Nat}{v:Value}{xs:List Value}{tt:TypeId}
  (hgd:o.guard=none) (s x:Operand) (ho:o.op=.call { callee:=.builtin .append,args:=#[s,x],argTypes:=#[184,184] })
  (hown:w1.ownsRow base 221 2 v n xs) (hs:a.eval s=v) (hx:a.eval x=.slice (some ⟨w1.heap.size,0,none⟩) 1 1) (hn:n<=20000000) (hbase:base<=w1.heap.size)
  (h:∀(g cap:Nat) (w':World),w'.ownsRow base 221 2 (.slice (some ⟨g,0,none⟩) (n+1) cap) (n+1) (xs++[.int .u32 (m:Int),.int .i64 0])->(w1.alloc (.cells #[.int .u32 (m:Int),.int .i64 0] tt)).grownBy w' v.ownBlock->(v.ownBlock=some g∨g=(w1.alloc (.cells #[.int .u32 (m:Int),.int .i64 0] tt)).heap.size)->wpList Tryz.prog ops Q rest (a.put o.dst (.slice (some ⟨g,0,none⟩) (n+1) cap)) w'):
  wpList Tryz.prog ops Q (o::rest) a (w1.alloc (.cells #[.int .u32 (m:Int),.int .i64 0] tt)):=by
 obtain⟨i0,hi0,hz0,hz1,hz2⟩:=info_parts Tryz.infoEntry
 refine wpList_append_lies (P:=Tryz.prog) _ hgd s x 184 ho base 221 i0 _ 2 16 Tryz.underlying184 hi0 hz0 hz1 hz2 rfl (by decide) v n xs hs (hown.alloc _) ⟨w1.heap.size,0,none⟩ 1 1 [.int .u32 (m:Int),.int .i64 0] hx rfl (cell_two_new _ _ _ _) ?_ (by decide) (by unfold maxLen;omega) (by omega) (by simp;omega) _ rfl ?_
 ·intro u hu;simp at hu;rcases hu with rfl|rfl<;>rfl
 ·intro g cap w' h1 h2 h3 _
  exact h g cap w' h1 h2 h3
def aP9(base p bm n m:Nat)(L:List Nat)(w:World)(w':World):Prop:=St base w' p bm (n+1) (L++[m])/\Below base w w'/\Frame bm w w'
set_option maxRecDepth 100000 in
set_option maxHeartbeats 1600000 in
theorem wD(base p bm n m:Nat)(L:List Nat)(w:World)(hst:St base w p bm n L)(hn:n<=10000000)(hl:L.length<=10000000)(hm:m<2 ^ 24):
  Calls Tryz.prog 136 #[.pointer (some ⟨p,0,none⟩),.int .u32 m] w fun e w'=>e=.returned (.tuple #[])/\aP9 base p bm n m L w w':=by
 obtain⟨ev,D,E,hla,hbag,hEn⟩:=hst
 have hc0:=hla.cell0
 have hc1:=hla.cell1
 have HMAP:=aq hla.map
 have HLA:=aq hla
 have HBAG:=aq hbag
 rcases pK E m with hno|⟨i,t,hi⟩
 ·have HHAS:=aq (hla.places.not m hno)
  have HNO:=aq hno
  obtain⟨eo,ec,hes⟩:∃ao cap,ev=.slice ao E.length cap:=nU hla.lies
  subst hes
  have hEl:E.length<=10000000:=by omega
  have hsz:base<=w.heap.size:=Nat.le_trans hla.lep (Nat.le_of_lt (cH hla.block))
  have HFB:Hid (Bag (E++[(m,1)]) (L++[m])):=aq (hbag.new hno)
  clear hla hbag hno
  go_enter Tryz.func136,Tryz.ntmps136
  go_wp2_with (first
   | (at_lookup;refine wpList_lookup_own_ok_int _ rfl _ _ 183 rfl 69 3 .i64 Tryz.keyLaw Tryz.underlying183 Tryz.underlying3 (Tryz.zeroInt _) bm _ D rfl (dz HMAP) _ _ rfl (dU hm) ?_;rw[dz HHAS];intro c hat hwc;clear hat hwc)
   | (at_mapUpdate;refine wpList_mapUpdate_own _ rfl _ _ _ 183 rfl 69 3 Tryz.keyLaw Tryz.underlying183 _ bm E.length D rfl (dz HMAP) (by unfold maxLen;omega) _ _ _ rfl rfl (dU hm) (.lit (.int .i64 (E.length:Int))) [] (plainElem_int Tryz.underlying3 (WalkArith.wf_i64 (by omega))) ?_;intro w1 hown1 hgrow1;have HOWN1:=aq hown1;have HG1:=aq hgrow1;have HP1:=aq (ListAt.afterPut (dz HLA) hgrow1);clear hown1 hgrow1;have hc01:w1.cell? ⟨p,0,none⟩=some (.slice eo E.length ec):=by simp[World.cell?,(dz HP1).1])
   | (at_builtin;refine sI (m:=m) rfl _ _ rfl (dz HP1).2.1 rfl rfl (by omega) (Nat.le_trans hsz (dz HP1).2.2.1.size) ?_;intro g' cap' w2 hown2 hgr2 hloc;have HADD:=aq (ListAt.added (dz HLA) (dz HNO) (dz HOWN1) (dz HG1) hown2 hgr2 hloc);clear hown2 hgr2 hloc;have hc02:w2.cell? ⟨p,0,none⟩=some (.slice eo E.length ec):=(by simp[World.cell?,(dz HADD).1]);have hf02:w2.frozen? ⟨p,0,none⟩=false:=frozen_of_row w2 p 0 _ _ (dz HADD).1;have hct3:=ListAt.lastCell (dz HADD).2.1;have hfr3:=ListAt.lastFree (dz HADD).2.1)
   | go_in)
  go_end0
  obtain⟨_,f1,f2⟩:=dz HADD
  have f3:=f1.times (g:=g') (cap:=cap') (i:=E.length) (c:=m) (t:=0) (t':=1) (by rw[List.length_append];rfl) (by simp)
  have e2:(E++[(m,0)]).set E.length (m,1)=E++[(m,1)]:=by simp
  rw[e2]at f3
  exact⟨rfl,⟨_,_,_,f3.1,dz HFB,by simp;omega⟩,f2.1.trans f3.2.1,f2.2.trans f3.2.2⟩
 ·have hil:i<E.length:=(List.getElem?_eq_some_iff.1 hi).1
  have hcnt:=hbag.count (m,t) (List.mem_of_getElem? hi)
  simp only at hcnt
  have htl:t<=10000000:=by rw[←hcnt];exact Nat.le_trans List.count_le_length hl
  obtain⟨hhas,hat0⟩:=hla.places.there i (m,t) hi
  have HHAS:=aq hhas
  have HAT:=aq hat0
  have HI:=aq hi
  obtain⟨g,cap,hsh⟩:∃g cap,ev=.slice (some ⟨g,0,none⟩) E.length cap:=by
   rcases hla.row.2 with⟨_,hn0⟩|⟨g,cap,cur,hv,_⟩
   ·omega
   ·exact⟨g,cap,hv⟩
  subst hsh
  have hct:w.cell? ⟨g,i*2+1,none⟩=some (.int .i64 (t:Int)):=by rw[hla.row.cellAt (i*2+1) (by omega)];exact(kZ E i (m,t) hi).2
  have hfr:=hla.row.frozenAt (i*2+1)
  clear hla hbag hhas hat0 hi hcnt
  have HFIN:=aq (ListAt.times (dz HLA) (t':=t+1) rfl (dz HI))
  go_enter Tryz.func136,Tryz.ntmps136
  go_wp2_with (first|(at_lookup;refine wpList_lookup_own_ok_int _ rfl _ _ 183 rfl 69 3 .i64 Tryz.keyLaw Tryz.underlying183 Tryz.underlying3 (Tryz.zeroInt _) bm _ D rfl (dz HMAP) _ _ rfl (dU hm) ?_;rw[dz HHAS];intro c hat hwc;obtain rfl:c=(i:Int):=wV hat (dz HAT);clear hat hwc)|go_in)
  go_end0
  have e1:((t:Int)+1)=((t+1:Nat):Int):=by omega
  obtain⟨f1,f2⟩:=dz HFIN
  rw[←e1]at f1 f2
  exact⟨rfl,⟨_,D,_,f1,(dz HBAG).add (dz HI),by rw[List.length_set];omega⟩,f2.1,f2.2⟩
end Go.Proofs.YtekkkoipcghlmaaGreatDoor
namespace Go.Proofs.YtekkkoipcghlmaaGreatDoor
open Go.RowKit Go.Maps
theorem St.start{base:Nat}{w:World}{p bm:Nat}(hp:w.heap[p]?=some (.cells #[.slice none 0 0,.map (some bm)] 186 (0,0)))(hb:w.ownsMap Tryz.prog 69 (plainElem Tryz.prog 3) bm 0 (.map []:DataW Unit))(h1:base<=p)(h2:base<=bm):St base w p bm 0 []:=
 ⟨.slice none 0 0,.map [],[],⟨hp,h1,h2,World.ownsRow_nil _ _ _ _,hb,⟨fun i x hx=>(by simp at hx),fun c _=>rfl⟩⟩,Bag.start,Nat.le_refl _⟩
def NewRes(ms:List Nat)(w:World)(e:Ending)(w':World):Prop:=∃p bm,e=.returned (.pointer (some ⟨p,0,none⟩))/\St w.heap.size w' p bm ms.length ms/\Below w.heap.size w w'
set_option maxRecDepth 100000 in
set_option maxHeartbeats 1600000 in
theorem uE(v:Value)(ms:List Nat)(w:World)(hl:ms.length<=100000)(hs:Small ms)(hv:Lies w v (us ms)):
  Calls Tryz.prog 92 #[v] w fun e w'=>NewRes ms w e w':=by
 obtain⟨ao,cap,rfl⟩:=aY hv
 have hlen:(us ms).length=ms.length:=by simp[us]
 rw[hlen]at hv⊢
 have HV:=aq hv
 have HS:=aq hs
 clear hv hlen hs
 have hmm:=@run_makeMap Tryz.prog
 go_enter Tryz.func92,Tryz.ntmps92
 go_wp2
 have HSt:Hid (St w.heap.size ((w.alloc (Obj.map #[] 0)).alloc (Obj.cells #[Value.slice none 0 0,Value.map (some w.heap.size)] 186)) (w.heap.size+1) w.heap.size 0 []):=aq (St.start (by have:=heap_alloc_new (w.alloc (Obj.map #[] 0)) (Obj.cells #[Value.slice none 0 0,Value.map (some w.heap.size)] 186);simpa using this) ((World.ownsMap_made w _ _ _).alloc _) (by omega) (Nat.le_refl _))
 have HB:Hid (Below w.heap.size w ((w.alloc (Obj.map #[] 0)).alloc (Obj.cells #[Value.slice none 0 0,Value.map (some w.heap.size)] 186))):=aq (((Below.refl _ _).alloc (Nat.le_refl _) _).alloc (by simp) _)
 go_loopw [11] (fun i wr=>∃k:Nat,k<=ms.length/\i=.int .i64 k/\Hid (St w.heap.size wr (w.heap.size+1) w.heap.size k (ms.take k))/\Below w.heap.size w wr) (fun i _=>ms.length-(intOf i).toNat)
 case atStart=>exact⟨0,Nat.zero_le _,rfl,HSt,dz HB⟩
 case round=>
  obtain⟨k,hk,rfl,HST,hbel⟩:=hrel
  by_cases hlt:k<ms.length
  ·rcases dz HV with⟨h0,_⟩|⟨b,off,cap',hp,hsl,hb,hc⟩
   ·exfalso;have h0':ms=[]:=by simpa [us] using h0
    rw[h0']at hlt;simp at hlt
   ·simp only[Value.slice.injEq]at hsl
    obtain⟨rfl,-,rfl⟩:=hsl
    have hcell:wr.cell? ⟨b,off+k,none⟩=some (.int .u32 (ms[k]:Int)):=(hbel.cell (p:=⟨b,off+k,none⟩) hb).trans (hc k _ (by simp[us,hlt]))
    have hm:=dz HS ms[k] (List.getElem_mem hlt)
    have HT:Hid (ms.take (k+1)=ms.take k++[ms[k]]):=aq (List.take_succ_eq_append_getElem hlt)
    generalize ms[k]=m at *
    have htl:(ms.take k).length<=k:=List.length_take_le _ _
    have HA:=aq (wD w.heap.size (w.heap.size+1) w.heap.size k m (ms.take k) wr (dz HST) (by omega) (by omega) hm)
    clear hc htl
    go_wp2_with fail
    refine(dz HA).mono ?_
    rintro e w2 ⟨rfl,h1,h2,-⟩
    have HN:=aq h1
    clear h1
    go_wp2
    go_roundw
    case rel=>exact⟨k+1,by omega,by go_num,aq (by rw[dz HT];exact dz HN),hbel.trans h2⟩
    case measure=>simp[intOf];omega
  ·have HT:Hid (ms.take k=ms):=aq (List.take_of_length_le (by omega))
   have HK:Hid (k=ms.length):=aq (by omega)
   go_wp2
   go_ret
   have hst:=dz HST
   rw[dz HT,dz HK]at hst
   exact⟨_,_,rfl,hst,hbel⟩
end Go.Proofs.YtekkkoipcghlmaaGreatDoor
namespace Go.Proofs.YtekkkoipcghlmaaGreatDoor
open Go.RowKit Go.Maps
def CapOk:Value->Prop|.slice _ n c=>n<=c|_=>True
set_option maxRecDepth 100000 in
set_option maxHeartbeats 400000 in
theorem wO(x:List UInt8)(en:Bool)(w:World)(hx:x.length<=6000)(h:en=false->x.getLast?≠some 10)(he:Env w):
  Calls Tryz.prog 134 #[.string (bs (bF x en))] w fun e w'=>∃v,e=.returned (.tuple #[v,.bool en])/\Lies w' v (strs (Sp.words x))/\CapOk v/\Below w.heap.size w w':=by
 have hll:(bF x en).length<=6001:=by unfold bF;cases en<;>simp<;>omega
 have HC:=aq (Tryz.strings_CutSuffix (bs (bF x en)) ⟨#[10]⟩ w (by rw[aN];omega))
 have hd:(bs (bF x en)).data.toList=bF x en:=jV _
 have hcut:=uO x en h
 rw[hd]at HC
 have e1:(ByteArray.mk #[10]).data.toList=[10]:=rfl
 rw[e1,hcut.1,hcut.2]at HC
 clear e1 hcut hd
 have HC:Hid (Calls Tryz.prog 174 #[.string (bs (bF x en)),.string ⟨#[10]⟩] w fun e w'=>e=.returned (.tuple #[.string (bs x),.bool en])/\w'=w):=HC
 obtain⟨m,hm⟩:=he.len.2
 generalize bs (bF x en)=line at *
 by_cases hne:x=[]
 ·have hemp:(bs x).toList.isEmpty=true:=by rw[cF,hne];rfl
  have HN:=aq hne
  clear hne
  go_enter Tryz.func134,Tryz.ntmps134
  go_wp2_with fail
  refine(dz HC).mono ?_
  rintro e w1 ⟨rfl,rfl⟩
  go_wp2
  go_ret2
  exact⟨_,rfl,by rw[dz HN];exact Lies.nil _,Nat.le_refl _,Below.refl _ _⟩
 ·have hemp:(bs x).toList.isEmpty=false:=bK hne
  have HN:=aq hne
  clear hne
  have HS:=aq (Tryz.strings_Split (bs x) ⟨#[32]⟩ m w (by rw[aN];omega) hm (by decide))
  go_enter Tryz.func134,Tryz.ntmps134
  go_wp2_with fail
  refine(dz HC).mono ?_
  rintro e w1 ⟨rfl,rfl⟩
  go_wp2_with fail
  refine(dz HS).mono ?_
  rintro e w2 ⟨rfl,rfl⟩
  go_wp2
  go_ret2
  have hsp:Lib.splitB ⟨#[32]⟩ 0 (Lib.countB (bs x) ⟨#[32]⟩) (bs x)=(Sp.wordsAux [] x).map bs:=lN x.length x (Nat.le_refl _)
  have hln:=Lib.splitB_all (bs [32]) (by rw[aN];simp) 0 (Lib.countB (bs x) (bs [32])) (bs x) rfl
  have hw:Sp.words x=Sp.wordsAux [] x:=by unfold Sp.words;rw[if_neg (dz HN)]
  refine⟨_,rfl,?_,Nat.le_refl _,(Below.refl _ _).alloc (Nat.le_refl _) _⟩
  rw[hsp,hw]
  have hc:Lib.countB (bs x) (bs [32])+1=(strs (Sp.wordsAux [] x)).length:=by
   have:=hln.symm
   rw[lN x.length x (Nat.le_refl _)]at this
   simpa [strs] using this
  rw[List.map_map]
  show Lies _ (.slice (some ⟨_,0,none⟩) (Lib.countB (bs x) (bs [32])+1) _) _
  rw[hc]
  exact qC (vs:=strs (Sp.wordsAux [] x)) (by omega)
theorem aF7{w:World}{b off n cap:Nat}{y:Value}{ys:List Value}(h:Lies w (.slice (some ⟨b,off,none⟩) n cap) (y::ys))(hn:n=ys.length+1)(hc:n<=cap):∃vt,(∀wx,(Instr.slice 177 (.slice (some ⟨b,off,none⟩) n cap) (some (.int .i64 1)) none none).run Tryz.prog wx=.ok vt wx)/\Lies w vt ys:=by
 refine⟨sliced (some ⟨b,off,none⟩) 1 n cap 1,fun wx=>?_,?_⟩
 ·rw[run_slice_l (P:=Tryz.prog) wx 177 (some ⟨b,off,none⟩) n cap (by kernel_rfl) .i64 1 (by omega) (by omega)]
  have:(sizeOf (Tryz.prog.elem 177)).run Tryz.prog wx=.ok 1 wx:=by
   rw[show Tryz.prog.elem 177=9 from by kernel_rfl]
   obtain⟨i,hi,hz0,hz1,hz2⟩:=info_parts Tryz.infoStr
   simp[sizeOf,typeInfo,hi,hz1]
  rw[this]
  rfl
 ·unfold sliced
  rw[show n-1=ys.length from by omega]
  by_cases hc1:cap=1
  ·rw[if_pos hc1]
   have h0:ys=[]:=List.length_eq_zero_iff.1 (by omega)
   subst h0
   exact .inl ⟨rfl,_,_,rfl⟩
  ·rw[if_neg hc1]
   exact qV h _
def aP2(x:List UInt8×Bool)(w:World)(e:Ending)(w':World):Prop:=∃c:Nat,e=.returned (.tuple #[.int .u32 (c:Int),.bool (Sp.stepOf x.1).1,.bool (Sp.stepOk x)])/\(Sp.stepOk x=true->c=Sp.stepMask x.1)/\Below w.heap.size w w'
set_option maxRecDepth 100000 in
set_option maxHeartbeats 800000 in
theorem tE(x:List UInt8)(en:Bool)(w:World)(hx:x.length<=6000)(h:en=false->x.getLast?≠some 10)(he:Env w):
  Calls Tryz.prog 139 #[.string (bs (bF x en))] w fun e w'=>aP2 (x,en) w e w':=by
 have HW:=aq (wO x en w hx h he)
 have HMM:=aq (jO x)
 have hwl:=Sp.words_len' x
 generalize bs (bF x en)=line at *
 go_enter Tryz.func139,Tryz.ntmps139
 go_wp2_with fail
 refine(dz HW).mono ?_
 rintro e w1 ⟨v,rfl,hli,hcap,hb1⟩
 have HE1:=aq (he.below hb1)
 cases hws:Sp.words x with
 | nil=>
  have HSO:Hid (Sp.stepOf x=(false,[])):=aq (by unfold Sp.stepOf;rw[hws])
  rw[hws]at hli
  obtain⟨ao,cap,rfl⟩:=aY hli
  have HF:=aq (fB _ [] w1 (by simp) (fun z hz=>by cases hz) hli (dz HE1))
  simp only[strs,List.map_nil,List.length_nil]at HF⊢
  clear hli hws hwl hcap
  go_wp2_with fail
  refine(dz HF).mono ?_
  rintro e w2 ⟨hb2,⟨ha,rfl⟩|⟨ha,rfl⟩⟩
  ·have HOK:Hid (Sp.stepOk (x,en)=false):=aq (by rw[fY (dz HSO) en,ha];rfl)
   clear ha
   cases en
   all_goals
    go_wp2
    go_ret3
    exact⟨0,by rw[dz HOK,show(Sp.stepOf x).1=false from by rw[dz HSO]];rfl,fun h=>(by rw[dz HOK]at h;cases h),hb1.trans (hb2.mono hb1.size)⟩
  ·have HOK:Hid (Sp.stepOk (x,en)=en):=aq (by rw[fY (dz HSO) en,ha];rfl)
   have HMK:Hid (Sp.maskOf []=Sp.stepMask x):=aq (by unfold Sp.stepMask;rw[dz HSO];rfl)
   clear ha
   generalize Sp.maskOf []=mk at *
   cases en
   all_goals
    go_wp2
    go_ret3
    exact⟨mk,by rw[dz HOK,show(Sp.stepOf x).1=false from by rw[dz HSO]];rfl,fun _=>dz HMK,hb1.trans (hb2.mono hb1.size)⟩
 | cons w0 r=>
  rw[hws]at hli hwl
  simp only[List.length_cons]at hwl
  have HM2:Hid (∀z,z∈w0::r->z.length<=6000):=aq (fun z hz=>by have:=dz HMM z (by rw[hws];exact hz);omega)
  rcases hli with⟨h0,_⟩|⟨b,off,cap,hp,rfl,hb,hc⟩
  ·simp[strs]at h0
  ·have hlen:(strs (w0::r)).length=r.length+1:=by simp[strs]
   have hc0:w1.cell? ⟨b,off,none⟩=some (.string (bs w0)):=hc 0 _ rfl
   have HLI:Hid (Lies w1 (.slice (some ⟨b,off,none⟩) (strs (w0::r)).length cap) (strs (w0::r))):=aq (.inr ⟨b,off,cap,hp,rfl,hb,hc⟩)
   rw[hlen]at HLI hcap⊢
   have hcap':r.length+1<=cap:=hcap
   clear hc hp hlen hcap
   by_cases hd:w0=[100]
   ·have HSO:Hid (Sp.stepOf x=(true,r)):=aq (by unfold Sp.stepOf;rw[hws];simp[hd])
    have hq:((bs w0).toList==[100])=true:=by rw[cF,hd];rfl
    obtain⟨vt,hsl,hlt⟩:=aF7 (dz HLI) (by simp) hcap'
    have HF:=aq (fB vt r w1 (by omega) (fun z hz=>dz HM2 z (by simp[hz])) hlt (dz HE1))
    clear hlt hws hd
    go_wp2_with fail
    refine(dz HF).mono ?_
    rintro e w2 ⟨hb2,⟨ha,rfl⟩|⟨ha,rfl⟩⟩
    ·have HOK:Hid (Sp.stepOk (x,en)=false):=aq (by rw[fY (dz HSO) en,ha];rfl)
     clear ha
     cases en
     all_goals
      go_wp2
      go_ret3
      exact⟨0,by rw[dz HOK,show(Sp.stepOf x).1=true from by rw[dz HSO]];rfl,fun h=>(by rw[dz HOK]at h;cases h),hb1.trans (hb2.mono hb1.size)⟩
    ·have HOK:Hid (Sp.stepOk (x,en)=en):=aq (by rw[fY (dz HSO) en,ha];rfl)
     have HMK:Hid (Sp.maskOf (r.map Sp.lit)=Sp.stepMask x):=aq (by unfold Sp.stepMask;rw[dz HSO])
     clear ha
     generalize Sp.maskOf (r.map Sp.lit)=mk at *
     cases en
     all_goals
      go_wp2
      go_ret3
      exact⟨mk,by rw[dz HOK,show(Sp.stepOf x).1=true from by rw[dz HSO]];rfl,fun _=>dz HMK,hb1.trans (hb2.mono hb1.size)⟩
   ·have HSO:Hid (Sp.stepOf x=(false,w0::r)):=aq (by unfold Sp.stepOf;rw[hws];simp[hd])
    have hq:((bs w0).toList==[100])=false:=by rw[cF];simpa using hd
    have HF:=aq (fB _ (w0::r) w1 (by simp;omega) (dz HM2) (dz HLI) (dz HE1))
    clear hws hd
    go_wp2_with fail
    refine(dz HF).mono ?_
    rintro e w2 ⟨hb2,⟨ha,rfl⟩|⟨ha,rfl⟩⟩
    ·have HOK:Hid (Sp.stepOk (x,en)=false):=aq (by rw[fY (dz HSO) en,ha];rfl)
     clear ha
     cases en
     all_goals
      go_wp2
      go_ret3
      exact⟨0,by rw[dz HOK,show(Sp.stepOf x).1=false from by rw[dz HSO]];rfl,fun h=>(by rw[dz HOK]at h;cases h),hb1.trans (hb2.mono hb1.size)⟩
    ·have HOK:Hid (Sp.stepOk (x,en)=en):=aq (by rw[fY (dz HSO) en,ha];rfl)
     have HMK:Hid (Sp.maskOf ((w0::r).map Sp.lit)=Sp.stepMask x):=aq (by unfold Sp.stepMask;rw[dz HSO])
     clear ha
     generalize Sp.maskOf ((w0::r).map Sp.lit)=mk at *
     cases en
     all_goals
      go_wp2
      go_ret3
      exact⟨mk,by rw[dz HOK,show(Sp.stepOf x).1=false from by rw[dz HSO]];rfl,fun _=>dz HMK,hb1.trans (hb2.mono hb1.size)⟩
end Go.Proofs.YtekkkoipcghlmaaGreatDoor
