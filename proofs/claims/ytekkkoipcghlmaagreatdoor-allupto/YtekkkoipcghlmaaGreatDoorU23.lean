import Derived.Test.YtekkkoipcghlmaaGreatDoorU22
import Derived.Test.YtekkkoipcghlmaaGreatDoorU20
import Derived.Laws.EntriesVeiled
import Derived.RangeFuncNested
import Derived.RangeFuncWrites
set_option linter.all false
namespace Go.Proofs.YtekkkoipcghlmaaGreatDoor
open Go.RowKit
attribute [local go_sem ↓] Go.wp_at_zero Go.wp_at_succ
theorem Tryz.underInts:Tryz.prog.underlying 25=some (.slice 3):=by kernel_rfl
theorem Tryz.makeInts(w:World):(Instr.makeSlice 25 (.int .i64 13) (.int .i64 13)).run Tryz.prog w=.ok (.slice (some ⟨w.heap.size,0,none⟩) 13 13) (w.alloc (.cells (madeCells #[.int .i64 0] 13) 3)):=
 run_make_row' (P:=Tryz.prog) 25 3 (.int .i64 0) 8 Tryz.underInts Tryz.infoInt rfl .i64 .i64 13 (by decide) (by decide) w
theorem aI2:(madeCells #[.int .i64 0] 13).toList=ints (List.replicate 13 0):=by rw[toList_madeCells_one];rfl
theorem lK(w:World)(a b c d:Obj):(((((w.alloc a).alloc b).alloc c).alloc d).drew).heap[w.heap.size]?=some a/\(((((w.alloc a).alloc b).alloc c).alloc d).drew).heap[w.heap.size+1]?=some b/\(((((w.alloc a).alloc b).alloc c).alloc d).drew).heap[w.heap.size+1+1]?=some c/\(((((w.alloc a).alloc b).alloc c).alloc d).drew).heap[w.heap.size+1+1+1]?=some d/\Below w.heap.size w (((((w.alloc a).alloc b).alloc c).alloc d).drew):=by
 have z1:(w.alloc a).heap.size=w.heap.size+1:=by simp
 have z2:((w.alloc a).alloc b).heap.size=w.heap.size+1+1:=by simp
 have z3:(((w.alloc a).alloc b).alloc c).heap.size=w.heap.size+1+1+1:=by simp
 have up:∀(x:World) (o:Obj) (k:Nat),k<x.heap.size->(x.alloc o).heap[k]?=x.heap[k]?:=fun x o k h=>Below.heap_alloc x o k h
 refine⟨?_,?_,?_,?_,((((Below.refl _ w).alloc (Nat.le_refl _) _).alloc (by omega) _).alloc (by omega) _).alloc (by omega) _ |>.drew⟩
 ·show((((w.alloc a).alloc b).alloc c).alloc d).heap[w.heap.size]?=_
  rw[up _ _ _ (by omega),up _ _ _ (by omega),up _ _ _ (by omega)];exact heap_alloc_new w a
 ·show((((w.alloc a).alloc b).alloc c).alloc d).heap[w.heap.size+1]?=_
  rw[up _ _ _ (by omega),up _ _ _ (by omega),←z1];exact heap_alloc_new _ b
 ·show((((w.alloc a).alloc b).alloc c).alloc d).heap[w.heap.size+1+1]?=_
  rw[up _ _ _ (by omega),←z2];exact heap_alloc_new _ c
 ·show((((w.alloc a).alloc b).alloc c).alloc d).heap[w.heap.size+1+1+1]?=_
  rw[←z3];exact heap_alloc_new _ d
def qNil(g1 g2:Nat):Obj:=.cells #[.nilFunc,.nilFunc,.slice none 0 0,.slice (some ⟨g1,0,none⟩) 13 13,.slice (some ⟨g2,0,none⟩) 13 13,.int .i64 0] 161
def qPtr(q:Nat):Obj:=.cells #[.pointer (some ⟨q,0,none⟩)] 112
def qRow:Obj:=.cells (madeCells #[.int .i64 0] 13) 3
structure Q0(w wx:World)(q qb g1 g2:Nat):Prop where
 hq:wx.heap[q]?=some (qNil g1 g2)
 hqb:wx.heap[qb]?=some (qPtr q)
 h1:wx.heap[g1]?=some qRow
 h2:wx.heap[g2]?=some qRow
 bel:Below w.heap.size w wx
 ge:w.heap.size<=q/\w.heap.size<=qb/\w.heap.size<=g1/\w.heap.size<=g2
 ne:q≠qb/\q≠g1/\q≠g2/\qb≠g1/\qb≠g2/\g1≠g2
theorem q0_a(w:World)(g1 g2:Nat)(h:(g1=w.heap.size/\g2=w.heap.size+1)∨(g1=w.heap.size+1/\g2=w.heap.size)):Q0 w (((((w.alloc qRow).alloc qRow).alloc (qNil g1 g2)).alloc (qPtr (w.heap.size+1+1))).drew) (w.heap.size+1+1) (w.heap.size+1+1+1) g1 g2:=by
 obtain⟨a0,a1,a2,a3,hb⟩:=lK w qRow qRow (qNil g1 g2) (qPtr (w.heap.size+1+1))
 rcases h with⟨rfl,rfl⟩|⟨rfl,rfl⟩
 ·exact⟨a2,a3,a0,a1,hb,by omega,by omega⟩
 ·exact⟨a2,a3,a1,a0,hb,by omega,by omega⟩
theorem q0_b(w:World)(g1 g2:Nat)(h:(g1=w.heap.size/\g2=w.heap.size+1)∨(g1=w.heap.size+1/\g2=w.heap.size)):Q0 w (((((w.alloc qRow).alloc qRow).alloc (qPtr (w.heap.size+1+1+1))).alloc (qNil g1 g2)).drew) (w.heap.size+1+1+1) (w.heap.size+1+1) g1 g2:=by
 obtain⟨a0,a1,a2,a3,hb⟩:=lK w qRow qRow (qPtr (w.heap.size+1+1+1)) (qNil g1 g2)
 rcases h with⟨rfl,rfl⟩|⟨rfl,rfl⟩
 ·exact⟨a3,a2,a0,a1,hb,by omega,by omega⟩
 ·exact⟨a3,a2,a1,a0,hb,by omega,by omega⟩
theorem q0_c(w:World)(g1 g2:Nat)(h:(g1=w.heap.size/\g2=w.heap.size+1+1)∨(g1=w.heap.size+1+1/\g2=w.heap.size)):Q0 w (((((w.alloc qRow).alloc (qPtr (w.heap.size+1+1+1))).alloc qRow).alloc (qNil g1 g2)).drew) (w.heap.size+1+1+1) (w.heap.size+1) g1 g2:=by
 obtain⟨a0,a1,a2,a3,hb⟩:=lK w qRow (qPtr (w.heap.size+1+1+1)) qRow (qNil g1 g2)
 rcases h with⟨rfl,rfl⟩|⟨rfl,rfl⟩
 ·exact⟨a3,a1,a0,a2,hb,by omega,by omega⟩
 ·exact⟨a3,a1,a2,a0,hb,by omega,by omega⟩
theorem q0_d(w:World)(g1 g2:Nat)(h:(g1=w.heap.size+1/\g2=w.heap.size+1+1)∨(g1=w.heap.size+1+1/\g2=w.heap.size+1)):Q0 w (((((w.alloc (qPtr (w.heap.size+1+1+1))).alloc qRow).alloc qRow).alloc (qNil g1 g2)).drew) (w.heap.size+1+1+1) w.heap.size g1 g2:=by
 obtain⟨a0,a1,a2,a3,hb⟩:=lK w (qPtr (w.heap.size+1+1+1)) qRow qRow (qNil g1 g2)
 rcases h with⟨rfl,rfl⟩|⟨rfl,rfl⟩
 ·exact⟨a3,a0,a1,a2,hb,by omega,by omega⟩
 ·exact⟨a3,a0,a2,a1,hb,by omega,by omega⟩
def cM(q qb:Nat)(al co pl:Value)(all places:List Int):Mem:={ s:=0,q:=q,qb:=qb,cl:=.slice none 0 0,wl:=.slice none 0 0,fa:=.slice none 0 0,od:=.slice none 0 0,odr:=.slice none 0 0,st:=.slice none 0 0,al:=al,co:=co,pl:=pl,asm:=.slice none 0 0,sp:=.slice none 0 0,ws:=[],store:=[],facts:=[],order:=[],ordr:=[],starts:=[],all:=all,counts:=List.replicate 13 0,places:=places,assumed:=[],lists:=[],steps:=[],nsteps:=0,passed:=0,rlen:=0,rmet:=0,given:=0,broken:=0,conflicts:=0,qc:=0 }
def allN(k:Nat):List Int:=(List.range k).map (fun(i:Nat)=>(i:Int)+1)
def bT(k:Nat):List Int:=(List.range 13).map (fun(i:Nat)=>if 0<i/\i<=k then(i:Int)else 0)
theorem aB4(k:Nat):allN (k+1)=allN k++[((k+1:Nat):Int)]:=by unfold allN;rw[List.range_succ,List.map_append];simp
theorem aL4(k:Nat):(allN k).length=k:=by simp[allN]
theorem eM(k:Nat):(bT k).length=13:=by simp[bT]
theorem jB{k i:Nat}(h:i<13):(bT k)[i]?=some (if 0<i/\i<=k then(i:Int)else 0):=by
 unfold bT
 rw[List.getElem?_map,List.getElem?_range h]
 rfl
theorem sE{k:Nat}(h:k<12):(bT k).set (k+1) ((k+1:Nat):Int)=bT (k+1):=by
 apply List.ext_getElem?
 intro i
 by_cases hi:i<13
 ·rw[jB hi]
  by_cases e:i=k+1
  ·subst e
   rw[List.getElem?_set_self (by rw[eM];omega),if_pos (by omega)]
  ·rw[List.getElem?_set_ne (fun h=>e h.symm),jB hi]
   congr 1
   by_cases h1:0<i/\i<=k
   ·rw[if_pos h1,if_pos (by omega)]
   ·rw[if_neg h1,if_neg (by omega)]
 ·rw[List.getElem?_eq_none (by rw[List.length_set,eM];omega),List.getElem?_eq_none (by rw[eM];omega)]
theorem Q0.qs{w wx:World}{q qb g1 g2:Nat}(h:Q0 w wx q qb g1 g2):QS w.heap.size ((wx.setCell ⟨q,0,none⟩ (.func (.func 107) #[] #[.pointer (some ⟨qb,0,none⟩)])).setCell ⟨q,1,none⟩ (.func (.func 108) #[] #[.pointer (some ⟨qb,0,none⟩)])) (cM q qb (.slice none 0 0) (.slice (some ⟨g1,0,none⟩) 13 13) (.slice (some ⟨g2,0,none⟩) 13 13) [] (bT 0))/\Below w.heap.size w ((wx.setCell ⟨q,0,none⟩ (.func (.func 107) #[] #[.pointer (some ⟨qb,0,none⟩)])).setCell ⟨q,1,none⟩ (.func (.func 108) #[] #[.pointer (some ⟨qb,0,none⟩)])):=by
 have ge:=h.ge
 have ne:=h.ne
 have r0:=cX (base:=w.heap.size) h.hq ge.1
 have r1:=cX (base:=w.heap.size) h.hqb ge.2.1
 have row:∀g,wx.heap[g]?=some qRow->w.heap.size<=g->wx.ownsRow w.heap.size 3 1 (.slice (some ⟨g,0,none⟩) 13 13) 13 (ints (List.replicate 13 0)):=fun g hg hge=>by
  refine⟨by simp[ints],.inr ⟨g,13,madeCells #[.int .i64 0] 13,rfl,hge,hg,Nat.le_refl _,by unfold maxLen;omega,by simp[madeCells],?_⟩⟩
  rw[aI2,List.take_of_length_le (by simp[ints])]
 have hz:bT 0=List.replicate 13 0:=by decide
 have hp:Pack w.heap.size wx [aI 161 q [.nilFunc,.nilFunc,.slice none 0 0,.slice (some ⟨g1,0,none⟩) 13 13,.slice (some ⟨g2,0,none⟩) 13 13,.int .i64 0],aI 112 qb [.pointer (some ⟨q,0,none⟩)],aB (.slice none 0 0) [],aB (.slice (some ⟨g1,0,none⟩) 13 13) (List.replicate 13 0),aB (.slice (some ⟨g2,0,none⟩) 13 13) (List.replicate 13 0)]:=by
  refine⟨fun i r hi=>?_,fun i j r r' g hi hj hr hr'=>?_⟩
  ·rcases i with _|_|_|_|_|i
   ·simp at hi;subst hi;exact r0
   ·simp at hi;subst hi;exact r1
   ·simp at hi;subst hi;exact cW _ _ _
   ·simp at hi;subst hi;exact row g1 h.h1 ge.2.2.1
   ·simp at hi;subst hi;exact row g2 h.h2 ge.2.2.2
   ·simp at hi
  ·rcases i with _|_|_|_|_|i<;>rcases j with _|_|_|_|_|j<;>simp at hi hj<;>(try subst hi)<;>(try subst hj)<;>simp[aI,aB,Value.ownBlock]at hr hr'<;>first|rfl|omega
 have s0:=PMut.store hp (i:=0) rfl (g:=q) (cap:=1) rfl 0 (.func (.func 107) #[] #[.pointer (some ⟨qb,0,none⟩)])
 have s1:=PMut.store s0.pack (i:=0) rfl (g:=q) (cap:=1) rfl 1 (.func (.func 108) #[] #[.pointer (some ⟨qb,0,none⟩)])
 have hm:=s0.trans s1
 refine⟨⟨?_,by simp[cM],eM 0,fun c hc=>?_⟩,h.bel.trans (hm.toBelow hp (Nat.le_refl _) h.bel.size)⟩
 ·have:=hm.pack
  unfold Mem.qrows cM
  simp only
  rw[hz]
  exact this
 ·simp[cM]at hc
  exact hc
def NewQ(w:World)(e:Ending)(w':World):Prop:=∃q qb al co pl,e=.returned (.pointer (some ⟨q,0,none⟩))/\QS w.heap.size w' (cM q qb al co pl (allN 12) (bT 12))/\Below w.heap.size w w'
set_option maxRecDepth 100000 in
set_option maxHeartbeats 3200000 in
theorem tI(w:World):
  Calls Tryz.prog 65 #[.int .i64 12] w fun e w'=>NewQ w e w':=by
 have hmk:=Tryz.makeInts
 go_enter Tryz.func65,Tryz.ntmps65
 go_wp2
 go_cut [3] (fun v3 wx=>∃q qb g1 g2,v3=.pointer (some ⟨qb,0,none⟩)/\Hid (Q0 w wx q qb g1 g2))
 case first=>
  go_region
  all_goals go_wp2_with fail
  all_goals go_meet
  all_goals first|exact⟨_,_,_,_,rfl,aq (q0_a w _ _ (by omega))⟩|exact⟨_,_,_,_,rfl,aq (q0_b w _ _ (by omega))⟩|exact⟨_,_,_,_,rfl,aq (q0_c w _ _ (by omega))⟩|exact⟨_,_,_,_,rfl,aq (q0_d w _ _ (by omega))⟩
 case rest=>
  obtain⟨q,qb,g1,g2,rfl,HQ⟩:=hcut
  obtain⟨w1,rfl⟩:∃w1,w1=wc:=⟨wc,rfl⟩
  have r0:=cX (base:=w.heap.size) (dz HQ).hq (dz HQ).ge.1
  have r1:=cX (base:=w.heap.size) (dz HQ).hqb (dz HQ).ge.2.1
  have cb:w1.cell? ⟨qb,0,none⟩=some (.pointer (some ⟨q,0,none⟩)):=r1.cellAt 0 (by simp)
  have c0:w1.cell? ⟨q,0,none⟩=some .nilFunc:=r0.cellAt 0 (by simp)
  have c1:w1.cell? ⟨q,1,none⟩=some .nilFunc:=r0.cellAt 1 (by simp)
  have f0:=r0.frozenAt 0
  have f1:=r0.frozenAt 1
  have hne:=(dz HQ).ne.1
  have hne2:qb≠q:=fun h=>hne h.symm
  have hqs:=(dz HQ).qs
  have hcb2:(w1.setCell ⟨q,0,none⟩ (.func (.func 107) #[] #[.pointer (some ⟨qb,0,none⟩)])).cell? ⟨qb,0,none⟩=some (.pointer (some ⟨q,0,none⟩)):=(World.cell?_of_block (a:=⟨qb,0,none⟩) (Below.heap_setCell w1 _ _ _ hne2)).trans cb
  have HQS:=aq hqs
  clear hqs r0 r1 HQ
  have HPUT:Hid (∀k wr al,k<12->QS w.heap.size wr (cM q qb al (.slice (some ⟨g1,0,none⟩) 13 13) (.slice (some ⟨g2,0,none⟩) 13 13) (allN k) (bT k))->Below w.heap.size w wr->Calls Tryz.prog 109 #[.pointer (some ⟨q,0,none⟩),.int .i64 ((k:Int)+1)] wr fun e w'=>e=.returned (.tuple #[])/\∃al,QS w.heap.size w' (cM q qb al (.slice (some ⟨g1,0,none⟩) 13 13) (.slice (some ⟨g2,0,none⟩) 13 13) (allN (k+1)) (bT (k+1)))/\Below w.heap.size w w'):=aq (by
   intro k wr al hk hS hb
   have hl:(cM q qb al (.slice (some ⟨g1,0,none⟩) 13 13) (.slice (some ⟨g2,0,none⟩) 13 13) (allN k) (bT k)).all.length=k:=aL4 k
   have:=aN8 w.heap.size _ (k+1) wr hS (by rw[hl]) (by omega) (by show(bT k)[k+1]?=_;rw[jB (by omega),if_neg (by omega)]) (fun v hv=>by
    have hv':v∈allN k:=hv
    obtain⟨i,hi,rfl⟩:=List.mem_map.1 hv'
    have:=List.mem_range.1 hi
    omega) hb.size
   rw[show((k+1:Nat):Int)=(k:Int)+1 by omega]at this
   refine this.mono (fun e w' hh=>?_)
   obtain⟨he,al',hm⟩:=hh
   refine⟨he,al',⟨?_,hS.counts,eM _,hS.zero⟩,hb.trans (hm.toBelow hS.pack (Nat.le_refl _) hb.size)⟩
   have e1:((((cM q qb al (.slice (some ⟨g1,0,none⟩) 13 13) (.slice (some ⟨g2,0,none⟩) 13 13) (allN k) (bT k)).heaped al' ((cM q qb al (.slice (some ⟨g1,0,none⟩) 13 13) (.slice (some ⟨g2,0,none⟩) 13 13) (allN k) (bT k)).all++[(k:Int)+1])).placeSet (k+1) ((k:Int)+1)):Mem)=cM q qb al' (.slice (some ⟨g1,0,none⟩) 13 13) (.slice (some ⟨g2,0,none⟩) 13 13) (allN (k+1)) (bT (k+1)):=by
    rw[aB4,←sE hk,show((k+1:Nat):Int)=(k:Int)+1 by omega]
    rfl
   rw[←e1]
   exact hm.pack)
  have HBX:Hid (∀k wr al,QS w.heap.size wr (cM q qb al (.slice (some ⟨g1,0,none⟩) 13 13) (.slice (some ⟨g2,0,none⟩) 13 13) (allN k) (bT k))->wr.cell? ⟨qb,0,none⟩=some (.pointer (some ⟨q,0,none⟩))):=aq (fun k wr al h=>h.bcell)
  go_wp2
  go_loopw [4] (fun v4 wr=>∃k:Nat,k<=12/\v4=.int .i64 ((k:Int)+1)/\Hid (∃al,QS w.heap.size wr (cM q qb al (.slice (some ⟨g1,0,none⟩) 13 13) (.slice (some ⟨g2,0,none⟩) 13 13) (allN k) (bT k))/\Below w.heap.size w wr)) (fun v4 _=>13-(intOf v4).toNat)
  case atStart=>exact⟨0,Nat.zero_le _,rfl,aq ⟨_,(dz HQS).1,(dz HQS).2⟩⟩
  case round=>
   obtain⟨k,hk,rfl,HK⟩:=hrel
   obtain⟨al,hS,hb⟩:=dz HK
   have cbk:=dz HBX k wr al hS
   by_cases hkn:k<12
   ·have HP:=aq (dz HPUT k wr al hkn hS hb)
    have hki:(k:Int)+1<=12:=by omega
    clear hS hb HQS hcb2 cb c0 c1 f0 f1
    go_wp2_with fail
    refine(dz HP).mono ?_
    rintro e w3 ⟨rfl,al3,h3,hb3⟩
    have H3:=aq (And.intro h3 hb3)
    clear h3 hb3
    go_wp2
    refine⟨⟨k+1,by omega,by go_num,aq ⟨al3,(dz H3).1,(dz H3).2⟩⟩,?_⟩
    simp only[intOf]
    omega
   ·have hkk:k=12:=by omega
    subst hkk
    have hki:¬((12:Nat):Int)+1<=12:=by omega
    have HE:=aq (And.intro hS hb)
    clear hS hb HQS hcb2 cb c0 c1 f0 f1
    go_wp2
    try go_ret
    exact⟨q,qb,al,_,_,rfl,(dz HE).1,(dz HE).2⟩
theorem Tryz.underFacts:Tryz.prog.underlying 108=some (.slice 170):=by kernel_rfl
theorem Tryz.infoFact:(Tryz.prog.info? 170).map (fun i=>(i.zero,i.size,i.bytes))=some (some (.agg #[.int .i64 0,.int .i64 0,.int .i64 0]),3,24):=by kernel_rfl
theorem Tryz.makeFacts(w:World):(Instr.makeSlice 108 (.int .i64 13) (.int .i64 13)).run Tryz.prog w=.ok (.slice (some ⟨w.heap.size,0,none⟩) 13 13) (w.alloc (.cells (madeCells #[.int .i64 0,.int .i64 0,.int .i64 0] 39) 170)):=by
 obtain⟨i,hi,hz,hs,hb⟩:=mX Tryz.infoFact
 have:=run_make (P:=Tryz.prog) w 108 170 i _ Tryz.underFacts hi hz .i64 .i64 13 13 (by decide) (by decide) (by rw[hb];decide) (by decide)
 rw[hs]at this
 exact this
theorem aC8:(madeCells #[.int .i64 0,.int .i64 0,.int .i64 0] 39).toList=ints (List.replicate 39 0):=by kernel_rfl
def NewT(w:World)(e:Ending)(w':World):Prop:=∃g,e=.returned (.agg #[.slice (some ⟨g,0,none⟩) 13 13,.slice none 0 0,.slice none 0 0,.int .i64 0])/\w.heap.size<=g/\(∀base,base<=w.heap.size->w'.ownsRow base 170 3 (.slice (some ⟨g,0,none⟩) 13 13) 13 (ints (List.replicate 39 0)))/\Below w.heap.size w w'
set_option maxRecDepth 100000 in
set_option maxHeartbeats 3200000 in
theorem sK(w:World):
  Calls Tryz.prog 64 #[.int .i64 12] w fun e w'=>NewT w e w':=by
 have hmk:=Tryz.makeFacts
 go_enter Tryz.func64,Tryz.ntmps64
 go_wp2
 try go_returns
 refine⟨w.heap.size+1,rfl,by omega,fun base hb=>?_,((Below.refl _ _).alloc (Nat.le_refl _) _).trans ((Below.refl _ _).alloc (by simp) _)⟩
 refine⟨by simp[ints],.inr ⟨w.heap.size+1,13,madeCells #[.int .i64 0,.int .i64 0,.int .i64 0] 39,rfl,by omega,?_,Nat.le_refl _,by unfold maxLen;omega,by simp[madeCells],?_⟩⟩
 ·have:=heap_alloc_new (w.alloc (.cells #[.slice (some ⟨w.heap.size+1,0,none⟩) 13 13,.slice none 0 0,.slice none 0 0,.int .i64 0] 110)) (.cells (madeCells #[.int .i64 0,.int .i64 0,.int .i64 0] 39) 170)
  simpa using this
 ·rw[aC8,List.take_of_length_le (by simp[ints])]
set_option maxRecDepth 100000 in
theorem pZ(w:World):
  Calls Tryz.prog 66 #[] w fun e w'=>e=.returned (.agg #[.int .i64 4,.int .i64 0])/\Below w.heap.size w w':=by
 go_enter Tryz.func66,Tryz.ntmps66
 go_wp2
 try go_returns
 exact⟨rfl,(Below.refl _ _).alloc (Nat.le_refl _) _⟩
theorem Pack.mono{base base':Nat}{w:World}{L:List Row}(h:Pack base w L)(hb:base'<=base):Pack base' w L:=
 ⟨fun i r hi=>by
  have:=h.rows i r hi
  unfold Row.ok at *
  obtain⟨h1,h2⟩:=this
  refine⟨h1,h2.imp id ?_⟩
  rintro⟨g,cap,cur,a1,a2,a3⟩
  exact⟨g,cap,cur,a1,Nat.le_trans hb a2,a3⟩,h.apart⟩
theorem Pack.pullN{base:Nat}{w:World}{L L':List Row}(h:Pack base w L)(f:Nat->Nat)(hf:∀i q,L'[i]?=some q->(q.v.ownBlock=none/\q.ok base w)∨L[f i]?=some q)(hi:∀i j q q',L'[i]?=some q->L'[j]?=some q'->q.v.ownBlock≠none->q'.v.ownBlock≠none->f i=f j->i=j):Pack base w L':=by
 refine⟨fun i q hq=>?_,fun i j q q' g h1 h2 h3 h4=>?_⟩
 ·rcases hf i q hq with⟨-,h1⟩|h1
  ·exact h1
  ·exact h.rows _ q h1
 ·rcases hf i q h1 with⟨h5,-⟩|h5
  ·rw[h5]at h3;cases h3
  ·rcases hf j q' h2 with⟨h6,-⟩|h6
   ·rw[h6]at h4;cases h4
   ·exact hi i j q q' h1 h2 (by rw[h3];simp) (by rw[h4];simp) (h.apart _ _ q q' g h5 h6 h3 h4)
def eB(s q qb:Nat)(wl fa al co pl:Value):Mem:={ s:=s,q:=q,qb:=qb,cl:=.slice none 0 0,wl:=wl,fa:=fa,od:=.slice none 0 0,odr:=.slice none 0 0,st:=.slice none 0 0,al:=al,co:=co,pl:=pl,asm:=.slice none 0 0,sp:=.slice none 0 0,ws:=List.replicate 25 (.slice none 0 0),store:=[],facts:=List.replicate 39 0,order:=[],ordr:=[],starts:=[],all:=allN 12,counts:=List.replicate 13 0,places:=bT 12,assumed:=[],lists:=List.replicate 25 [],steps:=[],nsteps:=0,passed:=0,rlen:=4,rmet:=0,given:=0,broken:=-1,conflicts:=0,qc:=0 }
def NewS(w:World)(e:Ending)(w':World):Prop:=∃s q qb wl fa al co pl,e=.returned (.pointer (some ⟨s,0,none⟩))/\SAt w.heap.size w' (eB s q qb wl fa al co pl)/\Below w.heap.size w w'
theorem aD4(base:Nat)(w:World)(e:TypeId)(k:Nat):w.ownsRow base e k (.slice none 0 0) 0 []:=⟨by simp,.inl ⟨rfl,rfl⟩⟩
theorem aO2{w w1 w2 w3 w4:World}{gw gf q qb:Nat}{al co pl:Value}(hb1:Below w.heap.size w w1)(hg1:w.heap.size<=gw)(hw:∀base,base<=w.heap.size->w1.ownsRow base 227 1 (.slice (some ⟨gw,0,none⟩) 25 25) 25 (List.replicate 25 (.slice none 0 0)))
  (hb2:Below w1.heap.size w1 w2) (hg2:w1.heap.size<=gf) (hf:∀base,base<=w1.heap.size->w2.ownsRow base 170 3 (.slice (some ⟨gf,0,none⟩) 13 13) 13 (ints (List.replicate 39 0)))
  (hb3:Below w2.heap.size w2 w3) (hq:QS w2.heap.size w3 (cM q qb al co pl (allN 12) (bT 12))) (hb4:Below w3.heap.size w3 w4):
  NewS w (.returned (.pointer (some ⟨w4.heap.size,0,none⟩))) (w4.alloc (.cells #[.slice none 0 0,.int .i64 12,.slice (some ⟨gw,0,none⟩) 25 25,.slice (some ⟨gf,0,none⟩) 13 13,.slice none 0 0,.slice none 0 0,.int .i64 0,.pointer (some ⟨q,0,none⟩),.int .i64 4,.int .i64 0,.int .i64 0,.int .i64 (-1),.slice none 0 0,.int .i64 0,.slice none 0 0] 120)):=by
 have s1:=hb1.size
 have s2:=hb2.size
 have s3:=hb3.size
 have s4:=hb4.size
 have q0:Pack w.heap.size w []:=⟨fun i r h=>by simp at h,fun i j r r' g h=>by simp at h⟩
 have p1:=q0.add (r:=⟨227,1,.slice (some ⟨gw,0,none⟩) 25 25,25,List.replicate 25 (.slice none 0 0)⟩) (hw _ (Nat.le_refl _)) hb1 (fun g hg=>by simp[Value.ownBlock]at hg;omega)
 have p2:=p1.add (r:=⟨170,3,.slice (some ⟨gf,0,none⟩) 13 13,13,ints (List.replicate 39 0)⟩) (hf _ s1) hb2 (fun g hg=>by simp[Value.ownBlock]at hg;omega)
 have p3:=(p2.below hb3).join (hq.pack.mono (by omega)) (fun k h1 h2=>by
  have a1:=(p2.lt h1).2
  have a2:=(hq.pack.lt h2).1
  omega)
 have p4:=p3.below hb4
 have p5:=p4.add (r:=aI 120 w4.heap.size [.slice none 0 0,.int .i64 12,.slice (some ⟨gw,0,none⟩) 25 25,.slice (some ⟨gf,0,none⟩) 13 13,.slice none 0 0,.slice none 0 0,.int .i64 0,.pointer (some ⟨q,0,none⟩),.int .i64 4,.int .i64 0,.int .i64 0,.int .i64 (-1),.slice none 0 0,.int .i64 0,.slice none 0 0]) (cX (heap_alloc_new w4 _) (by omega)) ((Below.refl _ _).alloc (Nat.le_refl _) _) (fun g hg=>by simp[aI,Value.ownBlock]at hg;omega)
 refine⟨w4.heap.size,q,qb,.slice (some ⟨gw,0,none⟩) 25 25,.slice (some ⟨gf,0,none⟩) 13 13,al,co,pl,rfl,⟨?_,by simp[eB],by simp[eB],by simp[eB],eM 12⟩,((hb1.trans (hb2.mono s1)).trans (hb3.mono (by omega))).trans ((hb4.mono (by omega)).trans ((Below.refl _ _).alloc (by omega) _))⟩
 refine Pack.pullN p5 (fun i=>match i with|0=>7|1=>2|2=>3|4=>0|5=>1|8=>4|9=>5|10=>6|_=>100) (fun i r hi=>?_) (fun i j r r' hi hj hr hr' hij=>?_)
 ·rcases i with _|_|_|_|_|_|_|_|_|_|_|_|_|i
  ·exact .inr hi
  ·exact .inr hi
  ·exact .inr hi
  ·left;cases hi;exact⟨rfl,cW _ _ _⟩
  ·exact .inr hi
  ·exact .inr hi
  ·left;cases hi;exact⟨rfl,cW _ _ _⟩
  ·left;cases hi;exact⟨rfl,cW _ _ _⟩
  ·exact .inr hi
  ·exact .inr hi
  ·exact .inr hi
  ·left;cases hi;exact⟨rfl,cW _ _ _⟩
  ·left;cases hi;exact⟨rfl,aD4 _ _ _ _⟩
  ·left
   have hi':(((List.replicate 25 (Value.slice none 0 0)).zip (List.replicate 25 ([]:List Int))).map bW)[i]?=some r:=hi
   rw[List.getElem?_map,List.zip_replicate,List.getElem?_replicate]at hi'
   split at hi'
   ·simp at hi'
    subst hi'
    exact⟨rfl,cW _ _ _⟩
   ·cases hi'
 ·have key:∀(i:Nat) r,(eB w4.heap.size q qb (.slice (some ⟨gw,0,none⟩) 25 25) (.slice (some ⟨gf,0,none⟩) 13 13) al co pl).rows[i]?=some r->r.v.ownBlock≠none->i=0∨i=1∨i=2∨i=4∨i=5∨i=8∨i=9∨i=10:=by
   intro i r hi hr
   rcases i with _|_|_|_|_|_|_|_|_|_|_|_|_|i
   ·omega
   ·omega
   ·omega
   ·cases hi;exact absurd rfl hr
   ·omega
   ·omega
   ·cases hi;exact absurd rfl hr
   ·cases hi;exact absurd rfl hr
   ·omega
   ·omega
   ·omega
   ·cases hi;exact absurd rfl hr
   ·cases hi;exact absurd rfl hr
   ·have hi':(((List.replicate 25 (Value.slice none 0 0)).zip (List.replicate 25 ([]:List Int))).map bW)[i]?=some r:=hi
    rw[List.getElem?_map,List.zip_replicate,List.getElem?_replicate]at hi'
    split at hi'
    ·simp at hi'
     subst hi'
     exact absurd rfl hr
    ·cases hi'
  have k1:=key i r hi hr
  have k2:=key j r' hj hr'
  clear hi hj hr hr' key
  rcases k1 with rfl|rfl|rfl|rfl|rfl|rfl|rfl|rfl<;>rcases k2 with rfl|rfl|rfl|rfl|rfl|rfl|rfl|rfl<;>first|rfl|(simp at hij)
set_option maxRecDepth 100000 in
set_option maxHeartbeats 3200000 in
theorem aO9(w:World):
  Calls Tryz.prog 39 #[.int .i64 12] w fun e w'=>NewS w e w':=by
 have HW:=aq jA
 have HT:=aq sK
 have HQ:=aq tI
 have HR:=aq pZ
 go_enter Tryz.func39,Tryz.ntmps39
 go_wp2_with fail
 refine(dz HW w).mono ?_
 rintro e w1 ⟨gw,rfl,hg1,ho1,hb1⟩
 have H1:=aq (And.intro hg1 (And.intro ho1 hb1))
 clear hg1 ho1 hb1 HW
 go_wp2_with fail
 refine(dz HT w1).mono ?_
 rintro e w2 ⟨gf,rfl,hg2,ho2,hb2⟩
 have H2:=aq (And.intro hg2 (And.intro ho2 hb2))
 clear hg2 ho2 hb2 HT
 go_wp2_with fail
 refine(dz HQ w2).mono ?_
 rintro e w3 ⟨q,qb,al,co,pl,rfl,hq,hb3⟩
 have H3:=aq (And.intro hq hb3)
 clear hq hb3 HQ
 go_wp2_with fail
 refine(dz HR w3).mono ?_
 rintro e w4 ⟨rfl,hb4⟩
 have HN:=aq (aO2 (dz H1).2.2 (dz H1).1 (dz H1).2.1 (dz H2).2.2 (dz H2).1 (dz H2).2.1 (dz H3).2 (dz H3).1 hb4)
 clear H1 H2 H3 hb4 HR
 go_wp2
 try go_ret
 exact dz HN
end Go.Proofs.YtekkkoipcghlmaaGreatDoor
namespace Go.Proofs.YtekkkoipcghlmaaGreatDoor
open Go.RowKit
variable {F:Fence}{n:Nat}{P:Program}
theorem yB{α:Type}{g:Operand}{ps:Array Tmp}{assign body:Code}{Q:Exit->Act->World->Prop}{a:Act}{w:World}
  (hro:F.round=none) (h1:1<=n) {gf:Nat} {lb:Array Value} (hg:a.eval g=.func (.func gf) #[] lb) (hFg:F.fn gf) (eg:∀args w,(callFunc gf args).run P w=.ok (.enter gf args) w)
  {encs:α->Array Value} (Bk:Nat->Prop) (hBs:∀b,Bk b->b<w.heap.size) {S:List α->Prop} {G:List α->α->Prop}
  (hseq:∀(l:Nat) (J Jx:List α->World->Prop) (W:World),(∀b,Bk b->W.heap[b]?=w.heap[b]?)->(∀s A,J s A->J s A.drew)->
   (∀pre x W1,J pre W1->G pre x->YieldAt F (n-1-1) P l (encs x) W1 fun e W'=>
    (e=.returned (.bool true)/\J (pre++[x]) W'/\∀b,Bk b->W'.heap[b]?=W1.heap[b]?)∨(e=.returned (.bool false)/\Jx (pre++[x]) W'))->
   J [] W->
   CallsIn F (n-1) P gf (#[.func (.yield l) #[] #[]]++lb) W fun e W'=>(∃v,e=.returned v)/\((∃xs,S xs/\J xs W')∨(∃pre,Jx pre W')))
  (hps:∀x,(encs x).size=ps.size)
  (I:List α->World->Prop) (Ix:List α->World->Prop) (hI:OwnFrom w.heap.size I) (hIx:OwnFrom w.heap.size Ix)
  (hId:∀s A,I s A->I s A.drew) (h0:I [] w) (a₁:α->Act)
  (hassign:∀(l:Nat) (x:α) (W:World) (K:Act->World->Prop),K (a₁ x) W->
   assign.wpIn (F.inRound l) (n-1-1) P (Exit.then K (fun _ _ _=>False)) { tmps:=(ps.zip (encs x)).foldl (fun t (p,v)=>t.setIfInBounds p v) a.tmps,defers:=[] } W)
  (hbody:∀(l:Nat) (pre:List α) (x:α) (W:World),I pre W->G pre x->
   body.wpIn (F.inRound l) (n-1-1) P (ownPostG w.heap.size (fun A B=>∀b,Bk b->B.heap[b]?=A.heap[b]?) I (fun c xs W'=>c=.ret/\Ix xs W') (pre++[x]) W) (a₁ x) W)
  (hdone:∀(D:Nat) (xs:List α) (W:World),w.heap.size<=D->S xs->I xs W->W.heap[D]?=some (.deferred (some []))->Q .normal { a with defers:={ target:=.collected D,args:=#[] }::a.defers } W)
  (hstop:∀(D:Nat) (pre:List α) (W:World),w.heap.size<=D->Ix pre W->W.heap[D]?=some (.deferred (some []))->Code.ret.wpIn F n P Q { a with defers:={ target:=.collected D,args:=#[] }::a.defers } W):
  (Code.rangeFunc g ps assign body).wpIn F n P Q a w:=by
 refine wpIn_rangeFunc fun fn hfn=>?_
 rw[hro]
 obtain⟨R,hR⟩:∃R:LoopState->Option Code->Loop,R=fun st pe=>{ state:=st,pending:=pe,fn,tmps:=a.tmps,params:=ps,assign,body,defers:=w.heap.size }:=⟨_,rfl⟩
 obtain⟨V,hV⟩:∃V,(w.alloc (.deferred (some []))).alloc (.loop (R .ready none))=V:=⟨_,rfl⟩
 have vL:V.heap[w.heap.size+1]?=some (.loop (R .ready none)):=by
  rw[←hV];have:=World.alloc_heap_new (w.alloc (.deferred (some []))) (.loop (R .ready none));rwa [World.size_alloc]at this
 have vD:V.heap[w.heap.size]?=some (.deferred (some [])):=by
  rw[←hV];exact(Below.heap_alloc _ _ _ (by simp)).trans (World.alloc_heap_new w _)
 have vB:∀b,Bk b->V.heap[b]?=w.heap[b]?:=by
  intro b hb
  have:=hBs b hb
  rw[←hV];exact(Below.heap_alloc _ _ _ (by simp;omega)).trans (Below.heap_alloc _ _ _ this)
 have vI:I [] V:=by rw[←hV];exact hI.alloc _ (hI.alloc _ h0)
 refine⟨w.heap.size+1,[{ target:=.collected w.heap.size,args:=#[] }],V,{ target:=.fn (.func gf) lb,args:=#[.func (.yield (w.heap.size+1)) #[] #[]] },V,gf,
  #[.func (.yield (w.heap.size+1)) #[] #[]]++lb,V,?_,?_,?_,?_,fun _=>h1,?_⟩
 ·rw[←hV,hR];exact run_enterLoop_outer _ _ _ _ _
 ·simp only[resolve,hg]
  simp[go_sem]
 ·intro f' hf';simp[Target.leads]at hf';subst hf';exact hFg
 ·simp[invoke,go_sem,eg]
 ·refine(hseq (w.heap.size+1)
   (fun pre W=>I pre W/\W.heap[w.heap.size+1]?=some (.loop (R .ready none))/\W.heap[w.heap.size]?=some (.deferred (some [])))
   (fun pre W=>Ix pre W/\W.heap[w.heap.size+1]?=some (.loop (R .done (some .ret)))/\W.heap[w.heap.size]?=some (.deferred (some [])))
   V vB
   (fun s A hs=>⟨hId s A hs.1,hs.2.1,hs.2.2⟩)
   ?_ ⟨vI,vL,vD⟩).mono ?_
  ·rintro pre x W ⟨hi,hl,hk⟩ hgx
   have hlt:w.heap.size+1<W.heap.size:=(Array.getElem?_eq_some_iff.1 hl).1
   have hy:=run_yield (P:=P) (args:=encs x) hl (by rw[hR];exact hps x)
   rw[hR]at hy
   refine⟨fn,_,assign,body,hy,roundIn_of_wpIn hfn (hassign _ x W _ ⟨_,run_beginRound hl (by rw[hR]),?_⟩)⟩
   obtain⟨X,hX⟩:∃X,W.putObj (w.heap.size+1) (.loop { R .ready none with state:=.busy })=X:=⟨_,rfl⟩
   have xL:X.heap[w.heap.size+1]?=some (.loop { R .ready none with state:=.busy }):=by rw[←hX];exact World.putObj_heap_same hlt
   have xD:X.heap[w.heap.size]?=some (.deferred (some [])):=by rw[←hX];exact(World.putObj_heap_other (by omega)).trans hk
   have xB:∀b,Bk b->X.heap[b]?=W.heap[b]?:=fun b hb=>by have:=hBs b hb;rw[←hX];exact World.putObj_heap_other (by omega)
   have xI:I pre X:=by rw[←hX];exact hI.putObj _ hi (by omega) hl rfl
   rw[hX]
   refine wpIn_mono (hbody _ pre x X xI hgx) ?_
   have fin:∀(jump:Option Code) (Y:World),KeepsFrom w.heap.size X Y->
     (Instr.endRound (w.heap.size+1) jump).run P Y=.ok (.bool jump.isNone) (Y.putObj (w.heap.size+1) (.loop (R (if jump.isNone then .ready else .done) jump)))/\
     Y.heap[w.heap.size+1]?=some (.loop { R .ready none with state:=.busy })/\
     (Y.putObj (w.heap.size+1) (.loop (R (if jump.isNone then .ready else .done) jump))).heap[w.heap.size+1]?=some (.loop (R (if jump.isNone then .ready else .done) jump))/\
     (Y.putObj (w.heap.size+1) (.loop (R (if jump.isNone then .ready else .done) jump))).heap[w.heap.size]?=some (.deferred (some [])):=fun jump Y hkY=>by
    have yL:=hkY.same _ _ (by omega) xL rfl
    have:=run_endRound (P:=P) jump yL
    rw[hR]at this⊢
    exact⟨this,by rw[hR]at yL;exact yL,World.putObj_heap_same (Array.getElem?_eq_some_iff.1 yL).1,(World.putObj_heap_other (by omega)).trans (hkY.same _ _ (Nat.le_refl _) xD rfl)⟩
   rintro e a3 Y hp
   cases e with
   | normal=>
    obtain⟨k3,b3,i3⟩:=hp
    obtain⟨hr,l3,l4,k4⟩:=fin none Y k3
    exact⟨_,_,hr,.inl ⟨rfl,⟨hI.putObj _ i3 (by omega) l3 rfl,l4,k4⟩,fun b hb=>((World.putObj_heap_other (by have:=hBs b hb;omega)).trans (b3 b hb)).trans (xB b hb)⟩⟩
   | ret=>
    obtain⟨k3,_,i3⟩:=hp
    obtain⟨hr,l3,l4,k4⟩:=fin (some .ret) Y k3
    exact⟨_,_,hr,.inr ⟨rfl,hIx.putObj _ i3 (by omega) l3 rfl,l4,k4⟩⟩
   | exit id=>obtain⟨_,hc,_⟩:=hp;cases hc
   | goto t=>obtain⟨_,hc,_⟩:=hp;cases hc
   | panic ch=>exact hp.elim
   | outgrown=>exact hp.elim
  ·rintro e Y ⟨⟨v,rfl⟩,(⟨xs,hS,hi,hl,hk⟩|⟨pre,hi,hl,hk⟩)⟩
   ·exact⟨none,_,by have:=run_endLoop (P:=P) hl (by rw[hR];simp);rw[hR]at this;exact this,hdone _ xs _ (Nat.le_refl _) hS (hI.putObj _ hi (by omega) hl rfl) ((World.putObj_heap_other (by omega)).trans hk)⟩
   ·exact⟨some .ret,_,by have:=run_endLoop (P:=P) hl (by rw[hR];simp);rw[hR]at this;exact this,hstop _ pre _ (Nat.le_refl _) (hIx.putObj _ hi (by omega) hl rfl) ((World.putObj_heap_other (by omega)).trans hk)⟩
end Go.Proofs.YtekkkoipcghlmaaGreatDoor
