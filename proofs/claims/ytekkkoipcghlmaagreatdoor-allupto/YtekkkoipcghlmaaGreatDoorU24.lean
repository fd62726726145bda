import Derived.Test.YtekkkoipcghlmaaGreatDoorU21
import Derived.Test.YtekkkoipcghlmaaGreatDoorU23
import Derived.RangeFuncBound
import Derived.RangeFuncCalls
import Derived.RangeFuncLeaves
import Derived.OwnWalkIn
import Derived.TacticsInMore
import Derived.LoopNIn
import Derived.LoopIn
import Derived.RangeFuncBox
import Derived.Shelf.Abstract
import Derived.Shelf.RegionOpen
import Derived.Stop.RegionWithIn
import Derived.Test.YtekkkoipcghlmaaGreatDoorU22
import Derived.Test.YtekkkoipcghlmaaGreatDoorU18
set_option linter.all false
namespace Go.Proofs.YtekkkoipcghlmaaGreatDoor
open Go.RowKit Go.Shelf
attribute [local go_sem] Oper.semAt_some
def aR6(xs:List Int)(pre:List (Nat×Int))(x:Nat×Int):Prop:=x.1+pre.length+1=xs.length/\xs[x.1]?=some x.2
set_option maxRecDepth 100000 in
set_option maxHeartbeats 10000000 in
theorem sL(n l Bs g cap:Nat)(xs:List Int)(hl:xs.length<=1000)(J Jx:List (Nat×Int)->World->Prop)(hJd:∀p A,J p A->J p A.drew)
  (hY:∀pre x W,J pre W->aR6 xs pre x->YieldAt Fence.wide (n-1) Tryz.prog l #[.int .i64 (x.1:Int),.int .i64 x.2] W fun e W'=>
   (e=.returned (.bool true)/\J (pre++[x]) W'/\∀b,(b=Bs∨b=g)->W'.heap[b]?=W.heap[b]?)∨(e=.returned (.bool false)/\Jx (pre++[x]) W'))
  (W:World) (hc:W.cell? ⟨Bs,0,none⟩=some (.slice (some ⟨g,0,none⟩) xs.length cap)) (hx:∀j x,xs[j]?=some x->W.cell? ⟨g,j,none⟩=some (.int .i64 x)) (h0:J [] W):
  CallsIn Fence.wide n Tryz.prog 170 #[.func (.yield l) #[] #[],.pointer (some ⟨Bs,0,none⟩)] W fun e W'=>(∃v,e=.returned v)/\
   ((∃ys,ys.length=xs.length/\J ys W')∨(∃pre,Jx pre W')):=by
 refine callsIn_of_wp Tryz.func170 rfl trivial ?_ rfl
 simp only[Tryz.ntmps170,List.size_toArray,List.length_cons,List.length_nil,Nat.reduceAdd,Nat.reduceSub,Array.replicate_succ,Array.replicate_zero,List.push_toArray,List.append_toArray,List.nil_append,List.cons_append]
 have H0:=aq h0
 have HX:=aq hx
 clear h0 hx
 generalize hN:xs.length=N at *
 gi_wp2
 gi_loopw [3] (fun v3 wr=>∃(pre:List (Nat×Int)) (k:Nat) (z:Int),k+pre.length=N/\v3=.int .i64 z/\z=(k:Int)-1/\wr.cell? ⟨Bs,0,none⟩=some (.slice (some ⟨g,0,none⟩) N cap)/\Hid (∀j x,xs[j]?=some x->wr.cell? ⟨g,j,none⟩=some (.int .i64 x))/\Hid (J pre wr)) (fun v3 _=>(intOf v3+1).toNat)
 case atStart=>exact⟨[],N,(N:Int)-1,by simp,rfl,rfl,hc,HX,H0⟩
 case round=>
  obtain⟨pre,k,z,hk,rfl,hz,hcell,HXr,HJ⟩:=hrel
  by_cases hk0:k=0
  ·subst hk0
   have hz0:¬(0:Int)<=z:=by omega
   clear hz
   gi_wp2
   go_end0
   exact⟨⟨_,rfl⟩,.inl ⟨pre,by omega,dz HJ⟩⟩
  ·obtain⟨q,rfl⟩:∃q,k=q+1:=⟨k-1,by omega⟩
   have hzq:z=(q:Int):=by omega
   subst hzq
   clear hz
   have hqN:q<xs.length:=by omega
   have hgx:xs[q]?=some xs[q]:=List.getElem?_eq_getElem hqN
   have hcx:=dz HXr q _ hgx
   have hY1:=hY pre (q,xs[q]) wr (dz HJ) ⟨by simp only;omega,hgx⟩
   obtain⟨fn,tmps,assign,body,hy,hR⟩:=hY1
   have HR:=aq hR
   clear hR
   simp only at hy
   generalize xs[q]=x at *
   have hqn2:(q:Int)<(N:Int):=by omega
   gi_wp2_with fail
   refine⟨fun h=>(by cases h),?_⟩
   refine(dz HR).mono ?_
   rintro e W3 (⟨rfl,hJ3,hk3⟩|⟨rfl,hJx3⟩)
   ·have hc3:W3.cell? ⟨Bs,0,none⟩=some (.slice (some ⟨g,0,none⟩) N cap):=(World.cell?_of_block (a:=⟨Bs,0,none⟩) (hk3 Bs (.inl rfl))).trans hcell
    have HX3:Hid (∀j x,xs[j]?=some x->W3.cell? ⟨g,j,none⟩=some (.int .i64 x)):=aq (fun j x hj=>(World.cell?_of_block (a:=⟨g,j,none⟩) (hk3 g (.inr rfl))).trans (dz HXr j x hj))
    have HJ3:=aq hJ3
    clear hJ3 hk3
    gi_wp2
    go_roundw
    case rel=>exact⟨pre++[(q,x)],q,(q:Int)-1,by simp;omega,rfl,rfl,hc3,HX3,HJ3⟩
    case measure=>simp only[intOf];omega
   ·have HJ3:=aq hJx3
    clear hJx3
    gi_wp2
    refine bodyPost_ret (results_none rfl _ _ _) rfl ?_
    exact⟨⟨_,rfl⟩,.inr ⟨_,dz HJ3⟩⟩
end Go.Proofs.YtekkkoipcghlmaaGreatDoor
namespace Go.Proofs.YtekkkoipcghlmaaGreatDoor
open Go.RowKit
structure CP(cls:List Cl)(tr:Tr)(u:Int)(met:List Bool)(blamed:List Int)(i:Nat):Prop where
 len:met.length=13
 mu:aD met u.natAbs=true
 ub:u∈blamed
 bd:blamed.length+i<=tr.length+1
 done:∀(j:Nat) (e:Int×Int),i<=j->tr[j]?=some e->aD met e.1.natAbs=true->(dec e=true/\e.1∈blamed)∨(dec e=false/\∀(c:Nat) cl,cls[c]?=some cl->e.2=(pos cls c:Int)->∀y,y∈cl.lits->aD met y.natAbs=true)
section
variable {cls:List Cl}{tr:Tr}{u:Int}{met:List Bool}{blamed:List Int}{i:Nat}{e:Int×Int}
theorem CP.begin(cls:List Cl)(tr:Tr){u:Int}(hu:u.natAbs<13):CP cls tr u ((List.replicate 13 false).set u.natAbs true) [u] tr.length:=by
 refine⟨by simp,?_,by simp,by simp;omega,fun j e hj he=>?_⟩
 ·rw[dR _ _ _ (by simpa using hu)];simp
 ·have:=(List.getElem?_eq_some_iff.1 he).1;omega
theorem CP.skip(h:CP cls tr u met blamed (i+1))(hi:tr[i]?=some e)(hm:aD met e.1.natAbs=false):CP cls tr u met blamed i:=by
 refine⟨h.len,h.mu,h.ub,by have:=h.bd;omega,fun j f hj hf hmf=>?_⟩
 by_cases hji:j=i
 ·subst hji
  rw[hi]at hf
  cases hf
  rw[hm]at hmf;cases hmf
 ·exact h.done j f (by omega) hf hmf
theorem CP.dec(h:CP cls tr u met blamed (i+1))(hi:tr[i]?=some e)(hd:Go.Proofs.YtekkkoipcghlmaaGreatDoor.dec e=true):CP cls tr u met (blamed++[e.1]) i:=by
 refine⟨h.len,h.mu,List.mem_append_left _ h.ub,by have:=h.bd;rw[List.length_append];simp;omega,fun j f hj hf hmf=>?_⟩
 by_cases hji:j=i
 ·subst hji
  rw[hi]at hf
  cases hf
  exact .inl ⟨hd,by simp⟩
 ·exact(h.done j f (by omega) hf hmf).imp (fun h=>⟨h.1,List.mem_append_left _ h.2⟩) id
theorem CP.reason(h:CP cls tr u met blamed (i+1))(hT:TrOK cls tr)(hwf:∀(c:Nat) cl,cls[c]?=some cl->aM cl.lits)(hi:tr[i]?=some e)(hd:Go.Proofs.YtekkkoipcghlmaaGreatDoor.dec e=false){c:Nat}{cl:Cl}(hc:cls[c]?=some cl)(hp:e.2=(pos cls c:Int)):CP cls tr u (bG met (cl.lits.map Int.natAbs)) blamed i:=by
 obtain⟨c',cl',rest,g1,g2,g3,g4⟩:=hT.reason i e hi hd
 have hcc:c'=c:=dW cls (List.getElem?_eq_some_iff.1 g1).1 (List.getElem?_eq_some_iff.1 hc).1 (by omega)
 subst hcc
 rw[hc]at g1
 cases g1
 have hb:∀v,v∈cl.lits.map Int.natAbs->v<met.length:=fun v hv=>by
  obtain⟨y,hy,rfl⟩:=List.mem_map.1 hv
  have:=(hwf c' cl hc).2 y hy
  rw[h.len];omega
 have get:=fun v=>gH (cl.lits.map Int.natAbs) met hb v
 refine⟨by rw[fN];exact h.len,by rw[get,h.mu];rfl,h.ub,by have:=h.bd;omega,fun j f hj hf hmf=>?_⟩
 by_cases hji:j=i
 ·subst hji
  rw[hi]at hf
  cases hf
  refine .inr ⟨hd,fun c2 cl2 hc2 hp2 y hy=>?_⟩
  have hcc:c2=c':=dW cls (List.getElem?_eq_some_iff.1 hc2).1 (List.getElem?_eq_some_iff.1 hc).1 (by omega)
  subst hcc
  rw[hc]at hc2
  cases hc2
  rw[get,Bool.or_eq_true]
  exact .inr (decide_eq_true (List.mem_map.2 ⟨y,hy,rfl⟩))
 ·have hold:aD met f.1.natAbs=true:=by
   rw[get,Bool.or_eq_true]at hmf
   rcases hmf with hmf|hmf
   ·exact hmf
   ·obtain⟨y,hy,hyv⟩:=List.mem_map.1 (of_decide_eq_true hmf)
    rw[g3]at hy
    rcases List.mem_cons.1 hy with rfl|hy
    ·exact absurd (hT.one hf hi hyv.symm) hji
    ·obtain⟨q,r,hq,hqr⟩:=g4 y hy
     have:=hT.one hf hqr (by simpa using hyv.symm)
     omega
  rcases h.done j f (by omega) hf hold with h1|⟨h1,h2⟩
  ·exact .inl h1
  ·exact .inr ⟨h1,fun c2 cl2 a b y hy=>by rw[get,h2 c2 cl2 a b y hy];rfl⟩
end
def bJ(b0 b2 b4 s:Nat)(bv mv:Value)(blamed:List Int)(met:List Bool):List Row:=
 [aI 72 b0 [.pointer (some ⟨s,0,none⟩)],aI 25 b2 [bv],aI 172 b4 [mv],aB bv blamed,aJ mv met]
structure CAt(w:World)(b0 b2 b4 s Bs:Nat)(W:World)(blamed:List Int)(met:List Bool):Prop where
 bel:Below w.heap.size w W
 ge:w.heap.size<=Bs
 lt:Bs<W.heap.size
 rows:∃bv mv,Pack w.heap.size W (bJ b0 b2 b4 s bv mv blamed met)/\¬foot (bJ b0 b2 b4 s bv mv blamed met) Bs
structure CNxt(w:World)(b0 b2 b4 s Bs:Nat)(W W':World)(blamed:List Int)(met:List Bool):Prop where
 at_:CAt w b0 b2 b4 s Bs W' blamed met
 keep:KeepsOthers W W'
 same:∀b,(b=Bs∨b<w.heap.size)->W'.heap[b]?=W.heap[b]?
section
variable {w W W' W2:World}{b0 b2 b4 s Bs:Nat}{blamed blamed':List Int}{met met':List Bool}
theorem kS{base:Nat}{L:List Row}(h:Pack base W L){k:Nat}(hk:foot L k):∃o:Obj,W.heap[k]?=some o/\o.isCells=true:=by
 obtain⟨i,r,hi,hr⟩:=hk
 have:=h.rows i r hi
 unfold Row.ok at this
 rcases this.2 with⟨h0,_⟩|⟨g,cap,cur,hv,_,hh,_⟩
 ·rw[h0]at hr;cases hr
 ·rw[hv]at hr
  simp only[Value.ownBlock,Option.some.injEq]at hr
  subst hr
  exact⟨_,hh,rfl⟩
theorem PMut.keeps{base:Nat}{L L':List Row}(hp:Pack base W L)(h:PMut base W L W' L'):KeepsOthers W W':=
 ⟨h.only.size,fun k o hk ho=>(h.only.block k (Array.getElem?_eq_some_iff.1 hk).1 (fun hf=>by
  obtain⟨o',ho',hc⟩:=kS hp hf
  rw[hk]at ho';cases ho';rw[ho]at hc;cases hc)).trans hk⟩
theorem CNxt.refl(h:CAt w b0 b2 b4 s Bs W blamed met):CNxt w b0 b2 b4 s Bs W W blamed met:=⟨h,KeepsOthers.refl _,fun _ _=>rfl⟩
theorem CNxt.trans(h:CNxt w b0 b2 b4 s Bs W W' blamed met)(h':CNxt w b0 b2 b4 s Bs W' W2 blamed' met'):CNxt w b0 b2 b4 s Bs W W2 blamed' met':=
 ⟨h'.at_,h.keep.trans h'.keep,fun b hb=>(h'.same b hb).trans (h.same b hb)⟩
theorem CAt.step{bv mv bv' mv':Value}(h:CAt w b0 b2 b4 s Bs W blamed met)(hp:Pack w.heap.size W (bJ b0 b2 b4 s bv mv blamed met))(hn:¬foot (bJ b0 b2 b4 s bv mv blamed met) Bs)(hm:PMut w.heap.size W (bJ b0 b2 b4 s bv mv blamed met) W' (bJ b0 b2 b4 s bv' mv' blamed' met')):CNxt w b0 b2 b4 s Bs W W' blamed' met':=by
 have hlt:=h.lt
 have hsz:=h.bel.size
 refine⟨⟨h.bel.trans (hm.toBelow hp (Nat.le_refl _) hsz),h.ge,Nat.lt_of_lt_of_le hlt hm.only.size,bv',mv',hm.pack,fun hf=>?_⟩,PMut.keeps hp hm,fun b hb=>?_⟩
 ·rcases hm.grows Bs hf with h1|h1
  ·exact hn h1
  ·omega
 ·rcases hb with rfl|hb
  ·exact hm.only.block _ hlt hn
  ·exact hm.only.block _ (by omega) (fun hf=>by have:=(hp.lt hf).1;omega)
theorem CAt.below(h:CAt w b0 b2 b4 s Bs W blamed met)(hb:Below W.heap.size W W'):CNxt w b0 b2 b4 s Bs W W' blamed met:=by
 obtain⟨bv,mv,hp,hn⟩:=h.rows
 exact h.step hp hn (PMut.below hp hb)
theorem CAt.own(B:Nat)(hB:w.heap.size<=B)(h:CAt w b0 b2 b4 s Bs W blamed met){row:Option Nat}(hg:W.grownBy W' row)(hr:∀r,row=some r->B<=r/\∃o:Obj,W.heap[r]?=some o/\o.isCells=false):CAt w b0 b2 b4 s Bs W' blamed met:=by
 obtain⟨bv,mv,hp,hn⟩:=h.rows
 refine⟨h.bel.grown hg h.bel.size (fun k e=>by have:=(hr k e).1;omega),h.ge,Nat.lt_of_lt_of_le h.lt hg.size,bv,mv,hp.keep (fun k hk=>hg.block k (hp.lt hk).2 (fun e=>?_)),hn⟩
 obtain⟨_,o,ho,hc⟩:=hr k e.symm
 obtain⟨o',ho',hc'⟩:=kS hp hk
 rw[ho]at ho';cases ho';rw[hc]at hc';cases hc'
theorem CAt.cells(h:CAt w b0 b2 b4 s Bs W blamed met)(hl:met.length=13):∃bv g3 cap3 ao cp,bv=.slice ao blamed.length cp/\W.cell? ⟨b0,0,none⟩=some (.pointer (some ⟨s,0,none⟩))/\W.cell? ⟨b2,0,none⟩=some bv/\W.frozen? ⟨b2,0,none⟩=false/\W.cell? ⟨b4,0,none⟩=some (.slice (some ⟨g3,0,none⟩) 13 cap3)/\g3<W.heap.size/\
  (∀j x,met[j]?=some x->W.cell? ⟨g3,j,none⟩=some (.bool x))/\(∀j,W.frozen? ⟨g3,j,none⟩=false)/\W.ownsRow w.heap.size 3 1 bv blamed.length (ints blamed)/\
  (∀j,CNxt w b0 b2 b4 s Bs W (W.setCell ⟨g3,j,none⟩ (.bool true)) blamed (met.set j true))/\
  (∀(g' cap':Nat) (w4:World) (x:Int) (tt:TypeId),w4.ownsRow w.heap.size 3 1 (.slice (some ⟨g',0,none⟩) (blamed.length+1) cap') (blamed.length+1) (ints blamed++[.int .i64 x])->(W.alloc (.cells #[.int .i64 x] tt)).grownBy w4 bv.ownBlock->(bv.ownBlock=some g'∨g'=(W.alloc (.cells #[.int .i64 x] tt)).heap.size)->
   w4.cell? ⟨b2,0,none⟩=some bv/\w4.frozen? ⟨b2,0,none⟩=false/\CNxt w b0 b2 b4 s Bs W (w4.setCell ⟨b2,0,none⟩ (.slice (some ⟨g',0,none⟩) (blamed.length+1) cap')) (blamed++[x]) met):=by
 obtain⟨bv,mv,hp,hn⟩:=h.rows
 have r0:=hp.rows 0 _ rfl
 have r1:=hp.rows 1 _ rfl
 have r2:=hp.rows 2 _ rfl
 have r3:W.ownsRow w.heap.size 3 1 bv blamed.length (ints blamed):=hp.rows 3 _ rfl
 have r4:W.ownsRow w.heap.size 4 1 mv met.length (iJ met):=hp.rows 4 _ rfl
 obtain⟨g3,cap3,hmv,-,hg3⟩:=World.ownsRow.form r4 (by omega)
 obtain⟨ao,cp,hbv⟩:=aC r3
 rw[hl]at hmv
 refine⟨bv,g3,cap3,ao,cp,hbv,World.ownsRow.cellAt r0 0 (by simp[aI]),World.ownsRow.cellAt r1 0 (by simp[aI]),World.ownsRow.frozenAt r1 0,?_,hg3,fun j x hj=>?_,fun j=>?_,r3,fun j=>?_,fun g' cap' w4 x tt h1 h2 h3=>?_⟩
 ·rw[World.ownsRow.cellAt r2 0 (by simp[aI]),←hmv];rfl
 ·rw[hmv,hl]at r4
  have hj':=(List.getElem?_eq_some_iff.1 hj).1
  rw[r4.cellAt j (by omega)]
  unfold iJ
  rw[List.getElem?_map,hj]
  rfl
 ·rw[hmv,hl]at r4
  exact r4.frozenAt j
 ·have hs:=PMut.store hp (i:=4) (r:=aJ mv met) rfl (g:=g3) (cap:=cap3) (by show mv=_;rw[hmv,←hl];rfl) j (.bool true)
  have e:(bJ b0 b2 b4 s bv mv blamed met).set 4 ⟨4,1,mv,met.length,(iJ met).set j (.bool true)⟩=bJ b0 b2 b4 s bv mv blamed (met.set j true):=by
   unfold bJ aJ
   rw[lT,List.length_set]
   rfl
  exact h.step hp hn (by rw[←e];exact hs)
 ·have hA:PMut w.heap.size W (bJ b0 b2 b4 s bv mv blamed met) (W.alloc (.cells #[.int .i64 x] tt)) (bJ b0 b2 b4 s bv mv blamed met):=PMut.below hp ((Below.refl _ _).alloc (Nat.le_refl _) _)
  have hR:=PMut.row hA.pack (i:=3) (r':=aB (.slice (some ⟨g',0,none⟩) (blamed.length+1) cap') (blamed++[x])) rfl (by
   unfold Row.ok aB
   simp only[List.length_append,List.length_cons,List.length_nil,cV]
   exact h1) h2 (by
   rcases h3 with h3|h3
   ·exact .inr (.inl h3.symm)
   ·exact .inr (.inr ⟨g',rfl,by omega⟩))
  have q1:=hR.pack.rows 1 _ rfl
  have hS:=PMut.store hR.pack (i:=1) rfl (g:=b2) (cap:=1) rfl 0 (.slice (some ⟨g',0,none⟩) (blamed.length+1) cap')
  refine⟨World.ownsRow.cellAt q1 0 (by simp[aI]),World.ownsRow.frozenAt q1 0,h.step hp hn (hA.trans (hR.trans hS))⟩
end
structure FAt(w:World)(b0 b2 b4 s D:Nat)(bv mv:Value)(bl:List Int)(mt:List Bool)(wr:World)(v:Value)(core:List Int):Prop where
 bel:Below w.heap.size w wr
 pack:Pack w.heap.size wr (bJ b0 b2 b4 s bv mv bl mt++[aB v core])
 rec_:wr.heap[D]?=some (.deferred (some []))
section
variable {w wr:World}{b0 b2 b4 s D:Nat}{bv mv v:Value}{bl core:List Int}{mt:List Bool}
theorem FAt.begin(hb:Below w.heap.size w wr)(hp:Pack w.heap.size wr (bJ b0 b2 b4 s bv mv bl mt))(hD:wr.heap[D]?=some (.deferred (some []))):FAt w b0 b2 b4 s D bv mv bl mt wr (.slice none 0 0) []:=
 ⟨hb,hp.add (r:=aB (.slice none 0 0) []) (cW _ _ _) (Below.refl _ _) (fun g hg=>by cases hg),hD⟩
theorem FAt.read(h:FAt w b0 b2 b4 s D bv mv bl mt wr v core):wr.cell? ⟨b0,0,none⟩=some (.pointer (some ⟨s,0,none⟩))/\wr.cell? ⟨b2,0,none⟩=some bv/\Lies wr bv (ints bl)/\wr.ownsRow w.heap.size 3 1 v core.length (ints core):=by
 have r0:=h.pack.rows 0 _ rfl
 have r1:=h.pack.rows 1 _ rfl
 have r3:wr.ownsRow w.heap.size 3 1 bv bl.length (ints bl):=h.pack.rows 3 _ rfl
 exact⟨World.ownsRow.cellAt r0 0 (by simp[aI]),World.ownsRow.cellAt r1 0 (by simp[aI]),aE r3 (cA _),h.pack.rows 5 _ rfl⟩
theorem FAt.app(h:FAt w b0 b2 b4 s D bv mv bl mt wr v core){g' cap':Nat}{w4:World}{x:Int}{tt:TypeId}(h1:w4.ownsRow w.heap.size 3 1 (.slice (some ⟨g',0,none⟩) (core.length+1) cap') (core.length+1) (ints core++[.int .i64 x]))(h2:(wr.alloc (.cells #[.int .i64 x] tt)).grownBy w4 v.ownBlock)(h3:v.ownBlock=some g'∨g'=(wr.alloc (.cells #[.int .i64 x] tt)).heap.size):
  FAt w b0 b2 b4 s D bv mv bl mt w4 (.slice (some ⟨g',0,none⟩) (core.length+1) cap') (core++[x]):=by
 have hA:=PMut.below h.pack (w':=wr.alloc (.cells #[.int .i64 x] tt)) ((Below.refl _ _).alloc (Nat.le_refl _) _)
 have hR:=PMut.row hA.pack (i:=5) (r':=aB (.slice (some ⟨g',0,none⟩) (core.length+1) cap') (core++[x])) rfl (by
  unfold Row.ok aB
  simp only[List.length_append,List.length_cons,List.length_nil,cV]
  exact h1) h2 (by
  rcases h3 with h3|h3
  ·exact .inr (.inl h3.symm)
  ·exact .inr (.inr ⟨g',rfl,by omega⟩))
 have hm:=hA.trans hR
 have hDl:=(Array.getElem?_eq_some_iff.1 h.rec_).1
 refine⟨h.bel.trans (hm.toBelow h.pack (Nat.le_refl _) h.bel.size),hR.pack,(hm.only.block D hDl (fun hf=>?_)).trans h.rec_⟩
 obtain⟨o,ho,hc⟩:=kS h.pack hf
 rw[h.rec_]at ho
 cases ho
 cases hc
end
theorem kB{F:Fence}{nn:Nat}{P:Program}{ops:Array Oper}{rest:List Oper}{o:Oper}{a:Act}{Q:Exit->Act->World->Prop}{w1:World}{base n bytes:Nat}{v val z:Value}{xs:List Value}{tt:TypeId}
  (hgd:o.guard=none) (s x:Operand) (t e:TypeId) (ho:o.op=.call { callee:=.builtin .append,args:=#[s,x],argTypes:=#[t,t] })
  (ht:P.underlying t=some (.slice e)) (hinfo:(P.info? e).map (fun i=>(i.zero,i.size,i.bytes))=some (some z,1,bytes)) (hzs:z.cells.size=1) (hby:bytes<=24)
  (hown:w1.ownsRow base e 1 v n xs) (hs:a.eval s=v) (hx:a.eval x=.slice (some ⟨w1.heap.size,0,none⟩) 1 1) (h1:val.oneCell'=true) (hn:n<=20000000) (hbase:base<=w1.heap.size)
  (h:∀(g cap:Nat) (w':World),w'.ownsRow base e 1 (.slice (some ⟨g,0,none⟩) (n+1) cap) (n+1) (xs++[val])->(w1.alloc (.cells #[val] tt)).grownBy w' v.ownBlock->(v.ownBlock=some g∨g=(w1.alloc (.cells #[val] tt)).heap.size)->wpListIn F nn P ops Q rest (a.put o.dst (.slice (some ⟨g,0,none⟩) (n+1) cap)) w'):
  wpListIn F nn P ops Q (o::rest) a (w1.alloc (.cells #[val] tt)):=by
 obtain⟨i0,hi0,hz0,hz1,hz2⟩:=info_parts hinfo
 have hnb:(n+1)*bytes<=140737488355328:=Nat.le_trans (Nat.mul_le_mul (Nat.add_le_add_right hn 1) hby) (by omega)
 refine wpListIn_plain hgd fun K hK'=>?_
 obtain⟨g,cap,w',hrun,r1,r2,r3,r4⟩:=run_append_lies (P:=P) (w1.alloc (.cells #[val] tt)) t o.type base e i0 z 1 bytes ht hi0 hz0 hz1 hz2 hzs (by decide) v n xs (hown.alloc _) ⟨w1.heap.size,0,none⟩ 1 1 [val] rfl (cell_one_new _ _ _) (by intro u hu;simp at hu;subst hu;exact h1) (by decide) (by unfold maxLen;omega) hnb (by simp;omega) _ rfl
 unfold Oper.wpIn
 refine⟨?_,?_⟩
 ·simp[Oper.about,ho,resolve,Target.leads,Sem.run_pure]
 ·rw[Oper.semAt_plain F _ _ (by rw[ho];intro c hc';cases hc')]
  simp[execOp,ho,resolve,invoke,builtin,hs,hx,hrun,Result.andThen]
  exact hK' _ _ (h g cap w' r1 r2 r3)
end Go.Proofs.YtekkkoipcghlmaaGreatDoor
namespace Go.Proofs.YtekkkoipcghlmaaGreatDoor
open Go.RowKit
def nH(tr:Tr)(i:Nat):Int:=((tr[i]?).getD (0,0)).1
theorem cY{tr:Tr}{i:Nat}{e:Int×Int}(h:tr[i]?=some e):nH tr i=e.1:=by unfold nH;rw[h];rfl
theorem tS{cls:List Cl}{tr:Tr}(hT:TrOK cls tr)(h0:levels tr=0){c:Nat}{cl:Cl}(hc:cls[c]?=some cl)(hf:∀y,y∈cl.lits->Tru tr (-y)):FolI (dbOf cls) []:=by
 refine oY (T:=nH tr) (S:=fun i=>i<tr.length) (D:=fun _=>False) (fun i hi _=>?_) (mA hc) (fun y hy=>?_) (fun i _ h=>h.elim)
 ·have hg:tr[i]?=some tr[i]:=List.getElem?_eq_getElem hi
  obtain⟨c',cl',rest,g1,g2,g3,g4⟩:=hT.reason i _ hg (rV h0 hg)
  refine⟨cl'.lits,mA g1,fun y hy=>?_⟩
  rw[g3]at hy
  rcases List.mem_cons.1 hy with rfl|hy
  ·exact .inl (cY hg).symm
  ·obtain⟨j,r,hj,hjr⟩:=g4 y hy
   exact .inr ⟨j,hj,by omega,cY hjr⟩
 ·obtain⟨j,r,hj⟩:=hf y hy
  exact⟨j,(List.getElem?_eq_some_iff.1 hj).1,cY hj⟩
theorem aG9{cls:List Cl}{tr:Tr}(hT:TrOK cls tr){A blamed:List Int}{u r0:Int}{k:Nat}{met:Nat->Bool}(hk:tr[k]?=some (-u,r0))(hm:met u.natAbs=true)(hub:u∈blamed)(huA:u∈A)
  (hdone:∀(j:Nat) (e:Int×Int),tr[j]?=some e->met e.1.natAbs=true->(dec e=true/\e.1∈blamed)∨(dec e=false/\∀(c:Nat) cl,cls[c]?=some cl->e.2=(pos cls c:Int)->∀y,y∈cl.lits->met y.natAbs=true))
  (hA:∀(j:Nat) (e:Int×Int),tr[j]?=some e->dec e=true->e.1∈A) {core:List Int} (hcore:∀x,x∈A->x∈blamed->x∈core):
  FolI (dbOf cls) (core.map (fun x=>-x))∨∃x,x∈core/\-x∈core:=by
 have hu:u∈core:=hcore u huA hub
 by_cases hd:dec (-u,r0)=true
 ·refine .inr ⟨u,hu,?_⟩
  rcases hdone k _ hk (by simpa using hm)with⟨-,h2⟩|⟨h1,-⟩
  ·exact hcore _ (hA k _ hk hd) h2
  ·rw[hd]at h1;cases h1
 ·have hd':dec (-u,r0)=false:=by simpa using hd
  refine .inl (aN9 (T:=nH tr) (S:=fun i=>∃e,tr[i]?=some e/\met e.1.natAbs=true) (D:=fun i=>∃e,tr[i]?=some e/\dec e=true) ?_ (k:=k) ⟨_,hk,by simpa using hm⟩ ?_ ?_ ?_)
  ·rintro i ⟨e,he,hme⟩ hnd
   have hde:dec e=false:=by
    cases h:dec e
    ·rfl
    ·exact absurd ⟨e,he,h⟩ hnd
   obtain⟨c,cl,rest,g1,g2,g3,g4⟩:=hT.reason i e he hde
   refine⟨cl.lits,mA g1,by rw[cY he,g3];simp,fun y hy=>?_⟩
   have hmy:met y.natAbs=true:=by
    rcases hdone i e he hme with⟨h1,-⟩|⟨-,h2⟩
    ·rw[hde]at h1;cases h1
    ·exact h2 c cl g1 g2 y hy
   rw[g3]at hy
   rcases List.mem_cons.1 hy with rfl|hy
   ·exact .inl (cY he).symm
   ·obtain⟨j,r,hj,hjr⟩:=g4 y hy
    exact .inr ⟨j,hj,⟨_,hjr,by simpa using hmy⟩,cY hjr⟩
  ·rw[cY hk]
   exact List.mem_map.2 ⟨u,hu,rfl⟩
  ·rintro i ⟨e,he,hme⟩ ⟨e',he',hde⟩
   rw[he]at he'
   cases he'
   rw[cY he]
   refine List.mem_map.2 ⟨e.1,hcore _ (hA i e he hde) ?_,rfl⟩
   rcases hdone i e he hme with⟨-,h2⟩|⟨h1,-⟩
   ·exact h2
   ·rw[hde]at h1;cases h1
  ·rintro⟨e,he,hde⟩
   rw[hk]at he
   cases he
   rw[hd']at hde;cases hde
def DecI(A:List Int)(tr:Tr):Prop:=∀(i:Nat) (e:Int×Int),tr[i]?=some e->dec e=true->e.1∈A∨∀a,a∈A->Tru (tr.take i) a
section
variable {A:List Int}{tr:Tr}
theorem DecI.of_zero(h:∀(i:Nat) (e:Int×Int),tr[i]?=some e->dec e=false):DecI A tr:=fun i e hi hd=>by rw[h i e hi]at hd;cases hd
theorem DecI.cut(h:DecI A tr)(n:Nat):DecI A (tr.take n):=by
 intro i e hi hd
 have hl:=(List.getElem?_eq_some_iff.1 hi).1
 rw[List.length_take]at hl
 rw[List.getElem?_take_of_lt (by omega)]at hi
 rw[List.take_take,Nat.min_eq_left (by omega)]
 exact h i e hi hd
theorem DecI.append(h:DecI A tr){t:Tr}(ht:∀e,e∈t->dec e=false):DecI A (tr++t):=by
 intro i e hi hd
 by_cases hl:i<tr.length
 ·rw[List.getElem?_append_left hl]at hi
  rw[List.take_append_of_le_length (by omega)]
  exact h i e hi hd
 ·rw[List.getElem?_append_right (by omega)]at hi
  have:=ht e (List.mem_of_getElem? hi)
  rw[this]at hd;cases hd
theorem DecI.decide(h:DecI A tr){x:Int}(hx:x∈A∨∀a,a∈A->Tru tr a):DecI A (tr++[(x,-1)]):=by
 intro i e hi hd
 rcases gO hi with⟨hl,hi⟩|⟨rfl,rfl⟩
 ·rw[List.take_append_of_le_length (by omega)]
  exact h i e hi hd
 ·rw[List.take_append_of_le_length (Nat.le_refl _),List.take_length]
  exact hx
theorem DecI.assumed{cls:List Cl}(h:DecI A tr)(hT:TrOK cls tr){u:Int}(hu:u∈A)(hf:Tru tr (-u)):∀(j:Nat) (e:Int×Int),tr[j]?=some e->dec e=true->e.1∈A:=by
 intro j e hj hd
 rcases h j e hj hd with h|h
 ·exact h
 ·obtain⟨i,r,hi⟩:=h u hu
  have hl:=(List.getElem?_eq_some_iff.1 hi).1
  rw[List.length_take]at hl
  rw[List.getElem?_take_of_lt (by omega)]at hi
  exact(hT.not_both ⟨i,r,hi⟩ hf).elim
end
end Go.Proofs.YtekkkoipcghlmaaGreatDoor
namespace Go.Proofs.YtekkkoipcghlmaaGreatDoor
open Go.RowKit
def mN(f:Nat->Bool):Nat->Nat
 | 0=>0
 | n+1=>mN f n+if f n=true then 2 ^ n else 0
theorem nS(f:Nat->Bool):∀n,mN f n<2 ^ n
 | 0=>by simp[mN]
 | n+1=>by
  have:=nS f n
  rw[mN,Nat.pow_succ]
  split<;>omega
theorem kM(f:Nat->Bool):∀n i,i<n->(mN f n).testBit i=f i
 | 0,i,h=>by omega
 | n+1,i,h=>by
  have hlt:=nS f n
  rw[mN]
  by_cases e:i=n
  ·subst e
   by_cases hf:f i=true
   ·rw[if_pos hf,Nat.add_comm,Nat.testBit_two_pow_add_eq,Nat.testBit_lt_two_pow hlt,hf];rfl
   ·rw[if_neg hf,Nat.add_zero,Nat.testBit_lt_two_pow hlt]
    simpa using hf
  ·by_cases hf:f n=true
   ·rw[if_pos hf,Nat.add_comm,Nat.testBit_two_pow_add_gt (by omega)]
    exact kM f n i (by omega)
   ·rw[if_neg hf,Nat.add_zero]
    exact kM f n i (by omega)
theorem vY{cls:List Cl}{tr:Tr}(hT:TrOK cls tr)(hall:∀v:Nat,0<v->v<=12->Tru tr (v:Int)∨Tru tr (-(v:Int))):∃b,b<4096/\∀x:Int,x≠0->-12<=x->x<=12->(tru b x=true↔Tru tr x):=by
 classical
 refine⟨mN (fun i=>decide (Tru tr ((i:Int)+1))) 12,nS _ 12,fun x h0 h1 h2=>?_⟩
 have key:∀v:Nat,0<v->v<=12->((mN (fun i=>decide (Tru tr ((i:Int)+1))) 12).testBit (v-1)=decide (Tru tr (v:Int))):=fun v a b=>by
  rw[kM _ 12 (v-1) (by omega)]
  have:((v-1:Nat):Int)+1=(v:Int):=by omega
  rw[this]
 have hk:=key x.natAbs (by omega) (by omega)
 unfold tru
 rw[hk]
 rcases Int.lt_or_lt_of_ne h0 with hn|hp
 ·have e:(x.natAbs:Int)=-x:=by omega
  rw[e,decide_eq_false (show¬0<x by omega)]
  constructor
  ·intro h
   have h':¬Tru tr (-x):=by simpa using h
   rcases hall x.natAbs (by omega) (by omega)with h3|h3
   ·rw[e]at h3;exact absurd h3 h'
   ·rw[e,Int.neg_neg]at h3;exact h3
  ·intro h
   have:¬Tru tr (-x):=fun h'=>hT.not_both h h'
   simpa using this
 ·have e:(x.natAbs:Int)=x:=by omega
  rw[e,decide_eq_true hp]
  simp
theorem aM6{cls:List Cl}{wat:Int->List Int}{tr:Tr}(h:Rest tr.length cls wat tr)(hall:∀v:Nat,0<v->v<=12->Tru tr (v:Int)∨Tru tr (-(v:Int))):∃b,b<4096/\(∀x:Int,x≠0->-12<=x->x<=12->(tru b x=true↔Tru tr x))/\∀d,d∈dbOf cls->bL b d=true:=by
 obtain⟨b,hb,hx⟩:=vY h.trok hall
 refine⟨b,hb,hx,fun d hd=>?_⟩
 obtain⟨cl,hcl,rfl⟩:=List.mem_map.1 hd
 obtain⟨c,hc⟩:=List.getElem?_of_mem hcl
 have hwf:=h.wf c cl hc
 have lit:∀x,x∈cl.lits->Tru tr x->bL b cl.lits=true:=fun x hm ht=>by
  obtain⟨h0,h1,h2⟩:=hwf.2 x hm
  exact jX.2 ⟨x,hm,(hx x h0 h1 h2).2 ht⟩
 rcases h.ok c cl hc with⟨x,he,j,r,hj,-⟩|⟨a,q,r,he,w1,-⟩
 ·exact lit x (by rw[he];simp) ⟨j,r,hj⟩
 ·obtain⟨h0,h1,h2⟩:=hwf.2 a (by rw[he];simp)
  have hor:Tru tr a∨Tru tr (-a):=by
   rcases hall a.natAbs (by omega) (by omega)with h3|h3
   ·rcases Int.lt_or_lt_of_ne h0 with hn|hp
    ·rw[show(a.natAbs:Int)=-a by omega]at h3;exact .inr h3
    ·rw[show(a.natAbs:Int)=a by omega]at h3;exact .inl h3
   ·rcases Int.lt_or_lt_of_ne h0 with hn|hp
    ·rw[show(a.natAbs:Int)=-a by omega,Int.neg_neg]at h3;exact .inl h3
    ·rw[show(a.natAbs:Int)=a by omega]at h3;exact .inr h3
  rcases hor with ht|⟨i,s,hi⟩
  ·exact lit a (by rw[he];simp) ht
  ·obtain⟨j,t,hj,-⟩:=w1 i s (List.getElem?_eq_some_iff.1 hi).1 hi
   exact lit q (by rw[he];simp) ⟨j,t,hj⟩
end Go.Proofs.YtekkkoipcghlmaaGreatDoor
