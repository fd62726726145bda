import Derived.Test.YtekkkoipcghlmaaGreatDoorU26
set_option linter.all false
namespace Go.Proofs.YtekkkoipcghlmaaGreatDoor
open Go.RowKit
def Mem.confSet(m:Mem)(x:Int):Mem:={ m with conflicts:=x }
theorem Mut.confSet{base:Nat}{w:World}{m:Mem}(h:SAt base w m)(x:Int):Mut base w m (w.setCell ⟨m.s,13,none⟩ (.int .i64 x)) (m.confSet x):=⟨h.field 13 (.int .i64 x),h.ws,h.ls,h.counts,h.places,rfl,rfl,rfl⟩
def Mem.asmSet(m:Mem)(v:Value)(l:List Int):Mem:={ m with asm:=v,assumed:=l }
theorem Mut.asmSet{base:Nat}{w w1:World}{m:Mem}(h:SAt base w m){v:Value}{l:List Int}(hown:w1.ownsRow base 3 1 v l.length (ints l))(hb:Below w.heap.size w w1)(hn:∀g,v.ownBlock=some g->w.heap.size<=g):Mut base w m (w1.setCell ⟨m.s,12,none⟩ v) (m.asmSet v l):=by
 have h1:=PMut.row h.pack (i:=11) (r':=aB v l) rfl hown ⟨hb.os,hb.tape,hb.output,hb.size,fun k hk _=>hb.block k hk⟩ (by
  cases hv:v.ownBlock with
  | none=>exact .inl hv
  | some g=>exact .inr (.inr ⟨g,hv,hn g hv⟩))
 have h2:=PMut.store h1.pack (i:=0) rfl rfl 12 v
 exact⟨h1.trans h2,h.ws,h.ls,h.counts,h.places,rfl,rfl,rfl⟩
structure RunI(base:Nat)(w:World)(m0:Mem)(G:List Nat)(A:List Int)(B:Int)(wr:World)(m:Mem)(cls:List Cl)(wat:Int->List Int)(tr:Tr)(n:Nat)(S:List (Bool×List Int))(D:List Nat):Prop where
 r:RAt base w m0 G wr m cls wat tr n S D
 rounds:Rounds m.conflicts m.rlen m.rmet D.length
 broken:m.broken=-1
 asm:m.assumed=A
 dec:DecI A tr
 some_:0<G.length∨cls=[]
 bud:0<B->m.conflicts<B
structure RStr(base:Nat)(w:World)(m0:Mem)(G:List Nat)(A:List Int)(B:Int)(wr:World)(m:Mem)(cls:List Cl)(wat:Int->List Int)(tr:Tr)(n:Nat)(bad:Int)(S:List (Bool×List Int))(D:List Nat):Prop where
 mu:Mut base w m0 wr m
 rep:Rep m cls tr
 watAt:eJ m wat
 struck:Struck cls wat tr n bad
 passed:m.passed=(n:Int)+1
 heap:HeapOK m.all m.places
 free:Free m tr
 steps:StepsAt base wr m S
 told:Told G cls S D
 given:m.given=(pos cls G.length:Int)
 count:(m.nsteps:Int)+D.length<=2*m.conflicts
 rounds:Rounds m.conflicts m.rlen m.rmet D.length
 broken:m.broken=-1
 asm:m.assumed=A
 dec:DecI A tr
 some_:0<G.length
 bud:0<B->m.conflicts<B
section
variable {base:Nat}{w wr wr':World}{m0 m m':Mem}{G:List Nat}{A:List Int}{B:Int}{cls:List Cl}{wat:Int->List Int}{tr:Tr}{n:Nat}{bad:Int}{S:List (Bool×List Int)}{D:List Nat}
theorem RunI.size(h:RunI base w m0 G A B wr m cls wat tr n S D)(hG:G.length<=100000):m.store.length<=8900000:=by
 rw[h.r.rep.store];exact h.r.told.small h.r.still.wf hG
theorem RStr.size(h:RStr base w m0 G A B wr m cls wat tr n bad S D)(hG:G.length<=100000):m.store.length<=8900000:=by
 rw[h.rep.store];exact h.told.small h.struck.wf hG
theorem qU{tr':Tr}(h:Free m tr)(ht:∃t,tr'=tr++t)(ha:m'.all=m.all):Free m' tr':=by
 obtain⟨t,rfl⟩:=ht
 intro u a b c
 rw[ha]
 exact h u a b (fun i e hi=>c i e (by rw[List.getElem?_append_left (List.getElem?_eq_some_iff.1 hi).1];exact hi))
theorem RunI.prop(h:RunI base w m0 G A B wr m cls wat tr n S D){e:Ending}(hp:tA base wr m cls tr e wr'):
  ∃m1 cls1 wat1 tr1 bad,e=.returned (.int .i64 bad)/\m1.conflicts=m.conflicts/\levels tr1=levels tr/\((bad=-1/\RunI base w m0 G A B wr' m1 cls1 wat1 tr1 tr1.length S D)∨(bad≠-1/\∃n1,RStr base w m0 G A B wr' m1 cls1 wat1 tr1 n1 bad S D)):=by
 obtain⟨m1,cls1,wat1,tr1,bad,he,hm,hr,hw,hk,hwent,hst,hor⟩:=hp
 obtain⟨c1,c2,c3,c4⟩:=hk.core
 obtain⟨hsame,t,ht,hnd⟩:=hwent
 have e1:m1.rlen=m.rlen:=congrArg (fun x=>x.1.1) c1
 have e2:m1.rmet=m.rmet:=congrArg (fun x=>x.1.2.1) c1
 have e3:m1.given=m.given:=congrArg (fun x=>x.1.2.2) c1
 have e4:m1.broken=m.broken:=congrArg (fun x=>x.2.1) c1
 have e5:m1.conflicts=m.conflicts:=congrArg (fun x=>x.2.2.1) c1
 have e6:m1.assumed=m.assumed:=congrArg (fun x=>x.2.2.2.2) c1
 have e7:m1.nsteps=m.nsteps:=congrArg (fun x=>x.2.1) c2
 have hdec:DecI A tr1:=by rw[ht];exact h.dec.append hnd
 refine⟨m1,cls1,wat1,tr1,bad,he,e5,by rw[ht,bM,show levels t=0 from eL (fun i e hi=>hnd e (List.mem_of_getElem? hi))];omega,?_⟩
 rcases hor with⟨hb,hp,hI⟩|⟨hb,n1,hp,hI⟩
 ·refine .inl ⟨hb,⟨⟨h.r.mu.trans hm,hr,hw,hI,hp,by rw[c3,c4];exact h.r.heap,qU h.r.free ⟨t,ht⟩ c3,h.r.steps.keep hm.to c2,h.r.told.same hsame,by rw[e3,h.r.given,hsame.place],by rw[e5,e7];exact h.r.count⟩,by rw[e5,e1,e2];exact h.rounds,by rw[e4];exact h.broken,by rw[e6];exact h.asm,hdec,h.some_.imp id (fun hc=>?_),by rw[e5];exact h.bud⟩⟩
  have:=hsame.1
  rw[hc]at this
  exact List.length_eq_zero_iff.1 this.symm
 ·refine .inr ⟨hb,n1,⟨h.r.mu.trans hm,hr,hw,hI,hp,by rw[c3,c4];exact h.r.heap,qU h.r.free ⟨t,ht⟩ c3,h.r.steps.keep hm.to c2,h.r.told.same hsame,by rw[e3,h.r.given,hsame.place],by rw[e5,e7];exact h.r.count,by rw[e5,e1,e2];exact h.rounds,by rw[e4];exact h.broken,by rw[e6];exact h.asm,hdec,?_,by rw[e5];exact h.bud⟩⟩
  rcases h.some_ with h1|h1
  ·exact h1
  ·obtain⟨c,cl,hc,-⟩:=hI.falls
   have hlt:=(List.getElem?_eq_some_iff.1 hc).1
   have:=hsame.1
   rw[h1]at this
   simp at this
   omega
structure RLearn(base:Nat)(w:World)(m0:Mem)(G:List Nat)(A:List Int)(B:Int)(wr:World)(m:Mem)(cls:List Cl)(wat:Int->List Int)(tr:Tr)(n:Nat)(S:List (Bool×List Int))(D:List Nat):Prop where
 r:RAt base w m0 G wr m cls wat tr n S D
 rounds:∃k,D.length=k+1/\Rounds (m.conflicts-1) m.rlen m.rmet k
 broken:m.broken=-1
 asm:m.assumed=A
 dec:DecI A tr
 some_:0<G.length
 bud:0<B->m.conflicts<=B
theorem RStr.learn(h:RStr base w m0 G A B wr m cls wat tr n bad S D){w1 w2:World}(hm:Mut base wr m w1 (m.confSet (m.conflicts+1)))(hl:oZ base w1 (m.confSet (m.conflicts+1)) cls tr w2):∃m2 cls2 wat2 tr2 n2 S2 D2,RLearn base w m0 G A B w2 m2 cls2 wat2 tr2 n2 S2 D2/\m2.conflicts=m.conflicts+1:=by
 obtain⟨m2,cls2,wat2,tr2,n2,v,lits,hL⟩:=hl
 have e1:m2.rlen=m.rlen:=congrArg (fun x=>x.1.1) hL.core
 have e2:m2.rmet=m.rmet:=congrArg (fun x=>x.1.2.1) hL.core
 have e3:m2.given=m.given:=congrArg (fun x=>x.1.2.2) hL.core
 have e4:m2.broken=m.broken:=congrArg (fun x=>x.2.1) hL.core
 have e5:m2.conflicts=m.conflicts+1:=congrArg (fun x=>x.2.2.1) hL.core
 have e6:m2.assumed=m.assumed:=congrArg (fun x=>x.2.2.2.2) hL.core
 obtain⟨s,e,htr,hde⟩:=hL.trail
 have hst1:StepsAt base w1 (m.confSet (m.conflicts+1)) S:=h.steps.keep hm.to rfl
 have hcnt:=h.count
 have hns:m2.nsteps=m.nsteps+1:=hL.nsteps
 have hlen:=h.told.len
 refine⟨m2,cls2,wat2,tr2,n2,S++[(false,lits)],D++[Sp.maskOf lits],⟨⟨(h.mu.trans hm).trans hL.mu,hL.rep,hL.watAt,hL.still,hL.passed,hL.heap,hL.free,hst1.add hL.mu.to hL.nsteps hL.steps hL.step,h.told.learn hL.db h.struck.wf hL.wf hL.some_ hL.fol hL.new,?_,?_⟩,⟨D.length,by simp,by rw[e5,e1,e2];simpa using h.rounds⟩,by rw[e4];exact h.broken,by rw[e6];exact h.asm,?_,h.some_,fun hb=>by rw[e5];have:=h.bud hb;omega⟩,e5⟩
 ·rw[e3,h.given]
  have hsnoc:dbOf cls2=dbOf (cls++[⟨false,lits⟩]):=by rw[jP];exact hL.db
  rw[oW hsnoc,bQ _ _ (by omega)]
 ·rw[e5,hns,List.length_append]
  simp
  omega
 ·rw[htr]
  exact(h.dec.cut s).append (fun e' he'=>by simp at he';rw[he'];exact hde)
theorem RLearn.on(h:RLearn base w m0 G A B wr m cls wat tr n S D)(hm:Mut base wr m wr' (m.metSet (m.rmet+1)))(hn:¬m.rlen<=m.rmet+1)(hb:m.conflicts≠B):RunI base w m0 G A B wr' (m.metSet (m.rmet+1)) cls wat tr n S D:=by
 obtain⟨k,hk,hr⟩:=h.rounds
 refine⟨⟨h.r.mu.trans hm,⟨h.r.rep.store,h.r.rep.order,h.r.rep.starts,h.r.rep.len,h.r.rep.taken,h.r.rep.free,h.r.rep.odr,h.r.rep.ordr⟩,h.r.watAt,h.r.still,h.r.passed,h.r.heap,h.r.free,h.r.steps.keep hm.to rfl,h.r.told,h.r.given,h.r.count⟩,?_,h.broken,h.asm,h.dec,.inl h.some_,fun hb'=>?_⟩
 ·have:=hr.on hn
  rw[hk]
  show Rounds m.conflicts m.rlen (m.rmet+1) (k+1)
  rw[show m.conflicts-1+1=m.conflicts by omega]at this
  exact this
 ·have:=h.bud hb'
  show m.conflicts<B
  omega
theorem RLearn.met(h:RLearn base w m0 G A B wr m cls wat tr n S D)(hm:Mut base wr m wr' (m.metSet (m.rmet+1))):RAt base w m0 G wr' (m.metSet (m.rmet+1)) cls wat tr n S D:=
 ⟨h.r.mu.trans hm,⟨h.r.rep.store,h.r.rep.order,h.r.rep.starts,h.r.rep.len,h.r.rep.taken,h.r.rep.free,h.r.rep.odr,h.r.rep.ordr⟩,h.r.watAt,h.r.still,h.r.passed,h.r.heap,h.r.free,h.r.steps.keep hm.to rfl,h.r.told,h.r.given,h.r.count⟩
theorem RLearn.anew(h:RLearn base w m0 G A B wr m cls wat tr n S D){w1 w2:World}(hm:Mut base wr m w1 (m.metSet (m.rmet+1)))(hn:m.rlen<=m.rmet+1)(hb:m.conflicts≠B)(hg:oR base w m0 G (m.metSet (m.rmet+1)) w2):∃m2 cls2 wat2 tr2 n2 S2 D2,RunI base w m0 G A B w2 m2 cls2 wat2 tr2 n2 S2 D2/\m2.conflicts=m.conflicts:=by
 obtain⟨k,hk,hr⟩:=h.rounds
 obtain⟨m2,cls2,wat2,tr2,n2,S2,D2,hR,hl,e1,e2,e3,e4,e5,e6⟩:=hg
 have hlearnt:=h.r.told.learnt
 refine⟨m2,cls2,wat2,tr2,n2,S2,D2,⟨hR,?_,e3.trans h.broken,e6.trans h.asm,DecI.of_zero (fun i e hi=>rV hl hi),.inl h.some_,fun hb'=>?_⟩,e4⟩
 ·have:=hr.next (nl':=D2.length) hn (by omega)
  rw[show m2.rlen=m.rlen+m.rlen / 2 from e1,e2,show m2.conflicts=m.conflicts from e4]
  rw[show m.conflicts-1+1=m.conflicts by omega]at this
  exact this
 ·have:=h.bud hb'
  rw[show m2.conflicts=m.conflicts from e4]
  omega
theorem RunI.decided(h:RunI base w m0 G A B wr m cls wat tr tr.length S D){x:Int}{m1:Mem}{w1 w2:World}(hm1:Mut base wr m w1 m1)(hk:KeptQ m m1)(hheap:HeapOK m1.all m1.places)(hfree:∀u:Nat,0<u->u<=12->m.truth u=0->u≠x.natAbs->(u:Int)∈m1.all)(hx:x≠0/\-12<=x/\x<=12)(h1:¬Tru tr x)(h2:¬Tru tr (-x))(hA:x∈A∨∀a,a∈A->Tru tr a){st od:Value}(hm:Mut base w1 m1 w2 (m1.decided x st od)):
  RunI base w m0 G A B w2 (m1.decided x st od) cls wat (tr++[(x,-1)]) tr.length S D/\levels (tr++[(x,-1)])=levels tr+1:=by
 have hkq:=hk
 unfold KeptQ at hkq
 obtain⟨c1,c2,c3,c4,c5,c6⟩:=hk.core
 have f1:m1.order=m.order:=by rw[hkq]
 have f2:m1.starts=m.starts:=by rw[hkq]
 have f3:m1.odr=m.odr:=by rw[hkq]
 have f4:m1.od=m.od:=by rw[hkq]
 have f5:m1.ordr=m.ordr:=by rw[hkq]
 have hrep:Rep m1 cls tr:=by
  refine⟨by rw[c4];exact h.r.rep.store,by rw[f1];exact h.r.rep.order,by rw[f2];exact h.r.rep.starts,by rw[c6];exact h.r.rep.len,fun i e hi=>?_,fun v a b c=>?_,by rw[f3,f4];exact h.r.rep.odr,by rw[f5,f1];exact h.r.rep.ordr⟩
  ·have:=h.r.rep.taken i e hi
   unfold Mem.truth Mem.level Mem.reason at *
   rw[c6];exact this
  ·have:=h.r.rep.free v a b c
   unfold Mem.truth at *
   rw[c6];exact this
 have e1:m1.rlen=m.rlen:=congrArg (fun x=>x.1.1) c1
 have e2:m1.rmet=m.rmet:=congrArg (fun x=>x.1.2.1) c1
 have e3:m1.given=m.given:=congrArg (fun x=>x.1.2.2) c1
 have e4:m1.broken=m.broken:=congrArg (fun x=>x.2.1) c1
 have e5:m1.conflicts=m.conflicts:=congrArg (fun x=>x.2.2.1) c1
 have e6:m1.assumed=m.assumed:=congrArg (fun x=>x.2.2.2.2) c1
 have e7:m1.nsteps=m.nsteps:=congrArg (fun x=>x.2.1) c2
 have hlev:levels (tr++[(x,-1)])=levels tr+1:=by rw[bM];simp[levels,Go.Proofs.YtekkkoipcghlmaaGreatDoor.dec]
 have hst:=h.r.still
 refine⟨⟨⟨(h.r.mu.trans hm1).trans hm,hrep.decide hst.trok hx h1 h2 st od,fun l a b=>by show m1.lists[_]?=_;rw[c3];exact h.r.watAt l a b,⟨hst.trok.decide hx h1 h2,hst.wf,hst.lists,fun c cl hc=>(hst.ok c cl hc).append (Nat.le_refl _) _,by simp,fun i hi hl=>?_⟩,c5.trans h.r.passed,hheap,fun u a b c=>?_,(h.r.steps.keep hm1.to c2).keep hm.to rfl,h.r.told,e3.trans h.r.given,?_⟩,?_,e4.trans h.broken,e6.trans h.asm,h.dec.decide hA,h.some_,fun hb=>?_⟩,hlev⟩
 ·simp at hl
  have:i=tr.length:=by omega
  subst this
  rw[gR]
 ·refine hfree u a b (h.r.rep.free u a (by omega) (fun i e hi=>c i e (by rw[List.getElem?_append_left (List.getElem?_eq_some_iff.1 hi).1];exact hi))) (fun he=>?_)
  exact c tr.length (x,-1) (by simp) he.symm
 ·show(m1.nsteps:Int)+D.length<=2*m1.conflicts
  rw[e7,e5];exact h.r.count
 ·show Rounds m1.conflicts m1.rlen m1.rmet D.length
  rw[e5,e1,e2];exact h.rounds
 ·show m1.conflicts<B
  rw[e5];exact h.bud hb
end
end Go.Proofs.YtekkkoipcghlmaaGreatDoor
namespace Go.Proofs.YtekkkoipcghlmaaGreatDoor
open Go.RowKit
def cU(b c:Nat):Prop:=∃i,c.testBit i=true/\tru b (Sp.litAt i)=true
theorem tN(i:Nat):Sp.litAt i≠0:=by unfold Sp.litAt;split<;>omega
theorem zE{L:List Nat}{r b:Nat}(h:Sp.Fol L r)(hL:∀c,c∈L->cU b c):cU b r:=by
 rcases h with⟨i,h1,h2⟩|h
 ·by_cases ht:tru b (Sp.litAt i)=true
  ·exact⟨i,h1,ht⟩
  ·refine⟨Sp.opp i,h2,?_⟩
   rw[Sp.litAt_opp,sU b (tN i)]
   simpa using ht
 ·rcases Classical.em (cU b r)with hb|hb
  ·exact hb
  ·refine(h (fun i=>tru b (Sp.litAt i)=false) (fun i hi=>?_) (fun c hc=>?_)).elim
   ·cases ht:tru b (Sp.litAt i)
    ·rfl
    ·exact absurd ⟨i,hi,ht⟩ hb
   ·obtain⟨i,hi,ht⟩:=hL c hc
    refine⟨⟨i,hi,by simp[ht]⟩,fun j hj hnj _=>?_⟩
    show tru b (Sp.litAt (Sp.opp j))=false
    rw[Sp.litAt_opp,sU b (tN j)]
    simpa using hnj
theorem Chain.ent{G:List Nat}{s:List (Bool×Nat)}{D:List Nat}(h:Chain G s D){b:Nat}(hG:∀g,g∈G->cU b g):∀d,d∈D->cU b d:=by
 refine h (fun _ D=>∀d,d∈D->cU b d) (fun d hd=>by cases hd) (fun s D r ih hf _ d hd=>?_) (fun s A B r ih d hd=>?_)
 ·rcases List.mem_append.1 hd with hd|hd
  ·exact ih d hd
  ·simp at hd
   subst hd
   exact zE hf (fun c hc=>(List.mem_append.1 hc).elim (hG c) (ih c))
 ·rcases List.mem_append.1 hd with hd|hd
  ·exact ih d (List.mem_append_left _ hd)
  ·exact ih d (List.mem_append_right _ (List.mem_cons_of_mem _ hd))
theorem nR{b:Nat}{c:List Int}(hc:∀x,x∈c->x≠0)(h:bL b c=true):cU b (Sp.maskOf c):=by
 obtain⟨x,hx,ht⟩:=jX.1 h
 refine⟨Sp.bitIx x,(gS hc (hc x hx)).2 hx,?_⟩
 have:Sp.litAt (Sp.bitIx x)=x:=by
  have h0:=hc x hx
  unfold Sp.litAt Sp.bitIx
  by_cases hp:0<x
  ·rw[if_pos hp,if_pos (by omega)];omega
  ·rw[if_neg hp,if_neg (by omega)];omega
 rw[this];exact ht
structure RunOut(base:Nat)(w:World)(m0:Mem)(G:List Nat)(A:List Int)(B:Int)(w':World)(m:Mem)(S:List (Bool×List Int))(D:List Nat)(kind:Int)(vm vc:Value):Prop where
 mu:Mut base w m0 w' m
 steps:StepsAt base w' m S
 chain:Chain G (bH S) D
 swf:∀s,s∈S->aM s.2
 most:S.length<=7000000
 conf0:0<=m.conflicts
 confB:0<B->m.conflicts<=B
 kinds:(kind=1/\vc=.slice none 0 0/\∃b,b<4096/\(∀x,x∈A->tru b x=true)/\(∀g,g∈G->cU b g)/\w'.ownsRow w.heap.size 3 1 vm 12 (ints (dF b))/\∀k,vm.ownBlock=some k->¬foot m.rows k)∨
  (kind=2/\vm=.slice none 0 0/\∃p:Int->Bool,w'.ownsRow w.heap.size 3 1 vc (A.filter p).length (ints (A.filter p))/\(∀k,vc.ownBlock=some k->¬foot m.rows k)/\Sp.Fol (G++D) (Sp.maskOf ((A.filter p).map (fun x=>-x))))∨
  (kind=3/\vm=.slice none 0 0/\vc=.slice none 0 0/\0<B/\m.conflicts=B)
def sD(base:Nat)(w:World)(m0:Mem)(G:List Nat)(A:List Int)(B:Int)(v:Value)(w':World):Prop:=∃m S D kind vm vc,v=.agg #[.int .i64 kind,vm,vc,.int .i64 m.conflicts]/\RunOut base w m0 G A B w' m S D kind vm vc
section
variable {base:Nat}{w wr wr':World}{m0 m m':Mem}{G:List Nat}{A:List Int}{B:Int}{cls:List Cl}{wat:Int->List Int}{tr:Tr}{n:Nat}{bad:Int}{S:List (Bool×List Int)}{D:List Nat}
theorem aJ3(hwf:∀(c:Nat) cl,cls[c]?=some cl->aM cl.lits):∀c,c∈dbOf cls->∀x,x∈c->x≠0:=fun c hc x hx=>by
 obtain⟨cl,hcl,rfl⟩:=List.mem_map.1 hc
 obtain⟨i,hi⟩:=List.getElem?_of_mem hcl
 exact((hwf i cl hi).2 x hx).1
theorem Told.fol(h:Told G cls S D)(hwf:∀(c:Nat) cl,cls[c]?=some cl->aM cl.lits){r:List Int}(hr:∀x,x∈r->x≠0)(hf:FolI (dbOf cls) r∨∃x,x∈r/\-x∈r):Sp.Fol (G++D) (Sp.maskOf r):=by
 rcases hf with hf|⟨x,h1,h2⟩
 ·refine hf.fol (aJ3 hwf) hr (fun c hc=>?_)
  rw[←h.masks]
  exact List.mem_map.2 ⟨c,hc,rfl⟩
 ·exact tG hr h1 h2
theorem RunI.sat(h:RunI base w m0 G A B wr m cls wat tr tr.length S D)(hA:∀x,x∈A->x≠0/\-12<=x/\x<=12)(hall:∀x,x∈A->Tru tr x)(hno:∀v:Nat,0<v->v<=12->m.truth v≠0){m1:Mem}{w1 w2:World}(hm1:Mut base wr m w1 m1)(hk:KeptQ m m1){v:Value}(hown:w2.ownsRow w1.heap.size 3 1 v 12 (ints (iI m1 12)))(hb:Below w1.heap.size w1 w2):
  RunOut base w m0 G A B w2 m1 S D 1 v (.slice none 0 0):=by
 have hm2:=Mut.below hm1.at hb
 obtain⟨c1,c2,c3,c4,c5,c6⟩:=hk.core
 have e5:m1.conflicts=m.conflicts:=congrArg (fun x=>x.2.2.1) c1
 have hbd:=h.rounds.bound
 have hT:=h.r.still.trok
 have htot:∀v:Nat,0<v->v<=12->Tru tr (v:Int)∨Tru tr (-(v:Int)):=fun v h0 h1=>by
  rcases Classical.em (Tru tr (v:Int))with ht|ht
  ·exact .inl ht
  ·rcases Classical.em (Tru tr (-(v:Int)))with ht'|ht'
   ·exact .inr ht'
   ·have:=(h.r.rep.is_open hT (v:Int) (by omega) (by omega) (by omega)).2 ⟨ht,ht'⟩
    rw[Int.natAbs_natCast]at this
    exact absurd this (hno v h0 h1)
 obtain⟨b,hb4,hx,hdb⟩:=aM6 h.r.still htot
 have hmodel:iI m1 12=dF b:=by
  unfold iI dF
  apply List.map_congr_left
  intro i hi
  have hi12:=List.mem_range.1 hi
  have ht1:m1.truth (i+1)=m.truth (i+1):=by unfold Mem.truth;rw[c6]
  rw[ht1]
  have hxi:=hx ((i:Int)+1) (by omega) (by omega) (by omega)
  have hna:((i:Int)+1).natAbs=i+1:=by omega
  have htest:tru b ((i:Int)+1)=b.testBit i:=by
   unfold tru
   rw[hna,decide_eq_true (show(0:Int)<(i:Int)+1 by omega)]
   simp
  rcases htot (i+1) (by omega) (by omega)with ht|ht
  ·have h1:tru b ((i:Int)+1)=true:=hxi.2 (by simpa using ht)
   rw[htest]at h1
   rw[if_pos h1]
   have:=(h.r.rep.is_true ((i:Int)+1) (by omega) (by omega) (by omega)).2 (by simpa using ht)
   rw[hna]at this
   exact this
  ·have h1:¬tru b ((i:Int)+1)=true:=fun h'=>hT.not_both (hxi.1 h') (by simpa using ht)
   rw[htest]at h1
   rw[if_neg h1]
   have:=(h.r.rep.is_false ((i:Int)+1) (by omega) (by omega) (by omega)).2 (by simpa using ht)
   rw[hna]at this
   exact this
 have hsz:=hm1.to.only.size
 have hw:=h.r.mu.to.only.size
 refine⟨(h.r.mu.trans hm1).trans hm2,(h.r.steps.keep hm1.to c2).keep hm2.to rfl,h.r.told.chain,h.r.told.swf,?_,by omega,fun hB=>by have:=h.bud hB;omega,.inl ⟨rfl,rfl,b,hb4,fun x hxA=>?_,fun g hg=>?_,by rw[←hmodel];exact bC hown (by omega),fun k hk' hf=>?_⟩⟩
 ·have:=h.r.count
  have:=h.r.steps.n
  omega
 ·obtain⟨a1,a2,a3⟩:=hA x hxA
  exact(hx x a1 a2 a3).2 (hall x hxA)
 ·have:g∈dL cls:=by rw[h.r.told.masks];exact List.mem_append_left _ hg
  obtain⟨c,hc,rfl⟩:=List.mem_map.1 this
  exact nR (aJ3 h.r.still.wf c hc) (hdb c hc)
 ·have:=(hown.lt k hk').1
  have:=(hm1.at.pack.lt hf).2
  omega
theorem RunI.unsat(h:RunI base w m0 G A B wr m cls wat tr n S D)(hA:∀x,x∈A->x≠0/\-12<=x/\x<=12){v:Value}{w1 w2:World}{bl:List Int}(hb1:Below wr.heap.size wr w1)(hb2:Below w1.heap.size w1 w2)(hown:w1.ownsRow wr.heap.size 3 1 v (A.filter (fun x=>decide (x∈bl))).length (ints (A.filter (fun x=>decide (x∈bl)))))
  (hf:FolI (dbOf cls) ((A.filter (fun x=>decide (x∈bl))).map (fun x=>-x))∨∃x,x∈A.filter (fun x=>decide (x∈bl))/\-x∈A.filter (fun x=>decide (x∈bl))):
  RunOut base w m0 G A B w2 m S D 2 (.slice none 0 0) v:=by
 have hb:=hb1.trans (hb2.mono hb1.size)
 have hm:=Mut.below h.r.mu.at hb
 have hbd:=h.rounds.bound
 have hw:=h.r.mu.to.only.size
 have hne:∀x,x∈(A.filter (fun x=>decide (x∈bl))).map (fun x=>-x)->x≠0:=fun x hx=>by
  obtain⟨y,hy,rfl⟩:=List.mem_map.1 hx
  have:=(hA y (List.mem_filter.1 hy).1).1
  omega
 refine⟨h.r.mu.trans hm,h.r.steps.keep hm.to rfl,h.r.told.chain,h.r.told.swf,?_,hbd.1,fun hB=>by have:=h.bud hB;omega,.inr (.inl ⟨rfl,rfl,fun x=>decide (x∈bl),bC (aR hown hb2) hw,fun k hk hf'=>?_,h.r.told.fol h.r.still.wf hne (hf.imp id ?_)⟩)⟩
 ·have:=h.r.count
  have:=h.r.steps.n
  omega
 ·have h1:=(hown.lt k hk).1
  have h2:=(h.r.mu.at.pack.lt hf').2
  omega
 ·rintro⟨x,h1,h2⟩
  exact⟨-x,List.mem_map.2 ⟨x,h1,rfl⟩,by rw[Int.neg_neg];exact List.mem_map.2 ⟨-x,h2,by rw[Int.neg_neg]⟩⟩
theorem RStr.unsat(h:RStr base w m0 G A B wr m cls wat tr n bad S D)(h0:levels tr=0){w1 w2:World}(hm:Mut base wr m w1 (m.confSet (m.conflicts+1)))(hb:Below w1.heap.size w1 w2):
  RunOut base w m0 G A B w2 (m.confSet (m.conflicts+1)) S D 2 (.slice none 0 0) (.slice none 0 0):=by
 have hm2:=Mut.below hm.at hb
 have hbd:=h.rounds.bound
 obtain⟨c,cl,hc,-,hfalse⟩:=h.struck.falls
 have hf:=tS h.struck.trok h0 hc hfalse
 refine⟨(h.mu.trans hm).trans hm2,(h.steps.keep hm.to rfl).keep hm2.to rfl,h.told.chain,h.told.swf,?_,by show 0<=m.conflicts+1;omega,fun hB=>by show m.conflicts+1<=B;have:=h.bud hB;omega,.inr (.inl ⟨rfl,rfl,fun _=>false,?_,fun k hk=>(by cases hk),?_⟩)⟩
 ·have:=h.count
  have:=h.steps.n
  omega
 ·rw[List.filter_eq_nil_iff.2 (by simp)];exact cW _ _ _
 ·rw[List.filter_eq_nil_iff.2 (by simp)]
  exact h.told.fol h.struck.wf (fun x hx=>by cases hx) (.inl hf)
theorem RLearn.unknown(h:RLearn base w m0 G A B wr m cls wat tr n S D)(hB:0<=B)(hb:m.conflicts=B){w2:World}(hbe:Below wr.heap.size wr w2):
  RunOut base w m0 G A B w2 m S D 3 (.slice none 0 0) (.slice none 0 0):=by
 have hm2:=Mut.below h.r.mu.at hbe
 obtain⟨k,hk,hr⟩:=h.rounds
 have hbd:=hr.bound
 refine⟨h.r.mu.trans hm2,h.r.steps.keep hm2.to rfl,h.r.told.chain,h.r.told.swf,?_,by omega,fun _=>by omega,.inr (.inr ⟨rfl,rfl,rfl,by omega,hb⟩)⟩
 have:=h.r.count
 have:=h.r.steps.n
 omega
end
end Go.Proofs.YtekkkoipcghlmaaGreatDoor
namespace Go.Proofs.YtekkkoipcghlmaaGreatDoor
open Go.RowKit
def bA:Obj:=.cells #[.int .i64 0,.slice none 0 0,.slice none 0 0,.int .i64 0] 34
def cQ(wx:World)(bx:Nat)(a b c d:Value):World:=(((wx.setCell ⟨bx,0,none⟩ a).setCell ⟨bx,1,none⟩ b).setCell ⟨bx,2,none⟩ c).setCell ⟨bx,3,none⟩ d
theorem dJ{wx:World}{bx:Nat}(hz:wx.heap[bx]?=some bA):(wx.cell? ⟨bx,0,none⟩=some (.int .i64 0)/\wx.cell? ⟨bx,1,none⟩=some (.slice none 0 0)/\wx.cell? ⟨bx,2,none⟩=some (.slice none 0 0)/\wx.cell? ⟨bx,3,none⟩=some (.int .i64 0))/\(wx.frozen? ⟨bx,0,none⟩=false/\wx.frozen? ⟨bx,1,none⟩=false/\wx.frozen? ⟨bx,2,none⟩=false/\wx.frozen? ⟨bx,3,none⟩=false)/\
  ∀a b c d,((cQ wx bx a b c d).cell? ⟨bx,0,none⟩=some a/\(cQ wx bx a b c d).cell? ⟨bx,1,none⟩=some b/\(cQ wx bx a b c d).cell? ⟨bx,2,none⟩=some c/\(cQ wx bx a b c d).cell? ⟨bx,3,none⟩=some d)/\Only (fun k=>k=bx) wx (cQ wx bx a b c d):=by
 have hro:=cX (base:=0) hz (Nat.zero_le _)
 refine⟨⟨hro.cellAt 0 (by simp),hro.cellAt 1 (by simp),hro.cellAt 2 (by simp),hro.cellAt 3 (by simp)⟩,⟨hro.frozenAt 0,hro.frozenAt 1,hro.frozenAt 2,hro.frozenAt 3⟩,fun a b c d=>?_⟩
 have s0:=(hro.stored 0 a).1
 have s1:=(s0.stored 1 b).1
 have s2:=(s1.stored 2 c).1
 have s3:=(s2.stored 3 d).1
 have e0:=s3.cellAt 0 (by simp)
 have e1:=s3.cellAt 1 (by simp)
 have e2:=s3.cellAt 2 (by simp)
 have e3:=s3.cellAt 3 (by simp)
 simp at e0 e1 e2 e3
 refine⟨⟨e0,e1,e2,e3⟩,?_⟩
 have k0:=Only.grown (F:=fun k=>k=bx) (hro.stored 0 a).2 (fun k hk=>by simp[Value.ownBlock]at hk;exact hk.symm)
 have k1:=Only.grown (F:=fun k=>k=bx) (s0.stored 1 b).2 (fun k hk=>by simp[Value.ownBlock]at hk;exact hk.symm)
 have k2:=Only.grown (F:=fun k=>k=bx) (s1.stored 2 c).2 (fun k hk=>by simp[Value.ownBlock]at hk;exact hk.symm)
 have k3:=Only.grown (F:=fun k=>k=bx) (s2.stored 3 d).2 (fun k hk=>by simp[Value.ownBlock]at hk;exact hk.symm)
 exact((k0.then k1 (fun _ h=>.inl h)).then k2 (fun _ h=>.inl h)).then k3 (fun _ h=>.inl h)
theorem aN0{l:List Int}(hl:aM l){wx:World}{bx:Nat}(hz:wx.heap[bx]?=some bA){v:Value}(hv:Lies wx v (ints l))(hb:v.ownBlock=some bx):l=[]:=by
 rcases hv with⟨h0,-⟩|⟨b,off,cap,hp,he,-,hc⟩
 ·cases l with
  | nil=>rfl
  | cons a r=>simp[ints]at h0
 ·rw[he]at hb
  simp only[Value.ownBlock,Option.some.injEq]at hb
  subst hb
  cases l with
  | nil=>rfl
  | cons x r=>
   have h1:=hc 0 (.int .i64 x) rfl
   rw[Nat.add_zero]at h1
   have hx:=(hl.2 x (by simp)).1
   have hro:=cX (base:=0) hz (Nat.zero_le _)
   have hlt:off<4:=by
    unfold World.cell? at h1
    rw[hz]at h1
    rcases Nat.lt_or_ge off 4 with h|h
    ·exact h
    ·exfalso
     simp[bA]at h1
     rcases off with _|_|_|_|off
     ·omega
     ·omega
     ·omega
     ·omega
     ·simp at h1
   have h2:=hro.cellAt off (by simpa using hlt)
   rw[h1]at h2
   rcases off with _|_|_|_|off
   ·simp at h2;omega
   ·simp at h2
   ·simp at h2
   ·simp at h2;omega
   ·omega
theorem zL{base:Nat}{wx W:World}{bx n:Nat}{v:Value}{xs:List Value}(h:wx.ownsRow base 3 1 v n xs)(hz:wx.heap[bx]?=some bA)(ho:Only (fun k=>k=bx) wx W):W.ownsRow base 3 1 v n xs:=by
 refine aH h (fun g hg=>ho.block g (h.lt g hg).2 (fun e=>?_))
 subst e
 rcases h.2 with⟨h0,_⟩|⟨g',cap',cur,hv',_,hh,_⟩
 ·rw[h0]at hg;cases hg
 ·rw[hv']at hg
  simp only[Value.ownBlock,Option.some.injEq]at hg
  subst hg
  rw[hz]at hh
  unfold bA at hh
  simp at hh
theorem StepAt.box{base:Nat}{wx W:World}{m:Mem}{bx:Nat}{v:Value}{l:List Int}(h:StepAt base wx m v l)(hl:aM l)(hz:wx.heap[bx]?=some bA)(ho:Only (fun k=>k=bx) wx W):StepAt base W m v l:=by
 refine⟨?_,fun k hk=>⟨(h.apart k hk).1,Nat.lt_of_lt_of_le (h.apart k hk).2 ho.size⟩,h.low⟩
 have hv:=h.lies
 rcases hv with hv|⟨b,off,cap,hp,he,hb,hc⟩
 ·exact .inl hv
 ·refine .inr ⟨b,off,cap,hp,he,Nat.lt_of_lt_of_le hb ho.size,fun j x hx=>?_⟩
  rw[←hc j x hx]
  refine World.cell?_of_block (ho.block b hb (fun e=>?_))
  subst e
  have:=aN0 hl hz h.lies (by rw[he];rfl)
  subst this
  simp[ints]at hp
theorem RunOut.box{base:Nat}{w wx W:World}{m0 m:Mem}{G:List Nat}{A:List Int}{B:Int}{S:List (Bool×List Int)}{D:List Nat}{kind:Int}{vm vc:Value}{bx:Nat}(h:RunOut base w m0 G A B wx m S D kind vm vc)(hz:wx.heap[bx]?=some bA)(ho:Only (fun k=>k=bx) wx W)(hbx:w.heap.size<=bx)(hnf:¬foot m.rows bx):RunOut base w m0 G A B W m S D kind vm vc:=by
 have hp:=h.mu.at.pack
 have hpm:PMut base w m0.rows W m.rows:=⟨hp.keep (fun k hk=>ho.block k (hp.lt hk).2 (fun e=>hnf (e▸hk))),h.mu.to.only.then ho (fun k hk=>.inr (by omega)),h.mu.to.grows⟩
 refine⟨⟨hpm,h.mu.ws,h.mu.ls,h.mu.counts,h.mu.places,h.mu.s,h.mu.q,h.mu.qb⟩,⟨h.steps.n,?_⟩,h.chain,h.swf,h.most,h.conf0,h.confB,?_⟩
 ·obtain⟨vs,h1,h2,h3⟩:=h.steps.vs
  exact⟨vs,h1,h2,fun i v s hv hs=>(h3 i v s hv hs).box (h.swf s (List.mem_of_getElem? hs)) hz ho⟩
 ·rcases h.kinds with⟨h1,h2,b,h3,h4,h5,h6,h7⟩|⟨h1,h2,p,h3,h4,h5⟩|h1
  ·exact .inl ⟨h1,h2,b,h3,h4,h5,zL h6 hz ho,h7⟩
  ·exact .inr (.inl ⟨h1,h2,p,zL h3 hz ho,h4,h5⟩)
  ·exact .inr (.inr h1)
theorem RunOut.rebase{base:Nat}{w w2 W:World}{m0 m2 m:Mem}{G:List Nat}{A:List Int}{B:Int}{S:List (Bool×List Int)}{D:List Nat}{kind:Int}{vm vc:Value}(h:RunOut base w2 m2 G A B W m S D kind vm vc)(hm:Mut base w m0 w2 m2):RunOut base w m0 G A B W m S D kind vm vc:=by
 have hs:=hm.to.only.size
 refine⟨hm.trans h.mu,h.steps,h.chain,h.swf,h.most,h.conf0,h.confB,?_⟩
 rcases h.kinds with⟨h1,h2,b,h3,h4,h5,h6,h7⟩|⟨h1,h2,p,h3,h4,h5⟩|h1
 ·exact .inl ⟨h1,h2,b,h3,h4,h5,bC h6 hs,h7⟩
 ·exact .inr (.inl ⟨h1,h2,p,bC h3 hs,h4,h5⟩)
 ·exact .inr (.inr h1)
theorem RunI.init{base:Nat}{w wr:World}{m0 m:Mem}{G:List Nat}{cls:List Cl}{wat:Int->List Int}{tr:Tr}{A:List Int}{B:Int}(h:AAt base w m0 G wr m cls wat tr)(hb:m.broken=-1){w2:World}{u:Value}(hm:Mut base wr m w2 (m.asmSet u A)):RunI base w2 (m.asmSet u A) G A B w2 (m.asmSet u A) cls wat tr 0 [] []:=by
 have hlen:cls.length=G.length:=by have:=congrArg List.length h.masks;simpa [dL,dbOf] using this
 have hok:∀(c:Nat) cl,cls[c]?=some cl->WOK tr 0 cl.lits:=by
  rcases h.ok with⟨-,h2⟩|⟨h1,-⟩
  ·exact h2
  ·exact absurd hb h1
 have hnd:∀(i:Nat) (e:Int×Int),tr[i]?=some e->Go.Proofs.YtekkkoipcghlmaaGreatDoor.dec e=false:=fun i e hi=>rV h.zero hi
 refine⟨⟨Mut.refl hm.at,⟨h.rep.store,h.rep.order,h.rep.starts,h.rep.len,h.rep.taken,h.rep.free,h.rep.odr,h.rep.ordr⟩,h.watAt,⟨h.trok,h.wf,h.lists,hok,Nat.zero_le _,fun i _ _=>by have:=eX tr i;have:=h.zero;omega⟩,h.passed,h.heap,fun u a b _=>h.free u a b,⟨h.told.2,[],rfl,h.told.1,fun i v s hv=>by simp at hv⟩,⟨Chain.nil,by rw[List.append_nil];exact h.masks,?_,fun s hs=>by cases hs⟩,?_,?_⟩,?_,hb,rfl,DecI.of_zero hnd,?_,fun hB=>?_⟩
 ·have:(dbOf cls).drop G.length=[]:=List.drop_of_length_le (by unfold dbOf;rw[List.length_map];omega)
  rw[this];exact List.nodup_nil
 ·show m.given=_
  rw[h.given,←hlen,cS _ (Nat.le_refl _)]
 ·show(m.nsteps:Int)+_<=2*m.conflicts
  rw[h.told.2,h.rounds.2.2];simp
 ·show Rounds m.conflicts m.rlen m.rmet _
  rw[h.rounds.1,h.rounds.2.1,h.rounds.2.2]
  exact Rounds.begin _
 ·cases cls with
  | nil=>exact .inr rfl
  | cons a r=>left;simp at hlen;omega
 ·show m.conflicts<B
  rw[h.rounds.2.2];exact hB
theorem AAt.unsat{base:Nat}{w wr:World}{m0 m:Mem}{G:List Nat}{cls:List Cl}{wat:Int->List Int}{tr:Tr}{A:List Int}{B:Int}(h:AAt base w m0 G wr m cls wat tr)(hb:m.broken≠-1){w1 w2 w3:World}{u:Value}(hm:Mut base wr m w1 (m.asmSet u A))(hm2:Mut base w1 (m.asmSet u A) w2 ((m.asmSet u A).confSet 1))(hbe:Below w2.heap.size w2 w3)(hB:0<=B):RunOut base w1 (m.asmSet u A) G A B w3 ((m.asmSet u A).confSet 1) [] [] 2 (.slice none 0 0) (.slice none 0 0):=by
 obtain⟨c,cl,hc,hfalse⟩:∃(c:Nat) (cl:Cl),cls[c]?=some cl/\∀y,y∈cl.lits->Tru tr (-y):=by
  rcases h.ok with⟨h1,-⟩|⟨-,h2⟩
  ·exact absurd h1 hb
  ·exact h2
 have hf:=tS h.trok h.zero hc hfalse
 have hm3:=Mut.below hm2.at hbe
 refine⟨hm2.trans hm3,⟨h.told.2,[],rfl,h.told.1,fun i v s hv=>by simp at hv⟩,Chain.nil,fun s hs=>(by cases hs),by simp,by show(0:Int)<=1;omega,fun hB'=>by show(1:Int)<=B;omega,.inr (.inl ⟨rfl,rfl,fun _=>false,?_,fun k hk=>(by cases hk),?_⟩)⟩
 ·rw[List.filter_eq_nil_iff.2 (by simp)];exact cW _ _ _
 ·rw[List.filter_eq_nil_iff.2 (by simp),List.append_nil]
  refine hf.fol (aJ3 h.wf) (fun x hx=>by cases hx) (fun c hc=>?_)
  rw[←h.masks]
  exact List.mem_map.2 ⟨c,hc,rfl⟩
end Go.Proofs.YtekkkoipcghlmaaGreatDoor
