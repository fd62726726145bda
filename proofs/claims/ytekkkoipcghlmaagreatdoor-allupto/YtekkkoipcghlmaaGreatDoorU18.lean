import Derived.Test.YtekkkoipcghlmaaGreatDoorU17
set_option linter.all false
namespace Go.Proofs.YtekkkoipcghlmaaGreatDoor
open Go.RowKit
def Mem.core(m:Mem):(Int×Int×Int)×Int×Int×Value×List Int:=((m.rlen,m.rmet,m.given),m.broken,m.conflicts,m.asm,m.assumed)
def Mem.told(m:Mem):List Value×Nat×Value:=(m.steps,m.nsteps,m.sp)
theorem KeptL.core{a b:Mem}(h:KeptL a b):b.core=a.core/\b.told=a.told/\b.lists=a.lists/\b.passed=a.passed/\b.facts=a.facts:=by
 unfold KeptL at h;rw[h];exact⟨rfl,rfl,rfl,rfl,rfl⟩
theorem KeptG.core{a b:Mem}(h:KeptG a b):b.core=a.core/\b.told=a.told/\b.lists=a.lists/\b.store=a.store:=by
 unfold KeptG at h;rw[h];exact⟨rfl,rfl,rfl,rfl⟩
theorem KeptC.core{a b:Mem}(h:KeptC a b):b.core=a.core/\b.told=a.told/\b.lists=a.lists/\b.store=a.store/\b.passed=a.passed/\b.facts=a.facts:=by
 unfold KeptC at h;rw[h];exact⟨rfl,rfl,rfl,rfl,rfl,rfl⟩
theorem KeptQ.core{a b:Mem}(h:KeptQ a b):b.core=a.core/\b.told=a.told/\b.lists=a.lists/\b.store=a.store/\b.passed=a.passed/\b.facts=a.facts:=h.keptC.core
theorem KeptP.core{a b:Mem}(h:KeptP a b):b.core=a.core/\b.told=a.told/\b.all=a.all/\b.places=a.places:=by
 unfold KeptP at h;rw[h];exact⟨rfl,rfl,rfl,rfl⟩
def Free(m:Mem)(tr:Tr):Prop:=∀u:Nat,0<u->u<=12->(∀(i:Nat) (e:Int×Int),tr[i]?=some e->e.1.natAbs≠u)->(u:Int)∈m.all
theorem uS{cls:List Cl}{wat:Int->List Int}{tr:Tr}{n:Nat}{bad:Int}{f:Nat->Int}{DB:List (List Int)}{x0:Int}{rest rest':List Int}{lvl:Int}(h:Struck cls wat tr n bad)(hf:∀(j:Nat) (e:Int×Int),tr[j]?=some e->f e.1.natAbs=(lev tr j:Int))(ht:Taught DB tr (x0::rest))(hp:rest'.Perm rest)
  (hl:(rest'=[]/\lvl=0)∨∃y r,rest'=y::r/\lvl=f y.natAbs/\∀z,z∈r->f z.natAbs<=f y.natAbs) (hpos:0<levels tr):
  ∃L:Nat,lvl=(L:Int)/\L<levels tr/\∀s,(bB tr)[L]?=some s->(¬Tru (tr.take s) x0)/\(¬Tru (tr.take s) (-x0))/\(∀y,y∈rest'->Tru (tr.take s) (-y))/\(rest'=[]->levels (tr.take s)=0)/\∀b r,rest'=b::r->∀(j:Nat) (q:Int),(tr.take s)[j]?=some (-b,q)->levels (tr.take s)<=lev (tr.take s) j:=by
 obtain⟨p,rest1,i,r,he,hi,hlv,hr⟩:=ht.head
 simp only[List.cons.injEq]at he
 obtain⟨rfl,rfl⟩:=he
 have lv:∀z,z∈rest'->∃j q,tr[j]?=some (-z,q)/\f z.natAbs=(lev tr j:Int)/\lev tr j<levels tr:=fun z hz=>by
  obtain⟨j,q,hj,-,hlt⟩:=hr z (hp.mem_iff.1 hz)
  exact⟨j,q,hj,by have:=hf j _ hj;simpa using this,hlt⟩
 obtain⟨L,hL,hLlt,hle⟩:∃L:Nat,lvl=(L:Int)/\L<levels tr/\((∀z,z∈rest'->f z.natAbs<=(L:Int))/\(rest'=[]->L=0)/\∀b t,rest'=b::t->f b.natAbs=(L:Int)):=by
  rcases hl with⟨h1,h2⟩|⟨y,t,h1,h2,h3⟩
  ·subst h1
   exact⟨0,h2,hpos,fun z hz=>(by cases hz),fun _=>rfl,fun b t hb=>(by cases hb)⟩
  ·obtain⟨j,q,hj,hfj,hlt⟩:=lv y (by rw[h1];simp)
   refine⟨lev tr j,by rw[h2,hfj],hlt,fun z hz=>?_,fun h=>(by rw[h1]at h;cases h),fun b t' hb=>?_⟩
   ·rw[h1]at hz
    rcases List.mem_cons.1 hz with rfl|hz
    ·omega
    ·have:=h3 z hz;omega
   ·rw[h1]at hb
    simp only[List.cons.injEq]at hb
    rw[←hb.1];exact hfj
 refine⟨L,hL,hLlt,fun s hs=>?_⟩
 obtain⟨hslt,-,hls,-⟩:=cO hs
 have hcut:=jM hs
 have get:∀(j:Nat) (e:Int×Int),(tr.take s)[j]?=some e->j<s/\tr[j]?=some e:=by
  intro j e hj
  have hlt:=(List.getElem?_eq_some_iff.1 hj).1
  rw[List.length_take]at hlt
  rw[List.getElem?_take_of_lt (by omega)]at hj
  exact⟨by omega,hj⟩
 have hno:∀(j:Nat) (e:Int×Int),(tr.take s)[j]?=some e->e.1.natAbs≠p.natAbs:=by
  intro j e hj hn
  obtain⟨h1,h2⟩:=get j e hj
  have:=h.trok.one h2 hi (by simpa using hn)
  subst this
  have:=(hcut j).1 h1
  omega
 refine⟨?_,?_,fun y hy=>?_,fun h0=>by rw[hls];exact hle.2.1 h0,fun b t hb j q hj=>?_⟩
 ·rintro⟨j,q,hj⟩
  exact hno j _ hj (by simp)
 ·rintro⟨j,q,hj⟩
  exact hno j _ hj (by simp)
 ·obtain⟨j,q,hj,hfj,-⟩:=lv y hy
  have h1:=hle.1 y hy
  have hjs:j<s:=by
   rcases Nat.lt_or_ge j s with h|h
   ·exact h
   ·have:=(hcut j).2 h;omega
  exact⟨j,q,by rw[List.getElem?_take_of_lt hjs];exact hj⟩
 ·obtain⟨hjs,hj'⟩:=get j _ hj
  rw[hls,jD hjs]
  have h1:=hf j _ hj'
  have h2:=hle.2.2 b t hb
  simp at h1
  omega
structure LPure(cls0:List Cl)(wat:Int->List Int)(cls:List Cl)(tr:Tr)(x0:Int)(rest:List Int):Prop where
 db:dbOf cls=dbOf cls0
 still:Rest tr.length cls wat tr
 wf:aM (x0::rest)
 fol:FolI (dbOf cls0) (x0::rest)
 new:∀d,d∈dbOf cls0->¬∀x,x∈d↔x∈x0::rest
 open1:¬Tru tr x0
 open2:¬Tru tr (-x0)
 false_:∀y,y∈rest->Tru tr (-y)
 zero:rest=[]->levels tr=0
 high:∀b r,rest=b::r->∀(j:Nat) (q:Int),tr[j]?=some (-b,q)->levels tr<=lev tr j
structure LMem(base:Nat)(w:World)(m0:Mem)(wr:World)(m:Mem)(cls:List Cl)(tr:Tr)(wat:Int->List Int)(n:Nat)(sl:Value)(lits:List Int)(T:List Value×Nat×Value):Prop where
 em:EMut base w m0 [] wr m [aB sl lits]
 rep:Rep m cls tr
 heap:HeapOK m.all m.places
 free:Free m tr
 core:m.core=m0.core
 told:m.told=T
 watAt:eJ m wat
 passed:m.passed=(n:Int)
theorem aP6{x0:Int}{rest rest':List Int}(h:aM (x0::rest))(hp:rest'.Perm rest):aM (x0::rest'):=by
 have hpc:(x0::rest').Perm (x0::rest):=List.Perm.cons _ hp
 exact⟨(hpc.map _).nodup_iff.2 h.1,fun x hx=>h.2 x (hpc.mem_iff.1 hx)⟩
theorem LMem.of{base:Nat}{w w3 w4:World}{m0 m1:Mem}{cls0 cls1:List Cl}{wat:Int->List Int}{tr:Tr}{n L:Nat}{bad:Int}{sl:Value}{x0:Int}{rest rest':List Int}
  (hst:Struck cls0 wat tr n bad) (hW:eJ m0 wat) (hpa:m0.passed=(n:Int)+1) (hfree:Free m0 tr)
  (hR:Rep m1 cls1 tr) (hdb:dbOf cls1=dbOf cls0) (hall:∀v,v∈m1.all↔v∈m0.all) (hk:KeptL m0 m1) (hsz:m1.store.length=m0.store.length) (ht:Taught (dbOf cls0) tr (x0::rest)) (hp:rest'.Perm rest)
  (hLlt:L<levels tr) (hs:∀s,(bB tr)[L]?=some s->(¬Tru (tr.take s) x0)/\(¬Tru (tr.take s) (-x0))/\(∀y,y∈rest'->Tru (tr.take s) (-y))/\(rest'=[]->levels (tr.take s)=0)/\∀b r,rest'=b::r->∀(j:Nat) (q:Int),(tr.take s)[j]?=some (-b,q)->levels (tr.take s)<=lev (tr.take s) j)
  (hem:EMut base w m0 [] w3 m1 [aB sl (x0::rest')]) (hb:gW base w3 m1 cls1 tr L w4):∃m4 s,LPure cls0 wat cls1 (tr.take s) x0 rest'/\LMem base w m0 w4 m4 cls1 (tr.take s) wat (tr.take s).length sl (x0::rest') m0.told/\m4.store.length=m0.store.length:=by
 rcases hb with⟨h1,-⟩|⟨s,m4,hss,hm4,hr4,hh4,hal4,hk4,hp4⟩
 ·omega
 ·obtain⟨o1,o2,o3,o4,o5⟩:=hs s hss
  obtain⟨hsn,hrest⟩:=(hst.same hdb.symm).cut hss
  have hlen:(tr.take s).length=s:=by
   obtain⟨hlt,-⟩:=cO hss
   rw[List.length_take];omega
  obtain⟨c1,c2,c3,c4,c5⟩:=hk.core
  obtain⟨g1,g2,g3,g4⟩:=hk4.core
  have hpc:(x0::rest').Perm (x0::rest):=List.Perm.cons _ hp
  refine⟨m4,s,⟨hdb,by rw[hlen];exact hrest,aP6 ht.wf hp,ht.fol.weaken (fun x hx=>hpc.mem_iff.2 hx),fun d hd hsame=>?_,o1,o2,o3,o4,o5⟩,⟨hem.trans (EMut.call hem.eat hm4),hr4,hh4,fun u h0 h12 hn=>?_,g1.trans c1,g2.trans c2,fun l a b=>?_,?_⟩,by rw[g4];exact hsz⟩
  ·obtain⟨cl,hcl,rfl⟩:=List.mem_map.1 hd
   obtain⟨c,hc⟩:=List.getElem?_of_mem hcl
   exact hst.fresh ht hc (fun x=>(hsame x).trans hpc.mem_iff)
  ·rw[hal4]
   rcases Classical.em (∃(i:Nat) (e:Int×Int),s<=i/\tr[i]?=some e/\(u:Int)=(e.1.natAbs:Int))with h|h
   ·exact .inr h
   ·refine .inl ((hall _).2 (hfree u h0 h12 (fun i e hi he=>?_)))
    rcases Nat.lt_or_ge i s with hlt|hge
    ·exact hn i e (by rw[List.getElem?_take_of_lt hlt];exact hi) he
    ·exact h ⟨i,e,hge,hi,by omega⟩
  ·rw[g3,c3];exact hW l a b
  ·rw[hp4,c4,hpa,hlen];omega
end Go.Proofs.YtekkkoipcghlmaaGreatDoor
namespace Go.Proofs.YtekkkoipcghlmaaGreatDoor
open Go.RowKit
structure DU(old:List Cl)(ng:Nat)(tr0:Tr)(k:Nat)(new:List Cl)(tr:Tr):Prop where
 ngle:ng<=new.length
 given:new.take ng=old.take ng
 src:∀(c:Nat) cl,new[c]?=some cl->∃(c':Nat) (cl':Cl),old[c']?=some cl'/\cl'.lits=cl.lits
 len:tr.length=tr0.length
 fst:∀(i:Nat) e e0,tr[i]?=some e->tr0[i]?=some e0->e.1=e0.1
 done:∀(i:Nat) e e0 (c:Nat) cl,tr[i]?=some e->tr0[i]?=some e0->old[c]?=some cl->e0.2=(pos old c:Int)->c<ng+k->∃(c':Nat) (cl':Cl),new[c']?=some cl'/\e.2=(pos new c':Int)/\cl'.lits=cl.lits
 todo:∀(i:Nat) e e0 (c:Nat) cl,tr[i]?=some e->tr0[i]?=some e0->old[c]?=some cl->e0.2=(pos old c:Int)->ng+k<=c->e.2=e0.2
 room:(flat new).length<=pos old (ng+k)
 sub:((dbOf new).drop ng).Sublist (((dbOf old).take (ng+k)).drop ng)
 count:new.length<=ng+k
section
variable {old new:List Cl}{ng k:Nat}{tr0 tr:Tr}{cl:Cl}
theorem rV(h0:levels tr0=0){i:Nat}{e:Int×Int}(hi:tr0[i]?=some e):dec e=false:=vN hi (by have:=eX tr0 i;omega)
theorem dM{α:Type}{a b:List α}(h:a.length=b.length){i:Nat}{x:α}(hx:a[i]?=some x):∃y,b[i]?=some y:=by
 have:=(List.getElem?_eq_some_iff.1 hx).1
 exact⟨b[i]'(by omega),List.getElem?_eq_getElem _⟩
theorem aH9(cs:List Cl){i n:Nat}(h:i<=n):pos (cs.take n) i=pos cs i:=by unfold pos;rw[List.take_take,Nat.min_eq_left h]
theorem DU.begin(hng:ng<=old.length):DU old ng tr0 0 (old.take ng) tr0:=by
 refine⟨by rw[List.length_take];omega,by rw[List.take_take,Nat.min_self],fun c cl hc=>?_,rfl,fun i e e0 h1 h2=>by rw[h1]at h2;cases h2;rfl,fun i e e0 c cl h1 h2 hc hp hlt=>?_,fun i e e0 c cl h1 h2 _ _ _=>by rw[h1]at h2;cases h2;rfl,?_,?_,by rw[List.length_take];omega⟩
 ·have hlt:=(List.getElem?_eq_some_iff.1 hc).1
  rw[List.length_take]at hlt
  rw[List.getElem?_take_of_lt (by omega)]at hc
  exact⟨c,cl,hc,rfl⟩
 ·rw[h1]at h2
  cases h2
  exact⟨c,cl,by rw[List.getElem?_take_of_lt (by omega)];exact hc,by rw[aH9 _ (by omega)];exact hp,rfl⟩
 ·exact Nat.le_refl _
 ·have:(dbOf (old.take ng)).drop ng=[]:=by
   rw[List.drop_eq_nil_iff];unfold dbOf;rw[List.length_map,List.length_take];omega
  rw[this]
  exact List.nil_sublist _
theorem DU.reason(hT:TrOK old tr0)(h0:levels tr0=0){i:Nat}{e0:Int×Int}(hi:tr0[i]?=some e0):∃(c:Nat) (cl:Cl) (rest:List Int),old[c]?=some cl/\e0.2=(pos old c:Int)/\cl.lits=e0.1::rest/\∀y,y∈rest->∃j r,j<i/\tr0[j]?=some (-y,r):=hT.reason i e0 hi (rV h0 hi)
theorem DU.forced(h:DU old ng tr0 k new tr)(hT:TrOK old tr0)(h0:levels tr0=0)(hc:old[ng+k]?=some cl){x:Int}{rest:List Int}(hl:cl.lits=x::rest):(∃i:Nat,tr[i]?=some (x,(pos old (ng+k):Int)))↔∃(i:Nat) (e0:Int×Int),tr0[i]?=some e0/\e0.2=(pos old (ng+k):Int):=by
 have hck:=(List.getElem?_eq_some_iff.1 hc).1
 constructor
 ·rintro⟨i,hi⟩
  obtain⟨e0,he0⟩:=dM h.len hi
  refine⟨i,e0,he0,?_⟩
  obtain⟨c0,cl0,rest0,g1,g2,g3,-⟩:=DU.reason hT h0 he0
  rcases Nat.lt_or_ge c0 (ng+k)with hlt|hge
  ·obtain⟨c',cl',d1,d2,-⟩:=h.done i _ e0 c0 cl0 hi he0 g1 g2 hlt
   have hlt':=(List.getElem?_eq_some_iff.1 d1).1
   have:=eK new c' hlt'
   have:=h.room
   simp only at d2
   omega
  ·exact(h.todo i _ e0 c0 cl0 hi he0 g1 g2 hge).symm
 ·rintro⟨i,e0,he0,hp⟩
  obtain⟨e,he⟩:=dM h.len.symm he0
  have h2:=h.todo i e e0 _ cl he he0 hc hp (Nat.le_refl _)
  have h1:=h.fst i e e0 he he0
  obtain⟨c0,cl0,rest0,g1,g2,g3,-⟩:=DU.reason hT h0 he0
  have hcc:c0=ng+k:=dW old (List.getElem?_eq_some_iff.1 g1).1 hck (by rw[hp]at g2;omega)
  subst hcc
  rw[hc]at g1
  cases g1
  rw[hl]at g3
  simp only[List.cons.injEq]at g3
  refine⟨i,?_⟩
  rw[he]
  congr 1
  exact Prod.ext (by rw[h1,←g3.1]) (by rw[h2,hp])
theorem jS{α:Type}{l:List α}{x:α}{n:Nat}(h:n<=l.length):(l++[x]).drop n=l.drop n++[x]:=by rw[List.drop_append_of_le_length h]
theorem pI(hc:old[ng+k]?=some cl):((dbOf old).take (ng+(k+1))).drop ng=((dbOf old).take (ng+k)).drop ng++[cl.lits]:=by
 have hck:=(List.getElem?_eq_some_iff.1 hc).1
 have hd:ng+k<(dbOf old).length:=by unfold dbOf;rw[List.length_map];exact hck
 have he:(dbOf old)[ng+k]=cl.lits:=by
  have:(dbOf old)[ng+k]?=some cl.lits:=by unfold dbOf;rw[List.getElem?_map,hc];rfl
  rw[List.getElem?_eq_getElem hd]at this
  simpa using this
 rw[show ng+(k+1)=ng+k+1 from by omega,List.take_succ_eq_append_getElem hd,he,jS (by rw[List.length_take];omega)]
theorem gQ(hc:old[ng+k]?=some cl):pos old (ng+(k+1))=pos old (ng+k)+cl.lits.length+2:=by
 have hck:=(List.getElem?_eq_some_iff.1 hc).1
 have:old[ng+k]=cl:=by rw[List.getElem?_eq_getElem hck]at hc;simpa using hc
 rw[show ng+(k+1)=ng+k+1 from by omega,fR old _ hck,this]
theorem jP(a:List Cl)(c:Cl):dbOf (a++[c])=dbOf a++[c.lits]:=by simp[dbOf]
theorem DU.drop(h:DU old ng tr0 k new tr)(hc:old[ng+k]?=some cl)(hn:¬∃(i:Nat) (e0:Int×Int),tr0[i]?=some e0/\e0.2=(pos old (ng+k):Int)):DU old ng tr0 (k+1) new tr:=by
 have hck:=(List.getElem?_eq_some_iff.1 hc).1
 refine⟨h.ngle,h.given,h.src,h.len,h.fst,fun i e e0 c d h1 h2 h3 h4 h5=>?_,fun i e e0 c d h1 h2 h3 h4 h5=>h.todo i e e0 c d h1 h2 h3 h4 (by omega),?_,?_,by have:=h.count;omega⟩
 ·rcases Nat.lt_or_ge c (ng+k)with hlt|hge
  ·exact h.done i e e0 c d h1 h2 h3 h4 hlt
  ·have:c=ng+k:=by omega
   subst this
   exact absurd ⟨i,e0,h2,h4⟩ hn
 ·rw[gQ hc];have:=h.room;omega
 ·rw[pI hc]
  exact h.sub.trans (List.sublist_append_left _ _)
theorem DU.snoc_src(h:DU old ng tr0 k new tr)(hc:old[ng+k]?=some cl):∀(c:Nat) d,(new++[⟨false,cl.lits⟩])[c]?=some d->∃(c':Nat) (d':Cl),old[c']?=some d'/\d'.lits=d.lits:=by
 intro c d hd
 by_cases hlt:c<new.length
 ·rw[List.getElem?_append_left hlt]at hd;exact h.src c d hd
 ·have hlt':=(List.getElem?_eq_some_iff.1 hd).1
  simp at hlt'
  have:c=new.length:=by omega
  subst this
  simp at hd
  subst hd
  exact⟨_,cl,hc,rfl⟩
theorem DU.up(h:DU old ng tr0 k new tr){c':Nat}{d' e:Cl}(hc:new[c']?=some d'):(new++[e])[c']?=some d'/\pos (new++[e]) c'=pos new c':=by
 have hlt:=(List.getElem?_eq_some_iff.1 hc).1
 exact⟨by rw[List.getElem?_append_left hlt];exact hc,bQ _ _ (by omega)⟩
theorem DU.keep(h:DU old ng tr0 k new tr)(hc:old[ng+k]?=some cl)(hn:¬∃(i:Nat) (e0:Int×Int),tr0[i]?=some e0/\e0.2=(pos old (ng+k):Int)):DU old ng tr0 (k+1) (new++[⟨false,cl.lits⟩]) tr:=by
 have hck:=(List.getElem?_eq_some_iff.1 hc).1
 refine⟨by rw[List.length_append];have:=h.ngle;omega,by rw[List.take_append_of_le_length h.ngle];exact h.given,h.snoc_src hc,h.len,h.fst,fun i e e0 c d h1 h2 h3 h4 h5=>?_,fun i e e0 c d h1 h2 h3 h4 h5=>h.todo i e e0 c d h1 h2 h3 h4 (by omega),?_,?_,by have:=h.count;simp;omega⟩
 ·rcases Nat.lt_or_ge c (ng+k)with hlt|hge
  ·obtain⟨c',d',g1,g2,g3⟩:=h.done i e e0 c d h1 h2 h3 h4 hlt
   obtain⟨u1,u2⟩:=h.up (e:=⟨false,cl.lits⟩) g1
   exact⟨c',d',u1,by rw[u2];exact g2,g3⟩
  ·have:c=ng+k:=by omega
   subst this
   exact absurd ⟨i,e0,h2,h4⟩ hn
 ·rw[gQ hc,cD,dI,fT,List.append_nil,List.length_append,Cl.cells_len]
  have:=h.room
  simp only
  omega
 ·rw[pI hc,jP,jS (by unfold dbOf;rw[List.length_map];exact h.ngle)]
  exact List.Sublist.append h.sub (List.Sublist.refl _)
theorem DU.move(h:DU old ng tr0 k new tr)(hT:TrOK old tr0)(h0:levels tr0=0)(hc:old[ng+k]?=some cl){i:Nat}{x:Int}(hi:tr[i]?=some (x,(pos old (ng+k):Int))):DU old ng tr0 (k+1) (new++[⟨false,cl.lits⟩]) (tr.set i (x,((flat new).length:Int))):=by
 have hck:=(List.getElem?_eq_some_iff.1 hc).1
 have hil:=(List.getElem?_eq_some_iff.1 hi).1
 obtain⟨f0,hf0⟩:=dM h.len hi
 have hfp:f0.2=(pos old (ng+k):Int):=by
  obtain⟨c0,cl0,rest0,g1,g2,g3,-⟩:=DU.reason hT h0 hf0
  rcases Nat.lt_or_ge c0 (ng+k)with hlt|hge
  ·obtain⟨c',cl',d1,d2,-⟩:=h.done i _ f0 c0 cl0 hi hf0 g1 g2 hlt
   have hlt':=(List.getElem?_eq_some_iff.1 d1).1
   have:=eK new c' hlt'
   have:=h.room
   simp only at d2
   omega
  ·exact(h.todo i _ f0 c0 cl0 hi hf0 g1 g2 hge).symm
 have one:∀(j:Nat) (g0:Int×Int),tr0[j]?=some g0->g0.2=(pos old (ng+k):Int)->j=i:=by
  intro j g0 hj hg
  obtain⟨c1,cl1,r1,a1,a2,a3,-⟩:=DU.reason hT h0 hj
  obtain⟨c2,cl2,r2,b1,b2,b3,-⟩:=DU.reason hT h0 hf0
  have e1:c1=ng+k:=dW old (List.getElem?_eq_some_iff.1 a1).1 hck (by omega)
  have e2:c2=ng+k:=dW old (List.getElem?_eq_some_iff.1 b1).1 hck (by omega)
  subst e1
  subst e2
  rw[a1]at b1
  cases b1
  rw[a3]at b3
  simp only[List.cons.injEq]at b3
  exact hT.one hj hf0 (by rw[b3.1])
 refine⟨by rw[List.length_append];have:=h.ngle;omega,by rw[List.take_append_of_le_length h.ngle];exact h.given,h.snoc_src hc,by rw[List.length_set];exact h.len,fun j e e0 h1 h2=>?_,fun j e e0 c d h1 h2 h3 h4 h5=>?_,fun j e e0 c d h1 h2 h3 h4 h5=>?_,?_,?_,by have:=h.count;simp;omega⟩
 ·rcases eE h1 with⟨rfl,_,rfl⟩|⟨_,h1⟩
  ·exact(h.fst _ (x,(pos old (ng+k):Int)) e0 hi h2:x=e0.1)
  ·exact h.fst j e e0 h1 h2
 ·rcases eE h1 with⟨rfl,_,rfl⟩|⟨hne,h1⟩
  ·rw[hf0]at h2
   cases h2
   have:c=ng+k:=dW old (List.getElem?_eq_some_iff.1 h3).1 hck (by omega)
   subst this
   rw[hc]at h3
   cases h3
   exact⟨new.length,⟨false,cl.lits⟩,by simp,by rw[bQ _ _ (Nat.le_refl _),cS _ (Nat.le_refl _)],rfl⟩
  ·rcases Nat.lt_or_ge c (ng+k)with hlt|hge
   ·obtain⟨c',d',g1,g2,g3⟩:=h.done j e e0 c d h1 h2 h3 h4 hlt
    obtain⟨u1,u2⟩:=h.up (e:=⟨false,cl.lits⟩) g1
    exact⟨c',d',u1,by rw[u2];exact g2,g3⟩
   ·have:c=ng+k:=by omega
    subst this
    exact absurd (one j e0 h2 h4) hne
 ·rcases eE h1 with⟨rfl,_,rfl⟩|⟨hne,h1⟩
  ·rw[hf0]at h2
   cases h2
   have:c=ng+k:=dW old (List.getElem?_eq_some_iff.1 h3).1 hck (by omega)
   omega
  ·exact h.todo j e e0 c d h1 h2 h3 h4 (by omega)
 ·rw[gQ hc,cD,dI,fT,List.append_nil,List.length_append,Cl.cells_len]
  have:=h.room
  simp only
  omega
 ·rw[pI hc,jP,jS (by unfold dbOf;rw[List.length_map];exact h.ngle)]
  exact List.Sublist.append h.sub (List.Sublist.refl _)
theorem DU.level(h:DU old ng tr0 k new tr)(hT:TrOK old tr0)(h0:levels tr0=0):∀(i:Nat) (e:Int×Int),tr[i]?=some e->dec e=false:=by
 intro i e hi
 obtain⟨e0,he0⟩:=dM h.len hi
 obtain⟨c0,cl0,rest0,g1,g2,g3,-⟩:=DU.reason hT h0 he0
 rcases Nat.lt_or_ge c0 (ng+k)with hlt|hge
 ·obtain⟨c',cl',-,d2,-⟩:=h.done i _ e0 c0 cl0 hi he0 g1 g2 hlt
  simp[dec,d2]
 ·have:=h.todo i _ e0 c0 cl0 hi he0 g1 g2 hge
  simp[dec,this,g2]
theorem eL(h:∀(i:Nat) (e:Int×Int),tr[i]?=some e->dec e=false):levels tr=0:=by
 unfold levels
 rw[List.length_eq_zero_iff,List.filter_eq_nil_iff]
 intro e he
 obtain⟨i,hi⟩:=List.getElem?_of_mem he
 rw[h i e hi]
 simp
theorem DU.trok(h:DU old ng tr0 k new tr)(hT:TrOK old tr0)(h0:levels tr0=0)(hk:old.length<=ng+k):TrOK new tr:=by
 have hfst:tr.map (fun e=>e.1.natAbs)=tr0.map (fun e=>e.1.natAbs):=by
  apply List.ext_getElem?
  intro i
  rw[List.getElem?_map,List.getElem?_map]
  cases hi:tr[i]? with
  | none=>
   have:tr0[i]?=none:=by
    rw[List.getElem?_eq_none_iff]at hi⊢
    have:=h.len;omega
   rw[this]
  | some e=>
   obtain⟨e0,he0⟩:=dM h.len hi
   rw[he0]
   simp[h.fst i e e0 hi he0]
 refine⟨by rw[hfst];exact hT.vars,fun i e hi=>?_,fun i e hi _=>?_⟩
 ·obtain⟨e0,he0⟩:=dM h.len hi
  rw[h.fst i e e0 hi he0]
  exact hT.bd i e0 he0
 ·obtain⟨e0,he0⟩:=dM h.len hi
  obtain⟨c0,cl0,rest0,g1,g2,g3,g4⟩:=DU.reason hT h0 he0
  have hlt:=(List.getElem?_eq_some_iff.1 g1).1
  obtain⟨c',cl',d1,d2,d3⟩:=h.done i e e0 c0 cl0 hi he0 g1 g2 (by omega)
  refine⟨c',cl',rest0,d1,d2,by rw[d3,g3,h.fst i e e0 hi he0],fun y hy=>?_⟩
  obtain⟨j,r,hj,hjr⟩:=g4 y hy
  obtain⟨f,hf⟩:=dM h.len.symm hjr
  refine⟨j,f.2,hj,?_⟩
  rw[hf]
  congr 1
  exact Prod.ext (h.fst j f (-y,r) hf hjr) rfl
theorem DU.lev(h:DU old ng tr0 k new tr)(hT:TrOK old tr0)(h0:levels tr0=0)(i:Nat):lev tr i=0/\lev tr0 i=0:=by
 have h1:=eL (h.level hT h0)
 have h2:=eX tr i
 have h3:=eX tr0 i
 omega
theorem DU.tru(h:DU old ng tr0 k new tr){i:Nat}{x:Int}:(∃r,tr[i]?=some (x,r))↔∃r,tr0[i]?=some (x,r):=by
 constructor
 ·rintro⟨r,hr⟩
  obtain⟨e0,he0⟩:=dM h.len hr
  exact⟨e0.2,by rw[he0];congr 1;exact Prod.ext (h.fst i _ e0 hr he0).symm rfl⟩
 ·rintro⟨r,hr⟩
  obtain⟨e,he⟩:=dM h.len.symm hr
  exact⟨e.2,by rw[he];congr 1;exact Prod.ext (h.fst i e (x,r) he hr) rfl⟩
theorem DU.wok(h:DU old ng tr0 k new tr)(hT:TrOK old tr0)(h0:levels tr0=0){n:Nat}{l:List Int}(hw:WOK tr0 n l):WOK tr n l:=by
 have wat:∀{a b:Int},Watch tr0 n a b->Watch tr n a b:=fun {a b} hw i r hi hr=>by
  obtain⟨r0,hr0⟩:=h.tru.1 ⟨r,hr⟩
  obtain⟨j,s,hj,-⟩:=hw i r0 hi hr0
  obtain⟨s',hs'⟩:=h.tru.2 ⟨s,hj⟩
  exact⟨j,s',hs',by rw[(h.lev hT h0 j).1];omega⟩
 rcases hw with⟨x,h1,j,r,hj,-⟩|⟨a,b,r,h1,h2,h3⟩
 ·obtain⟨r',hr'⟩:=h.tru.2 ⟨r,hj⟩
  exact .inl ⟨x,h1,j,r',hr',(h.lev hT h0 j).1⟩
 ·exact .inr ⟨a,b,r,h1,wat h2,wat h3⟩
theorem DU.rest(h:DU old ng tr0 k new tr){wat0 wat:Int->List Int}{n:Nat}(hR:Rest n old wat0 tr0)(h0:levels tr0=0)(hk:old.length<=ng+k)(hl:∀l,(wat l).Nodup/\∀p,p∈wat l↔Watcher new l p):Rest n new wat tr:=by
 refine⟨h.trok hR.trok h0 hk,fun c d hc=>?_,hl,fun c d hc=>?_,by rw[h.len];exact hR.le,fun i _ _=>?_⟩
 ·obtain⟨c',d',g1,g2⟩:=h.src c d hc
  rw[←g2];exact hR.wf c' d' g1
 ·obtain⟨c',d',g1,g2⟩:=h.src c d hc
  rw[←g2];exact h.wok hR.trok h0 (hR.ok c' d' g1)
 ·rw[(h.lev hR.trok h0 i).1,eL (h.level hR.trok h0)]
end
end Go.Proofs.YtekkkoipcghlmaaGreatDoor
namespace Go.Proofs.YtekkkoipcghlmaaGreatDoor
open Go.RowKit
theorem aF6{a b:List Int}(h:∀x,x∈a↔x∈b):Sp.maskOf a=Sp.maskOf b:=by
 apply Nat.eq_of_testBit_eq
 intro i
 rw[Sp.maskOf_testBit,Sp.maskOf_testBit,Bool.eq_iff_iff,List.any_eq_true,List.any_eq_true]
 constructor
 ·rintro⟨x,hx,e⟩;exact⟨x,(h x).1 hx,e⟩
 ·rintro⟨x,hx,e⟩;exact⟨x,(h x).2 hx,e⟩
theorem aH8{l:List Int}(h:aM l)(hn:l≠[]):Sp.maskOf l≠0:=by
 cases l with
 | nil=>exact absurd rfl hn
 | cons x r=>
  intro h0
  have:=(gS (fun y hy=>(h.2 y hy).1) (h.2 x (by simp)).1).2 (by simp:x∈x::r)
  rw[h0]at this
  simp at this
def Chain(G:List Nat)(s:List (Bool×Nat))(D:List Nat):Prop:=
 ∀P:List (Bool×Nat)->List Nat->Prop,P [] []->(∀s D r,P s D->Sp.Fol (G++D) r->r≠0->P (s++[(false,r)]) (D++[r]))->(∀s A B r,P s (A++r::B)->P (s++[(true,r)]) (A++B))->P s D
theorem Chain.nil{G:List Nat}:Chain G [] []:=fun _ h _ _=>h
theorem Chain.learn{G:List Nat}{s:List (Bool×Nat)}{D:List Nat}{r:Nat}(h:Chain G s D)(hf:Sp.Fol (G++D) r)(hr:r≠0):Chain G (s++[(false,r)]) (D++[r]):=fun P h1 h2 h3=>h2 _ _ _ (h P h1 h2 h3) hf hr
theorem Chain.go{G:List Nat}{s:List (Bool×Nat)}{A B:List Nat}{r:Nat}(h:Chain G s (A++r::B)):Chain G (s++[(true,r)]) (A++B):=fun P h1 h2 h3=>h3 _ _ _ _ (h P h1 h2 h3)
def bH(S:List (Bool×List Int)):List (Bool×Nat):=S.map (fun x=>(x.1,Sp.maskOf x.2))
theorem iW(S:List (Bool×List Int))(x:Bool×List Int):bH (S++[x])=bH S++[(x.1,Sp.maskOf x.2)]:=by simp[bH]
def dL(cls:List Cl):List Nat:=(dbOf cls).map Sp.maskOf
structure Told(G:List Nat)(cls:List Cl)(S:List (Bool×List Int))(D:List Nat):Prop where
 chain:Chain G (bH S) D
 masks:dL cls=G++D
 codes:(((dbOf cls).drop G.length).map code).Nodup
 swf:∀s,s∈S->aM s.2
section
variable {G D:List Nat}{cls cls':List Cl}{S:List (Bool×List Int)}
theorem Told.len(h:Told G cls S D):cls.length=G.length+D.length:=by
 have:=congrArg List.length h.masks
 simpa [dL,dbOf] using this
theorem Told.learnt(h:Told G cls S D):D.length<=531441:=by
 have h1:=aD0 h.codes
 have h2:=h.len
 rw[List.length_drop]at h1
 unfold dbOf at h1
 rw[List.length_map]at h1
 omega
theorem Told.small(h:Told G cls S D)(hwf:∀(c:Nat) cl,cls[c]?=some cl->aM cl.lits)(hG:G.length<=100000):(flat cls).length<=8900000:=by
 have h1:=xS hwf
 have h2:=h.len
 have h3:=h.learnt
 omega
theorem SameCl.map{α:Type}(f:List Int->α)(hf:∀a b:List Int,a.Perm b->f a=f b){a b:List Cl}(h:SameCl a b):(dbOf a).map f=(dbOf b).map f:=by
 apply List.ext_getElem?
 intro i
 unfold dbOf
 rw[List.getElem?_map,List.getElem?_map,List.getElem?_map,List.getElem?_map]
 cases hi:b[i]? with
 | none=>
  have:a[i]?=none:=by
   rw[List.getElem?_eq_none_iff]at hi⊢
   have:=h.1;omega
  rw[this]
 | some y=>
  obtain⟨x,hx,-,hp⟩:=h.get hi
  rw[hx]
  simp[hf _ _ hp]
theorem Told.same(h:Told G cls S D)(hs:SameCl cls cls'):Told G cls' S D:=by
 refine⟨h.chain,?_,?_,h.swf⟩
 ·unfold dL
  rw[←hs.map Sp.maskOf (fun a b hp=>aF6 (fun x=>hp.mem_iff))]
  exact h.masks
 ·rw[List.map_drop,←hs.map code (fun a b hp=>aC5 (fun x=>hp.mem_iff)),←List.map_drop]
  exact h.codes
theorem Told.learn(h:Told G cls S D){lits:List Int}(hdb:dbOf cls'=dbOf cls++[lits])(hwf:∀(c:Nat) cl,cls[c]?=some cl->aM cl.lits)(hl:aM lits)(hn:lits≠[])(hf:FolI (dbOf cls) lits)(hnew:∀d,d∈dbOf cls->¬∀x,x∈d↔x∈lits):Told G cls' (S++[(false,lits)]) (D++[Sp.maskOf lits]):=by
 have wfm:∀d,d∈dbOf cls->aM d:=fun d hd=>by
  obtain⟨cl,hcl,rfl⟩:=List.mem_map.1 hd
  obtain⟨c,hc⟩:=List.getElem?_of_mem hcl
  exact hwf c cl hc
 refine⟨?_,?_,?_,fun s hs=>?_⟩
 rotate_right
 ·rcases List.mem_append.1 hs with h'|h'
  ·exact h.swf s h'
  ·simp at h';subst h';exact hl
 ·rw[iW]
  refine Chain.learn h.chain (hf.fol (fun c hc x hx=>((wfm c hc).2 x hx).1) (fun x hx=>(hl.2 x hx).1) (fun c hc=>?_)) (aH8 hl hn)
  rw[←h.masks]
  exact List.mem_map.2 ⟨c,hc,rfl⟩
 ·unfold dL
  rw[hdb,List.map_append,←List.append_assoc,←h.masks]
  rfl
 ·have hlen:G.length<=(dbOf cls).length:=by have:=h.len;unfold dbOf;rw[List.length_map];omega
  rw[hdb,List.drop_append_of_le_length hlen,List.map_append,List.nodup_append]
  refine⟨h.codes,by simp,?_⟩
  rintro a ha b hb rfl
  simp at hb
  obtain⟨d,hd,hda⟩:=List.mem_map.1 ha
  have hd':=List.mem_of_mem_drop hd
  have e:code d=code lits:=by rw[hda,hb]
  exact hnew d hd' (fun x=>⟨fun hx=>wS (wfm d hd') e hx,fun hx=>wS hl e.symm hx⟩)
end
structure StepAt(base:Nat)(w:World)(m:Mem)(v:Value)(l:List Int):Prop where
 lies:Lies w v (ints l)
 apart:∀k,v.ownBlock=some k->¬foot m.rows k/\k<w.heap.size
 low:∀k,v.ownBlock=some k->base<=k
theorem StepAt.keep{base:Nat}{w w':World}{m m':Mem}{v:Value}{l:List Int}(h:StepAt base w m v l)(hm:PMut base w m.rows w' m'.rows):StepAt base w' m' v l:=by
 refine⟨hm.lies h.lies (fun k hk=>(h.apart k hk).1),fun k hk=>?_,h.low⟩
 obtain⟨h1,h2⟩:=h.apart k hk
 refine⟨fun hf=>?_,Nat.lt_of_lt_of_le h2 hm.only.size⟩
 rcases hm.grows k hf with h3|h3
 ·exact h1 h3
 ·omega
structure StepsAt(base:Nat)(w:World)(m:Mem)(S:List (Bool×List Int)):Prop where
 n:m.nsteps=S.length
 vs:∃vs:List Value,vs.length=S.length/\m.steps=(vs.zip S).flatMap (fun x=>[x.1,.bool x.2.1])/\∀(i:Nat) v s,vs[i]?=some v->S[i]?=some s->StepAt base w m v s.2
theorem StepsAt.keep{base:Nat}{w w':World}{m m':Mem}{S:List (Bool×List Int)}(h:StepsAt base w m S)(hm:PMut base w m.rows w' m'.rows)(ht:m'.told=m.told):StepsAt base w' m' S:=by
 obtain⟨vs,h1,h2,h3⟩:=h.vs
 have e1:m'.steps=m.steps:=congrArg (fun x=>x.1) ht
 have e2:m'.nsteps=m.nsteps:=congrArg (fun x=>x.2.1) ht
 exact⟨by rw[e2];exact h.n,vs,h1,by rw[e1];exact h2,fun i v s hv hs=>(h3 i v s hv hs).keep hm⟩
theorem StepsAt.add{base:Nat}{w w':World}{m m':Mem}{S:List (Bool×List Int)}(h:StepsAt base w m S)(hm:PMut base w m.rows w' m'.rows){v:Value}{b:Bool}{l:List Int}(hn:m'.nsteps=m.nsteps+1)(hs:m'.steps=m.steps++[v,.bool b])(hv:StepAt base w' m' v l):StepsAt base w' m' (S++[(b,l)]):=by
 obtain⟨vs,h1,h2,h3⟩:=h.vs
 refine⟨by rw[hn,h.n];simp,vs++[v],by simp[h1],?_,fun i u s hu hs'=>?_⟩
 ·rw[hs,h2,List.zip_append h1]
  simp
 ·by_cases hi:i<vs.length
  ·rw[List.getElem?_append_left hi]at hu
   rw[List.getElem?_append_left (by omega)]at hs'
   exact(h3 i u s hu hs').keep hm
  ·have hl:=(List.getElem?_eq_some_iff.1 hu).1
   simp at hl
   have:i=vs.length:=by omega
   subst this
   simp at hu
   rw[h1]at hs'
   simp at hs'
   subst hu
   subst hs'
   exact hv
end Go.Proofs.YtekkkoipcghlmaaGreatDoor
