import Derived.Test.YtekkkoipcghlmaaGreatDoorU18
import Derived.Test.YtekkkoipcghlmaaGreatDoorU05
set_option linter.all false
namespace Go.Proofs.YtekkkoipcghlmaaGreatDoor
open Go.RowKit
theorem Tryz.infoStep:(Tryz.prog.info? 131).map (fun i=>(i.zero,i.size,i.bytes))=some (some (.agg #[.slice none 0 0,.bool false]),2,32):=by kernel_rfl
theorem mX{P:Program}{e:TypeId}{z:Value}{k bytes:Nat}(h:(P.info? e).map (fun i=>(i.zero,i.size,i.bytes))=some (some z,k,bytes)):∃i,P.info? e=some i/\i.zero=some z/\i.size=k/\i.bytes=bytes:=by
 cases hi:P.info? e with
 | none=>rw[hi]at h;cases h
 | some i=>
  rw[hi]at h
  simp at h
  exact⟨i,rfl,h.1,h.2.1,h.2.2⟩
theorem mY{P:Program}{ops:Array Oper}{rest:List Oper}{o:Oper}{a:Act}{Q:Exit->Act->World->Prop}{w1:World}{base n bytes:Nat}{v val val2 z:Value}{xs:List Value}{tt:TypeId}
  (hgd:o.guard=none) (s x:Operand) (t e:TypeId) (ho:o.op=.call { callee:=.builtin .append,args:=#[s,x],argTypes:=#[t,t] })
  (ht:P.underlying t=some (.slice e)) (hinfo:(P.info? e).map (fun i=>(i.zero,i.size,i.bytes))=some (some z,2,bytes)) (hzs:z.cells.size=2) (hby:bytes<=32)
  (hown:w1.ownsRow base e 2 v n xs) (hs:a.eval s=v) (hx:a.eval x=.slice (some ⟨w1.heap.size,0,none⟩) 1 1) (h1:val.oneCell'=true) (h2:val2.oneCell'=true) (hn:n<=20000000) (hbase:base<=w1.heap.size)
  (h:∀(g cap:Nat) (w':World),w'.ownsRow base e 2 (.slice (some ⟨g,0,none⟩) (n+1) cap) (n+1) (xs++[val,val2])->(w1.alloc (.cells #[val,val2] tt)).grownBy w' v.ownBlock->(v.ownBlock=some g∨g=(w1.alloc (.cells #[val,val2] tt)).heap.size)->wpList P ops Q rest (a.put o.dst (.slice (some ⟨g,0,none⟩) (n+1) cap)) w'):
  wpList P ops Q (o::rest) a (w1.alloc (.cells #[val,val2] tt)):=by
 obtain⟨i0,hi0,hz0,hz1,hz2⟩:=mX hinfo
 have hnb:(n+1)*bytes<=140737488355328:=Nat.le_trans (Nat.mul_le_mul (Nat.add_le_add_right hn 1) hby) (by omega)
 refine wpList_append_lies (P:=P) _ hgd s x t ho base e i0 _ 2 bytes ht hi0 hz0 hz1 hz2 hzs (by decide) v n xs hs (hown.alloc _) ⟨w1.heap.size,0,none⟩ 1 1 [val,val2] hx rfl (World.news_of_block (heap_alloc_new w1 _)) ?_ (by decide) (by unfold maxLen;omega) hnb (by simp;omega) _ rfl ?_
 ·intro u hu
  simp at hu
  rcases hu with rfl|rfl
  ·exact h1
  ·exact h2
 ·intro g cap w' h1 h2 h3 _
  exact h g cap w' h1 h2 h3
section
variable {base:Nat}{w w':World}{m:Mem}
def Mem.stepped(m:Mem)(v:Value)(l:List Value)(n:Nat):Mem:={ m with sp:=v,steps:=l,nsteps:=n }
theorem Mut.steps(h:SAt base w m){w4:World}{g cap n:Nat}{l:List Value}(hown:w4.ownsRow base 131 2 (.slice (some ⟨g,0,none⟩) n cap) n l){wz:World}(hz:Below w.heap.size w wz)(hgr:wz.grownBy w4 m.sp.ownBlock)(hloc:m.sp.ownBlock=some g∨g=wz.heap.size):
  Mut base w m (w4.setCell ⟨m.s,14,none⟩ (.slice (some ⟨g,0,none⟩) n cap)) (m.stepped (.slice (some ⟨g,0,none⟩) n cap) l n)/\w4.cell? ⟨m.s,14,none⟩=some m.sp/\w4.frozen? ⟨m.s,14,none⟩=false:=by
 have h1:=PMut.below h.pack hz
 have hzs:=hz.size
 have h2:=PMut.row h1.pack (i:=12) (r':=⟨131,2,.slice (some ⟨g,0,none⟩) n cap,n,l⟩) rfl hown hgr (by
  rcases hloc with h|h
  ·exact .inr (.inl h.symm)
  ·exact .inr (.inr ⟨g,rfl,by omega⟩))
 have h3:=PMut.store h2.pack (i:=0) rfl rfl 14 (.slice (some ⟨g,0,none⟩) n cap)
 refine⟨⟨?_,h.ws,h.ls,h.counts,h.places,rfl,rfl,rfl⟩,?_,?_⟩
 ·exact h1.trans (h2.trans h3)
 ·exact World.ownsRow.cellAt (h2.pack.rows 0 _ rfl) 14 (by simp[aI,Mem.sCells])
 ·exact World.ownsRow.frozenAt (h2.pack.rows 0 _ rfl) 14
theorem EAt.beside{v:Value}{l:List Int}(h:EAt base w m [aB v l]):StepAt base w m v l:=by
 have hr:=h.row (i:=0) rfl
 unfold Row.ok aB at hr
 simp only at hr
 refine⟨?_,fun k hk=>⟨fun hf=>h.pack.not_both hf ⟨0,_,rfl,hk⟩,(hr.lt k hk).2⟩,fun k hk=>(hr.lt k hk).1⟩
 exact aE hr (cA _)
end
section
variable {base:Nat}{w w':World}{L:List Row}{r r':Row}{i:Nat}
theorem Pack.exchange(h:Pack base w (L++[r']))(hi:L[i]?=some r):Pack base w (L.set i r'++[r]):=by
 have hlt:=(List.getElem?_eq_some_iff.1 hi).1
 have ix:∀(j:Nat) (q:Row),(L.set i r'++[r])[j]?=some q->(L++[r'])[if j=i then L.length else if j=L.length then i else j]?=some q:=by
  intro j q hj
  by_cases h1:j<L.length
  ·rw[List.getElem?_append_left (by simpa using h1)]at hj
   rcases eE hj with⟨rfl,_,rfl⟩|⟨hne,hj⟩
   ·rw[if_pos rfl];simp
   ·rw[if_neg hne,if_neg (by omega),List.getElem?_append_left h1];exact hj
  ·have hl:=(List.getElem?_eq_some_iff.1 hj).1
   simp at hl
   have:j=L.length:=by omega
   subst this
   rw[List.getElem?_append_right (by simp)]at hj
   simp at hj
   subst hj
   rw[if_neg (by omega),if_pos rfl,List.getElem?_append_left hlt]
   exact hi
 refine⟨fun j q hj=>h.rows _ q (ix j q hj),fun j k q q' g hj hk hq hq'=>?_⟩
 have:=h.apart _ _ q q' g (ix j q hj) (ix k q' hk) hq hq'
 split at this<;>split at this<;>(try split at this)<;>(try split at this)<;>omega
theorem PMut.clone(hp:Pack base w L)(hi:L[i]?=some r)(hr:r'.ok base w')(hb:Below w.heap.size w w')(hn:∀g,r'.v.ownBlock=some g->w.heap.size<=g):PMut base w L w' (L.set i r'++[r]):=by
 refine⟨(hp.add hr hb hn).exchange hi,Only.of_below _ hb,fun k hk=>?_⟩
 rcases dP.1 hk with⟨j,q,hj,hq⟩|⟨j,q,hj,hq⟩
 ·rcases eE hj with⟨rfl,_,rfl⟩|⟨_,hj⟩
  ·exact .inr (hn k hq)
  ·exact .inl ⟨j,q,hj,hq⟩
 ·have hl:=(List.getElem?_eq_some_iff.1 hj).1
  simp at hl
  subst hl
  simp at hj
  subst hj
  exact .inl ⟨i,_,hi,hq⟩
end
theorem EMut.clone{base:Nat}{w w1:World}{m:Mem}(h:SAt base w m){v:Value}{l:List Int}(hown:w1.ownsRow base 3 1 v l.length (ints l))(hb:Below w.heap.size w w1)(hn:∀g,v.ownBlock=some g->w.heap.size<=g):EMut base w m [] (w1.setCell ⟨m.s,0,none⟩ v) (m.stored v l) [aB m.cl m.store]:=by
 have h1:=PMut.clone h.pack (i:=3) (r':=aB v l) rfl hown hb hn
 have h2:=PMut.store h1.pack (i:=0) rfl rfl 0 v
 refine⟨?_,h.ws,h.ls,h.counts,h.places,rfl,rfl,rfl⟩
 rw[List.append_nil]
 exact h1.trans h2
end Go.Proofs.YtekkkoipcghlmaaGreatDoor
namespace Go.Proofs.YtekkkoipcghlmaaGreatDoor
open Go.RowKit
section
variable {base:Nat}{w wr wr':World}{m0 m:Mem}{cls0 cls:List Cl}{tr:Tr}{wat:Int->List Int}{n:Nat}{sl:Value}{lits:List Int}{T:List Value×Nat×Value}{x0:Int}{rest:List Int}
theorem LMem.step(h:LMem base w m0 wr m cls tr wat n sl lits T){v:Value}{l:List Value}{k:Nat}(hm:Mut base wr m wr' (m.stepped v l k)):LMem base w m0 wr' (m.stepped v l k) cls tr wat n sl lits (l,k,v):=
 ⟨h.em.trans (EMut.call h.em.eat hm),⟨h.rep.store,h.rep.order,h.rep.starts,h.rep.len,h.rep.taken,h.rep.free,h.rep.odr,h.rep.ordr⟩,h.heap,h.free,h.core,rfl,h.watAt,h.passed⟩
theorem Watched.fix{m m':Mem}{l:List Int}{p:Int}(h:Watched m m' l p):m'.core=m.core/\m'.told=m.told/\m'.store=m.store/\m'.facts=m.facts/\m'.order=m.order/\m'.starts=m.starts/\m'.od=m.od/\m'.odr=m.odr/\m'.ordr=m.ordr/\m'.all=m.all/\m'.places=m.places/\m'.passed=m.passed:=by
 cases l with
 | nil=>unfold Watched at h;subst h;exact⟨rfl,rfl,rfl,rfl,rfl,rfl,rfl,rfl,rfl,rfl,rfl,rfl⟩
 | cons a t=>
  cases t with
  | nil=>unfold Watched at h;subst h;exact⟨rfl,rfl,rfl,rfl,rfl,rfl,rfl,rfl,rfl,rfl,rfl,rfl⟩
  | cons b r=>obtain⟨v1,v2,rfl⟩:=h;exact⟨rfl,rfl,rfl,rfl,rfl,rfl,rfl,rfl,rfl,rfl,rfl,rfl⟩
theorem jH(hl:∀l,(wat l).Nodup/\∀p,p∈wat l↔Watcher cls l p)(hW:eJ m wat)(hls:m.lists.length=25)(hsz:(flat cls).length<=9000000):∀(k:Nat) (l:List Int),m.lists[k]?=some l->l.length<=9000000:=by
 intro k l hk
 have hlt:=(List.getElem?_eq_some_iff.1 hk).1
 have h1:=hW ((k:Int)-12) (by omega) (by omega)
 rw[show((k:Int)-12+12).toNat=k by omega,hk]at h1
 simp at h1
 subst h1
 have:=gG (hl ((k:Int)-12)).1 (fun p hp=>((hl ((k:Int)-12)).2 p).1 hp)
 omega
theorem LMem.keep(h:LMem base w m0 wr m cls tr wat n sl lits T)(hwf:aM lits)(hls:∀l,(wat l).Nodup/\∀p,p∈wat l↔Watcher cls l p)(hsz:m.store.length<=9000000)(hbs:base<=w.heap.size):
  Calls Tryz.prog 67 #[.pointer (some ⟨m0.s,0,none⟩),sl] wr fun e w'=>e=.returned (.int .i64 ((flat cls).length:Int))/\∃m',LMem base w m0 w' m' (cls++[⟨false,lits⟩]) tr (eR wat lits ((flat cls).length:Int)) n sl lits T/\m'.store.length=m.store.length+2+lits.length:=by
 have hb:=h.em.eat.beside
 have hS:=h.em.at
 have hst:=h.rep.store
 have:=tK base m cls sl lits wr hS hst (by omega) hwf (Nat.le_trans hbs h.em.pm.only.size) (jH hls h.watAt hS.ls (by rw[←hst];exact hsz)) hb.lies (fun k hk=>(hb.apart k hk).1) (by have:=gF hwf;omega)
 rw[h.em.s]at this
 refine this.mono (fun e w' hh=>?_)
 obtain⟨h1,c0,m',hm,hw⟩:=hh
 rw[hst]at h1 hw
 refine⟨h1,m',⟨h.em.trans (EMut.call h.em.eat hm),?_,?_,?_,?_,?_,?_,?_⟩,?_⟩
 all_goals obtain⟨f1,f2,f3,f4,f5,f6,f7,f8,f9,f10,f11,f12⟩:=hw.fix
 ·refine⟨?_,by rw[f5];exact h.rep.order,by rw[f6];exact h.rep.starts,by rw[f4];exact h.rep.len,fun i e hi=>?_,fun v a b c=>?_,by rw[f8,f7];exact h.rep.odr,by rw[f9,f5];exact h.rep.ordr⟩
  ·rw[f3,cD,dI,fT,List.append_nil]
   show m.store++[(lits.length:Int),0]++lits=_
   rw[hst]
   simp[Cl.cells]
  ·have:=h.rep.taken i e hi
   unfold Mem.truth Mem.level Mem.reason at *
   rw[f4];exact this
  ·have:=h.rep.free v a b c
   unfold Mem.truth at *
   rw[f4];exact this
 ·rw[f10,f11];exact h.heap
 ·intro u a b c;rw[f10];exact h.free u a b c
 ·rw[f1];exact h.core
 ·rw[f2];exact h.told
 ·exact mL (m:=m.kept c0 lits) (fun l a b=>h.watAt l a b) hw hwf hS.ls
 ·rw[f12];exact h.passed
 ·rw[f3]
  show(m.store++[(lits.length:Int),0]++lits).length=_
  simp;omega
theorem LMem.use(h:LMem base w m0 wr m (cls++[⟨false,lits⟩]) tr wat n sl lits T)(hsz:m.store.length<=1000000000):
  Calls Tryz.prog 122 #[m.cl,.int .i64 ((flat cls).length:Int)] wr fun e w'=>e=.returned (.tuple #[])/\∃m',LMem base w m0 w' m' (cls++[⟨true,lits⟩]) tr wat n sl lits T/\m'.store.length=m.store.length:=by
 have hS:=h.em.at
 have hst:=h.rep.store
 have hpos:pos (cls++[⟨false,lits⟩]) cls.length=(flat cls).length:=by rw[bQ _ _ (Nat.le_refl _),cS _ (Nat.le_refl _)]
 have:=zH base m (cls++[⟨false,lits⟩]) cls.length ⟨false,lits⟩ wr hS hst (by simp) hsz
 rw[hpos]at this
 refine this.mono (fun e w' hh=>?_)
 obtain⟨h1,hm⟩:=hh
 refine⟨h1,_,⟨h.em.trans (EMut.call h.em.eat hm),⟨?_,h.rep.order,h.rep.starts,h.rep.len,h.rep.taken,h.rep.free,h.rep.odr,h.rep.ordr⟩,h.heap,h.free,h.core,h.told,h.watAt,h.passed⟩,?_⟩
 ·show m.store.set ((flat cls).length+1) 1=_
  rw[hst,←hpos,gB _ _ (by simp)]
  congr 1
  simp
 ·show(m.store.set _ _).length=_
  rw[List.length_set]
theorem LMem.force(h:LMem base w m0 wr m (cls++[⟨true,x0::rest⟩]) tr wat n sl lits T)(hT:TrOK cls tr)(hwf:aM (x0::rest))(h1:¬Tru tr x0)(h2:¬Tru tr (-x0))(hsz:m.store.length<=9900000)(hbs:base<=w.heap.size):
  Calls Tryz.prog 69 #[.pointer (some ⟨m0.s,0,none⟩),.int .i64 ((flat cls).length:Int)] wr fun e w'=>e=.returned (.int .i64 (-1))/\∃m',LMem base w m0 w' m' (cls++[⟨true,x0::rest⟩]) (tr++[(x0,((flat cls).length:Int))]) wat n sl lits T/\m'.store.length=m.store.length:=by
 have hS:=h.em.at
 have hst:=h.rep.store
 have hpos:pos (cls++[⟨true,x0::rest⟩]) cls.length=(flat cls).length:=by rw[bQ _ _ (Nat.le_refl _),cS _ (Nat.le_refl _)]
 have hx:=hwf.2 x0 (by simp)
 have hopen:m.truth x0.natAbs=0:=(h.rep.is_open (hT.more _) x0 hx.1 hx.2.1 hx.2.2).2 ⟨h1,h2⟩
 have hol:m.order.length<=1000:=by rw[h.rep.order,List.length_map];have:=hT.len;omega
 have:=mK base m (cls++[⟨true,x0::rest⟩]) cls.length ⟨true,x0::rest⟩ wr hS hst (by simp) hsz hwf (Nat.le_trans hbs h.em.pm.only.size) hol h.rep.odr h.rep.ordr
 rw[hpos,h.em.s]at this
 refine this.mono (fun e w' hh=>?_)
 rcases hh with⟨-,-,hh⟩|⟨he,hd,r,hl,hn,hh⟩
 ·rcases hh with hh|⟨hd,r,hl,hh⟩
  ·cases hh
  ·cases hl;omega
 ·cases hl
  rcases hh with⟨-,od,hm⟩|⟨hh,-⟩
  ·refine⟨he,_,⟨h.em.trans (EMut.call h.em.eat hm),h.rep.take (hT.more _) hx h1 h2 (by omega) od,h.heap,fun u a b c=>h.free u a b (fun i e hi=>c i e (by rw[List.getElem?_append_left (List.getElem?_eq_some_iff.1 hi).1];exact hi)),h.core,h.told,h.watAt,h.passed⟩,rfl⟩
  ·exact absurd hopen hh
theorem LMem.fade(h:LMem base w m0 wr m cls tr wat n sl lits T):
  Calls Tryz.prog 123 #[.pointer (some ⟨m0.q,0,none⟩)] wr fun e w'=>e=.returned (.tuple #[])/\∃m',LMem base w m0 w' m' cls tr wat n sl lits T/\m'.store.length=m.store.length:=by
 have hS:=h.em.at
 have:=aH0 base m wr hS h.heap
 rw[h.em.q]at this
 refine this.mono (fun e w' hh=>?_)
 obtain⟨he,m',hq⟩:=hh
 obtain⟨c1,c2,c3,c4,c5,c6⟩:=hq.kept.core
 have hk:=hq.kept
 unfold KeptC at hk
 have f1:m'.order=m.order:=by rw[hk]
 have f2:m'.starts=m.starts:=by rw[hk]
 have f3:m'.odr=m.odr:=by rw[hk]
 have f4:m'.od=m.od:=by rw[hk]
 have f5:m'.ordr=m.ordr:=by rw[hk]
 refine⟨he,m',⟨h.em.trans (EMut.call h.em.eat hq.mu),⟨by rw[c4];exact h.rep.store,by rw[f1];exact h.rep.order,by rw[f2];exact h.rep.starts,by rw[c6];exact h.rep.len,fun i e hi=>?_,fun v a b c=>?_,by rw[f3,f4];exact h.rep.odr,by rw[f5,f1];exact h.rep.ordr⟩,hq.ok,fun u a b c=>(hq.same _).2 (h.free u a b c),c1.trans h.core,c2.trans h.told,fun l a b=>by rw[c3];exact h.watAt l a b,c5.trans h.passed⟩,by rw[c4]⟩
 ·have:=h.rep.taken i e hi
  unfold Mem.truth Mem.level Mem.reason at *
  rw[c6];exact this
 ·have:=h.rep.free v a b c
  unfold Mem.truth at *
  rw[c6];exact this
end
end Go.Proofs.YtekkkoipcghlmaaGreatDoor
namespace Go.Proofs.YtekkkoipcghlmaaGreatDoor
open Go.RowKit
attribute [local go_sem ↓] Go.wp_at_zero Go.wp_at_succ
structure Learned(base:Nat)(w:World)(m0:Mem)(cls0:List Cl)(tr0:Tr)(w':World)(m:Mem)(cls:List Cl)(wat:Int->List Int)(tr:Tr)(n:Nat)(v:Value)(lits:List Int):Prop where
 mu:Mut base w m0 w' m
 rep:Rep m cls tr
 watAt:eJ m wat
 still:Rest n cls wat tr
 passed:m.passed=(n:Int)
 heap:HeapOK m.all m.places
 free:Free m tr
 core:m.core=m0.core
 db:dbOf cls=dbOf cls0++[lits]
 wf:aM lits
 some_:lits≠[]
 fol:FolI (dbOf cls0) lits
 new:∀d,d∈dbOf cls0->¬∀x,x∈d↔x∈lits
 nsteps:m.nsteps=m0.nsteps+1
 steps:m.steps=m0.steps++[v,.bool false]
 step:StepAt base w' m v lits
 trail:∃s e,tr=tr0.take s++[e]/\dec e=false
def oZ(base:Nat)(w:World)(m0:Mem)(cls0:List Cl)(tr0:Tr)(w':World):Prop:=∃m cls wat tr n v lits,Learned base w m0 cls0 tr0 w' m cls wat tr n v lits
def L2(base:Nat)(w:World)(m0:Mem)(cls0:List Cl)(tr:Tr)(g cap:Nat)(x0:Int)(rest:List Int)(w2:World):Prop:=
 ∃m1 cls1,EMut base w m0 [] w2 m1 [aB (.slice (some ⟨g,0,none⟩) (rest.length+1) cap) (x0::rest)]/\Rep m1 cls1 tr/\dbOf cls1=dbOf cls0/\HeapOK m1.all m1.places/\(∀v,v∈m1.all↔v∈m0.all)/\KeptL m0 m1/\Taught (dbOf cls0) tr (x0::rest)/\m1.store.length=m0.store.length
def L3(base:Nat)(w:World)(m0:Mem)(cls0:List Cl)(tr:Tr)(g cap N:Nat)(L:Nat)(w3:World):Prop:=
 ∃m1 cls1 x0 rest rest',N=rest'.length+1/\EMut base w m0 [] w3 m1 [aB (.slice (some ⟨g,0,none⟩) N cap) (x0::rest')]/\Rep m1 cls1 tr/\dbOf cls1=dbOf cls0/\HeapOK m1.all m1.places/\(∀v,v∈m1.all↔v∈m0.all)/\KeptL m0 m1/\Taught (dbOf cls0) tr (x0::rest)/\rest'.Perm rest/\m1.store.length=m0.store.length/\L<levels tr/\
 ∀s,(bB tr)[L]?=some s->(¬Tru (tr.take s) x0)/\(¬Tru (tr.take s) (-x0))/\(∀y,y∈rest'->Tru (tr.take s) (-y))/\(rest'=[]->levels (tr.take s)=0)/\∀b r,rest'=b::r->∀(j:Nat) (q:Int),(tr.take s)[j]?=some (-b,q)->levels (tr.take s)<=lev (tr.take s) j
def L4(base:Nat)(w:World)(m0:Mem)(cls0:List Cl)(wat:Int->List Int)(tr:Tr)(g cap N:Nat)(w4:World):Prop:=
 ∃m4 cls1 s x0 rest,N=rest.length+1/\LPure cls0 wat cls1 (tr.take s) x0 rest/\LMem base w m0 w4 m4 cls1 (tr.take s) wat (tr.take s).length (.slice (some ⟨g,0,none⟩) N cap) (x0::rest) m0.told/\m4.store.length=m0.store.length
section
variable {base:Nat}{w:World}{m0:Mem}{cls0:List Cl}{tr:Tr}{wat:Int->List Int}{n:Nat}{bad:Int}
theorem learn2(hst:Struck cls0 wat tr n bad)(hsz:m0.store.length<=9000000)(hbs:base<=w.heap.size){e:Ending}{w1:World}(h:jW base w m0 cls0 tr e w1):
  ∃lv,e=.returned lv/\Calls Tryz.prog 118 #[.pointer (some ⟨m0.s,0,none⟩),lv] w1 fun e w2=>∃g cap x0 rest,e=.returned (.slice (some ⟨g,0,none⟩) (rest.length+1) cap)/\L2 base w m0 cls0 tr g cap x0 rest w2:=by
 obtain⟨m1,cls1,lv,lits,he,hem,hR,hdb,hheap,hall,hk,hL,hsize⟩:=h
 refine⟨lv,he,?_⟩
 have hst1:=hst.same hdb.symm
 have:=vU base m1 cls1 tr lv lits w1 hem.eat hR hst1.trok hst1.wf (by rw[hdb];exact hL) (by omega) (Nat.le_trans hbs hem.pm.only.size)
 rw[hem.s]at this
 refine this.mono (fun e w2 hh=>?_)
 obtain⟨g,cap,short,he2,hem2,ht,-⟩:=hh
 obtain⟨p,rest,i,r,hl,-⟩:=ht.head
 subst hl
 rw[hdb]at ht
 exact⟨g,cap,-p,rest,he2,m1,cls1,hem.trans hem2,hR,hdb,hheap,hall,hk,ht,hsize⟩
theorem learn3(hst:Struck cls0 wat tr n bad)(hpos:0<levels tr){g cap:Nat}{x0:Int}{rest:List Int}{w2:World}(h:L2 base w m0 cls0 tr g cap x0 rest w2):
  Calls Tryz.prog 121 #[.pointer (some ⟨m0.s,0,none⟩),.slice (some ⟨g,0,none⟩) (rest.length+1) cap] w2 fun e w3=>∃L:Nat,e=.returned (.int .i64 (L:Int))/\L3 base w m0 cls0 tr g cap (rest.length+1) L w3:=by
 obtain⟨m1,cls1,hem,hR,hdb,hheap,hall,hk,ht,hsize⟩:=h
 have:=aM5 base m1 g cap x0 rest w2 hem.eat ht.wf.2 (by have:=gF ht.wf;simp at this;omega)
 rw[hem.s]at this
 refine this.mono (fun e w3 hh=>?_)
 obtain⟨rest',lvl,he,hem2,hp,hl⟩:=hh
 obtain⟨L,h1,h2,h3⟩:=uS (f:=m1.level) hst (fun j e hj=>(hR.taken j e hj).2.1) ht hp hl hpos
 subst h1
 exact⟨L,he,m1,cls1,x0,rest,rest',by rw[hp.length_eq],hem.trans hem2,hR,hdb,hheap,hall,hk,ht,hp,hsize,h2,h3⟩
theorem learn4(hst:Struck cls0 wat tr n bad)(hW:eJ m0 wat)(hpa:m0.passed=(n:Int)+1)(hfree:Free m0 tr)(hbs:base<=w.heap.size){g cap N L:Nat}{w3:World}(h:L3 base w m0 cls0 tr g cap N L w3):
  Calls Tryz.prog 120 #[.pointer (some ⟨m0.s,0,none⟩),.int .i64 (L:Int)] w3 fun e w4=>e=.returned (.tuple #[])/\L4 base w m0 cls0 wat tr g cap N w4:=by
 obtain⟨m1,cls1,x0,rest,rest',hN,hem,hR,hdb,hheap,hall,hk,ht,hp,hsize,hL,hs⟩:=h
 have hst1:=hst.same hdb.symm
 have hlev:levels tr<=12:=by
  have:=hst.trok.len
  have:levels tr<=tr.length:=by unfold levels;exact List.length_filter_le _ _
  omega
 have:=pH base m1 cls1 tr L w3 hem.at hR hst1.trok hheap (by omega) (Nat.le_trans hbs hem.pm.only.size)
 rw[hem.s]at this
 refine this.mono (fun e w4 hh=>?_)
 obtain⟨he,hb⟩:=hh
 obtain⟨m4,s,h1,h2,h3⟩:=LMem.of hst hW hpa hfree hR hdb hall hk hsize ht hp hL hs hem hb
 exact⟨he,m4,cls1,s,x0,rest',hN,h1,h2,h3⟩
end
set_option maxRecDepth 100000 in
set_option maxHeartbeats 32000000 in
theorem aG0(base:Nat)(m0:Mem)(cls0:List Cl)(wat:Int->List Int)(tr:Tr)(n:Nat)(bad:Int)(w:World)(hS:SAt base w m0)(hR:Rep m0 cls0 tr)(hW:eJ m0 wat)(hst:Struck cls0 wat tr n bad)(hpa:m0.passed=(n:Int)+1)(hpos:0<levels tr)(hok:HeapOK m0.all m0.places)(hfree:Free m0 tr)(hsz:m0.store.length<=8999000)(hns:m0.nsteps<=10000000)(hbs:base<=w.heap.size):
  Calls Tryz.prog 75 #[.pointer (some ⟨m0.s,0,none⟩),.int .i64 bad] w fun e w'=>e=.returned (.tuple #[])/\oZ base w m0 cls0 tr w':=by
 obtain⟨c0,cl0,hc0,hbad,hfalls⟩:=hst.falls
 have hhigh:=hst.high hc0 hfalls hpos
 have HLE:=aq (wT base m0 cls0 tr c0 cl0 w hS hR hst.trok hst.wf hc0 hfalls hhigh hpos hok (by omega) hbs)
 rw[←hbad]at HLE
 have H2:=aq (fun e w1=>learn2 (base:=base) (w:=w) (m0:=m0) (e:=e) (w1:=w1) hst (by omega) hbs)
 have H3:=aq (fun g cap x0 rest w2=>learn3 (base:=base) (w:=w) (m0:=m0) (g:=g) (cap:=cap) (x0:=x0) (rest:=rest) (w2:=w2) hst hpos)
 have H4:=aq (fun g cap N L w3=>learn4 (base:=base) (w:=w) (m0:=m0) (g:=g) (cap:=cap) (N:=N) (L:=L) (w3:=w3) hst hW hpa hfree hbs)
 clear hS hR hW hst hpa hpos hok hfree hc0 hfalls hhigh hbad
 go_enter Tryz.func75,Tryz.ntmps75
 go_wp2_with fail
 refine(dz HLE).mono ?_
 intro e w1 h1
 obtain⟨lv,rfl,h2⟩:=dz H2 e w1 h1
 have HS:=aq h2
 clear h1 h2 HLE H2
 go_wp2_with fail
 refine(dz HS).mono ?_
 rintro e w2 ⟨g,cap,x0,rest,rfl,h2⟩
 have HX:=aq (dz H3 g cap x0 rest w2 h2)
 clear h2 HS H3
 generalize rest.length+1=N at *
 go_wp2_with fail
 refine(dz HX).mono ?_
 rintro e w3 ⟨L,rfl,h3⟩
 have HX4:=aq (dz H4 g cap N L w3 h3)
 clear h3 HX H4
 go_wp2_with fail
 refine(dz HX4).mono ?_
 rintro e w4 ⟨rfl,m4,cls1,s,y0,rest',hN,hPu,hMe,hsize⟩
 have hSa:=hMe.em.at
 have hs4:=hMe.em.s
 have ht1:m4.steps=m0.steps:=congrArg (fun x=>x.1) hMe.told
 have ht2:m4.nsteps=m0.nsteps:=congrArg (fun x=>x.2.1) hMe.told
 have ht3:m4.sp=m0.sp:=congrArg (fun x=>x.2.2) hMe.told
 have hc14:w4.cell? ⟨m0.s,14,none⟩=some m0.sp:=by rw[←hs4,hSa.cell 14 (by decide),←ht3];rfl
 have hrow:w4.ownsRow base 131 2 m0.sp m0.nsteps m0.steps:=by rw[←ht1,←ht2,←ht3];exact hSa.pack.rows 12 _ rfl
 have hb4:base<=w4.heap.size:=Nat.le_trans hbs hMe.em.pm.only.size
 have hsl:m0.s<w4.heap.size:=by rw[←hs4];exact hSa.lt.1
 have HO:Hid (∀(g' cap':Nat) (w5:World) (val:Value) (tt:TypeId),w5.ownsRow base 131 2 (.slice (some ⟨g',0,none⟩) (m0.nsteps+1) cap') (m0.nsteps+1) (m0.steps++[val,.bool false])->(w4.alloc (.cells #[val,.bool false] tt)).grownBy w5 m0.sp.ownBlock->(m0.sp.ownBlock=some g'∨g'=(w4.alloc (.cells #[val,.bool false] tt)).heap.size)->
   Mut base w4 m4 (w5.setCell ⟨m0.s,14,none⟩ (.slice (some ⟨g',0,none⟩) (m0.nsteps+1) cap')) (m4.stepped (.slice (some ⟨g',0,none⟩) (m0.nsteps+1) cap') (m0.steps++[val,.bool false]) (m0.nsteps+1))/\w5.cell? ⟨m0.s,14,none⟩=some m0.sp/\w5.frozen? ⟨m0.s,14,none⟩=false):=aq (by
  intro g' cap' w5 val tt h1 h2 h3
  have:=Mut.steps hSa (g:=g') (cap:=cap') (n:=m0.nsteps+1) (l:=m0.steps++[val,.bool false]) h1 (wz:=w4.alloc (.cells #[val,.bool false] tt)) ((Below.refl _ _).alloc (Nat.le_refl _) _) (by rw[ht3];exact h2) (by rw[ht3];exact h3)
  rw[hs4,ht3]at this
  exact this)
 have HROW:=aq hrow
 have HL4:=aq (And.intro hPu (And.intro hMe (And.intro hsize hN)))
 clear hPu hMe hsize hN ht1 ht2 ht3 hSa hs4 HX4 hrow
 have hsp:∃ao k c,m0.sp=.slice ao k c:=by
  rcases (dz HROW).2 with⟨h,-⟩|⟨g',c',cur,h,-⟩
  ·exact⟨_,_,_,h⟩
  ·exact⟨_,_,_,h⟩
 go_wp2_with (at_builtin;refine mY (base:=base) rfl _ _ 82 131 rfl Tryz.underlying82 Tryz.infoStep rfl (by decide) (dz HROW) rfl rfl rfl rfl (by omega) (by omega) ?_;intro g' cap' w5 hown5 hgr5 hloc;have HMID:=aq (dz HO _ _ _ _ _ hown5 hgr5 hloc);clear hown5 hgr5 hloc;have hc54:=(dz HMID).2.1;have hf54:=(dz HMID).2.2)
 obtain⟨hPu,hMe,hsize,hN⟩:=dz HL4
 have hMe5:=hMe.step (dz HMID).1
 have hPl:=hPu.still.lists
 have HK:=aq (hMe5.keep hPu.wf hPl (by show m4.store.length<=9000000;omega) hbs)
 have hlen12:=gF hPu.wf
 have HP:=aq hPu
 have HSZ:=aq hsize
 clear hMe hMe5 hPu HL4 hPl hsize HMID HO HROW
 refine(dz HK).mono ?_
 rintro e w6 ⟨rfl,m6,hMe6,hs6⟩
 have hc60:w6.cell? ⟨m0.s,0,none⟩=some m6.cl:=by rw[←hMe6.em.s,hMe6.em.at.cell 0 (by decide)];rfl
 have hsz6:m6.store.length<=9000000:=by rw[hs6];show m4.store.length+2+_<=_;have:=dz HSZ;omega
 have HU:=aq (hMe6.use (by omega))
 clear hMe6 HK hs6
 go_wp2_with fail
 refine(dz HU).mono ?_
 rintro e w7 ⟨rfl,m7,hMe7,hs7⟩
 have HF:=aq (hMe7.force (dz HP).still.trok (dz HP).wf (dz HP).open1 (dz HP).open2 (by omega) hbs)
 clear hMe7 HU
 go_wp2_with fail
 refine(dz HF).mono ?_
 rintro e w8 ⟨rfl,m8,hMe8,hs8⟩
 have hc87:w8.cell? ⟨m0.s,7,none⟩=some (.pointer (some ⟨m0.q,0,none⟩)):=by rw[←hMe8.em.s,←hMe8.em.q,hMe8.em.at.cell 7 (by decide)];rfl
 have HD:=aq hMe8.fade
 clear hMe8 HF
 go_wp2_with fail
 refine(dz HD).mono ?_
 rintro e w9 ⟨rfl,m9,hMe9,hs9⟩
 have HR:Hid (oZ base w m0 cls0 tr w9):=aq (by
  have hP:=dz HP
  have hd:EMut base w9 m9 [aB (.slice (some ⟨g,0,none⟩) N cap) (y0::rest')] w9 m9 []:=EMut.drop (E:=[]) hMe9.em.eat
  have he1:m9.steps=m0.steps++[.slice (some ⟨g,0,none⟩) N cap,.bool false]:=congrArg (fun x=>x.1) hMe9.told
  have he2:m9.nsteps=m0.nsteps+1:=congrArg (fun x=>x.2.1) hMe9.told
  refine⟨m9,_,_,_,_,.slice (some ⟨g,0,none⟩) N cap,y0::rest',⟨(hMe9.em.trans hd).mut,hMe9.rep,hMe9.watAt,Rest.learn hP.still rfl rfl hP.wf hP.open1 hP.open2 hP.false_ hP.zero hP.high,hMe9.passed,hMe9.heap,hMe9.free,hMe9.core,?_,hP.wf,by simp,hP.fol,hP.new,he2,he1,hMe9.em.eat.beside,s,_,rfl,?_⟩⟩
  ·rw[jP,hP.db]
  ·simp[dec])
 clear hMe9 HD
 go_wp2
 try go_end0
 exact⟨rfl,dz HR⟩
end Go.Proofs.YtekkkoipcghlmaaGreatDoor
namespace Go.Proofs.YtekkkoipcghlmaaGreatDoor
open Go.RowKit
section
theorem gL(base:Nat)(v:Value)(cls:List Cl)(c:Nat)(cl:Cl)(w:World)(hS:w.ownsRow base 3 1 v (flat cls).length (ints (flat cls)))(hc:cls[c]?=some cl):∃g cap,v=.slice (some ⟨g,0,none⟩) (flat cls).length cap/\(flat cls).length<=cap/\g<w.heap.size/\pos cls c+2+cl.lits.length<=(flat cls).length/\w.cell? ⟨g,pos cls c,none⟩=some (.int .i64 (cl.lits.length:Int))/\w.cell? ⟨g,pos cls c+1,none⟩=some (.int .i64 (if cl.used then 1 else 0))/\
  (∀k (hk:k<cl.lits.length),w.cell? ⟨g,pos cls c+2+k,none⟩=some (.int .i64 cl.lits[k])):=by
 have hlt:=(List.getElem?_eq_some_iff.1 hc).1
 have hcl:cls[c]=cl:=by rw[List.getElem?_eq_getElem hlt]at hc;simpa using hc
 have hroom:=eK cls c hlt
 rw[hcl]at hroom
 have hr:=hS
 obtain⟨g,cap,hv,hb,hg⟩:=World.ownsRow.form hr (by omega)
 rw[hv]at hr
 have get:∀j x,(flat cls)[j]?=some x->w.cell? ⟨g,j,none⟩=some (.int .i64 x):=by
  intro j x hx
  obtain⟨hj,e⟩:=List.getElem?_eq_some_iff.1 hx
  rw[hr.cellAt j (by omega)]
  unfold ints
  rw[List.getElem?_map,hx]
  rfl
 refine⟨g,cap,hv,?_,hg,hroom,?_,?_,fun k hk=>?_⟩
 ·rcases hr.2 with⟨h0,_⟩|⟨g',cap',cur,hv',_,_,hle,_⟩
  ·cases h0
  ·cases hv';exact hle
 ·have:=get _ _ (tP cls c hlt);rw[hcl]at this;exact this
 ·have:=get _ _ (rP cls c hlt);rw[hcl]at this;exact this
 ·have:=get _ _ (vF cls c k hlt (by rw[hcl];exact hk));simp only[hcl]at this;exact this
set_option maxRecDepth 100000 in
theorem mQ(base:Nat)(v:Value)(cls:List Cl)(c:Nat)(cl:Cl)(w:World)(hS:w.ownsRow base 3 1 v (flat cls).length (ints (flat cls)))(hc:cls[c]?=some cl)(hsz:(flat cls).length<=1000000000):Calls Tryz.prog 156 #[v,.int .i64 (pos cls c:Int)] w fun e w'=>e=.returned (.int .i64 ((pos cls c+2+cl.lits.length:Nat):Int))/\w'=w:=by
 obtain⟨g,cap,hv,-,hg,hroom,h1,-,-⟩:=gL base v cls c cl w hS hc
 rw[hv]
 clear hv hS hc
 generalize pos cls c=p at *
 generalize cl.lits.length=n at *
 generalize (flat cls).length=N at *
 go_enter Tryz.func156,Tryz.ntmps156
 go_wp2
 go_ret
 refine⟨?_,rfl⟩
 go_num
set_option maxRecDepth 100000 in
theorem pX(base:Nat)(v:Value)(cls:List Cl)(c:Nat)(cl:Cl)(w:World)(hS:w.ownsRow base 3 1 v (flat cls).length (ints (flat cls)))(hc:cls[c]?=some cl)(hsz:(flat cls).length<=1000000000):Calls Tryz.prog 112 #[v,.int .i64 (pos cls c:Int)] w fun e w'=>(∃g,e=.returned (cI g (pos cls c) cl.lits.length)/\v.ownBlock=some g)/\w'=w:=by
 have HB:=aq (mQ base v cls c cl w hS hc hsz)
 obtain⟨g,cap,hv,hcap,hg,hroom,h1,-,-⟩:=gL base v cls c cl w hS hc
 rw[hv]at HB⊢
 clear hv hS hc
 generalize pos cls c=p at *
 generalize cl.lits.length=n at *
 generalize (flat cls).length=N at *
 go_enter Tryz.func112,Tryz.ntmps112
 go_wp2_with fail
 refine(dz HB).mono ?_
 rintro e w3 ⟨rfl,rfl⟩
 go_wp2
 all_goals go_ret
 ·have h0:n=0:=by omega
  exact⟨⟨g,by unfold cI;rw[if_pos h0];rfl,rfl⟩,rfl⟩
 ·exact⟨⟨g,by unfold cI;rw[if_neg (by omega)];rfl,rfl⟩,rfl⟩
set_option maxRecDepth 100000 in
theorem vR(base:Nat)(v:Value)(cls:List Cl)(c:Nat)(cl:Cl)(w:World)(hS:w.ownsRow base 3 1 v (flat cls).length (ints (flat cls)))(hc:cls[c]?=some cl)(hsz:(flat cls).length<=1000000000):Calls Tryz.prog 165 #[v,.int .i64 (pos cls c:Int)] w fun e w'=>e=.returned (.bool cl.used)/\w'=w:=by
 obtain⟨g,cap,hv,-,hg,hroom,h1,h2,-⟩:=gL base v cls c cl w hS hc
 have hu:((if cl.used=true then(1:Int)else 0)==1)=cl.used:=by cases cl.used<;>rfl
 have HU:=aq hu
 rw[hv]
 clear hv hS hc hu
 generalize (if cl.used=true then(1:Int)else 0)=uv at *
 generalize pos cls c=p at *
 generalize cl.lits.length=n at *
 generalize (flat cls).length=N at *
 go_enter Tryz.func165,Tryz.ntmps165
 go_wp2
 go_ret
 exact⟨by rw[←dz HU];rfl,rfl⟩
end
end Go.Proofs.YtekkkoipcghlmaaGreatDoor
namespace Go.Proofs.YtekkkoipcghlmaaGreatDoor
open Go.RowKit
attribute [local go_sem ↓] Go.wp_at_zero Go.wp_at_succ
theorem Tryz.store_nil(a:Addr)(n c:Nat)(w:World):(binOp .eql 118 (.slice (some a) n c) (.slice none 0 0)).run Tryz.prog w=.ok (.bool false) w:=by kernel_rfl
set_option maxRecDepth 100000 in
set_option maxHeartbeats 1600000 in
theorem zV(base b off cap:Nat)(xs:List Int)(w:World)(hn:0<xs.length)(hl:xs.length<=10000000)(hv:Lies w (.slice (some ⟨b,off,none⟩) xs.length cap) (ints xs))(hbs:base<=w.heap.size):
  Calls Tryz.prog 163 #[.slice (some ⟨b,off,none⟩) xs.length cap] w fun e w'=>∃v,e=.returned v/\w'.ownsRow base 3 1 v xs.length (ints xs)/\(∀g,v.ownBlock=some g->w.heap.size<=g)/\Below w.heap.size w w':=by
 have HL:=aq hv
 have H1C:Hid (∀u,u∈ints xs->u.oneCell'=true):=aq (by
  intro u hu
  obtain⟨x,-,rfl⟩:=List.mem_map.1 hu
  rfl)
 have HLL:=aq (cA xs)
 clear hv
 generalize hN:xs.length=N at *
 have hnil:=Tryz.store_nil
 have HOWN:Hid ((w.alloc (.cells #[] 3)).ownsRow base 3 1 (.slice (some ⟨w.heap.size,0,none⟩) 0 0) 0 []):=aq ⟨rfl,.inr ⟨w.heap.size,0,#[],rfl,hbs,heap_alloc_new w _,Nat.le_refl _,by unfold maxLen;omega,by simp,by simp⟩⟩
 have HLI:Hid (Lies (w.alloc (.cells #[] 3)) (.slice (some ⟨b,off,none⟩) N cap) (ints xs)):=aq ((dz HL).below ((Below.refl _ _).alloc (Nat.le_refl _) _))
 have HBA:Hid (Below w.heap.size w (w.alloc (.cells #[] 3))):=aq ((Below.refl _ _).alloc (Nat.le_refl _) _)
 have hba:base<=(w.alloc (.cells #[] 3)).heap.size:=Nat.le_trans hbs (dz HBA).size
 have HFIN:Hid (∀(v':Value) (w':World),w'.ownsRow base 3 1 v' (0+(ints xs).length) ([]++ints xs)->(w.alloc (.cells #[] 3)).grownBy w' (Value.slice (some ⟨w.heap.size,0,none⟩) 0 0).ownBlock->(v'.ownBlock=(Value.slice (some ⟨w.heap.size,0,none⟩) 0 0).ownBlock∨v'.ownBlock=some (w.alloc (.cells #[] 3)).heap.size)->w'.ownsRow base 3 1 v' N (ints xs)/\(∀g,v'.ownBlock=some g->w.heap.size<=g)/\Below w.heap.size w w'):=aq (by
  intro v' w' h1 h2 h3
  rw[Nat.zero_add,List.nil_append,dz HLL]at h1
  refine⟨h1,fun g hg=>?_,?_⟩
  ·rcases h3 with h3|h3
   ·rw[h3]at hg;simp[Value.ownBlock]at hg;omega
   ·rw[h3]at hg
    have:=(dz HBA).size
    simp at hg
    simp at this
    omega
  ·have hsz:=(dz HBA).size
   have h4:=Only.grown (F:=fun k=>k=w.heap.size) h2 (fun k hk=>by simp[Value.ownBlock]at hk;omega)
   exact(dz HBA).trans (h4.below (fun k hk=>by omega) hsz))
 clear HL HBA
 go_enter Tryz.func163,Tryz.ntmps163
 go_wp2_with (at_builtin;refine nC (base:=base) rfl _ _ 118 118 3 3 rfl Tryz.underlying118 Tryz.underlying118 Tryz.infoInt rfl (by decide) (dz HOWN) rfl rfl (dz HLI) (dz H1C) (by rw[dz HLL];omega) hba ?_;intro v5 w5 hown5 hgr5 hloc5 hnn5 hnil5;have HF:=aq (dz HFIN v5 w5 hown5 hgr5 hloc5);clear hown5 hgr5 hloc5 hnn5 hnil5)
 try go_ret
 exact⟨v5,rfl,dz HF⟩
end Go.Proofs.YtekkkoipcghlmaaGreatDoor
