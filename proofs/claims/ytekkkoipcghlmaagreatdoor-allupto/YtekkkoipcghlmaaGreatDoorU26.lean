import Derived.Test.YtekkkoipcghlmaaGreatDoorU22
import Derived.Test.YtekkkoipcghlmaaGreatDoorU23
import Derived.Test.YtekkkoipcghlmaaGreatDoorU25
set_option linter.all false
namespace Go.Proofs.YtekkkoipcghlmaaGreatDoor
open Go.RowKit
attribute [local go_sem ↓] Go.wp_at_zero Go.wp_at_succ
set_option maxRecDepth 100000 in
theorem mC(base:Nat)(m:Mem)(ao:Option Addr)(n c:Nat)(w:World)(hS:SAt base w m):
  Calls Tryz.prog 74 #[.pointer (some ⟨m.s,0,none⟩),.slice ao n c] w fun e w'=>e=.returned (.agg #[.int .i64 2,.slice none 0 0,.slice ao n c,.int .i64 m.conflicts])/\Below w.heap.size w w':=by
 have hc13:w.cell? ⟨m.s,13,none⟩=some (.int .i64 m.conflicts):=by rw[hS.cell 13 (by decide)];rfl
 have hsl:=hS.lt.1
 clear hS
 go_enter Tryz.func74,Tryz.ntmps74
 go_wp2
 try go_returns
 exact⟨rfl,(Below.refl _ _).alloc (Nat.le_refl _) _⟩
set_option maxRecDepth 100000 in
theorem aE0(base:Nat)(m:Mem)(w:World)(hS:SAt base w m):
  Calls Tryz.prog 44 #[.pointer (some ⟨m.s,0,none⟩)] w fun e w'=>e=.returned m.sp/\w'=w:=by
 have hc14:w.cell? ⟨m.s,14,none⟩=some m.sp:=by rw[hS.cell 14 (by decide)];rfl
 have hrow:w.ownsRow base 131 2 m.sp m.nsteps m.steps:=hS.pack.rows 12 _ rfl
 obtain⟨ao,k,c,hsp⟩:∃ao kk c,m.sp=.slice ao kk c:=by
  rcases hrow.2 with⟨h,-⟩|⟨g',c',cur,h,-⟩
  ·exact⟨_,_,_,h⟩
  ·exact⟨_,_,_,h⟩
 clear hS hrow
 rw[hsp]at hc14⊢
 clear hsp
 go_enter Tryz.func44,Tryz.ntmps44
 go_wp2
 try go_ret
 exact⟨rfl,rfl⟩
def iI(m:Mem)(k:Nat):List Int:=(List.range k).map (fun i=>m.truth (i+1))
theorem vW(m:Mem)(k:Nat):iI m (k+1)=iI m k++[m.truth (k+1)]:=by unfold iI;rw[List.range_succ,List.map_append];rfl
set_option maxRecDepth 100000 in
set_option maxHeartbeats 3200000 in
theorem aO7(base:Nat)(m:Mem)(w:World)(hS:SAt base w m):
  Calls Tryz.prog 79 #[.pointer (some ⟨m.s,0,none⟩)] w fun e w'=>∃v,e=.returned (.agg #[.int .i64 1,v,.slice none 0 0,.int .i64 m.conflicts])/\w'.ownsRow w.heap.size 3 1 v 12 (ints (iI m 12))/\Below w.heap.size w w':=by
 have hc13:w.cell? ⟨m.s,13,none⟩=some (.int .i64 m.conflicts):=by rw[hS.cell 13 (by decide)];rfl
 have hsl:=hS.lt.1
 obtain⟨b,cap,hfa,hlt,-,hc⟩:=hS.facts
 have hc3:w.cell? ⟨m.s,3,none⟩=some (.slice (some ⟨b,0,none⟩) 13 cap):=by rw[hS.cell 3 (by decide),←hfa];rfl
 have hcap:13<=cap:=by
  have:=hS.pack.rows 5 _ rfl
  unfold Row.ok at this
  rcases this.2 with⟨h0,_⟩|⟨g',cap',cur,hv',_,_,hle,_⟩
  ·rw[show m.fa=_ from hfa]at h0;cases h0
  ·rw[show m.fa=_ from hfa]at hv';cases hv';exact hle
 have HC:=aq hc
 clear hS hfa hc
 obtain⟨w1,hw1⟩:∃w1,w1=w.alloc (.cells #[.int .i64 0,.slice none 0 0,.slice none 0 0,.int .i64 0] 34):=⟨_,rfl⟩
 have hb1:Below w.heap.size w w1:=by rw[hw1];exact(Below.refl _ _).alloc (Nat.le_refl _) _
 have hz1:w1.heap.size=w.heap.size+1:=by rw[hw1];simp
 have hr1:w1.heap[w.heap.size]?=some (.cells #[.int .i64 0,.slice none 0 0,.slice none 0 0,.int .i64 0] 34 (0,0)):=by rw[hw1];exact heap_alloc_new w _
 have hc13:w1.cell? ⟨m.s,13,none⟩=some (.int .i64 m.conflicts):=(World.cell?_of_block (a:=⟨m.s,13,none⟩) (hb1.block m.s hsl)).trans hc13
 have hc3:w1.cell? ⟨m.s,3,none⟩=some (.slice (some ⟨b,0,none⟩) 13 cap):=(World.cell?_of_block (a:=⟨m.s,3,none⟩) (hb1.block m.s hsl)).trans hc3
 go_enter Tryz.func79,Tryz.ntmps79
 go_wp2_with fail
 rw[←hw1]
 have HW1:=aq hw1
 clear hw1
 go_wp2
 go_loopw [3,13] (fun v3 v13 wr=>∃k:Nat,k<=12/\v13=.int .i64 (k:Int)/\Hid (wr.ownsRow w1.heap.size 3 1 v3 k (ints (iI m k)))/\Hid (Below w1.heap.size w1 wr)) (fun _ v13 _=>12-(intOf v13).toNat)
 case atStart=>exact⟨0,Nat.zero_le _,rfl,aq (cW _ _ _),aq (Below.refl _ _)⟩
 case round=>
  obtain⟨k,hk,rfl,HO,HB⟩:=hrel
  obtain⟨ao,cp,hsh⟩:=aC (dz HO)
  subst hsh
  by_cases hkn:k<12
  ·obtain⟨c0,c1,c2⟩:=dz HC (k+1) (by omega)
   have hbl:=((dz HB).block b (by omega)).trans (hb1.block b hlt)
   have d0:wr.cell? ⟨b,3+k*3,none⟩=some (.int .i64 (m.truth (k+1))):=by rw[World.cell?_of_block (a:=⟨b,3+k*3,none⟩) hbl,show 3+k*3=(k+1)*3 by omega];exact c0
   have d1:wr.cell? ⟨b,3+k*3+1,none⟩=some (.int .i64 (m.level (k+1))):=by rw[World.cell?_of_block (a:=⟨b,3+k*3+1,none⟩) hbl,show 3+k*3=(k+1)*3 by omega];exact c1
   have d2:wr.cell? ⟨b,3+k*3+2,none⟩=some (.int .i64 (m.reason (k+1))):=by rw[World.cell?_of_block (a:=⟨b,3+k*3+2,none⟩) hbl,show 3+k*3=(k+1)*3 by omega];exact c2
   have HSN:=aq (vW m k)
   have hki:(k:Int)<12:=by omega
   have hbs:=(dz HB).size
   clear c0 c1 c2 hbl
   generalize m.truth (k+1)=t at *
   generalize m.level (k+1)=lv at *
   generalize m.reason (k+1)=rs at *
   go_wp2_with (at_builtin;refine bY (base:=w1.heap.size) rfl _ _ 25 3 rfl Tryz.underlying25 Tryz.infoInt rfl (by decide) ((dz HO).alloc _) rfl (by rw[World.size_alloc];rfl) rfl (by omega) (by rw[World.size_alloc];omega) ?_;intro g' cap' w4 hown4 hgr4 hloc4;have HO4:=aq hown4;have HG4:=aq hgr4;clear hown4 hgr4 hloc4)
   refine⟨⟨k+1,by omega,by go_num,?_,?_⟩,?_⟩
   ·rw[dz HSN,cV]
    exact HO4
   ·refine aq ?_
    have h1:=((dz HB).trans ((Below.refl w1.heap.size wr).alloc hbs (.cells #[.int .i64 t,.int .i64 lv,.int .i64 rs] 170)))
    have h2:=h1.trans ((Below.refl w1.heap.size _).alloc h1.size (.cells #[.int .i64 t] 3))
    exact h2.grown (dz HG4) h2.size (fun q hq=>((dz HO).lt q hq).1)
   ·simp only[intOf]
    omega
  ·have hki:¬(k:Int)<12:=by omega
   have hkk:k=12:=by omega
   subst hkk
   have hc13':wr.cell? ⟨m.s,13,none⟩=some (.int .i64 m.conflicts):=(World.cell?_of_block (a:=⟨m.s,13,none⟩) ((dz HB).block m.s (by omega))).trans hc13
   have hrb:wr.heap[w.heap.size]?=some (.cells #[.int .i64 0,.slice none 0 0,.slice none 0 0,.int .i64 0] 34 (0,0)):=((dz HB).block w.heap.size (by omega)).trans hr1
   have hbs:=(dz HB).size
   have hslr:m.s<wr.heap.size:=by omega
   have hro:=cX (base:=w.heap.size) hrb (Nat.le_refl _)
   have q0:wr.cell? ⟨w.heap.size,0,none⟩=some (.int .i64 0):=hro.cellAt 0 (by simp)
   have q1:wr.cell? ⟨w.heap.size,1,none⟩=some (.slice none 0 0):=hro.cellAt 1 (by simp)
   have q2:wr.cell? ⟨w.heap.size,2,none⟩=some (.slice none 0 0):=hro.cellAt 2 (by simp)
   have q3:wr.cell? ⟨w.heap.size,3,none⟩=some (.int .i64 0):=hro.cellAt 3 (by simp)
   have p0:=hro.frozenAt 0
   have p1:=hro.frozenAt 1
   have p2:=hro.frozenAt 2
   have p3:=hro.frozenAt 3
   have HE:Hid (∀a b c d:Value,((((wr.setCell ⟨w.heap.size,0,none⟩ a).setCell ⟨w.heap.size,1,none⟩ b).setCell ⟨w.heap.size,2,none⟩ c).setCell ⟨w.heap.size,3,none⟩ d).ownsRow w.heap.size 3 1 (.slice ao 12 cp) 12 (ints (iI m 12))/\Below w.heap.size w ((((wr.setCell ⟨w.heap.size,0,none⟩ a).setCell ⟨w.heap.size,1,none⟩ b).setCell ⟨w.heap.size,2,none⟩ c).setCell ⟨w.heap.size,3,none⟩ d)):=aq (by
    intro a b c d
    refine⟨bC (aH (dz HO) (fun g hg=>?_)) (by omega),?_⟩
    ·have:=((dz HO).lt g hg).1
     exact(Below.heap_setCell _ _ _ _ (by simp;omega)).trans ((Below.heap_setCell _ _ _ _ (by simp;omega)).trans ((Below.heap_setCell _ _ _ _ (by simp;omega)).trans (Below.heap_setCell _ _ _ _ (by simp;omega))))
    ·have h0:Below w.heap.size w wr:=hb1.trans ((dz HB).mono (by omega))
     exact((((h0.setCell (p:=⟨w.heap.size,0,none⟩) (Nat.le_refl _) a).setCell (p:=⟨w.heap.size,1,none⟩) (Nat.le_refl _) b).setCell (p:=⟨w.heap.size,2,none⟩) (Nat.le_refl _) c).setCell (p:=⟨w.heap.size,3,none⟩) (Nat.le_refl _) d))
   have HRO:=aq hro
   clear hro hrb
   go_wp2
   have hro:=dz HRO
   have s0:=(hro.stored 0 (.int .i64 1)).1
   have s1:=(s0.stored 1 (.slice ao 12 cp)).1
   have s2:=(s1.stored 2 (.slice none 0 0)).1
   have s3:=(s2.stored 3 (.int .i64 m.conflicts)).1
   have e0:=s3.cellAt 0 (by simp)
   have e1:=s3.cellAt 1 (by simp)
   have e2:=s3.cellAt 2 (by simp)
   have e3:=s3.cellAt 3 (by simp)
   simp at e0 e1 e2 e3
   refine bodyPost_ret (v:=.agg #[.int .i64 1,.slice ao 12 cp,.slice none 0 0,.int .i64 m.conflicts]) (by simp[results,Tryz.results79,go_sem,e0,e1,e2,e3]) rfl ?_
   exact⟨_,rfl,dz HE _ _ _ _⟩
end Go.Proofs.YtekkkoipcghlmaaGreatDoor
namespace Go.Proofs.YtekkkoipcghlmaaGreatDoor
open Go.RowKit
attribute [local go_sem ↓] Go.wp_at_zero Go.wp_at_succ
structure AAt(base:Nat)(w:World)(m0:Mem)(G:List Nat)(wr:World)(m:Mem)(cls:List Cl)(wat:Int->List Int)(tr:Tr):Prop where
 mu:Mut base w m0 wr m
 rep:Rep m cls tr
 watAt:eJ m wat
 trok:TrOK cls tr
 wf:∀(c:Nat) cl,cls[c]?=some cl->aM cl.lits
 lists:∀l,(wat l).Nodup/\∀p,p∈wat l↔Watcher cls l p
 zero:levels tr=0
 passed:m.passed=0
 heap:HeapOK m.all m.places
 free:∀u:Nat,0<u->u<=12->(u:Int)∈m.all
 told:m.steps=[]/\m.nsteps=0
 rounds:m.rlen=4/\m.rmet=0/\m.conflicts=0
 given:m.given=((flat cls).length:Int)
 masks:dL cls=G
 ok:(m.broken=-1/\∀(c:Nat) cl,cls[c]?=some cl->WOK tr 0 cl.lits)∨(m.broken≠-1/\∃(c:Nat) (cl:Cl),cls[c]?=some cl/\∀y,y∈cl.lits->Tru tr (-y))
def Mem.givenSet(m:Mem)(x:Int):Mem:={ m with given:=x }
def Mem.brokenSet(m:Mem)(x:Int):Mem:={ m with broken:=x }
theorem Mut.givenSet{base:Nat}{w:World}{m:Mem}(h:SAt base w m)(x:Int):Mut base w m (w.setCell ⟨m.s,10,none⟩ (.int .i64 x)) (m.givenSet x):=⟨h.field 10 (.int .i64 x),h.ws,h.ls,h.counts,h.places,rfl,rfl,rfl⟩
theorem Mut.brokenSet{base:Nat}{w:World}{m:Mem}(h:SAt base w m)(x:Int):Mut base w m (w.setCell ⟨m.s,11,none⟩ (.int .i64 x)) (m.brokenSet x):=⟨h.field 11 (.int .i64 x),h.ws,h.ls,h.counts,h.places,rfl,rfl,rfl⟩
structure AKept(base:Nat)(w:World)(m0:Mem)(G:List Nat)(wr:World)(m:Mem)(cls:List Cl)(wat:Int->List Int)(tr:Tr)(lits:List Int):Prop where
 mu:Mut base w m0 wr m
 rep:Rep m (cls++[⟨false,lits⟩]) tr
 watAt:eJ m wat
 trok:TrOK cls tr
 wf:∀(c:Nat) cl,(cls++[⟨false,lits⟩])[c]?=some cl->aM cl.lits
 lists:∀l,(wat l).Nodup/\∀p,p∈wat l↔Watcher (cls++[⟨false,lits⟩]) l p
 zero:levels tr=0
 passed:m.passed=0
 heap:HeapOK m.all m.places
 free:∀u:Nat,0<u->u<=12->(u:Int)∈m.all
 told:m.steps=[]/\m.nsteps=0
 rounds:m.rlen=4/\m.rmet=0/\m.conflicts=0
 masks:dL (cls++[⟨false,lits⟩])=G++[Sp.maskOf lits]
 ok:(m.broken=-1/\∀(c:Nat) cl,cls[c]?=some cl->WOK tr 0 cl.lits)∨(m.broken≠-1/\∃(c:Nat) (cl:Cl),cls[c]?=some cl/\∀y,y∈cl.lits->Tru tr (-y))
section
variable {base:Nat}{w wr wr':World}{m0 m m':Mem}{G:List Nat}{cls:List Cl}{wat:Int->List Int}{tr:Tr}{lits:List Int}
theorem aP7(h:∀(c:Nat) cl,cls[c]?=some cl->aM cl.lits)(hl:aM lits)(f:Bool):∀(c:Nat) cl,(cls++[(⟨f,lits⟩:Cl)])[c]?=some cl->aM cl.lits:=by
 intro c d hd
 by_cases hlt:c<cls.length
 ·rw[List.getElem?_append_left hlt]at hd;exact h c d hd
 ·have hlt':=(List.getElem?_eq_some_iff.1 hd).1
  simp at hlt'
  have:c=cls.length:=by omega
  subst this
  simp at hd
  subst hd
  exact hl
theorem AAt.keep(h:AAt base w m0 G wr m cls wat tr){v:Value}(hwf:aM lits)(hv:Lies wr v (ints lits))(hnf:∀k,v.ownBlock=some k->¬foot m.rows k)(hsz:m.store.length<=9000000)(hbs:base<=w.heap.size):
  Calls Tryz.prog 67 #[.pointer (some ⟨m0.s,0,none⟩),v] wr fun e w'=>e=.returned (.int .i64 ((flat cls).length:Int))/\∃m' wat',AKept base w m0 G w' m' cls wat' tr lits/\m'.store.length=m.store.length+2+lits.length:=by
 have hS:=h.mu.at
 have hst:=h.rep.store
 have:=tK base m cls v lits wr hS hst (by omega) hwf (Nat.le_trans hbs h.mu.to.only.size) (jH h.lists h.watAt hS.ls (by rw[←hst];exact hsz)) hv hnf (by have:=gF hwf;omega)
 rw[h.mu.s]at this
 refine this.mono (fun e w' hh=>?_)
 obtain⟨h1,c0,m',hm,hw⟩:=hh
 rw[hst]at h1 hw
 refine⟨h1,m',eR wat lits ((flat cls).length:Int),⟨h.mu.trans hm,?_,mL (m:=m.kept c0 lits) (fun l a b=>h.watAt l a b) hw hwf hS.ls,h.trok,aP7 h.wf hwf false,kL h.lists ⟨false,lits⟩,h.zero,?_,?_,?_,?_,?_,?_,?_⟩,?_⟩
 all_goals obtain⟨f1,f2,f3,f4,f5,f6,f7,f8,f9,f10,f11,f12⟩:=hw.fix
 ·refine⟨?_,by rw[f5];exact h.rep.order,by rw[f6];exact h.rep.starts,by rw[f4];exact h.rep.len,fun i e hi=>?_,fun v a b c=>?_,by rw[f8,f7];exact h.rep.odr,by rw[f9,f5];exact h.rep.ordr⟩
  ·rw[f3,cD,dI,fT,List.append_nil]
   show m.store++[(lits.length:Int),0]++lits=_
   rw[hst]
   simp[Cl.cells]
  ·have:=h.rep.taken i e hi
   unfold Mem.truth Mem.level Mem.reason at *
   rw[f4];exact this
  ·have:=h.rep.free v a b c
   unfold Mem.truth at *
   rw[f4];exact this
 ·rw[f12];exact h.passed
 ·rw[f10,f11];exact h.heap
 ·intro u a b;rw[f10];exact h.free u a b
 ·have e1:m'.steps=m.steps:=congrArg (fun x=>x.1) f2
  have e2:m'.nsteps=m.nsteps:=congrArg (fun x=>x.2.1) f2
  rw[e1,e2];exact h.told
 ·have e1:m'.rlen=m.rlen:=congrArg (fun x=>x.1.1) f1
  have e2:m'.rmet=m.rmet:=congrArg (fun x=>x.1.2.1) f1
  have e3:m'.conflicts=m.conflicts:=congrArg (fun x=>x.2.2.1) f1
  rw[e1,e2,e3];exact h.rounds
 ·unfold dL
  rw[jP,List.map_append]
  have:=h.masks
  unfold dL at this
  rw[this];rfl
 ·have e1:m'.broken=m.broken:=congrArg (fun x=>x.2.1) f1
  rw[e1];exact h.ok
 ·rw[f3]
  show(m.store++[(lits.length:Int),0]++lits).length=_
  simp;omega
theorem AKept.given(h:AKept base w m0 G wr m cls wat tr lits)(hm:Mut base wr m wr' (m.givenSet ((flat (cls++[⟨false,lits⟩])).length:Int))):AKept base w m0 G wr' (m.givenSet ((flat (cls++[⟨false,lits⟩])).length:Int)) cls wat tr lits:=
 ⟨h.mu.trans hm,⟨h.rep.store,h.rep.order,h.rep.starts,h.rep.len,h.rep.taken,h.rep.free,h.rep.odr,h.rep.ordr⟩,h.watAt,h.trok,h.wf,h.lists,h.zero,h.passed,h.heap,h.free,h.told,h.rounds,h.masks,h.ok⟩
theorem uR{c:Nat}{d:Cl}{f:Bool}(hd:(cls++[(⟨f,lits⟩:Cl)])[c]?=some d):(c<cls.length/\cls[c]?=some d)∨(c=cls.length/\d=⟨f,lits⟩):=by
 by_cases hlt:c<cls.length
 ·rw[List.getElem?_append_left hlt]at hd;exact .inl ⟨hlt,hd⟩
 ·have hlt':=(List.getElem?_eq_some_iff.1 hd).1
  simp at hlt'
  have:c=cls.length:=by omega
  subst this
  simp at hd
  exact .inr ⟨rfl,hd.symm⟩
theorem AKept.plain(h:AKept base w m0 G wr m cls wat tr lits)(hg:m.given=((flat (cls++[⟨false,lits⟩])).length:Int))(hl:2<=lits.length∨m.broken≠-1):AAt base w m0 (G++[Sp.maskOf lits]) wr m (cls++[⟨false,lits⟩]) wat tr:=by
 refine⟨h.mu,h.rep,h.watAt,h.trok.more _,h.wf,h.lists,h.zero,h.passed,h.heap,h.free,h.told,h.rounds,hg,h.masks,?_⟩
 rcases h.ok with⟨h1,h2⟩|⟨h1,c,cl,h2,h3⟩
 ·refine .inl ⟨h1,fun c d hd=>?_⟩
  rcases uR hd with⟨-,hd⟩|⟨rfl,rfl⟩
  ·exact h2 c d hd
  ·rcases hl with hl|hl
   ·cases hlit:lits with
    | nil=>rw[hlit]at hl;simp at hl
    | cons a t=>
     cases t with
     | nil=>rw[hlit]at hl;simp at hl
     | cons b r=>exact .inr ⟨a,b,r,rfl,fun i q hi=>by omega,fun i q hi=>by omega⟩
   ·exact absurd h1 hl
 ·exact .inr ⟨h1,c,cl,by rw[List.getElem?_append_left (List.getElem?_eq_some_iff.1 h2).1];exact h2,h3⟩
theorem AKept.forced(h:AKept base w m0 G wr m cls wat tr lits)(hg:m.given=((flat (cls++[⟨false,lits⟩])).length:Int))(hl:lits.length<2)(hb:m.broken=-1){e:Ending}{w1:World}(hf:fU base wr m ⟨false,lits⟩ ((flat cls).length:Int) e w1):
  ∃z m1,e=.returned (.int .i64 z)/\Mut base wr m w1 m1/\∀w2,Mut base w1 m1 w2 (m1.brokenSet z)->∃tr2,AAt base w m0 (G++[Sp.maskOf lits]) w2 (m1.brokenSet z) (cls++[⟨false,lits⟩]) wat tr2:=by
 have hwf:aM lits:=h.wf cls.length ⟨false,lits⟩ (by simp)
 have hok:∀(c:Nat) cl,cls[c]?=some cl->WOK tr 0 cl.lits:=by
  rcases h.ok with⟨-,h2⟩|⟨h1,-⟩
  ·exact h2
  ·exact absurd hb h1
 have hpos:pos (cls++[⟨false,lits⟩]) cls.length=(flat cls).length:=by rw[bQ _ _ (Nat.le_refl _),cS _ (Nat.le_refl _)]
 have hlast:(cls++[(⟨false,lits⟩:Cl)])[cls.length]?=some ⟨false,lits⟩:=by simp
 have mk:∀{wx wy:World} {mx:Mem} {tx:Tr} {z:Int},Mut base w m0 wx mx->Rep mx (cls++[⟨false,lits⟩]) tx->TrOK (cls++[⟨false,lits⟩]) tx->levels tx=0->mx.lists=m.lists->mx.all=m.all->mx.places=m.places->mx.passed=m.passed->mx.told=m.told->mx.core=m.core->((z=-1/\∀(c:Nat) cl,(cls++[(⟨false,lits⟩:Cl)])[c]?=some cl->WOK tx 0 cl.lits)∨(z≠-1/\∃(c:Nat) (cl:Cl),(cls++[(⟨false,lits⟩:Cl)])[c]?=some cl/\∀y,y∈cl.lits->Tru tx (-y)))->Mut base wx mx wy (mx.brokenSet z)->AAt base w m0 (G++[Sp.maskOf lits]) wy (mx.brokenSet z) (cls++[⟨false,lits⟩]) wat tx:=by
  intro wx wy mx tx z h1 h2 h3 h4 h5 h6 h7 h8 h9 h10 h11 h12
  have e1:mx.rlen=m.rlen:=congrArg (fun x=>x.1.1) h10
  have e2:mx.rmet=m.rmet:=congrArg (fun x=>x.1.2.1) h10
  have e3:mx.conflicts=m.conflicts:=congrArg (fun x=>x.2.2.1) h10
  have e4:mx.given=m.given:=congrArg (fun x=>x.1.2.2) h10
  have e5:mx.steps=m.steps:=congrArg (fun x=>x.1) h9
  have e6:mx.nsteps=m.nsteps:=congrArg (fun x=>x.2.1) h9
  refine⟨h1.trans h12,⟨h2.store,h2.order,h2.starts,h2.len,h2.taken,h2.free,h2.odr,h2.ordr⟩,fun l a b=>by show mx.lists[_]?=_;rw[h5];exact h.watAt l a b,h3,h.wf,h.lists,h4,h8.trans h.passed,by show HeapOK mx.all mx.places;rw[h6,h7];exact h.heap,fun u a b=>by show _∈mx.all;rw[h6];exact h.free u a b,⟨e5.trans h.told.1,e6.trans h.told.2⟩,⟨e1.trans h.rounds.1,e2.trans h.rounds.2.1,e3.trans h.rounds.2.2⟩,e4.trans hg,h.masks,h11⟩
 have okAll:∀tx,(∀(c:Nat) cl,cls[c]?=some cl->WOK tx 0 cl.lits)->WOK tx 0 lits->∀(c:Nat) cl,(cls++[(⟨false,lits⟩:Cl)])[c]?=some cl->WOK tx 0 cl.lits:=fun tx h1 h2 c d hd=>by
  rcases uR hd with⟨-,hd⟩|⟨rfl,rfl⟩
  ·exact h1 c d hd
  ·exact h2
 rcases hf with⟨he,hm,hf⟩|⟨he,hd,r,hlr,hn,hf⟩
 ·refine⟨_,m,he,hm,fun w2 h2=>⟨tr,mk (h.mu.trans hm) h.rep (h.trok.more _) h.zero rfl rfl rfl rfl rfl rfl (.inr ⟨by omega,cls.length,⟨false,lits⟩,hlast,fun y hy=>?_⟩) h2⟩⟩
  rcases hf with hf|⟨hd,r,hlr,ht⟩
  ·simp only at hf
   rw[hf]at hy;cases hy
  ·simp only at hlr
   have hr:r=[]:=by rw[hlr]at hl;simp at hl;exact List.length_eq_zero_iff.1 (by omega)
   subst hr
   rw[hlr]at hy
   simp at hy
   subst hy
   have hb:=hwf.2 y (by rw[hlr];simp)
   exact(h.rep.is_false y hb.1 hb.2.1 hb.2.2).1 ht
 ·simp only at hlr
  have hr:r=[]:=by rw[hlr]at hl;simp at hl;exact List.length_eq_zero_iff.1 (by omega)
  subst hr
  have hb:=hwf.2 hd (by rw[hlr];simp)
  rcases hf with⟨hz,od,hm⟩|⟨hz,hm⟩
  ·obtain⟨o1,o2⟩:=(h.rep.is_open (h.trok.more _) hd hb.1 hb.2.1 hb.2.2).1 hz
   have hdec:dec (hd,((flat cls).length:Int))=false:=by simp[dec]
   have hlev:levels (tr++[(hd,((flat cls).length:Int))])=0:=by rw[bM,h.zero];simp[levels,hdec]
   refine⟨_,_,he,hm,fun w2 h2=>⟨tr++[(hd,((flat cls).length:Int))],mk (h.mu.trans hm) (h.rep.take (h.trok.more _) hb o1 o2 (by omega) od) ?_ hlev rfl rfl rfl rfl rfl rfl (.inl ⟨rfl,okAll _ (fun c d hc=>(hok c d hc).append (Nat.zero_le _) _) ?_⟩) h2⟩⟩
   ·have:=(h.trok.more [(⟨false,lits⟩:Cl)]).take (c:=cls.length) hb o1 o2 hlast hlr (fun y hy=>by cases hy)
    rw[hpos]at this
    exact this
   ·rw[hlr]
    refine .inl ⟨hd,rfl,tr.length,_,by simp;rfl,?_⟩
    rw[gR];exact hlev
  ·refine⟨_,m,he,hm,fun w2 h2=>⟨tr,mk (h.mu.trans hm) h.rep (h.trok.more _) h.zero rfl rfl rfl rfl rfl rfl (.inl ⟨rfl,okAll _ hok ?_⟩) h2⟩⟩
   have htru:Tru tr hd:=by
    rcases Classical.em (Tru tr hd)with ht|ht
    ·exact ht
    ·rcases Classical.em (Tru tr (-hd))with ht'|ht'
     ·exact absurd ((h.rep.is_false hd hb.1 hb.2.1 hb.2.2).2 ht') hn
     ·exact absurd ((h.rep.is_open (h.trok.more _) hd hb.1 hb.2.1 hb.2.2).2 ⟨ht,ht'⟩) hz
   obtain⟨j,q,hj⟩:=htru
   rw[hlr]
   exact .inl ⟨hd,rfl,j,q,hj,by have:=eX tr j;have:=h.zero;omega⟩
end
def AddRes(base:Nat)(w:World)(m0:Mem)(G:List Nat)(cls:List Cl)(lits:List Int)(k:Nat)(w':World):Prop:=∃m' wat' tr',AAt base w m0 (G++[Sp.maskOf lits]) w' m' (cls++[⟨false,lits⟩]) wat' tr'/\m'.store.length=k
set_option maxRecDepth 100000 in
set_option maxHeartbeats 3200000 in
theorem aO6(base:Nat)(w:World)(m0:Mem)(G:List Nat)(wr:World)(m:Mem)(cls:List Cl)(wat:Int->List Int)(tr:Tr)(v:Value)(lits:List Int)(h:AAt base w m0 G wr m cls wat tr)(hwf:aM lits)(hv:Lies wr v (ints lits))(hnf:∀k,v.ownBlock=some k->¬foot m.rows k)(hsz:m.store.length<=9000000)(hbs:base<=w.heap.size):
  Calls Tryz.prog 40 #[.pointer (some ⟨m0.s,0,none⟩),v] wr fun e w'=>e=.returned (.tuple #[])/\AddRes base w m0 G cls lits (m.store.length+2+lits.length) w':=by
 obtain⟨vo,vc,hvs,-⟩:=cT hv
 have HK:=aq (h.keep hwf hv hnf hsz hbs)
 have hLm:=gF hwf
 have HG:Hid (∀w1 m1 wat1,AKept base w m0 G w1 m1 cls wat1 tr lits->w1.cell? ⟨m0.s,0,none⟩=some m1.cl/\(∃ao cap,m1.cl=.slice ao (flat (cls++[⟨false,lits⟩])).length cap)/\(∃u,w1.cell? ⟨m0.s,10,none⟩=some u)/\w1.frozen? ⟨m0.s,10,none⟩=false/\m0.s<w1.heap.size/\AKept base w m0 G (w1.setCell ⟨m0.s,10,none⟩ (.int .i64 ((flat (cls++[⟨false,lits⟩])).length:Int))) (m1.givenSet ((flat (cls++[⟨false,lits⟩])).length:Int)) cls wat1 tr lits/\(w1.setCell ⟨m0.s,10,none⟩ (.int .i64 ((flat (cls++[⟨false,lits⟩])).length:Int))).cell? ⟨m0.s,11,none⟩=some (.int .i64 m1.broken)):=aq (by
  intro w1 m1 wat1 h1
  have hS:=h1.mu.at
  have hs:=h1.mu.s
  have hm:=Mut.givenSet hS ((flat (cls++[⟨false,lits⟩])).length:Int)
  rw[hs]at hm
  have hk:=h1.given hm
  obtain⟨ao,cp,hsh⟩:=aC (hS.pack.rows 3 _ rfl)
  refine⟨by rw[←hs,hS.cell 0 (by decide)];rfl,⟨ao,cp,?_⟩,⟨_,by rw[←hs];exact hS.cell 10 (by decide)⟩,by rw[←hs];exact hS.free 10,by rw[←hs];exact hS.lt.1,hk,?_⟩
  ·rw[←h1.rep.store];exact hsh
  ·have:=hk.mu.at.cell 11 (by decide)
   rw[hk.mu.s]at this
   exact this)
 have HF:Hid (∀w1 m1 wat1,AKept base w m0 G w1 m1 cls wat1 tr lits->m1.store.length=m.store.length+2+lits.length->m1.given=((flat (cls++[⟨false,lits⟩])).length:Int)->lits.length<2->m1.broken=-1->Calls Tryz.prog 69 #[.pointer (some ⟨m0.s,0,none⟩),.int .i64 ((flat cls).length:Int)] w1 fun e w'=>∃z,e=.returned (.int .i64 z)/\(∃u,w'.cell? ⟨m0.s,11,none⟩=some u)/\w'.frozen? ⟨m0.s,11,none⟩=false/\m0.s<w'.heap.size/\∃m' tr',AAt base w m0 (G++[Sp.maskOf lits]) (w'.setCell ⟨m0.s,11,none⟩ (.int .i64 z)) m' (cls++[⟨false,lits⟩]) wat1 tr'/\m'.store.length=m.store.length+2+lits.length):=aq (by
  intro w1 m1 wat1 h1 hst hg hl hb
  have hpos:pos (cls++[⟨false,lits⟩]) cls.length=(flat cls).length:=by rw[bQ _ _ (Nat.le_refl _),cS _ (Nat.le_refl _)]
  have:=mK base m1 (cls++[⟨false,lits⟩]) cls.length ⟨false,lits⟩ w1 h1.mu.at h1.rep.store (by simp) (by omega) hwf (Nat.le_trans hbs h1.mu.to.only.size) (by rw[h1.rep.order,List.length_map];have:=h1.trok.len;omega) h1.rep.odr h1.rep.ordr
  rw[hpos,h1.mu.s]at this
  refine this.mono (fun e w' hh=>?_)
  have hh2:=hh
  obtain⟨z,m2,he,hm,hfin⟩:=h1.forced hg hl hb hh
  have hS:=hm.at
  have hs:m2.s=m0.s:=hm.s.trans h1.mu.s
  have hmb:=Mut.brokenSet hS z
  rw[hs]at hmb
  obtain⟨tr2,hA⟩:=hfin _ hmb
  refine⟨z,he,⟨_,by rw[←hs];exact hS.cell 11 (by decide)⟩,by rw[←hs];exact hS.free 11,by rw[←hs];exact hS.lt.1,_,tr2,hA,?_⟩
  have e1:=hA.rep.store
  rw[e1,←h1.rep.store]
  exact hst)
 have HPL:Hid (∀w1 m1 wat1,AKept base w m0 G w1 m1 cls wat1 tr lits->m1.given=((flat (cls++[⟨false,lits⟩])).length:Int)->(2<=lits.length∨m1.broken≠-1)->AAt base w m0 (G++[Sp.maskOf lits]) w1 m1 (cls++[⟨false,lits⟩]) wat1 tr):=aq (fun w1 m1 wat1 h1 h2 h3=>h1.plain h2 h3)
 subst hvs
 clear h hv hnf hwf
 generalize hn:lits.length=n at *
 generalize hf1:(flat (cls++[⟨false,lits⟩])).length=N at *
 go_enter Tryz.func40,Tryz.ntmps40
 go_wp2_with fail
 refine(dz HK).mono ?_
 rintro e w1 ⟨rfl,m1,wat1,hA1,hs1⟩
 obtain⟨c0,⟨ao,cp,hsh⟩,⟨u10,c10⟩,f10,hsl,hk2,c11⟩:=dz HG w1 m1 wat1 hA1
 have HEN:=aq (nI m1.cl ao N cp w1 hsh)
 have HK2:=aq hk2
 have HS1:Hid ((m1.givenSet (N:Int)).store.length=m.store.length+2+n):=aq hs1
 clear hA1 hk2 hs1 hsh HK HG
 go_wp2_with fail
 refine(dz HEN).mono ?_
 rintro e w2 ⟨rfl,rfl⟩
 by_cases hn2:n<2
 ·have hni:(n:Int)<2:=by omega
  by_cases hb:m1.broken=-1
  ·have HFF:=aq (dz HF _ _ wat1 (dz HK2) (dz HS1) rfl hn2 hb)
   rw[hb]at c11
   clear HF HPL
   go_wp2_with fail
   refine(dz HFF).mono ?_
   rintro e w3 ⟨z,rfl,⟨u3,c3⟩,f3,hsl3,m3,tr3,hA3,hs3⟩
   have HE:=aq (And.intro hA3 hs3)
   clear hA3 hs3 HFF
   go_wp2
   try go_end0
   exact⟨rfl,m3,wat1,tr3,(dz HE).1,(dz HE).2⟩
  ·have HE:=aq (And.intro (dz HPL _ _ wat1 (dz HK2) rfl (.inr hb)) (dz HS1))
   have hbq:(m1.broken==-1)=false:=by simpa using hb
   clear HF HPL
   go_wp2
   try go_end0
   exact⟨rfl,_,wat1,tr,(dz HE).1,(dz HE).2⟩
 ·have hni:¬(n:Int)<2:=by omega
  have HE:=aq (And.intro (dz HPL _ _ wat1 (dz HK2) rfl (.inl (by omega))) (dz HS1))
  clear HF HPL
  go_wp2
  try go_end0
  exact⟨rfl,_,wat1,tr,(dz HE).1,(dz HE).2⟩
end Go.Proofs.YtekkkoipcghlmaaGreatDoor
