import Derived.Test.YtekkkoipcghlmaaGreatDoorU06
set_option linter.all false
namespace Go.Proofs.YtekkkoipcghlmaaGreatDoor
open Go.RowKit
attribute [local go_sem ↓] Go.wp_at_zero Go.wp_at_succ
def Mem.withCls(m:Mem)(cls:List Cl):Mem:={ m with store:=flat cls }
section
variable {base:Nat}{w:World}{m:Mem}{cls:List Cl}{c:Nat}{cl:Cl}
theorem Mut.lit(hS:SAt base w m)(hf:m.store=flat cls)(hc:cls[c]?=some cl){g cap:Nat}(hv:m.cl=.slice (some ⟨g,0,none⟩) m.store.length cap)(k:Nat)(hk:k<cl.lits.length)(x:Int):Mut base w m (w.setCell ⟨g,pos cls c+2+k,none⟩ (.int .i64 x)) (m.withCls (cls.set c ⟨cl.used,cl.lits.set k x⟩)):=by
 have hlt:=(List.getElem?_eq_some_iff.1 hc).1
 have hcl:cls[c]=cl:=by rw[List.getElem?_eq_getElem hlt]at hc;simpa using hc
 have h:=Mut.store1 hS hv (pos cls c+2+k) x
 have e:m.cell (pos cls c+2+k) x=m.withCls (cls.set c ⟨cl.used,cl.lits.set k x⟩):=by
  unfold Mem.cell Mem.withCls
  rw[hf,tC cls c k x hlt (by rw[hcl];exact hk),hcl]
 rw[e]at h
 exact h
theorem sR(hf:m.store=flat cls):m.withCls cls=m:=by unfold Mem.withCls;rw[←hf]
theorem aJ4(hc:cls[c]?=some cl):cls.set c cl=cls:=by
 apply List.ext_getElem?
 intro i
 by_cases h:i=c
 ·subst h;rw[List.getElem?_set_self (List.getElem?_eq_some_iff.1 hc).1,hc]
 ·rw[List.getElem?_set_ne (fun e=>h e.symm)]
theorem Mut.swap(hS:SAt base w m)(hf:m.store=flat cls)(hc:cls[c]?=some cl){g cap:Nat}(hv:m.cl=.slice (some ⟨g,0,none⟩) m.store.length cap)(i j:Nat)(hi:i<cl.lits.length)(hj:j<cl.lits.length)(x y:Int){wq:World}(hq:Below w.heap.size w wq):
  Mut base w m ((wq.setCell ⟨g,pos cls c+2+i,none⟩ (.int .i64 x)).setCell ⟨g,pos cls c+2+j,none⟩ (.int .i64 y)) (m.withCls (cls.set c ⟨cl.used,(cl.lits.set i x).set j y⟩)):=by
 have hlt:=(List.getElem?_eq_some_iff.1 hc).1
 have hcl:cls[c]=cl:=by rw[List.getElem?_eq_getElem hlt]at hc;simpa using hc
 have h0:=Mut.below hS hq
 have h1:=Mut.lit h0.at hf hc hv i hi x
 have hp:pos (cls.set c ⟨cl.used,cl.lits.set i x⟩) c=pos cls c:=fM cls c c _ hlt (by rw[hcl];simp)
 have hlen:(m.withCls (cls.set c ⟨cl.used,cl.lits.set i x⟩)).store.length=m.store.length:=by
  show(flat _).length=_
  rw[hf,gT _ _ _ hlt,dS cls c hlt,hcl]
  simp[Cl.cells]
 have h2:=Mut.lit (m:=m.withCls (cls.set c ⟨cl.used,cl.lits.set i x⟩)) (cls:=cls.set c ⟨cl.used,cl.lits.set i x⟩) (c:=c) (cl:=⟨cl.used,cl.lits.set i x⟩) h1.at rfl (by rw[List.getElem?_set_self hlt]) (g:=g) (cap:=cap) (by rw[hlen];exact hv) j (by simpa using hj) y
 rw[hp,List.set_set]at h2
 exact h0.trans (h1.trans h2)
end
def rQ(base:Nat)(w:World)(m:Mem)(cls:List Cl)(c:Nat)(cl:Cl)(u:Int)(e:Ending)(w':World):Prop:=
 ∃o r,(cl.lits=o::u::r∨cl.lits=u::o::r)/\
  ((e=.returned (.bool false)/\Mut base w m w' (m.withCls (cls.set c ⟨cl.used,o::u::r⟩))/\(m.truth o.natAbs=o∨∀x,x∈r->m.truth x.natAbs=-x))∨
  (e=.returned (.bool true)/\m.truth o.natAbs≠o/\∃k y v,r[k]?=some y/\m.truth y.natAbs≠-y/\Mut base w m w' ((m.withCls (cls.set c ⟨cl.used,o::y::r.set k u⟩)).watch1 (y+12).toNat v (pos cls c:Int))))
set_option maxRecDepth 100000 in
set_option maxHeartbeats 3200000 in
theorem vZ(base:Nat)(m:Mem)(cls:List Cl)(c:Nat)(cl:Cl)(u o:Int)(r:List Int)(w:World)(hS:SAt base w m)(hf:m.store=flat cls)(hc:cls[c]?=some cl)(hsz:m.store.length<=9900000)(hwf:aM cl.lits)(hl:cl.lits=o::u::r∨cl.lits=u::o::r)(hbs:base<=w.heap.size)(hll:∀(k:Nat) (l:List Int),m.lists[k]?=some l->l.length<=9000000):
  Calls Tryz.prog 185 #[.pointer (some ⟨m.s,0,none⟩),.int .i64 (pos cls c:Int),.int .i64 u] w fun e w'=>rQ base w m cls c cl u e w':=by
 have hc0:w.cell? ⟨m.s,0,none⟩=some m.cl:=by rw[hS.cell 0 (by decide)];rfl
 have HLI:=aq (dV base m cls c cl w hS hf hc (by omega))
 obtain⟨g,cap,hv,-,hg,hroom,-,-,hlit,hfz⟩:=cK base m cls c cl w hS hf hc
 have hlen:cl.lits.length=r.length+2:=by rcases hl with hl|hl<;>rw[hl]<;>rfl
 have hss:=hS.lt.1
 have hnb:r.length<=9900000:=by omega
 rw[hv,hlen]at HLI
 rw[hv]at hc0
 have HLV:Hid (∀g',cI g' (pos cls c) (r.length+2)=.slice (some ⟨g',pos cls c+2,none⟩) (r.length+2) (r.length+2)):=aq (fun g'=>by unfold cI;rw[if_neg (by omega)])
 obtain⟨m1,hm1⟩:∃m1,m1=m.withCls (cls.set c ⟨cl.used,o::u::r⟩):=⟨_,rfl⟩
 have hf0:=hfz (pos cls c+2)
 have hf1:=hfz (pos cls c+3)
 have HSW:Hid (∀wq,Below w.heap.size w wq->(cl.lits=o::u::r->Mut base w m wq m1)/\(cl.lits=u::o::r->Mut base w m ((wq.setCell ⟨g,pos cls c+2,none⟩ (.int .i64 o)).setCell ⟨g,pos cls c+3,none⟩ (.int .i64 u)) m1)):=aq (fun wq hq=>⟨fun e=>by
   have:m1=m:=by rw[hm1,←e,aJ4 (by rw[hc]),sR hf]
   rw[this];exact Mut.below hS hq,fun e=>by
   have:=Mut.swap hS hf hc hv 0 1 (by omega) (by omega) o u hq
   rw[hm1]
   rw[e]at this
   simpa using this⟩)
 obtain⟨x0,x1,hcx0,hcx1,hcells⟩:∃x0 x1:Int,w.cell? ⟨g,pos cls c+2,none⟩=some (.int .i64 x0)/\w.cell? ⟨g,pos cls c+3,none⟩=some (.int .i64 x1)/\((cl.lits=o::u::r/\x0=o/\x1=u/\(o==u)=false)∨(cl.lits=u::o::r/\x0=u/\x1=o)):=by
  have h0:=hlit 0 (by omega)
  have h1:=hlit 1 (by omega)
  rcases hl with hl|hl
  ·refine⟨o,u,by simpa [hl] using h0,by simpa [hl] using h1,.inl ⟨hl,rfl,rfl,?_⟩⟩
   have:=hwf.1
   rw[hl]at this
   simp at this
   rw[beq_eq_false_iff_ne]
   exact fun e=>this.1.1 (by rw[e])
  ·exact⟨u,o,by simpa [hl] using h0,by simpa [hl] using h1,.inr ⟨hl,rfl,rfl⟩⟩
 have HCE:=aq hcells
 have HM1:=aq hm1
 have HL:=aq hl
 have HV:=aq hv
 have HS:=aq hS
 have HF:=aq hf
 have HC:=aq hc
 have HWF:=aq hwf
 have HLL:=aq hll
 clear hlit hfz hroom hcells hm1 hl hv hS hf hc hwf hll hlen
 generalize hp:pos cls c=p at *
 have HP:=aq hp
 clear hp
 generalize hn:r.length=n at *
 have HN:=aq hn
 clear hn
 go_enter Tryz.func185,Tryz.ntmps185
 go_wp2_with fail
 refine(dz HLI).mono ?_
 rintro e w1 ⟨⟨g',rfl,hg'⟩,rfl⟩
 simp only[Value.ownBlock,Option.some.injEq]at hg'
 subst hg'
 rw[dz HLV]
 go_upto_if 19 with fail
 go_cut [] (fun wx=>Hid (Mut base w1 m wx m1))
 case first=>
  rcases dz HCE with⟨e1,e2,e3,e4⟩|⟨e1,e2,e3⟩
  ·have HT:=aq ((dz HSW _ (Below.refl _ _)).1 e1)
   subst e2 e3
   clear e1
   rw[e4]
   go_wp2
   go_meet
   exact HT
  ·have HT:=aq ((dz HSW _ (Below.refl _ _)).2 e1)
   subst e2 e3
   clear e1
   go_wp2_with fail
   go_region
   all_goals go_wp2_with fail
   all_goals go_meet
   all_goals first|exact HT|exact aq (dz HT).drew|exact aq (dz HT).drew.drew
 case rest=>
  obtain⟨w2,rfl⟩:∃w2,w2=wc:=⟨wc,rfl⟩
  have HMU:=hcut
  have hm1:=dz HM1
  have hSm:=(dz HMU).at
  have hc1:(cls.set c ⟨cl.used,o::u::r⟩)[c]?=some ⟨cl.used,o::u::r⟩:=List.getElem?_set_self (List.getElem?_eq_some_iff.1 (dz HC)).1
  have hlen:cl.lits.length=r.length+2:=by rcases dz HL with hl|hl<;>rw[hl]<;>rfl
  have hclt:=(List.getElem?_eq_some_iff.1 (dz HC)).1
  have hcle:cls[c]=cl:=by have:=dz HC;rw[List.getElem?_eq_getElem hclt]at this;simpa using this
  have hpos1:∀j,pos (cls.set c ⟨cl.used,o::u::r⟩) j=pos cls j:=fun j=>fM cls c j _ hclt (by rw[hcle,hlen];rfl)
  have hst1:m1.store=flat (cls.set c ⟨cl.used,o::u::r⟩):=by rw[hm1];rfl
  have hcl1:m1.cl=m.cl:=by rw[hm1];rfl
  have hs1:m1.s=m.s:=by rw[hm1];rfl
  have htr1:∀v,m1.truth v=m.truth v:=fun v=>by rw[hm1];rfl
  have hli1:m1.lists=m.lists:=by rw[hm1];rfl
  have hsl1:m1.store.length=m.store.length:=by
   rw[hst1,dz HF,gT _ _ _ hclt,dS cls c hclt,hcle]
   simp only[List.length_append,Cl.cells_len,List.length_cons,hlen]
  obtain⟨g1,cap1,hv1,-,hg1,-,-,-,hlit1,hfz1⟩:=cK base m1 (cls.set c ⟨cl.used,o::u::r⟩) c ⟨cl.used,o::u::r⟩ w2 hSm hst1 hc1
  obtain⟨rfl,rfl⟩:g1=g/\cap1=cap:=by
   rw[hcl1,dz HV,hsl1]at hv1
   simp only[Value.slice.injEq,Option.some.injEq,Addr.mk.injEq,and_true,true_and]at hv1
   exact⟨hv1.1.symm,hv1.2.symm⟩
  rw[hpos1,dz HP]at hlit1
  have hwf1:∀x,x∈o::u::r->x≠0/\-12<=x/\x<=12:=fun x hx=>(dz HWF).2 x (by rcases dz HL with hl|hl<;>rw[hl]<;>simp only[List.mem_cons]at hx⊢<;>rcases hx with hx|hx|hx<;>simp[hx])
  have hd0:w2.cell? ⟨g1,p+2,none⟩=some (.int .i64 o):=hlit1 0 (by simp)
  have hd1:w2.cell? ⟨g1,p+3,none⟩=some (.int .i64 u):=hlit1 1 (by simp)
  have HDK:Hid (∀k (hk:k<r.length),w2.cell? ⟨g1,p+2+(k+2),none⟩=some (.int .i64 r[k])):=aq (fun k hk=>hlit1 (k+2) (by simpa using hk))
  have HFZ:=aq hfz1
  have HTR:Hid (∀wx,Below w2.heap.size w2 wx->Calls Tryz.prog 126 #[.pointer (some ⟨m.s,3,none⟩),.int .i64 o] wx fun e w'=>e=.returned (.bool (m.truth o.natAbs==o))/\Below w2.heap.size w2 w'):=aq (fun wx hb=>by
   have:=kO base m1 o wx (hSm.below hb) (hwf1 o (by simp)).2.1 (hwf1 o (by simp)).2.2
   rw[hs1,htr1]at this
   exact this.mono (fun e w' hh=>And.intro hh.1 (hb.trans (hh.2.mono hb.size))))
  have HFA:Hid (∀wx x,x∈r->Below w2.heap.size w2 wx->Calls Tryz.prog 80 #[.pointer (some ⟨m.s,3,none⟩),.int .i64 x] wx fun e w'=>e=.returned (.bool (m.truth x.natAbs==-x))/\Below w2.heap.size w2 w'):=aq (fun wx x hx hb=>by
   have hx':=hwf1 x (by simp[hx])
   have:=fX base m1 x wx (hSm.below hb) hx'.2.1 hx'.2.2
   rw[hs1,htr1]at this
   exact this.mono (fun e w' hh=>And.intro hh.1 (hb.trans (hh.2.mono hb.size))))
  have HST:Hid (∀wx,Below w2.heap.size w2 wx->Mut base w1 m wx (m.withCls (cls.set c ⟨cl.used,o::u::r⟩))):=aq (fun wx hb=>by rw[←hm1];exact(dz HMU).trans (Mut.below hSm hb))
  have HSWP:Hid (∀wq k y,r[k]?=some y->Below w2.heap.size w2 wq->Mut base w1 m ((wq.setCell ⟨g1,p+3,none⟩ (.int .i64 y)).setCell ⟨g1,p+2+(k+2),none⟩ (.int .i64 u)) (m.withCls (cls.set c ⟨cl.used,o::y::r.set k u⟩))):=aq (fun wq k y hk hb=>by
   have hkl:=(List.getElem?_eq_some_iff.1 hk).1
   have:=Mut.swap hSm hst1 hc1 (g:=g1) (cap:=cap1) (by rw[hcl1,hsl1];exact dz HV) 1 (k+2) (by simp) (by simpa using hkl) y u hb
   rw[hpos1,dz HP]at this
   have e:m1.withCls ((cls.set c ⟨cl.used,o::u::r⟩).set c ⟨cl.used,((o::u::r).set 1 y).set (k+2) u⟩)=m.withCls (cls.set c ⟨cl.used,o::y::r.set k u⟩):=by
    rw[hm1,List.set_set];rfl
   rw[e]at this
   exact(dz HMU).trans this)
  have HADD:Hid (∀wx k y,r[k]?=some y->Mut base w1 m wx (m.withCls (cls.set c ⟨cl.used,o::y::r.set k u⟩))->Calls Tryz.prog 155 #[.pointer (some ⟨m.s,1,none⟩),.int .i64 y,.int .i64 (p:Int)] wx fun e w'=>e=.returned (.tuple #[])/\∃v,Mut base w1 m w' ((m.withCls (cls.set c ⟨cl.used,o::y::r.set k u⟩)).watch1 (y+12).toNat v (p:Int))):=aq (fun wx k y hk hm=>by
   have hkl:=(List.getElem?_eq_some_iff.1 hk).1
   have hy:=hwf1 y (by
    have:y∈r:=List.mem_of_getElem? hk
    simp[this])
   obtain⟨vb,lb,hvb,hlb,-,-⟩:=hm.at.list (k:=(y+12).toNat) (by omega)
   exact(gX base (m.withCls (cls.set c ⟨cl.used,o::y::r.set k u⟩)) y _ (y+12).toNat lb wx hm.at (by omega) (by omega) (Nat.le_trans hbs hm.to.only.size) hlb (by have:=dz HLL _ _ hlb;omega)).mono (fun e w' hh=>by
    obtain⟨h1,v,h2⟩:=hh
    exact⟨h1,v,hm.trans h2⟩))
  have HR1:Hid (∀w',m.truth o.natAbs=o->Below w2.heap.size w2 w'->rQ base w1 m cls c cl u (.returned (.bool false)) w'):=aq (fun w' ht hb=>⟨o,r,dz HL,.inl ⟨rfl,dz HST _ hb,.inl ht⟩⟩)
  have HR2:Hid (∀w',(∀x,x∈r->m.truth x.natAbs=-x)->Below w2.heap.size w2 w'->rQ base w1 m cls c cl u (.returned (.bool false)) w'):=aq (fun w' ht hb=>⟨o,r,dz HL,.inl ⟨rfl,dz HST _ hb,.inr ht⟩⟩)
  have HR3:Hid (∀w' k y v,m.truth o.natAbs≠o->r[k]?=some y->m.truth y.natAbs≠-y->Mut base w1 m w' ((m.withCls (cls.set c ⟨cl.used,o::y::r.set k u⟩)).watch1 (y+12).toNat v (p:Int))->rQ base w1 m cls c cl u (.returned (.bool true)) w'):=aq (fun w' k y v ht hk hy hm=>⟨o,r,dz HL,.inr ⟨rfl,ht,k,y,v,hk,hy,by rw[dz HP];exact hm⟩⟩)
  have hgl:g1<w2.heap.size:=hg1
  clear hm1 hSm hc1 hlen hclt hcle hpos1 hst1 hcl1 hs1 htr1 hli1 hsl1 hv1 hg1 hlit1 hfz1 hwf1 hcut HMU HM1 HCE HL HV HF HC HWF HLL HLV HS HSW HLI hcx0 hcx1 hf0 hf1 hc0 HST
  by_cases hto:m.truth o.natAbs=o
  ·have hq:(m.truth o.natAbs==o)=true:=by simpa using hto
   rw[hq]at HTR
   have HRR:=aq (fun w'=>dz HR1 w' hto)
   clear HR1 HR2 HR3 hto hq HSWP HADD HFA
   go_wp2_with fail
   go_region_with (go_at_call 126;refine(dz HTR _ (by go_grown)).mono ?_;rintro e w3 ⟨rfl,hb3⟩)
   all_goals go_wp2
   all_goals try go_ret
   all_goals exact dz HRR _ hb3
  ·have hq:(m.truth o.natAbs==o)=false:=by simpa using hto
   rw[hq]at HTR
   have HTO:=aq hto
   clear HR1 hq hto
   go_wp2_with fail
   go_region_with (go_at_call 126;refine(dz HTR _ (by go_grown)).mono ?_;rintro e w3 ⟨rfl,hb3⟩)
   go_wp2
   have HB3:=aq hb3
   clear hb3
   go_loopw [8] (fun i wr=>∃k:Nat,k<=n/\i=.int .i64 ((k:Int)+2)/\Hid (Below w2.heap.size w2 wr)/\Hid (∀x,x∈r.take k->m.truth x.natAbs=-x)) (fun i _=>n+2-(intOf i).toNat)
   case atStart=>exact⟨0,Nat.zero_le _,rfl,HB3,aq (fun x hx=>by simp at hx)⟩
   case round=>
    obtain⟨k,hk,rfl,HBR,HTA⟩:=hrel
    by_cases hlt:k<n
    ·have hlt':k<r.length:=by rw[dz HN];exact hlt
     have hbr:=dz HBR
     have hdk:wr.cell? ⟨g1,p+2+(k+2),none⟩=some (.int .i64 r[k]):=(hbr.cell (p:=⟨g1,p+2+(k+2),none⟩) hgl).trans (dz HDK k hlt')
     have HY:Hid (r[k]?=some r[k]):=aq (List.getElem?_eq_getElem hlt')
     have HYM:Hid (r[k]∈r):=aq (List.getElem_mem hlt')
     have HTS:Hid (r.take (k+1)=r.take k++[r[k]]):=aq (List.take_succ_eq_append_getElem hlt')
     generalize r[k]=y at *
     by_cases hyf:m.truth y.natAbs=-y
     ·have HFY:Hid (∀wx,Below w2.heap.size w2 wx->Calls Tryz.prog 80 #[.pointer (some ⟨m.s,3,none⟩),.int .i64 y] wx fun e w'=>e=.returned (.bool true)/\Below w2.heap.size w2 w'):=aq (fun wx hb=>by
       have:=dz HFA wx y (dz HYM) hb
       rw[show(m.truth y.natAbs==-y)=true from by simpa using hyf]at this
       exact this)
      have HYF:=aq hyf
      clear hyf
      go_wp2_with fail
      go_region_with (go_at_call 80;refine(dz HFY _ (by go_grown)).mono ?_;rintro e w4 ⟨rfl,hb4⟩)
      go_wp2
      go_roundw
      case rel=>exact⟨k+1,by omega,by go_num,aq hb4,aq (fun x hx=>by
       rw[dz HTS]at hx
       rcases List.mem_append.1 hx with hx|hx
       ·exact dz HTA x hx
       ·simp at hx;rw[hx];exact dz HYF)⟩
      case measure=>simp[intOf];omega
     ·have HFY:Hid (∀wx,Below w2.heap.size w2 wx->Calls Tryz.prog 80 #[.pointer (some ⟨m.s,3,none⟩),.int .i64 y] wx fun e w'=>e=.returned (.bool false)/\Below w2.heap.size w2 w'):=aq (fun wx hb=>by
       have:=dz HFA wx y (dz HYM) hb
       rw[show(m.truth y.natAbs==-y)=false from by simpa using hyf]at this
       exact this)
      have HYF:=aq hyf
      clear hyf
      go_wp2_with fail
      go_region_with (go_at_call 80;refine(dz HFY _ (by go_grown)).mono ?_;rintro e w4 ⟨rfl,hb4⟩)
      have e1:w4.cell? ⟨g1,p+2+(k+2),none⟩=some (.int .i64 y):=(World.cell?_of_block (w:=wr) (a:=⟨g1,p+2+(k+2),none⟩) ((hb4.block g1 hgl).trans (hbr.block g1 hgl).symm)).trans hdk
      have e2:w4.cell? ⟨g1,p+3,none⟩=some (.int .i64 u):=(hb4.cell (p:=⟨g1,p+3,none⟩) hgl).trans hd1
      have e3:w4.frozen? ⟨g1,p+2+(k+2),none⟩=false:=(World.frozen?_of_block (w:=w2) (a:=⟨g1,p+2+(k+2),none⟩) (hb4.block g1 hgl)).trans (dz HFZ _)
      have e4:w4.frozen? ⟨g1,p+3,none⟩=false:=(World.frozen?_of_block (w:=w2) (a:=⟨g1,p+3,none⟩) (hb4.block g1 hgl)).trans (dz HFZ _)
      have htn:((k:Int)+2).toNat=k+2:=by omega
      have h1n:(1:Int)<(n:Int)+2:=by omega
      have h2n:(k:Int)+2<(n:Int)+2:=by omega
      have h3n:(0:Int)<=(k:Int)+2:=by omega
      have hne:¬p+2+(k+2)=p+3:=by omega
      have hne':¬p+3=p+2+(k+2):=by omega
      have HSY:=aq (dz HSWP w4 k y (dz HY) hb4)
      have HAY:=aq (fun wx=>dz HADD wx k y (dz HY))
      have HRY:=aq (fun w' v=>dz HR3 w' k y v (dz HTO) (dz HY) (dz HYF))
      have hne2:¬p+2+(k+2)=p+2+1:=by omega
      have hne3:¬p+2+1=p+2+(k+2):=by omega
      have hlt4:g1<w4.heap.size:=Nat.lt_of_lt_of_le hgl hb4.size
      go_wp2_with fail
      go_region
      all_goals go_wp2_with fail
      all_goals go_region_with (go_at_call 155;refine(dz HAY _ (by first|exact(dz HSY).drew.drew|exact(dz HSY).drew|exact dz HSY|exact(dz HSY).drew.drew.drew)).mono ?_;rintro e w6 ⟨rfl,v6,hm6⟩;have HM6:=aq hm6;clear hm6)
      all_goals go_wp2
      all_goals try go_ret
      all_goals exact dz HRY _ _ (dz HM6)
    ·have HR:=aq (dz HR2 · (fun x hx=>dz HTA x (by rw[List.take_of_length_le (by rw[dz HN];omega)];exact hx)))
     go_wp2
     try go_ret
     exact dz HR _ (dz HBR)
end Go.Proofs.YtekkkoipcghlmaaGreatDoor
namespace Go.Proofs.YtekkkoipcghlmaaGreatDoor
open Go.RowKit
structure Rep(m:Mem)(cls:List Cl)(tr:Tr):Prop where
 store:m.store=flat cls
 order:m.order=tr.map (fun e=>e.1)
 starts:m.starts=(bB tr).map (fun(n:Nat)=>(n:Int))
 len:m.facts.length=39
 taken:∀(i:Nat) e,tr[i]?=some e->m.truth e.1.natAbs=e.1/\m.level e.1.natAbs=(lev tr i:Int)/\m.reason e.1.natAbs=e.2
 free:∀v,0<v->v<13->(∀(i:Nat) e,tr[i]?=some e->e.1.natAbs≠v)->m.truth v=0
 odr:m.odr=m.od
 ordr:m.ordr=m.order
section
variable {m:Mem}{cls:List Cl}{tr:Tr}
theorem Rep.is_true(h:Rep m cls tr)(x:Int)(h0:x≠0)(h1:-12<=x)(h2:x<=12):m.truth x.natAbs=x↔Tru tr x:=by
 constructor
 ·intro ht
  rcases Classical.em (∃(i:Nat) (e:Int×Int),tr[i]?=some e/\e.1.natAbs=x.natAbs)with⟨i,e,hi,he⟩|hn
  ·have:=(h.taken i e hi).1
   rw[he,ht]at this
   exact⟨i,e.2,by rw[hi,this]⟩
  ·have:=h.free x.natAbs (by omega) (by omega) (fun i e hi he=>hn ⟨i,e,hi,he⟩)
   omega
 ·rintro⟨i,r,hi⟩
  exact(h.taken i _ hi).1
theorem Rep.is_false(h:Rep m cls tr)(x:Int)(h0:x≠0)(h1:-12<=x)(h2:x<=12):m.truth x.natAbs=-x↔Tru tr (-x):=by
 have:=h.is_true (-x) (by omega) (by omega) (by omega)
 rw[Int.natAbs_neg]at this
 exact this
theorem Rep.is_open(h:Rep m cls tr)(ht:TrOK cls tr)(x:Int)(h0:x≠0)(h1:-12<=x)(h2:x<=12):m.truth x.natAbs=0↔¬Tru tr x/\¬Tru tr (-x):=by
 constructor
 ·intro hz
  refine⟨fun hT=>?_,fun hT=>?_⟩
  ·have:=(h.is_true x h0 h1 h2).2 hT;omega
  ·have:=(h.is_false x h0 h1 h2).2 hT;omega
 ·rintro⟨n1,n2⟩
  refine h.free x.natAbs (by omega) (by omega) (fun i e hi he=>?_)
  have:e.1=x∨e.1=-x:=by omega
  rcases this with h|h
  ·exact n1 ⟨i,e.2,by rw[hi,←h]⟩
  ·exact n2 ⟨i,e.2,by rw[hi,←h]⟩
theorem Rep.levels(h:Rep m cls tr):m.starts.length=levels tr:=by rw[h.starts,List.length_map,dB]
theorem mS(l:List Int)(v u:Nat)(t lv r:Int)(hl:l.length=39)(hv:v<13)(hu:u<13):
  (((cC l v t lv r)[u*3]?).getD 0=if u=v then t else((l[u*3]?).getD 0))/\(((cC l v t lv r)[u*3+1]?).getD 0=if u=v then lv else((l[u*3+1]?).getD 0))/\(((cC l v t lv r)[u*3+2]?).getD 0=if u=v then r else((l[u*3+2]?).getD 0)):=by
 unfold cC
 simp only[List.getElem?_set,List.length_set,hl]
 by_cases e:u=v
 ·subst e
  simp only[if_true]
  refine⟨?_,?_,?_⟩
  ·rw[if_neg (by omega),if_neg (by omega),if_pos (by omega)];rfl
  ·rw[if_neg (by omega),if_pos (by omega)];rfl
  ·rw[if_pos (by omega)];rfl
 ·simp only[if_neg e]
  refine⟨?_,?_,?_⟩
  ·rw[if_neg (by omega),if_neg (by omega),if_neg (by omega)]
  ·rw[if_neg (by omega),if_neg (by omega),if_neg (by omega)]
  ·rw[if_neg (by omega),if_neg (by omega),if_neg (by omega)]
theorem tV(m:Mem)(x r:Int)(od:Value)(hl:m.facts.length=39)(hx:x.natAbs<13)(u:Nat)(hu:u<13):(m.taken x r od).truth u=(if u=x.natAbs then x else m.truth u)/\(m.taken x r od).level u=(if u=x.natAbs then(m.starts.length:Int)else m.level u)/\(m.taken x r od).reason u=(if u=x.natAbs then r else m.reason u):=mS m.facts x.natAbs u x m.starts.length r hl hx hu
theorem iP(l:List Int)(v:Nat)(t lv r:Int):(cC l v t lv r).length=l.length:=by simp[cC]
theorem Rep.take_gen(h:Rep m cls tr)(ht:TrOK cls tr){x r:Int}(hx:x≠0/\-12<=x/\x<=12)(h1:¬Tru tr x)(h2:¬Tru tr (-x))(m1:Mem)(hf:m1.facts=m.facts)(hs:(m1.starts.length:Int)=(lev (tr++[(x,r)]) tr.length:Int))(hst:m1.starts=(bB (tr++[(x,r)])).map (fun(n:Nat)=>(n:Int)))(hso:m1.store=m.store)(ho:m1.order=m.order)(od:Value):Rep (m1.taken x r od) cls (tr++[(x,r)]):=by
 have hl:m1.facts.length=39:=by rw[hf];exact h.len
 have hxv:x.natAbs<13:=by omega
 have tt:=tV m1 x r od hl hxv
 have e0:∀u,m1.truth u=m.truth u:=fun u=>by unfold Mem.truth;rw[hf]
 have e1:∀u,m1.level u=m.level u:=fun u=>by unfold Mem.level;rw[hf]
 have e2:∀u,m1.reason u=m.reason u:=fun u=>by unfold Mem.reason;rw[hf]
 refine⟨?_,?_,hst,?_,fun i e hi=>?_,fun v h0 h13 hn=>?_,rfl,rfl⟩
 ·show m1.store=_;rw[hso];exact h.store
 ·show m1.order++[x]=_;rw[ho,h.order];simp
 ·show(cC m1.facts _ _ _ _).length=39;rw[iP];exact hl
 ·rcases gO hi with⟨hlt,h'⟩|⟨rfl,rfl⟩
  ·have hb:=ht.bd i e h'
   obtain⟨t1,t2,t3⟩:=tt e.1.natAbs (by omega)
   have hne:e.1.natAbs≠x.natAbs:=by
    intro he
    have:e.1=x∨e.1=-x:=by omega
    rcases this with h|h
    ·exact h1 ⟨i,e.2,by rw[h',←h]⟩
    ·exact h2 ⟨i,e.2,by rw[h',←h]⟩
   rw[if_neg hne]at t1 t2 t3
   rw[t1,t2,t3,e0,e1,e2,eH hlt]
   exact h.taken i e h'
  ·obtain⟨t1,t2,t3⟩:=tt x.natAbs hxv
   rw[if_pos rfl]at t1 t2 t3
   exact⟨t1,by rw[t2];exact hs,t3⟩
 ·obtain⟨t1,-,-⟩:=tt v h13
  have hne:v≠x.natAbs:=fun e=>hn tr.length (x,r) (by simp) e.symm
  rw[if_neg hne,e0]at t1
  rw[t1]
  exact h.free v h0 h13 (fun i e hi=>hn i e (by rw[List.getElem?_append_left (List.getElem?_eq_some_iff.1 hi).1];exact hi))
theorem Rep.take(h:Rep m cls tr)(ht:TrOK cls tr){x r:Int}(hx:x≠0/\-12<=x/\x<=12)(h1:¬Tru tr x)(h2:¬Tru tr (-x))(hr:r≠-1)(od:Value):Rep (m.taken x r od) cls (tr++[(x,r)]):=by
 have hd:dec (x,r)=false:=by simp[dec,hr]
 refine h.take_gen ht hx h1 h2 m rfl ?_ ?_ rfl rfl od
 ·rw[gR,bM,h.levels]
  simp[Go.Proofs.YtekkkoipcghlmaaGreatDoor.levels,hd]
 ·rw[kF,hd];exact h.starts
theorem Rep.decide(h:Rep m cls tr)(ht:TrOK cls tr){x:Int}(hx:x≠0/\-12<=x/\x<=12)(h1:¬Tru tr x)(h2:¬Tru tr (-x))(st od:Value):Rep (m.decided x st od) cls (tr++[(x,-1)]):=by
 have hd:dec (x,-1)=true:=rfl
 have hol:m.order.length=tr.length:=by rw[h.order,List.length_map]
 refine h.take_gen ht hx h1 h2 { m with starts:=m.starts++[(m.order.length:Int)],st:=st } rfl ?_ ?_ rfl rfl od
 ·rw[gR,bM]
  show((m.starts++[(m.order.length:Int)]).length:Int)=_
  rw[List.length_append,h.levels]
  simp[Go.Proofs.YtekkkoipcghlmaaGreatDoor.levels,hd]
 ·rw[kF,hd]
  show m.starts++[(m.order.length:Int)]=_
  rw[h.starts,hol]
  simp
theorem Rep.turn(h:Rep m cls tr)(cls':List Cl):Rep (m.withCls cls') cls' tr:=⟨rfl,h.order,h.starts,h.len,h.taken,h.free,h.odr,h.ordr⟩
end
end Go.Proofs.YtekkkoipcghlmaaGreatDoor
namespace Go.Proofs.YtekkkoipcghlmaaGreatDoor
open Go.RowKit
def Mem.but(m0 m:Mem):Mem:={ m0 with cl:=m.cl,wl:=m.wl,fa:=m.fa,od:=m.od,odr:=m.odr,ordr:=m.ordr,st:=m.st,ws:=m.ws,store:=m.store,facts:=m.facts,order:=m.order,starts:=m.starts,lists:=m.lists }
def Kept(m0 m:Mem):Prop:=m=m0.but m
theorem Kept.refl(m:Mem):Kept m m:=rfl
theorem Kept.trans{a b c:Mem}(h:Kept a b)(h':Kept b c):Kept a c:=by
 unfold Kept at h h'⊢
 rw[h]at h'
 exact h'
def aS3(m:Mem)(wat:Int->List Int)(u:Int):Prop:=∀l,-12<=l->l<=12->l≠u->m.lists[(l+12).toNat]?=some (wat l)
def eJ(m:Mem)(wat:Int->List Int):Prop:=∀l,-12<=l->l<=12->m.lists[(l+12).toNat]?=some (wat l)
structure VAt(base:Nat)(w:World)(m0:Mem)(cls0:List Cl)(tr0:Tr)(i0:Nat)(u:Int)(L:List Int)(v0:Value)(wr:World)(m:Mem)(cls:List Cl)(wat:Int->List Int)(tr:Tr)(stay todo:List Int)(bad:Int):Prop where
 mu:Mut base w m0 wr m
 rep:Rep m cls tr
 wats:aS3 m wat u
 own:m.lists[(u+12).toNat]?=some (stay++L.drop stay.length)
 head:m.ws[(u+12).toNat]?=some v0
 wl:m.wl=m0.wl
 kept:Kept m0 m
 vis:Vis i0 u cls wat tr stay todo bad
 went:Went cls0 tr0 cls tr
 size:m.store.length=m0.store.length
theorem Vis.clause{i0:Nat}{u:Int}{cls:List Cl}{wat:Int->List Int}{tr:Tr}{stay todo:List Int}{bad p:Int}(h:Vis i0 u cls wat tr stay (p::todo) bad):∃c cl o r,cls[c]?=some cl/\p=(pos cls c:Int)/\(cl.lits=o::u::r∨cl.lits=u::o::r):=by
 obtain⟨c,cl,h1,h2,a,b,r,h3,h4⟩:=(h.own.2 p).1 (by simp)
 rcases h4 with rfl|rfl
 ·exact⟨c,cl,b,r,h1,h2,.inr h3⟩
 ·exact⟨c,cl,a,r,h1,h2,.inl h3⟩
theorem oC{l:List Int}(h:aM l){x:Int}(hx:x∈l):x≠0/\-12<=x/\x<=12:=h.2 x hx
theorem lB{cls:List Cl}{c:Nat}{cl:Cl}(hc:cls[c]?=some cl){l:List Int}(hl:l.length=cl.lits.length):(flat (cls.set c ⟨cl.used,l⟩)).length=(flat cls).length:=by
 have hlt:=(List.getElem?_eq_some_iff.1 hc).1
 have hcl:cls[c]=cl:=by rw[List.getElem?_eq_getElem hlt]at hc;simpa using hc
 rw[gT _ _ _ hlt,dS cls c hlt,hcl]
 simp only[List.length_append,Cl.cells_len,hl]
section
variable {base:Nat}{w:World}{m0:Mem}{cls0:List Cl}{tr0:Tr}{i0:Nat}{u:Int}{L:List Int}{v0:Value}{wr wr':World}{m:Mem}{cls:List Cl}{wat:Int->List Int}{tr:Tr}{stay todo:List Int}{bad p:Int}{c:Nat}{cl:Cl}{o:Int}{r:List Int}
theorem VAt.ubd(h:VAt base w m0 cls0 tr0 i0 u L v0 wr m cls wat tr stay todo bad):u≠0/\-12<=u/\u<=12:=by
 obtain⟨q,hq⟩:=h.vis.here
 have:=h.vis.trok.bd i0 _ hq
 simp at this
 omega
theorem VAt.move(h:VAt base w m0 cls0 tr0 i0 u L v0 wr m cls wat tr stay (p::todo) bad)(hc:cls[c]?=some cl)(hp:p=(pos cls c:Int))(hl:cl.lits=o::u::r∨cl.lits=u::o::r)(ho:m.truth o.natAbs≠o){k:Nat}{y:Int}{v:Value}(hk:r[k]?=some y)(hy:m.truth y.natAbs≠-y)
  (hm:Mut base wr m wr' ((m.withCls (cls.set c ⟨cl.used,o::y::r.set k u⟩)).watch1 (y+12).toNat v p)):VAt base w m0 cls0 tr0 i0 u L v0 wr' ((m.withCls (cls.set c ⟨cl.used,o::y::r.set k u⟩)).watch1 (y+12).toNat v p) (cls.set c ⟨cl.used,o::y::r.set k u⟩) (upd wat y (wat y++[p])) tr stay todo bad:=by
 have hwf:=h.vis.wf c cl hc
 have hin:∀x,x=o∨x=u∨x∈r->x∈cl.lits:=fun x hx=>by rcases hl with hl|hl<;>rw[hl]<;>simp only[List.mem_cons]<;>rcases hx with hx|hx|hx<;>simp[hx]
 have hyr:y∈r:=List.mem_of_getElem? hk
 have bo:=oC hwf (hin o (.inl rfl))
 have byy:=oC hwf (hin y (.inr (.inr hyr)))
 have ub:=h.ubd
 have hM:Moves tr u cl.lits (o::y::r.set k u) y:=⟨o,r,k,hl,hk,rfl,fun hT=>ho ((h.rep.is_true o bo.1 bo.2.1 bo.2.2).2 hT),fun hT=>hy ((h.rep.is_false y byy.1 byy.2.1 byy.2.2).2 hT)⟩
 obtain⟨hV,hyu⟩:=h.vis.move hc hp hM
 have hne:(u+12).toNat≠(y+12).toNat:=fun e=>hyu (by omega)
 refine⟨h.mu.trans hm,?_,fun l h1 h2 h3=>?_,?_,?_,h.wl,h.kept.trans rfl,hV,h.went.trans ⟨SameCl.set hc hM.perm,[],by simp,by simp⟩,?_⟩
 ·have:=h.rep.turn (cls.set c ⟨cl.used,o::y::r.set k u⟩)
  exact⟨this.store,this.order,this.starts,this.len,this.taken,this.free,this.odr,this.ordr⟩
 ·show(m.lists.set (y+12).toNat ((m.lists[(y+12).toNat]?).getD []++[p]))[(l+12).toNat]?=_
  have hwy:=h.wats y byy.2.1 byy.2.2 hyu
  by_cases e:l=y
  ·subst e
   rw[List.getElem?_set_self (List.getElem?_eq_some_iff.1 hwy).1,hwy]
   simp[upd]
  ·rw[List.getElem?_set_ne (fun e'=>e (by omega))]
   unfold upd
   rw[if_neg e]
   exact h.wats l h1 h2 h3
 ·show(m.lists.set (y+12).toNat ((m.lists[(y+12).toNat]?).getD []++[p]))[(u+12).toNat]?=_
  rw[List.getElem?_set_ne (fun e=>hne e.symm)];exact h.own
 ·show(m.ws.set (y+12).toNat v)[(u+12).toNat]?=_
  rw[List.getElem?_set_ne (fun e=>hne e.symm)];exact h.head
 ·show(flat _).length=_
  rw[lB hc hM.perm.length_eq,←h.rep.store];exact h.size
def Mem.put(m:Mem)(k j:Nat)(p:Int):Mem:={ m with lists:=m.lists.set k (((m.lists[k]?).getD []).set j p) }
structure VMid(base:Nat)(w:World)(m0:Mem)(cls0:List Cl)(tr0:Tr)(i0:Nat)(u:Int)(L:List Int)(v0:Value)(wr:World)(m:Mem)(cls:List Cl)(wat:Int->List Int)(tr:Tr)(stay todo:List Int)(bad p:Int)(c:Nat)(cl:Cl)(o:Int)(r:List Int):Prop where
 mu:Mut base w m0 wr m
 rep:Rep m (cls.set c ⟨cl.used,o::u::r⟩) tr
 wats:aS3 m wat u
 own:m.lists[(u+12).toNat]?=some ((stay++[p])++L.drop (stay++[p]).length)
 head:m.ws[(u+12).toNat]?=some v0
 wl:m.wl=m0.wl
 kept:Kept m0 m
 vis:Vis i0 u cls wat tr stay (p::todo) bad
 went:Went cls0 tr0 (cls.set c ⟨cl.used,o::u::r⟩) tr
 size:m.store.length=m0.store.length
 at_:cls[c]?=some cl
 place:p=(pos cls c:Int)
 lits:cl.lits=o::u::r∨cl.lits=u::o::r
 why:Tru tr o∨∀x,x∈r->Tru tr (-x)
theorem VMid.stays(h:VMid base w m0 cls0 tr0 i0 u L v0 wr m cls wat tr stay todo bad p c cl o r):Stays tr u cl.lits (o::u::r) o:=⟨r,h.lits,rfl,h.why⟩
theorem VMid.obd(h:VMid base w m0 cls0 tr0 i0 u L v0 wr m cls wat tr stay todo bad p c cl o r):o≠0/\-12<=o/\o<=12:=oC (h.vis.wf c cl h.at_) (by rcases h.lits with hl|hl<;>rw[hl]<;>simp)
theorem VMid.wf(h:VMid base w m0 cls0 tr0 i0 u L v0 wr m cls wat tr stay todo bad p c cl o r):aM (o::u::r):=by
 have hw:=h.vis.wf c cl h.at_
 have hp:=h.stays.perm
 refine⟨(hp.map Int.natAbs).nodup_iff.2 hw.1,fun x hx=>hw.2 x (hp.mem_iff.1 hx)⟩
theorem VMid.trok(h:VMid base w m0 cls0 tr0 i0 u L v0 wr m cls wat tr stay todo bad p c cl o r):TrOK (cls.set c ⟨cl.used,o::u::r⟩) tr:=by
 refine h.vis.trok.change h.at_ h.stays.perm.length_eq ?_
 rcases h.lits with hl|hl
 ·exact .inl hl.symm
 ·refine .inr (fun x hx hT=>?_)
  rw[hl]at hx;simp at hx;subst hx
  exact h.vis.not_true hT
theorem VMid.isBad(h:VMid base w m0 cls0 tr0 i0 u L v0 wr m cls wat tr stay todo bad p c cl o r)(hb:bad≠-1):VAt base w m0 cls0 tr0 i0 u L v0 wr m (cls.set c ⟨cl.used,o::u::r⟩) wat tr (stay++[p]) todo bad:=
 ⟨h.mu,h.rep,h.wats,h.own,h.head,h.wl,h.kept,h.vis.stay_bad h.at_ h.place h.stays hb,h.went,h.size⟩
theorem VMid.isFalse(h:VMid base w m0 cls0 tr0 i0 u L v0 wr m cls wat tr stay todo (-1) p c cl o r)(hm:Mut base wr m wr' m)(ho:m.truth o.natAbs=-o):VAt base w m0 cls0 tr0 i0 u L v0 wr' m (cls.set c ⟨cl.used,o::u::r⟩) wat tr (stay++[p]) todo p:=
 ⟨h.mu.trans hm,h.rep,h.wats,h.own,h.head,h.wl,h.kept,h.vis.stay_false h.at_ h.place h.stays ((h.rep.is_false o h.obd.1 h.obd.2.1 h.obd.2.2).1 ho),h.went,h.size⟩
theorem VMid.isTrue(h:VMid base w m0 cls0 tr0 i0 u L v0 wr m cls wat tr stay todo (-1) p c cl o r)(hm:Mut base wr m wr' m)(ho:m.truth o.natAbs≠-o)(ho0:m.truth o.natAbs≠0):VAt base w m0 cls0 tr0 i0 u L v0 wr' m (cls.set c ⟨cl.used,o::u::r⟩) wat tr (stay++[p]) todo (-1):=by
 have hT:Tru tr o:=by
  rcases Classical.em (Tru tr o)with hT|hT
  ·exact hT
  ·exact absurd ((h.rep.is_open h.trok o h.obd.1 h.obd.2.1 h.obd.2.2).2 ⟨hT,fun hF=>ho ((h.rep.is_false o h.obd.1 h.obd.2.1 h.obd.2.2).2 hF)⟩) ho0
 exact⟨h.mu.trans hm,h.rep,h.wats,h.own,h.head,h.wl,h.kept,h.vis.stay_true h.at_ h.place h.stays hT,h.went,h.size⟩
theorem VMid.take(h:VMid base w m0 cls0 tr0 i0 u L v0 wr m cls wat tr stay todo (-1) p c cl o r){od:Value}(hm:Mut base wr m wr' (m.taken o p od))(ho0:m.truth o.natAbs=0):VAt base w m0 cls0 tr0 i0 u L v0 wr' (m.taken o p od) (cls.set c ⟨cl.used,o::u::r⟩) wat (tr++[(o,p)]) (stay++[p]) todo (-1):=by
 obtain⟨n1,n2⟩:=(h.rep.is_open h.trok o h.obd.1 h.obd.2.1 h.obd.2.2).1 ho0
 have hp1:p≠-1:=by have:=h.place;omega
 refine⟨h.mu.trans hm,h.rep.take h.trok h.obd n1 n2 hp1 od,h.wats,h.own,h.head,h.wl,h.kept.trans rfl,h.vis.stay_take h.at_ h.place h.stays n1 n2,h.went.trans ⟨SameCl.refl _,[(o,p)],rfl,fun e he=>?_⟩,h.size⟩
 simp at he
 subst he
 simp[dec,hp1]
end
end Go.Proofs.YtekkkoipcghlmaaGreatDoor
