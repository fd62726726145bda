import Derived.Test.YtekkkoipcghlmaaGreatDoorU20
set_option linter.all false
namespace Go.Proofs.YtekkkoipcghlmaaGreatDoor
open Go.RowKit
attribute [local go_sem ↓] Go.wp_at_zero Go.wp_at_succ
def jY(base:Nat)(w:World)(m0:Mem)(old:List Cl)(ng:Nat)(tr0:Tr)(G:List Nat)(n:Nat)(w':World):Prop:=
 ∃m new wat tr S,Mut base w m0 w' m/\Rep m new tr/\eJ m wat/\Rest n new wat tr/\DU old ng tr0 (old.length-ng) new tr/\m.all=m0.all/\m.places=m0.places/\m.core=m0.core/\m.passed=m0.passed/\StepsAt base w' m S/\Chain G (bH S) (((dbOf new).drop ng).map Sp.maskOf)/\m.nsteps+new.length=m0.nsteps+old.length/\∀s,s∈S->aM s.2
section
variable {base:Nat}{w wr wr':World}{m0 m:Mem}{old new:List Cl}{ov:Value}{ng k:Nat}{tr0 tr:Tr}{G:List Nat}{S:List (Bool×List Int)}{cl:Cl}{c:Nat}
theorem mD{n:Nat}{wat:Int->List Int}(h:Rest n old wat tr0)(hc:old[c]?=some cl):∃x r,cl.lits=x::r:=by
 rcases h.ok c cl hc with⟨x,he,-⟩|⟨a,b,r,he,-⟩
 ·exact⟨x,[],he⟩
 ·exact⟨a,b::r,he⟩
theorem DUAt.forcedB(h:DUAt base w m0 old ov ng tr0 G k wr m new tr S){x:Int}(hx:x≠0/\-12<=x/\x<=12)(p:Nat):(m.truth x.natAbs==x&&m.reason x.natAbs==(p:Int))=true↔∃i:Nat,tr[i]?=some (x,(p:Int)):=by
 rw[Bool.and_eq_true,beq_iff_eq,beq_iff_eq]
 constructor
 ·rintro⟨h1,h2⟩
  obtain⟨i,r,hi⟩:=(h.rep.is_true x hx.1 hx.2.1 hx.2.2).1 h1
  have:=(h.rep.taken i _ hi).2.2
  simp only at this
  exact⟨i,by rw[hi,←this,h2]⟩
 ·rintro⟨i,hi⟩
  have:=h.rep.taken i _ hi
  exact⟨this.1,this.2.2⟩
theorem DUAt.ends{n:Nat}{wat0 wat:Int->List Int}{mk:Mem}(h:DUAt base w m0 old ov ng tr0 G k wr m new tr S)(hI:Rest n old wat0 tr0)(h0:levels tr0=0)(hk:k=old.length-ng)(hng:ng<=old.length)(hw:WAt base wr m new new.length wr' mk wat):jY base w m0 old ng tr0 G n wr':=by
 subst hk
 have hkw:=hw.kept
 have e1:mk.all=m.all:=by rw[hkw]
 have e2:mk.places=m.places:=by rw[hkw]
 have e3:mk.core=m.core:=by rw[hkw];rfl
 have e4:mk.passed=m.passed:=by rw[hkw]
 have e5:mk.told=m.told:=by rw[hkw];rfl
 have e6:mk.nsteps=m.nsteps:=by rw[hkw]
 have hlists:=hw.lists
 rw[List.take_length]at hlists
 refine⟨mk,new,wat,tr,S,h.em.rowMut.trans hw.mu,hw.kept.rep h.rep,hw.watAt,h.du.rest hI h0 (by omega) hlists,h.du,e1.trans h.all,e2.trans h.places,e3.trans h.core,e4.trans h.passed,h.steps.keep hw.mu.to e5,?_,by rw[e6];have:=h.nst;omega,h.swf⟩
 have:=h.chain
 have hz:(dbOf old).drop old.length=[]:=List.drop_of_length_le (by unfold dbOf;rw[List.length_map];exact Nat.le_refl _)
 rw[show ng+(old.length-ng)=old.length by omega,hz,List.map_nil,List.append_nil]at this
 exact this
end
set_option maxRecDepth 100000 in
set_option maxHeartbeats 32000000 in
theorem oG(base:Nat)(m0:Mem)(old:List Cl)(wat0:Int->List Int)(tr0:Tr)(n ng:Nat)(G:List Nat)(S0:List (Bool×List Int))(w:World)(hS:SAt base w m0)(hR:Rep m0 old tr0)(hI:Rest n old wat0 tr0)(h0:levels tr0=0)(hng:0<ng)(hngl:ng<=old.length)(hgi:m0.given=(pos old ng:Int))(hst:StepsAt base w m0 S0)(hch:Chain G (bH S0) (((dbOf old).drop ng).map Sp.maskOf))(hswf:∀s,s∈S0->aM s.2)(hns:m0.nsteps+(old.length-ng)<=15000000)(hsz:m0.store.length<=9000000)(hbs:base<=w.heap.size):
  Calls Tryz.prog 124 #[.pointer (some ⟨m0.s,0,none⟩)] w fun e w'=>e=.returned (.tuple #[])/\jY base w m0 old ng tr0 G n w':=by
 have hfl:=hR.store
 have hpn:pos old ng<=m0.store.length:=by rw[hfl];exact kI old ng
 have hp0:0<pos old ng:=by
  have:=yH old (i:=0) (j:=ng) (by omega) hng
  omega
 obtain⟨g,cap,hcl,hcap,hgl,hcells,-⟩:=hS.store (by omega)
 have hc0:w.cell? ⟨m0.s,0,none⟩=some (.slice (some ⟨g,0,none⟩) m0.store.length cap):=by rw[hS.cell 0 (by decide),←hcl];rfl
 have hf0:w.frozen? ⟨m0.s,0,none⟩=false:=hS.free 0
 have hc10:w.cell? ⟨m0.s,10,none⟩=some (.int .i64 (pos old ng:Int)):=by rw[hS.cell 10 (by decide),←hgi];rfl
 have hsl:=hS.lt.1
 have hxl:(flat (old.take ng)).length=pos old ng:=rfl
 have hLies:Lies w (.slice (some ⟨g,0,none⟩) (pos old ng) cap) (ints (flat (old.take ng))):=by
  refine .inr ⟨g,0,cap,by rw[cA,hxl];exact hp0,by rw[cA,hxl],hgl,fun j x hx=>?_⟩
  have hj:=(List.getElem?_eq_some_iff.1 hx).1
  rw[cA,hxl]at hj
  rw[Nat.zero_add,hcells j (by omega),←hx]
  unfold ints
  rw[List.getElem?_map]
  have e:flat old=flat (old.take ng)++flat (old.drop ng):=by rw[←cD,List.take_append_drop]
  have:(flat (old.take ng))[j]?=(flat old)[j]?:=by rw[e,List.getElem?_append_left (by rw[hxl];exact hj)]
  rw[this,←hfl,List.getElem?_eq_getElem (by omega)]
  rfl
 have HCLO:=aq (zV base g 0 cap (flat (old.take ng)) w (by rw[hxl];exact hp0) (by rw[hxl];omega) (by rw[hxl];exact hLies) hbs)
 rw[hxl]at HCLO
 have HST:Hid (∀v w1,w1.ownsRow base 3 1 v (pos old ng) (ints (flat (old.take ng)))->(∀g,v.ownBlock=some g->w.heap.size<=g)->Below w.heap.size w w1->(∃u,w1.cell? ⟨m0.s,0,none⟩=some u)/\w1.frozen? ⟨m0.s,0,none⟩=false/\w1.cell? ⟨m0.s,10,none⟩=some (.int .i64 (pos old ng:Int))/\m0.s<w1.heap.size/\(w1.setCell ⟨m0.s,0,none⟩ v).cell? ⟨m0.s,10,none⟩=some (.int .i64 (pos old ng:Int))/\∃m new tr S,DUAt base w m0 old m0.cl ng tr0 G 0 (w1.setCell ⟨m0.s,0,none⟩ v) m new tr S):=aq (by
  intro v w1 hown hn hb
  have hS1:=hS.below hb
  have hem:=EMut.clone hS (l:=flat (old.take ng)) (by rw[hxl];exact hown) hb hn
  rw[hfl]at hem
  refine⟨⟨_,hS1.cell 0 (by decide)⟩,hS1.free 0,by rw[hS1.cell 10 (by decide),←hgi];rfl,hS1.lt.1,?_,m0.stored v (flat (old.take ng)),old.take ng,tr0,S0,⟨hem,hR.stored _ _ rfl,DU.begin hngl,rfl,rfl,rfl,rfl,hst.keep hem.rowMut.to rfl,?_,by show m0.nsteps+(old.take ng).length=_;rw[List.length_take];omega,hswf⟩⟩
  ·have:=hem.at.cell 10 (by decide)
   rw[hem.s]at this
   rw[this,←hgi];rfl
  ·have:(dbOf (old.take ng)).drop ng=[]:=by
    rw[List.drop_eq_nil_iff];unfold dbOf;rw[List.length_map,List.length_take];omega
   rw[this,Nat.add_zero]
   exact hch)
 have hov:m0.cl=.slice (some ⟨g,0,none⟩) (flat old).length cap:=by rw[←hfl];exact hcl
 have HBODY:Hid (∀k wr m new tr S,DUAt base w m0 old m0.cl ng tr0 G k wr m new tr S->k<old.length-ng->∃(x:Int) (L:Nat) (cl:Cl),0<L/\L<=1000/\old[ng+k]?=some cl/\cl.lits.length=L/\(x≠0/\-12<=x/\x<=12)/\pos old (ng+(k+1))=pos old (ng+k)+2+L/\pos old (ng+(k+1))<=m0.store.length/\wr.cell? ⟨g,pos old (ng+k)+2,none⟩=some (.int .i64 x)/\
   Calls Tryz.prog 112 #[.slice (some ⟨g,0,none⟩) m0.store.length cap,.int .i64 (pos old (ng+k):Int)] wr (fun e w'=>e=.returned (.slice (some ⟨g,pos old (ng+k)+2,none⟩) L L)/\w'=wr)/\
   ∃fb:Bool,(fb=true->∃i:Nat,tr[i]?=some (x,(pos old (ng+k):Int)))/\(fb=false->¬∃(i:Nat) (e0:Int×Int),tr0[i]?=some e0/\e0.2=(pos old (ng+k):Int))/\∀wx,Below wr.heap.size wr wx->Calls Tryz.prog 164 #[.pointer (some ⟨m0.s,3,none⟩),.int .i64 x,.int .i64 (pos old (ng+k):Int)] wx (fun e w'=>e=.returned (.bool fb)/\Below wx.heap.size wx w')):=aq (by
  intro k wr m new tr S h hk
  have hlt:ng+k<old.length:=by omega
  have hc:old[ng+k]?=some old[ng+k]:=List.getElem?_eq_getElem hlt
  obtain⟨x,r,hl⟩:=mD hI hc
  have hwf:=hI.wf _ _ hc
  have hx:=hwf.2 x (by rw[hl];simp)
  obtain⟨g',cap',hv,-,-,hroom,-,-,hlit⟩:=gL base m0.cl old (ng+k) _ wr h.row hc
  rw[hov]at hv
  cases hv
  have hlen:0<old[ng+k].lits.length:=by rw[hl];simp
  have hL12:=gF hwf
  refine⟨x,old[ng+k].lits.length,old[ng+k],hlen,by omega,hc,rfl,hx,by rw[gQ hc];omega,by rw[gQ hc,hfl];omega,?_,?_,(m.truth x.natAbs==x&&m.reason x.natAbs==(pos old (ng+k):Int)),fun hb=>(h.forcedB hx _).1 hb,fun hb hex=>?_,?_⟩
  ·have:=hlit 0 hlen
   rw[Nat.add_zero]at this
   rw[this]
   simp[hl]
  ·have:=pX base m0.cl old (ng+k) _ wr h.row hc (by rw[←hfl];omega)
   rw[hcl]at this
   refine this.mono (fun e w' hh=>?_)
   obtain⟨⟨g2,he,hg2⟩,hw⟩:=hh
   simp only[Value.ownBlock,Option.some.injEq]at hg2
   subst hg2
   unfold cI at he
   rw[if_neg (by omega)]at he
   exact⟨he,hw⟩
  ·have:=(h.du.forced hI.trok h0 hc hl).2 hex
   rw[(h.forcedB hx _).2 this]at hb
   cases hb
  ·intro wx hwx
   have:=rT base m x (pos old (ng+k):Int) wx (h.em.at.below hwx) hx.2.1 hx.2.2
   rw[h.em.s]at this
   exact this)
 have HUSE:Hid (∀k wr m new tr S cl,DUAt base w m0 old m0.cl ng tr0 G k wr m new tr S->old[ng+k]?=some cl->Calls Tryz.prog 165 #[.slice (some ⟨g,0,none⟩) m0.store.length cap,.int .i64 (pos old (ng+k):Int)] wr (fun e w'=>e=.returned (.bool cl.used)/\w'=wr)):=aq (fun k wr m new tr S cl h hc=>by
  have:=vR base m0.cl old (ng+k) cl wr h.row hc (by rw[←hfl];omega)
  rw[hcl]at this
  exact this)
 have HBEH:Hid (∀j k wr m new tr S cl,DUAt base w m0 old m0.cl ng tr0 G j wr m new tr S->old[ng+k]?=some cl->Calls Tryz.prog 156 #[.slice (some ⟨g,0,none⟩) m0.store.length cap,.int .i64 (pos old (ng+k):Int)] wr (fun e w'=>e=.returned (.int .i64 (pos old (ng+(k+1)):Int))/\w'=wr)):=aq (fun j k wr m new tr S cl h hc=>by
  have:=mQ base m0.cl old (ng+k) cl wr h.row hc (by rw[←hfl];omega)
  rw[hcl,show pos old (ng+k)+2+cl.lits.length=pos old (ng+(k+1)) by rw[gQ hc];omega]at this
  exact this)
 have HGO:Hid (∀k wr m new tr S cl,DUAt base w m0 old m0.cl ng tr0 G k wr m new tr S->old[ng+k]?=some cl->k<old.length-ng->(¬∃(i:Nat) (e0:Int×Int),tr0[i]?=some e0/\e0.2=(pos old (ng+k):Int))->wr.cell? ⟨m0.s,14,none⟩=some m.sp/\(∃ao kk c,m.sp=.slice ao kk c)/\m0.s<wr.heap.size/\base<=wr.heap.size/\m.nsteps<=15000000/\wr.ownsRow base 131 2 m.sp m.nsteps m.steps/\
   ∀(g' cap':Nat) (w5:World) (tt:TypeId),w5.ownsRow base 131 2 (.slice (some ⟨g',0,none⟩) (m.nsteps+1) cap') (m.nsteps+1) (m.steps++[.slice (some ⟨g,pos old (ng+k)+2,none⟩) cl.lits.length cl.lits.length,.bool true])->(wr.alloc (.cells #[.slice (some ⟨g,pos old (ng+k)+2,none⟩) cl.lits.length cl.lits.length,.bool true] tt)).grownBy w5 m.sp.ownBlock->(m.sp.ownBlock=some g'∨g'=(wr.alloc (.cells #[.slice (some ⟨g,pos old (ng+k)+2,none⟩) cl.lits.length cl.lits.length,.bool true] tt)).heap.size)->
    w5.cell? ⟨m0.s,14,none⟩=some m.sp/\w5.frozen? ⟨m0.s,14,none⟩=false/\∃m' S',DUAt base w m0 old m0.cl ng tr0 G (k+1) (w5.setCell ⟨m0.s,14,none⟩ (.slice (some ⟨g',0,none⟩) (m.nsteps+1) cap')) m' new tr S'):=aq (by
  intro k wr m new tr S cl h hc hk hn
  have hSa:=h.em.at
  have hs4:=h.em.s
  obtain⟨x,r,hl⟩:=mD hI hc
  have hrow:wr.ownsRow base 131 2 m.sp m.nsteps m.steps:=hSa.pack.rows 12 _ rfl
  refine⟨by rw[←hs4,hSa.cell 14 (by decide)];rfl,?_,by rw[←hs4];exact hSa.lt.1,Nat.le_trans hbs h.em.pm.only.size,by have:=h.nst;have:=h.du.ngle;omega,hrow,fun g' cap' w5 tt h1 h2 h3=>?_⟩
  ·rcases hrow.2 with⟨h,-⟩|⟨g',c',cur,h,-⟩
   ·exact⟨_,_,_,h⟩
   ·exact⟨_,_,_,h⟩
  ·obtain⟨g2,cap2,hv2,hstep⟩:=h.lits hc (by rw[hl];simp)
   rw[hov]at hv2
   cases hv2
   have hlv:cI g (pos old (ng+k)) cl.lits.length=.slice (some ⟨g,pos old (ng+k)+2,none⟩) cl.lits.length cl.lits.length:=by unfold cI;rw[if_neg (by rw[hl];simp)]
   rw[hlv]at hstep
   have hmm:=Mut.steps hSa (g:=g') (cap:=cap') (n:=m.nsteps+1) (l:=m.steps++[.slice (some ⟨g,pos old (ng+k)+2,none⟩) cl.lits.length cl.lits.length,.bool true]) h1 (wz:=wr.alloc (.cells #[.slice (some ⟨g,pos old (ng+k)+2,none⟩) cl.lits.length cl.lits.length,.bool true] tt)) ((Below.refl _ _).alloc (Nat.le_refl _) _) h2 h3
   rw[hs4]at hmm
   exact⟨hmm.2.1,hmm.2.2,_,_,h.goes hc hn (hI.wf _ _ hc) hstep hmm.1⟩)
 have HADD:Hid (∀k wr m new tr S cl,DUAt base w m0 old m0.cl ng tr0 G k wr m new tr S->old[ng+k]?=some cl->k<old.length-ng->Calls Tryz.prog 110 #[.pointer (some ⟨m0.s,0,none⟩),.slice (some ⟨g,pos old (ng+k)+2,none⟩) cl.lits.length cl.lits.length] wr (fun e w'=>e=.returned (.int .i64 ((flat new).length:Int))/\
   ((¬∃(i:Nat) (e0:Int×Int),tr0[i]?=some e0/\e0.2=(pos old (ng+k):Int))->∃m' new' S',DUAt base w m0 old m0.cl ng tr0 G (k+1) w' m' new' tr S')/\
   (∀(i:Nat) (x:Int),tr[i]?=some (x,(pos old (ng+k):Int))->w'.cell? ⟨g,pos old (ng+k)+2,none⟩=wr.cell? ⟨g,pos old (ng+k)+2,none⟩/\∀wx,Below w'.heap.size w' wx->Calls Tryz.prog 166 #[.pointer (some ⟨m0.s,3,none⟩),.int .i64 x,.int .i64 ((flat new).length:Int)] wx (fun e w2=>e=.returned (.tuple #[])/\∃m' new' tr' S',DUAt base w m0 old m0.cl ng tr0 G (k+1) w2 m' new' tr' S')))):=aq (by
  intro k wr m new tr S cl h hc hk
  obtain⟨x0,r0,hl⟩:=mD hI hc
  have hwf:=hI.wf _ _ hc
  obtain⟨g2,cap2,hv2,hstep⟩:=h.lits hc (by rw[hl];simp)
  rw[hov]at hv2
  cases hv2
  have hlv:cI g (pos old (ng+k)) cl.lits.length=.slice (some ⟨g,pos old (ng+k)+2,none⟩) cl.lits.length cl.lits.length:=by unfold cI;rw[if_neg (by rw[hl];simp)]
  rw[hlv]at hstep
  have hroom:=h.du.room
  have hple:=kI old (ng+k)
  rw[←hfl]at hple
  have hst1:=h.rep.store
  have:=kW base m _ cl.lits wr h.em.at (Nat.le_trans hbs h.em.pm.only.size) (by have:=gF hwf;omega) (by rw[hst1];omega) hstep.lies (fun k hk=>(hstep.apart k hk).1)
  rw[h.em.s,hst1]at this
  refine this.mono (fun e w' hh=>?_)
  obtain⟨he,cv,hm⟩:=hh
  rw[←hst1]at hm
  refine⟨he,fun hn=>⟨_,_,_,h.stays hc hn hm⟩,fun i x hi=>⟨?_,?_⟩⟩
  ·refine World.cell?_of_block (hm.to.only.block g ?_ ?_)
   ·exact(hstep.apart g rfl).2
   ·exact(hstep.apart g rfl).1
  ·intro wx hwx
   have hm:=hm.trans (Mut.below hm.at hwx)
   obtain⟨e0,he0⟩:=dM h.du.len hi
   have h1:=h.du.fst i _ e0 hi he0
   have hx:=hI.trok.bd i e0 he0
   simp only at h1
   rw[←h1]at hx
   have:=pS base _ x ((flat new).length:Int) wx hm.at hx.2.1 hx.2.2
   rw[show(m.stored cv (m.store++[(cl.lits.length:Int),0]++cl.lits)).s=m0.s from h.em.s]at this
   refine this.mono (fun e w2 hh=>?_)
   obtain⟨he2,hm2⟩:=hh
   exact⟨he2,_,_,_,_,h.moves hI.trok h0 hc hi hm hm2⟩)
 have HEND:Hid (∀wr m new tr S,DUAt base w m0 old m0.cl ng tr0 G (old.length-ng) wr m new tr S->Calls Tryz.prog 167 #[.pointer (some ⟨m0.s,0,none⟩)] wr (fun e w'=>e=.returned (.tuple #[])/\jY base w m0 old ng tr0 G n w')):=aq (by
  intro wr m new tr S h
  have hroom:=h.du.room
  have hple:=kI old (ng+(old.length-ng))
  rw[←hfl]at hple
  have:=pN base m new wr h.em.at h.rep.store (fun c d hc=>by
   obtain⟨c',d',g1,g2⟩:=h.du.src c d hc
   rw[←g2];exact hI.wf c' d' g1) (by rw[h.rep.store];omega) (Nat.le_trans hbs h.em.pm.only.size)
  rw[h.em.s]at this
  refine this.mono (fun e w' hh=>?_)
  obtain⟨he,mk,wat,hw⟩:=hh
  exact⟨he,h.ends hI h0 rfl hngl hw⟩)
 have HBW:Hid (∀k wr wr' m new tr S,DUAt base w m0 old m0.cl ng tr0 G k wr m new tr S->Below wr.heap.size wr wr'->DUAt base w m0 old m0.cl ng tr0 G k wr' m new tr S):=aq (fun k wr wr' m new tr S h hb=>h.below hb)
 have HPE:Hid (pos old (ng+(old.length-ng))=m0.store.length):=aq (by rw[show ng+(old.length-ng)=old.length by omega,cS _ (Nat.le_refl _),hfl])
 clear hS hR hI hfl hcells hLies hst hch hov hcl hxl hgi
 generalize hK:old.length-ng=K at *
 generalize hN:m0.store.length=N at *
 go_enter Tryz.func124,Tryz.ntmps124
 go_wp2_with fail
 refine(dz HCLO).mono ?_
 rintro e w1 ⟨v1,rfl,hown,hn1,hb1⟩
 obtain⟨g1,cap1,rfl,-,-⟩:=World.ownsRow.form hown hp0
 obtain⟨⟨u0,c10⟩,f10,c110,hsl1,c210,hDU0⟩:=dz HST _ w1 hown hn1 hb1
 have HDU0:=aq hDU0
 clear hDU0 hown hn1 hb1 HCLO HST
 go_wp2
 go_loopw [3] (fun v3 wr=>∃k:Nat,k<=K/\v3=.int .i64 (pos old (ng+k):Int)/\Hid (∃m new tr S,DUAt base w m0 old m0.cl ng tr0 G k wr m new tr S)) (fun v3 _=>N+1-(intOf v3).toNat)
 case atStart=>exact⟨0,Nat.zero_le _,rfl,HDU0⟩
 case round=>
  obtain⟨k,hk,rfl,HD⟩:=hrel
  obtain⟨m,new,tr,S,hD⟩:=dz HD
  have HEN:=aq (nI (.slice (some ⟨g,0,none⟩) N cap) (some ⟨g,0,none⟩) N cap wr rfl)
  by_cases hkn:k<K
  ·obtain⟨x,L,cl,hL0,hL1,hcl,hcL,hx,hpn1,hpn2,hcx,hli,fb,hft,hff,hfo⟩:=dz HBODY k wr m new tr S hD hkn
   have HLI:=aq hli
   have HFO:=aq hfo
   have HFT:=aq hft
   have HFF:=aq hff
   have HCL:=aq hcl
   have HCN:=aq hcL
   have HDD:=aq hD
   have hki:(pos old (ng+k):Int)<(N:Int):=by omega
   clear hD hcl hcL hli hfo hft hff HD HDU0 HBODY HEND c10 f10 c110 c210
   have HP1:=aq hpn1
   have HP2:=aq hpn2
   generalize hpp:pos old (ng+k)=p at *
   clear hpn1 hpn2
   go_wp2_with fail
   refine(dz HEN).mono ?_
   rintro e w3 ⟨rfl,rfl⟩
   go_wp2_with fail
   refine(dz HLI).mono ?_
   rintro e w4 ⟨rfl,rfl⟩
   have HFX:Hid (∀d os,Calls Tryz.prog 164 #[.pointer (some ⟨m0.s,3,none⟩),.int .i64 x,.int .i64 (p:Int)] (Go.Sort.grow (redrawn w4 d) os) fun e w''=>e=.returned (.bool fb)/\∃q:Regrown,w''=Go.Sort.grow (redrawn w4 q.d) q.os):=aq (fun d os=>Calls.regrown_of (dz HFO _ (below_regrown w4 d os)))
   have hL0i:(0:Int)<(L:Int):=by omega
   go_wp2_with fail
   have k0:=cell_regrown hcx
   refine wp_region_quiet_below (by kernel_rfl) (by kernel_rfl) ?_
   iterate 9 (quiet_step (exact dz HFX _ _))
   refine wpQuiet_nil ?_
   intro _ hw'
   obtain⟨⟨dq,osq⟩,hw''⟩:=hw'
   subst hw''
   have hDq:=dz HBW k _ _ m new tr S (dz HDD) (below_regrown w4 dq osq)
   have hcxq:(Go.Sort.grow (redrawn w4 dq) osq).cell? ⟨g,p+2,none⟩=some (.int .i64 x):=k0 dq osq
   have HUS:=aq (dz HUSE k _ m new tr S cl hDq (dz HCL))
   rw[hpp]at HUS
   have HDQ:=aq hDq
   clear hDq k0 HFX HLI HFO HDD hcx HUSE
   generalize Go.Sort.grow (redrawn w4 dq) osq=wq at *
   clear HEN
   clear w4
   go_wp2_with fail
   refine(dz HUS).mono ?_
   rintro e w5 ⟨rfl,rfl⟩
   by_cases hgo:cl.used=false/\fb=false
   ·obtain⟨hu,hfb⟩:=hgo
    subst hfb
    rw[hu]
    have hg1:=dz HGO k _ m new tr S cl (dz HDQ) (dz HCL) hkn (by rw[hpp];exact dz HFF rfl)
    rw[hpp,dz HCN]at hg1
    obtain⟨hc14,hsp,hsq,hbq,hnq,hrow,hO⟩:=hg1
    have HROW:=aq hrow
    have HO:=aq hO
    clear hrow hO HGO HADD HUS
    go_wp2_with (at_builtin;refine mY (base:=base) rfl _ _ 82 131 rfl Tryz.underlying82 Tryz.infoStep rfl (by decide) (dz HROW) rfl rfl rfl rfl (by omega) (by omega) ?_;intro g' cap' w6 hown6 hgr6 hloc;have HMID:=aq (dz HO _ _ _ _ hown6 hgr6 hloc);clear hown6 hgr6 hloc;have hc64:=(dz HMID).1;have hf64:=(dz HMID).2.1)
    obtain⟨-,-,m',S',hD'⟩:=dz HMID
    have HB:=aq (dz HBEH (k+1) k _ m' new tr S' cl hD' (dz HCL))
    rw[hpp]at HB
    have HD':=aq hD'
    clear hD' HMID HO HROW
    go_wp2_with fail
    refine(dz HB).mono ?_
    rintro e w7 ⟨rfl,rfl⟩
    go_wp2
    refine⟨⟨k+1,by omega,rfl,aq ⟨m',new,tr,S',dz HD'⟩⟩,?_⟩
    have h1:=dz HP1
    have h2:=dz HP2
    simp only[intOf,Int.toNat_natCast]
    omega
   ·have hA:=dz HADD k _ m new tr S cl (dz HDQ) (dz HCL) hkn
    rw[hpp,dz HCN]at hA
    have HA:=aq hA
    clear hA HADD HGO HUS
    have HFIN:Hid (∀w7 m' new' tr' S',DUAt base w m0 old m0.cl ng tr0 G (k+1) w7 m' new' tr' S'->Calls Tryz.prog 156 #[.slice (some ⟨g,0,none⟩) N cap,.int .i64 (p:Int)] w7 (fun e w'=>e=.returned (.int .i64 (pos old (ng+(k+1)):Int))/\w'=w7)):=aq (fun w7 m' new' tr' S' h=>by
     have:=dz HBEH (k+1) k _ m' new' tr' S' cl h (dz HCL)
     rw[hpp]at this
     exact this)
    clear HBEH
    by_cases hfb:fb=true
    ·subst hfb
     obtain⟨i,hi⟩:=dz HFT rfl
     have HI:=aq hi
     clear hi
     have hor:(cl.used=true∨cl.used=false):=by cases cl.used<;>simp
     generalize cl.used=ub at *
     cases ub
     all_goals (
      go_wp2_with fail
      refine(dz HA).mono ?_
      rintro e w6 ⟨rfl,-,h6⟩
      obtain⟨hce,hsr⟩:=h6 i x (dz HI)
      rw[hcxq]at hce
      have HSR:=aq hsr
      clear h6 hsr
      go_wp2_with fail
      go_region_with (go_at_call 166;refine(dz HSR _ (by go_grown)).mono ?_;rintro e w7 ⟨rfl,h7⟩)
      obtain⟨m',new',tr',S',hD'⟩:=h7
      have HB:=aq (dz HFIN _ m' new' tr' S' hD')
      have HD':=aq hD'
      clear hD' HSR
      go_wp2_with fail
      refine(dz HB).mono ?_
      rintro e w8 ⟨rfl,rfl⟩
      go_wp2
      refine⟨⟨k+1,by omega,rfl,aq ⟨m',new',tr',S',dz HD'⟩⟩,?_⟩
      have h1:=dz HP1
      have h2:=dz HP2
      simp only[intOf,Int.toNat_natCast]
      omega)
    ·have hfb':fb=false:=by simpa using hfb
     have hu:cl.used=true:=by
      cases h:cl.used
      ·exact absurd ⟨h,hfb'⟩ hgo
      ·rfl
     subst hfb'
     rw[hu]
     go_wp2_with fail
     refine(dz HA).mono ?_
     rintro e w6 ⟨rfl,h6,-⟩
     obtain⟨m',new',S',hD'⟩:=h6 (dz HFF (by first|rfl|trivial))
     have HB:=aq (dz HFIN _ m' new' tr S' hD')
     have HD':=aq hD'
     clear hD' h6
     go_wp2_with fail
     refine(dz HB).mono ?_
     rintro e w8 ⟨rfl,rfl⟩
     go_wp2
     refine⟨⟨k+1,by omega,rfl,aq ⟨m',new',tr,S',dz HD'⟩⟩,?_⟩
     have h1:=dz HP1
     have h2:=dz HP2
     simp only[intOf,Int.toNat_natCast]
     omega
  ·have hkk:k=K:=by omega
   subst hkk
   have hki:¬(pos old (ng+k):Int)<(N:Int):=by rw[dz HPE];omega
   have HE:=aq (dz HEND _ m new tr S hD)
   clear hD HEND HBODY HUSE HBEH HGO HADD HD HDU0
   go_wp2_with fail
   refine(dz HEN).mono ?_
   rintro e w3 ⟨rfl,rfl⟩
   go_wp2_with fail
   refine(dz HE).mono ?_
   rintro e w4 ⟨rfl,h4⟩
   have H4:=aq h4
   clear h4
   go_wp2
   try go_end0
   exact⟨rfl,dz H4⟩
end Go.Proofs.YtekkkoipcghlmaaGreatDoor
namespace Go.Proofs.YtekkkoipcghlmaaGreatDoor
open Go.RowKit
attribute [local go_sem ↓] Go.wp_at_zero Go.wp_at_succ
structure RAt(base:Nat)(w:World)(m0:Mem)(G:List Nat)(wr:World)(m:Mem)(cls:List Cl)(wat:Int->List Int)(tr:Tr)(n:Nat)(S:List (Bool×List Int))(D:List Nat):Prop where
 mu:Mut base w m0 wr m
 rep:Rep m cls tr
 watAt:eJ m wat
 still:Rest n cls wat tr
 passed:m.passed=(n:Int)
 heap:HeapOK m.all m.places
 free:Free m tr
 steps:StepsAt base wr m S
 told:Told G cls S D
 given:m.given=(pos cls G.length:Int)
 count:(m.nsteps:Int)+D.length<=2*m.conflicts
def oR(base:Nat)(w:World)(m0:Mem)(G:List Nat)(m:Mem)(w':World):Prop:=
 ∃m' cls wat tr n S D,RAt base w m0 G w' m' cls wat tr n S D/\levels tr=0/\m'.rlen=m.rlen+m.rlen / 2/\m'.rmet=0/\m'.broken=m.broken/\m'.conflicts=m.conflicts/\m'.asm=m.asm/\m'.assumed=m.assumed
theorem RAt.back{base:Nat}{w wr w':World}{m0 m:Mem}{G:List Nat}{cls:List Cl}{wat:Int->List Int}{tr:Tr}{n:Nat}{S:List (Bool×List Int)}{D:List Nat}(h:RAt base w m0 G wr m cls wat tr n S D)(hb:gW base wr m cls tr 0 w'):
  ∃m' tr' n',RAt base w m0 G w' m' cls wat tr' n' S D/\levels tr'=0/\m'.core=m.core/\m'.told=m.told/\m'.s=m.s/\m'.store=m.store:=by
 rcases hb with⟨hl,hm⟩|⟨s,m',hss,hm,hr,hh,hal,hk,hp⟩
 ·exact⟨m,tr,n,⟨h.mu.trans hm,h.rep,h.watAt,h.still,h.passed,h.heap,h.free,h.steps.keep hm.to rfl,h.told,h.given,h.count⟩,by omega,rfl,rfl,rfl,rfl⟩
 ·obtain⟨g1,g2,g3,g4⟩:=hk.core
  obtain⟨hmin,hrest⟩:=h.still.cut hss
  have hl0:levels (tr.take s)=0:=(cO hss).2.2.1
  have e1:m'.given=m.given:=congrArg (fun x=>x.1.2.2) g1
  have e2:m'.conflicts=m.conflicts:=congrArg (fun x=>x.2.2.1) g1
  have e3:m'.nsteps=m.nsteps:=congrArg (fun x=>x.2.1) g2
  refine⟨m',tr.take s,s,⟨h.mu.trans hm,hr,fun l a b=>by rw[g3];exact h.watAt l a b,hrest,?_,hh,fun u h0 h12 hn=>?_,h.steps.keep hm.to g2,h.told,by rw[e1];exact h.given,by rw[e2,e3];exact h.count⟩,hl0,g1,g2,hm.s,g4⟩
  ·rw[hp,h.passed];omega
  ·rw[hal]
   rcases Classical.em (∃(i:Nat) (e:Int×Int),s<=i/\tr[i]?=some e/\(u:Int)=(e.1.natAbs:Int))with h'|h'
   ·exact .inr h'
   ·refine .inl (h.free u h0 h12 (fun i e hi he=>?_))
    rcases Nat.lt_or_ge i s with hlt|hge
    ·exact hn i e (by rw[List.getElem?_take_of_lt hlt];exact hi) he
    ·exact h' ⟨i,e,hge,hi,by omega⟩
theorem sA{a b:List Cl}{n:Nat}(h:a.take n=b.take n):pos a n=pos b n:=by unfold pos;rw[h]
theorem RAt.drop{base:Nat}{w wr w':World}{m0 m:Mem}{G:List Nat}{cls:List Cl}{wat:Int->List Int}{tr:Tr}{n:Nat}{S:List (Bool×List Int)}{D:List Nat}(h:RAt base w m0 G wr m cls wat tr n S D)(h0:levels tr=0)(hd:jY base wr m cls G.length tr G n w'):
  ∃m' cls' wat' tr' S' D',RAt base w m0 G w' m' cls' wat' tr' n S' D'/\levels tr'=0/\m'.core=m.core/\m'.s=m.s:=by
 obtain⟨m',new,wat',tr',S',hm,hr,hw,hi,hdu,ha,hpl,hc,hp,hst,hch,hns,hswf⟩:=hd
 have hlen:=h.told.len
 have hngl:G.length<=new.length:=hdu.ngle
 have e1:m'.given=m.given:=congrArg (fun x=>x.1.2.2) hc
 have e2:m'.conflicts=m.conflicts:=congrArg (fun x=>x.2.2.1) hc
 have htk:dL new=G++(((dbOf new).drop G.length).map Sp.maskOf):=by
  have h1:(dbOf new).take G.length=(dbOf cls).take G.length:=by
   unfold dbOf
   rw[←List.map_take,←List.map_take,hdu.given]
  have h2:((dbOf cls).take G.length).map Sp.maskOf=G:=by
   have:=h.told.masks
   unfold dL at this
   rw[List.map_take,this,List.take_left']
   rfl
  unfold dL
  conv=>lhs;rw[←List.take_append_drop G.length (dbOf new),List.map_append]
  rw[h1,h2]
 refine⟨m',new,wat',tr',S',_,⟨h.mu.trans hm,hr,hw,hi,by rw[hp];exact h.passed,by rw[ha,hpl];exact h.heap,fun u a b c=>?_,hst,⟨hch,htk,?_,hswf⟩,?_,?_⟩,eL (hdu.level h.still.trok h0),hc,hm.s⟩
 ·rw[ha]
  refine h.free u a b (fun i e hi he=>?_)
  obtain⟨f,hf⟩:=dM hdu.len.symm hi
  exact c i f hf (by rw[hdu.fst i f e hf hi];exact he)
 ·refine(List.Sublist.map code (hdu.sub.trans ?_)).nodup h.told.codes
  rw[show G.length+(cls.length-G.length)=cls.length by omega,show(dbOf cls).take cls.length=dbOf cls from List.take_of_length_le (by unfold dbOf;rw[List.length_map];exact Nat.le_refl _)]
  exact List.Sublist.refl _
 ·rw[e1,h.given,sA hdu.given]
 ·rw[e2]
  have:=h.count
  rw[List.length_map,List.length_drop]
  have:(dbOf new).length=new.length:=by unfold dbOf;rw[List.length_map]
  omega
set_option maxRecDepth 100000 in
set_option maxHeartbeats 32000000 in
theorem pR(base:Nat)(w:World)(m0:Mem)(G:List Nat)(wr:World)(m:Mem)(cls:List Cl)(wat:Int->List Int)(tr:Tr)(n:Nat)(S:List (Bool×List Int))(D:List Nat)(h:RAt base w m0 G wr m cls wat tr n S D)(hG:0<G.length)(hsz:m.store.length<=9000000)(hcf:m.conflicts<=3300000)(hr0:0<=m.rlen)(hr1:m.rlen<=1000000000)(hbs:base<=w.heap.size):
  Calls Tryz.prog 77 #[.pointer (some ⟨m0.s,0,none⟩)] wr fun e w'=>e=.returned (.tuple #[])/\oR base w m0 G m w':=by
 have HBK:=aq (pH base m cls tr 0 wr h.mu.at h.rep h.still.trok h.heap (by omega) (Nat.le_trans hbs h.mu.to.only.size))
 rw[h.mu.s]at HBK
 have HDR:Hid (∀w1,gW base wr m cls tr 0 w1->∃m1 tr1 n1,m1.core=m.core/\RAt base w m0 G w1 m1 cls wat tr1 n1 S D/\levels tr1=0/\Calls Tryz.prog 124 #[.pointer (some ⟨m0.s,0,none⟩)] w1 fun e w'=>e=.returned (.tuple #[])/\jY base w1 m1 cls G.length tr1 G n1 w'):=aq (by
  intro w1 hb
  obtain⟨m1,tr1,n1,h1,hl,hc,ht,hs,hst⟩:=h.back hb
  refine⟨m1,tr1,n1,hc,h1,hl,?_⟩
  have hch:=h1.told.chain
  have hlen:=h1.told.len
  have e2:m1.conflicts=m.conflicts:=congrArg (fun x=>x.2.2.1) hc
  have hDm:((dbOf cls).drop G.length).map Sp.maskOf=D:=by
   have:=h1.told.masks
   unfold dL at this
   rw[List.map_drop,this,List.drop_left']
   rfl
  have:=oG base m1 cls wat tr1 n1 G.length G S w1 h1.mu.at h1.rep h1.still hl hG (by omega) h1.given h1.steps (by rw[hDm];exact hch) h1.told.swf (by
   have:=h1.count
   omega) (by rw[hst];exact hsz) (Nat.le_trans hbs h1.mu.to.only.size)
  rw[h1.mu.s]at this
  exact this)
 have HNX:Hid (∀w1 w2 m1 tr1 n1,m1.core=m.core->RAt base w m0 G w1 m1 cls wat tr1 n1 S D->levels tr1=0->jY base w1 m1 cls G.length tr1 G n1 w2->∃m2:Mem,m2.s=m0.s/\Calls Tryz.prog 125 #[.pointer (some ⟨m0.s,8,none⟩)] w2 fun e w'=>e=.returned (.tuple #[])/\oR base w m0 G m w'):=aq (by
  intro w1 w2 m1 tr1 n1 hc h1 hl hd
  obtain⟨m2,cls2,wat2,tr2,S2,D2,h2,hl2,hc2,hs2⟩:=h1.drop hl hd
  have hcc:=hc2.trans hc
  have e1:m2.rlen=m.rlen:=congrArg (fun x=>x.1.1) hcc
  have e3:m2.broken=m.broken:=congrArg (fun x=>x.2.1) hcc
  have e4:m2.conflicts=m.conflicts:=congrArg (fun x=>x.2.2.1) hcc
  have e5:m2.asm=m.asm:=congrArg (fun x=>x.2.2.2.1) hcc
  have e6:m2.assumed=m.assumed:=congrArg (fun x=>x.2.2.2.2) hcc
  refine⟨m2,h2.mu.s,?_⟩
  have:=oQ base m2 w2 h2.mu.at (by rw[e1];exact hr0) (by rw[e1];exact hr1)
  rw[h2.mu.s]at this
  refine this.mono (fun e w' hh=>?_)
  obtain⟨he,hm⟩:=hh
  refine⟨he,_,cls2,wat2,tr2,n1,S2,D2,⟨h2.mu.trans hm,⟨h2.rep.store,h2.rep.order,h2.rep.starts,h2.rep.len,h2.rep.taken,h2.rep.free,h2.rep.odr,h2.rep.ordr⟩,h2.watAt,h2.still,h2.passed,h2.heap,h2.free,h2.steps.keep hm.to rfl,h2.told,h2.given,h2.count⟩,hl2,?_,rfl,e3,e4,e5,e6⟩
  show m2.rlen+m2.rlen / 2=_
  rw[e1])
 clear h
 go_enter Tryz.func77,Tryz.ntmps77
 go_wp2_with fail
 refine(dz HBK).mono ?_
 rintro e w1 ⟨rfl,hb⟩
 obtain⟨m1,tr1,n1,hc1,h1,hl1,hd1⟩:=dz HDR w1 hb
 have HD:=aq hd1
 have H1:=aq (And.intro hc1 (And.intro h1 hl1))
 clear hb hd1 hc1 h1 hl1 HBK HDR
 go_wp2_with fail
 refine(dz HD).mono ?_
 rintro e w2 ⟨rfl,hd2⟩
 obtain⟨hc1,h1,hl1⟩:=dz H1
 obtain⟨m2,hs2,hn2⟩:=dz HNX w1 w2 m1 tr1 n1 hc1 h1 hl1 hd2
 have HN:=aq hn2
 clear hn2 hd2 hc1 h1 hl1 HD HNX
 go_wp2_with fail
 refine(dz HN).mono ?_
 rintro e w3 ⟨rfl,h3⟩
 have H3:=aq h3
 clear h3
 go_wp2
 try go_end0
 exact⟨rfl,dz H3⟩
end Go.Proofs.YtekkkoipcghlmaaGreatDoor
