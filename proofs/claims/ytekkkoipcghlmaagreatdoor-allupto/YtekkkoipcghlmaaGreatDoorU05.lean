import Derived.Test.YtekkkoipcghlmaaGreatDoorU04
import Derived.Deep.DeepCutAuto
import Derived.Deep.RegionHeld3
import Derived.Deep.RegionLaw
import Derived.Deep.DrawnRows
set_option linter.all false
namespace Go.Proofs.YtekkkoipcghlmaaGreatDoor
open Go.RowKit
theorem Tryz.infoInt:(Tryz.prog.info? 3).map (fun i=>(i.zero,i.size,i.bytes))=some (some (.int .i64 0),1,8):=by kernel_rfl
theorem dT(l:List Int)(j:Nat)(x:Int):ints (l.set j x)=(ints l).set j (.int .i64 x):=by simp[ints,List.map_set]
theorem cV(l:List Int)(x:Int):ints (l++[x])=ints l++[.int .i64 x]:=by simp[ints]
theorem cA(l:List Int):(ints l).length=l.length:=by simp[ints]
section
variable {base:Nat}{w w':World}{m:Mem}
theorem SAt.facts_free(h:SAt base w m){b cap:Nat}(hv:m.fa=.slice (some ⟨b,0,none⟩) 13 cap)(j:Nat):w.frozen? ⟨b,j,none⟩=false:=by
 have hr:=h.pack.rows 5 _ rfl
 unfold Row.ok at hr
 have hr':w.ownsRow base 170 3 (.slice (some ⟨b,0,none⟩) 13 cap) 13 (ints m.facts):=by rw[←hv];exact hr
 exact hr'.frozenAt j
theorem Mut.fact1(h:SAt base w m){b cap:Nat}(hv:m.fa=.slice (some ⟨b,0,none⟩) 13 cap)(j:Nat)(t:Int):Mut base w m (w.setCell ⟨b,j,none⟩ (.int .i64 t)) { m with facts:=m.facts.set j t }:=by
 refine⟨?_,h.ws,h.ls,h.counts,h.places,rfl,rfl,rfl⟩
 show PMut base w m.rows _ (m.rows.set 5 ⟨170,3,m.fa,13,ints (m.facts.set j t)⟩)
 rw[dT]
 exact PMut.store h.pack (i:=5) rfl hv j _
theorem Mut.drew{m':Mem}(h:Mut base w m w' m'):Mut base w m w'.drew m':=h.trans (Mut.below h.at (Below.refl _ _).drew)
def cC(l:List Int)(v:Nat)(t lv r:Int):List Int:=((l.set (v*3) t).set (v*3+1) lv).set (v*3+2) r
theorem Mut.fact3(h:SAt base w m){b cap:Nat}(hv:m.fa=.slice (some ⟨b,0,none⟩) 13 cap)(hb:Below w.heap.size w w')(v:Nat)(t lv r:Int):Mut base w m (((w'.setCell ⟨b,v*3,none⟩ (.int .i64 t)).setCell ⟨b,v*3+1,none⟩ (.int .i64 lv)).setCell ⟨b,v*3+2,none⟩ (.int .i64 r)) { m with facts:=cC m.facts v t lv r }:=by
 have h0:=Mut.below h hb
 have h1:=Mut.fact1 h0.at hv (v*3) t
 have h2:=Mut.fact1 h1.at hv (v*3+1) lv
 have h3:=Mut.fact1 h2.at hv (v*3+2) r
 exact h0.trans (h1.trans (h2.trans h3))
theorem SAt.field(h:SAt base w m)(j:Nat)(u:Value):PMut base w m.rows (w.setCell ⟨m.s,j,none⟩ u) (m.rows.set 0 ⟨120,m.sCells.length,.slice (some ⟨m.s,0,none⟩) 1 1,1,m.sCells.set j u⟩):=PMut.store h.pack (i:=0) rfl rfl j u
theorem SAt.lt(h:SAt base w m):m.s<w.heap.size/\base<=m.s:=by have:=(h.pack.rows 0 _ rfl).lt m.s rfl;exact⟨this.2,this.1⟩
theorem Mut.order(h:SAt base w m)(hod:m.odr=m.od)(hor:m.ordr=m.order){o:Obj}{w4:World}{g cap:Nat}{x:Int}(hown:w4.ownsRow base 3 1 (.slice (some ⟨g,0,none⟩) (m.order.length+1) cap) (m.order.length+1) (ints m.order++[.int .i64 x]))(hgr:(w.alloc o).grownBy w4 m.od.ownBlock)(hloc:m.od.ownBlock=some g∨g=(w.alloc o).heap.size):
  Mut base w m (w4.setCell ⟨m.s,4,none⟩ (.slice (some ⟨g,0,none⟩) (m.order.length+1) cap)) { m with od:=.slice (some ⟨g,0,none⟩) (m.order.length+1) cap,order:=m.order++[x],odr:=.slice (some ⟨g,0,none⟩) (m.order.length+1) cap,ordr:=m.order++[x] }/\w4.cell? ⟨m.s,4,none⟩=some m.od/\w4.frozen? ⟨m.s,4,none⟩=false:=by
 have h1:=PMut.below h.pack ((Below.refl w.heap.size w).alloc (Nat.le_refl _) o)
 have hr6:m.rows[6]?=some (aB m.od m.order):=by rw[←hod,←hor];rfl
 have h2:=PMut.row h1.pack (i:=6) (r':=aB (.slice (some ⟨g,0,none⟩) (m.order.length+1) cap) (m.order++[x])) hr6 (by unfold Row.ok aB;rw[cV,List.length_append];exact hown) hgr (by
  rcases hloc with h|h
  ·exact .inr (.inl h.symm)
  ·exact .inr (.inr ⟨g,rfl,by omega⟩))
 have h3:=PMut.store h2.pack (i:=0) rfl rfl 4 (.slice (some ⟨g,0,none⟩) (m.order.length+1) cap)
 refine⟨⟨?_,h.ws,h.ls,h.counts,h.places,rfl,rfl,rfl⟩,?_,?_⟩
 ·exact h1.trans (h2.trans h3)
 ·exact World.ownsRow.cellAt (h2.pack.rows 0 _ rfl) 4 (by simp[aI,Mem.sCells])
 ·exact World.ownsRow.frozenAt (h2.pack.rows 0 _ rfl) 4
end
def Mem.taken(m:Mem)(x r:Int)(od:Value):Mem:={ m with facts:=cC m.facts x.natAbs x m.starts.length r,order:=m.order++[x],od:=od,odr:=od,ordr:=m.order++[x] }
set_option maxRecDepth 100000 in
set_option maxHeartbeats 1600000 in
theorem uK(base:Nat)(m:Mem)(x r:Int)(w:World)(hS:SAt base w m)(h0:-12<=x)(h1:x<=12)(hbs:base<=w.heap.size)(hol:m.order.length<=1000)(hod:m.odr=m.od)(hor:m.ordr=m.order):
  Calls Tryz.prog 114 #[.pointer (some ⟨m.s,3,none⟩),.int .i64 x,.int .i64 r] w fun e w'=>e=.returned (.tuple #[])/\∃od,Mut base w m w' (m.taken x r od):=by
 have HV:=aq (fun wx=>aT x wx h0 h1)
 have HL:=aq (fun wx (hb:Below w.heap.size w wx)=>gU base m wx (hS.below hb))
 obtain⟨b,cap,hfa,hlt,-,hc⟩:=hS.facts
 have hc3:w.cell? ⟨m.s,3,none⟩=some (.slice (some ⟨b,0,none⟩) 13 cap):=by rw[hS.cell 3 (by decide),←hfa];rfl
 have hx:x.natAbs<13:=by omega
 have hsl:m.s<w.heap.size:=World.block_lt_of_cell? w ⟨m.s,3,none⟩ hc3
 obtain⟨c0,c1,c2⟩:=hc x.natAbs hx
 have f0:=hS.facts_free hfa (x.natAbs*3)
 have f1:=hS.facts_free hfa (x.natAbs*3+1)
 have f2:=hS.facts_free hfa (x.natAbs*3+2)
 have HM:Hid (∀wq,Below w.heap.size w wq->Mut base w m (((wq.setCell ⟨b,x.natAbs*3,none⟩ (.int .i64 x)).setCell ⟨b,x.natAbs*3+1,none⟩ (.int .i64 m.starts.length)).setCell ⟨b,x.natAbs*3+2,none⟩ (.int .i64 r)) { m with facts:=cC m.facts x.natAbs x m.starts.length r }):=aq (fun wq hb=>Mut.fact3 hS hfa hb _ _ _ _)
 have HTK:Hid (∀od,m.taken x r od={ ({ m with facts:=cC m.facts x.natAbs x m.starts.length r }:Mem)with order:=m.order++[x],od:=od,odr:=od,ordr:=m.order++[x] }):=aq (fun od=>rfl)
 obtain⟨m1,hm1⟩:∃m1,m1=({ m with facts:=cC m.facts x.natAbs x m.starts.length r }:Mem):=⟨_,rfl⟩
 rw[←hm1]at HM HTK
 have e1:m1.s=m.s:=by rw[hm1]
 have e2:m1.od=m.od:=by rw[hm1]
 have e3:m1.order=m.order:=by rw[hm1]
 have e4:m1.odr=m1.od:=by rw[hm1];exact hod
 have e5:m1.ordr=m1.order:=by rw[hm1];exact hor
 have HE:=aq (And.intro e1 (And.intro e2 (And.intro e3 (And.intro e4 e5))))
 clear hc hS hfa hm1 e1 e2 e3 e4 e5 hod hor
 generalize m.starts.length=lv at *
 generalize x.natAbs=v at *
 generalize m.truth v=t at *
 generalize m.level v=l at *
 generalize m.reason v=ro at *
 go_enter Tryz.func114,Tryz.ntmps114
 go_upto_region 0 with fail
 go_cut [] (fun wx=>Hid (Mut base w m wx m1))
 case first=>
  go_region_with first|(go_at_call 129;refine(dz HV _).mono ?_;rintro e w3 ⟨rfl,rfl⟩)|(go_at_call 73;refine(dz HL _ (by first|exact Below.refl _ _|exact(Below.refl _ _).drew|exact(Below.refl _ _).drew.drew|exact(Below.refl _ _).drew.drew.drew)).mono ?_;rintro e w3 ⟨rfl,rfl⟩)
  all_goals (go_wp2_with fail;go_meet;first|exact aq (dz HM _ (Below.refl _ _)).drew|exact aq (dz HM _ (Below.refl _ _))|exact aq (dz HM _ (Below.refl _ _)).drew.drew|exact aq (dz HM _ (Below.refl _ _)).drew.drew.drew)
 case rest=>
  obtain⟨w1,rfl⟩:∃w1,w1=wc:=⟨wc,rfl⟩
  have HM1:=hcut
  obtain⟨e1,e2,e3,e4,e5⟩:=dz HE
  have hS1:=(dz HM1).at
  have hc4:w1.cell? ⟨m.s,4,none⟩=some m1.od:=by rw[←e1,hS1.cell 4 (by decide)];rfl
  have HROW:Hid (w1.ownsRow base 3 1 m1.od m1.order.length (ints m1.order)):=aq (by rw[←e4,←e5];exact hS1.pack.rows 6 _ rfl)
  obtain⟨ao,cp,hsh⟩:=aC (dz HROW)
  have hb1:base<=w1.heap.size:=Nat.le_trans hbs (dz HM1).to.only.size
  have hol1:m1.order.length<=1000:=by rw[e3];exact hol
  have HO:Hid (∀(o:Obj) (w4:World) (g cap:Nat),w4.ownsRow base 3 1 (.slice (some ⟨g,0,none⟩) (m1.order.length+1) cap) (m1.order.length+1) (ints m1.order++[.int .i64 x])->(w1.alloc o).grownBy w4 m1.od.ownBlock->(m1.od.ownBlock=some g∨g=(w1.alloc o).heap.size)->Mut base w m (w4.setCell ⟨m.s,4,none⟩ (.slice (some ⟨g,0,none⟩) (m1.order.length+1) cap)) (m.taken x r (.slice (some ⟨g,0,none⟩) (m1.order.length+1) cap))/\w4.cell? ⟨m.s,4,none⟩=some m1.od/\w4.frozen? ⟨m.s,4,none⟩=false):=aq (fun o w4 g cap ho hg hl=>by
   have hh:=Mut.order hS1 e4 e5 ho hg hl
   rw[←e1]
   refine⟨?_,hh.2⟩
   rw[dz HTK,←e3]
   exact(dz HM1).trans hh.1)
  have hsl1:m.s<w1.heap.size:=Nat.lt_of_lt_of_le hsl (dz HM1).to.only.size
  clear hcut hS1 e1 e2 e3 e4 e5 HTK HM HE HL HV hol
  generalize m1.order.length=n at *
  generalize ints m1.order=io at *
  generalize m1.od=ov at *
  subst hsh
  go_wp2_with (at_builtin;refine bY (base:=base) rfl _ _ 25 3 rfl Tryz.underlying25 Tryz.infoInt rfl (by decide) (dz HROW) rfl rfl rfl (by omega) hb1 ?_;intro g' cap' w4 hown4 hgr4 hloc;have HMID:=aq (dz HO _ _ _ _ hown4 hgr4 hloc);clear hown4 hgr4 hloc;have hc04:=(dz HMID).2.1;have hf04:=(dz HMID).2.2)
  go_end0
  exact⟨rfl,_,(dz HMID).1⟩
end Go.Proofs.YtekkkoipcghlmaaGreatDoor
namespace Go.Proofs.YtekkkoipcghlmaaGreatDoor
open Go.RowKit
theorem SAt.store{base:Nat}{w:World}{m:Mem}(h:SAt base w m)(hn:0<m.store.length):∃g cap,m.cl=.slice (some ⟨g,0,none⟩) m.store.length cap/\m.store.length<=cap/\g<w.heap.size/\(∀j (hj:j<m.store.length),w.cell? ⟨g,j,none⟩=some (.int .i64 m.store[j]))/\∀j,w.frozen? ⟨g,j,none⟩=false:=by
 have hr:=h.pack.rows 3 _ rfl
 unfold Row.ok aB at hr
 simp only at hr
 obtain⟨g,cap,hv,hb,hlt⟩:=World.ownsRow.form hr hn
 rw[hv]at hr
 refine⟨g,cap,hv,?_,hlt,fun j hj=>?_,fun j=>hr.frozenAt j⟩
 ·rcases hr.2 with⟨h0,_⟩|⟨g',cap',cur,hv',_,_,hle,_⟩
  ·cases h0
  ·cases hv';exact hle
 ·rw[hr.cellAt j (by omega)]
  simp[ints,hj]
set_option maxRecDepth 100000 in
theorem nI(v:Value)(ao:Option Addr)(n cap:Nat)(w:World)(hv:v=.slice ao n cap):
  Calls Tryz.prog 68 #[v] w fun e w'=>e=.returned (.int .i64 (n:Int))/\w'=w:=by
 subst hv
 go_enter Tryz.func68,Tryz.ntmps68
 go_wp2
 go_ret
 exact⟨rfl,rfl⟩
def cI(g p n:Nat):Value:=if n=0 then .slice (some ⟨g,0,none⟩) 0 0 else .slice (some ⟨g,p+2,none⟩) n n
section
theorem cK(base:Nat)(m:Mem)(cls:List Cl)(c:Nat)(cl:Cl)(w:World)(hS:SAt base w m)(hf:m.store=flat cls)(hc:cls[c]?=some cl):∃g cap,m.cl=.slice (some ⟨g,0,none⟩) m.store.length cap/\m.store.length<=cap/\g<w.heap.size/\pos cls c+2+cl.lits.length<=m.store.length/\w.cell? ⟨g,pos cls c,none⟩=some (.int .i64 (cl.lits.length:Int))/\w.cell? ⟨g,pos cls c+1,none⟩=some (.int .i64 (if cl.used then 1 else 0))/\
  (∀k (hk:k<cl.lits.length),w.cell? ⟨g,pos cls c+2+k,none⟩=some (.int .i64 cl.lits[k]))/\∀j,w.frozen? ⟨g,j,none⟩=false:=by
 have hlt:=(List.getElem?_eq_some_iff.1 hc).1
 have hcl:cls[c]=cl:=by rw[List.getElem?_eq_getElem hlt]at hc;simpa using hc
 have hroom:=eK cls c hlt
 rw[hcl,←hf]at hroom
 obtain⟨g,cap,hv,hcap,hg,hcell,hfz⟩:=hS.store (by omega)
 have get:∀j x,(flat cls)[j]?=some x->w.cell? ⟨g,j,none⟩=some (.int .i64 x):=by
  intro j x hx
  rw[←hf]at hx
  obtain⟨hj,e⟩:=List.getElem?_eq_some_iff.1 hx
  rw[hcell j hj,e]
 refine⟨g,cap,hv,hcap,hg,hroom,?_,?_,fun k hk=>?_,hfz⟩
 ·have:=get _ _ (tP cls c hlt);rw[hcl]at this;exact this
 ·have:=get _ _ (rP cls c hlt);rw[hcl]at this;exact this
 ·have:=get _ _ (vF cls c k hlt (by rw[hcl];exact hk));simp only[hcl]at this;exact this
set_option maxRecDepth 100000 in
theorem nV(base:Nat)(m:Mem)(cls:List Cl)(c:Nat)(cl:Cl)(w:World)(hS:SAt base w m)(hf:m.store=flat cls)(hc:cls[c]?=some cl)(hsz:m.store.length<=1000000000):Calls Tryz.prog 156 #[m.cl,.int .i64 (pos cls c:Int)] w fun e w'=>e=.returned (.int .i64 ((pos cls c+2+cl.lits.length:Nat):Int))/\w'=w:=by
 obtain⟨g,cap,hv,-,hg,hroom,h1,-,-,-⟩:=cK base m cls c cl w hS hf hc
 rw[hv]
 clear hv hS hf hc
 generalize pos cls c=p at *
 generalize cl.lits.length=n at *
 generalize m.store.length=N at *
 go_enter Tryz.func156,Tryz.ntmps156
 go_wp2
 go_ret
 refine⟨?_,rfl⟩
 go_num
set_option maxRecDepth 100000 in
theorem dV(base:Nat)(m:Mem)(cls:List Cl)(c:Nat)(cl:Cl)(w:World)(hS:SAt base w m)(hf:m.store=flat cls)(hc:cls[c]?=some cl)(hsz:m.store.length<=1000000000):Calls Tryz.prog 112 #[m.cl,.int .i64 (pos cls c:Int)] w fun e w'=>(∃g,e=.returned (cI g (pos cls c) cl.lits.length)/\m.cl.ownBlock=some g)/\w'=w:=by
 have HB:=aq (fun wx (hb:Below w.heap.size w wx)=>nV base m cls c cl wx (hS.below hb) hf hc hsz)
 obtain⟨g,cap,hv,hcap,hg,hroom,h1,-,-,-⟩:=cK base m cls c cl w hS hf hc
 rw[hv]at HB⊢
 clear hv hS hf hc
 generalize pos cls c=p at *
 generalize cl.lits.length=n at *
 generalize m.store.length=N at *
 go_enter Tryz.func112,Tryz.ntmps112
 go_wp2_with fail
 refine(dz HB _ (Below.refl _ _)).mono ?_
 rintro e w3 ⟨rfl,rfl⟩
 go_wp2
 all_goals go_ret
 ·have h0:n=0:=by omega
  exact⟨⟨g,by unfold cI;rw[if_pos h0];rfl,rfl⟩,rfl⟩
 ·exact⟨⟨g,by unfold cI;rw[if_neg (by omega)];rfl,rfl⟩,rfl⟩
end
end Go.Proofs.YtekkkoipcghlmaaGreatDoor
namespace Go.Proofs.YtekkkoipcghlmaaGreatDoor
open Go.RowKit
attribute [local go_sem ↓] Go.wp_at_zero Go.wp_at_succ
section
variable {base:Nat}{w w':World}{m:Mem}
theorem Mut.starts(h:SAt base w m){w4:World}{g cap:Nat}{x:Int}(hown:w4.ownsRow base 3 1 (.slice (some ⟨g,0,none⟩) (m.starts.length+1) cap) (m.starts.length+1) (ints m.starts++[.int .i64 x])){wz:World}(hz:Below w.heap.size w wz)(hgr:wz.grownBy w4 m.st.ownBlock)(hloc:m.st.ownBlock=some g∨g=wz.heap.size):
  Mut base w m (w4.setCell ⟨m.s,5,none⟩ (.slice (some ⟨g,0,none⟩) (m.starts.length+1) cap)) { m with st:=.slice (some ⟨g,0,none⟩) (m.starts.length+1) cap,starts:=m.starts++[x] }/\w4.cell? ⟨m.s,5,none⟩=some m.st/\w4.frozen? ⟨m.s,5,none⟩=false/\w4.cell? ⟨m.s,4,none⟩=some m.od:=by
 have h1:=PMut.below h.pack hz
 have hzs:=hz.size
 have h2:=PMut.row h1.pack (i:=7) (r':=aB (.slice (some ⟨g,0,none⟩) (m.starts.length+1) cap) (m.starts++[x])) rfl (by unfold Row.ok aB;rw[cV,List.length_append];exact hown) hgr (by
  rcases hloc with h|h
  ·exact .inr (.inl h.symm)
  ·exact .inr (.inr ⟨g,rfl,by omega⟩))
 have h3:=PMut.store h2.pack (i:=0) rfl rfl 5 (.slice (some ⟨g,0,none⟩) (m.starts.length+1) cap)
 refine⟨⟨?_,h.ws,h.ls,h.counts,h.places,rfl,rfl,rfl⟩,?_,?_,?_⟩
 ·exact h1.trans (h2.trans h3)
 ·exact World.ownsRow.cellAt (h2.pack.rows 0 _ rfl) 5 (by simp[aI,Mem.sCells])
 ·exact World.ownsRow.frozenAt (h2.pack.rows 0 _ rfl) 5
 ·exact World.ownsRow.cellAt (h2.pack.rows 0 _ rfl) 4 (by simp[aI,Mem.sCells])
end
def Mem.decided(m:Mem)(x:Int)(st od:Value):Mem:=({ m with starts:=m.starts++[(m.order.length:Int)],st:=st }:Mem).taken x (-1) od
set_option maxRecDepth 100000 in
set_option maxHeartbeats 1600000 in
theorem yA(base:Nat)(m:Mem)(x:Int)(w:World)(hS:SAt base w m)(h0:-12<=x)(h1:x<=12)(hbs:base<=w.heap.size)(hol:m.order.length<=1000)(hsl:m.starts.length<=1000)(hod:m.odr=m.od)(hor:m.ordr=m.order):
  Calls Tryz.prog 82 #[.pointer (some ⟨m.s,3,none⟩),.int .i64 x] w fun e w'=>e=.returned (.tuple #[])/\∃st od,Mut base w m w' (m.decided x st od):=by
 have hc4:w.cell? ⟨m.s,4,none⟩=some m.od:=by rw[hS.cell 4 (by decide)];rfl
 have hc5:w.cell? ⟨m.s,5,none⟩=some m.st:=by rw[hS.cell 5 (by decide)];rfl
 have hss:=hS.lt.1
 have HROW:Hid (w.ownsRow base 3 1 m.st m.starts.length (ints m.starts)):=aq (hS.pack.rows 7 _ rfl)
 obtain⟨ao,cp,hsh⟩:=aC (dz HROW)
 obtain⟨ao2,cp2,hsh2⟩:=aC (hS.pack.rows 6 _ rfl)
 have hsh2':m.od=.slice ao2 m.order.length cp2:=by rw[←hod,←hor];exact hsh2
 have HO:Hid (∀(wz w4:World) (g cap:Nat),w4.ownsRow base 3 1 (.slice (some ⟨g,0,none⟩) (m.starts.length+1) cap) (m.starts.length+1) (ints m.starts++[.int .i64 (m.order.length:Int)])->Below w.heap.size w wz->wz.grownBy w4 m.st.ownBlock->(m.st.ownBlock=some g∨g=wz.heap.size)->Mut base w m (w4.setCell ⟨m.s,5,none⟩ (.slice (some ⟨g,0,none⟩) (m.starts.length+1) cap)) { m with st:=.slice (some ⟨g,0,none⟩) (m.starts.length+1) cap,starts:=m.starts++[(m.order.length:Int)] }/\w4.cell? ⟨m.s,5,none⟩=some m.st/\w4.frozen? ⟨m.s,5,none⟩=false/\w4.cell? ⟨m.s,4,none⟩=some m.od):=aq (fun wz w4 g cap ho hz hg hl=>Mut.starts hS ho hz hg hl)
 have HT:Hid (∀(wx:World) (st:Value),Mut base w m wx { m with st:=st,starts:=m.starts++[(m.order.length:Int)] }->Calls Tryz.prog 114 #[.pointer (some ⟨m.s,3,none⟩),.int .i64 x,.int .i64 (-1)] wx fun e w'=>e=.returned (.tuple #[])/\∃st od,Mut base w m w' (m.decided x st od)):=aq (fun wx st hm=>(uK base { m with st:=st,starts:=m.starts++[(m.order.length:Int)] } x (-1) wx hm.at h0 h1 (Nat.le_trans hbs hm.to.only.size) hol hod hor).mono (fun e w' h=>by
  obtain⟨he,od,hh⟩:=h
  exact⟨he,st,od,hm.trans hh⟩))
 have HROWB:Hid (∀wx,Below w.heap.size w wx->wx.ownsRow base 3 1 m.st m.starts.length (ints m.starts)):=aq (fun wx hb=>aR (dz HROW) hb)
 rw[hsh2']at hc4
 clear hsh2 hsh2' hS hod hor
 generalize hn:m.order.length=n at hc4 HO HT hol
 generalize m.starts.length=k at *
 generalize ints m.starts=io at *
 generalize m.st=ov at *
 subst hsh
 go_enter Tryz.func82,Tryz.ntmps82
 go_upto_region 0 with fail
 go_cut [] (fun wx=>Hid (∃st,Mut base w m wx { m with st:=st,starts:=m.starts++[(n:Int)] }))
 case first=>
  go_region_law ((refine aB3 (base:=base) (by rfl) _ _ 25 3 (by rfl) Tryz.underlying25 Tryz.infoInt rfl (by decide) (dz HROWB _ (by go_grown)) (by rfl) (by rfl) (heap_alloc_new _ _) rfl (by omega) (by simp;omega) ?_;intro g' cap' w4 hown4 hgr4 hloc;have HMID:=aq (dz HO _ _ _ _ hown4 (by go_grown) hgr4 hloc);clear hown4 hgr4 hloc;have hc04:=(dz HMID).2.1;have hf04:=(dz HMID).2.2.1))
  all_goals (go_wp2_with fail;go_meet;exact aq ⟨_,(dz HMID).1⟩)
 case rest=>
  obtain⟨w1,rfl⟩:∃w1,w1=wc:=⟨wc,rfl⟩
  obtain⟨st,hm⟩:=dz hcut
  have HT1:=aq (dz HT _ _ hm)
  clear hm hcut
  go_wp2_with fail
  refine(dz HT1).mono ?_
  rintro e w5 ⟨rfl,st5,od5,hm5⟩
  have HM5:=aq hm5
  clear hm5
  go_wp2
  go_end0
  exact⟨rfl,_,_,dz HM5⟩
end Go.Proofs.YtekkkoipcghlmaaGreatDoor
namespace Go.Proofs.YtekkkoipcghlmaaGreatDoor
open Go.RowKit
attribute [local go_sem ↓] Go.wp_at_zero Go.wp_at_succ
def Mem.cell(m:Mem)(j:Nat)(x:Int):Mem:={ m with store:=m.store.set j x }
theorem Mut.store1{base:Nat}{w:World}{m:Mem}(h:SAt base w m){g cap:Nat}(hv:m.cl=.slice (some ⟨g,0,none⟩) m.store.length cap)(j:Nat)(x:Int):Mut base w m (w.setCell ⟨g,j,none⟩ (.int .i64 x)) (m.cell j x):=by
 refine⟨?_,h.ws,h.ls,h.counts,h.places,rfl,rfl,rfl⟩
 show PMut base w m.rows _ (m.rows.set 3 (aB m.cl (m.store.set j x)))
 unfold aB
 rw[dT,List.length_set]
 exact PMut.store h.pack (i:=3) rfl hv j _
section
set_option maxRecDepth 100000 in
theorem zH(base:Nat)(m:Mem)(cls:List Cl)(c:Nat)(cl:Cl)(w:World)(hS:SAt base w m)(hf:m.store=flat cls)(hc:cls[c]?=some cl)(hsz:m.store.length<=1000000000):Calls Tryz.prog 122 #[m.cl,.int .i64 (pos cls c:Int)] w fun e w'=>e=.returned (.tuple #[])/\Mut base w m w' (m.cell (pos cls c+1) 1):=by
 obtain⟨g,cap,hv,-,hg,hroom,h1,h2,-,hfz⟩:=cK base m cls c cl w hS hf hc
 have hf1:=hfz (pos cls c+1)
 have HM:=aq (Mut.store1 hS hv (pos cls c+1) 1)
 rw[hv]
 clear hv hS hf hc hfz
 generalize pos cls c=p at *
 generalize cl.lits.length=n at *
 generalize m.store.length=N at *
 go_enter Tryz.func122,Tryz.ntmps122
 go_wp2
 go_end0
 exact⟨rfl,dz HM⟩
end
set_option maxRecDepth 100000 in
theorem rT(base:Nat)(m:Mem)(x r:Int)(w:World)(hS:SAt base w m)(h0:-12<=x)(h1:x<=12):
  Calls Tryz.prog 164 #[.pointer (some ⟨m.s,3,none⟩),.int .i64 x,.int .i64 r] w fun e w'=>e=.returned (.bool (m.truth x.natAbs==x&&m.reason x.natAbs==r))/\Below w.heap.size w w':=by
 have HT:=aq (kO base m x w hS h0 h1)
 have HF:=aq (fun wx (hb:Below w.heap.size w wx)=>dN base m x wx (hS.below hb) h0 h1)
 have f2:=Tryz.field2
 generalize m.truth x.natAbs=t at *
 generalize m.level x.natAbs=l at *
 generalize m.reason x.natAbs=ro at *
 clear hS
 go_enter Tryz.func164,Tryz.ntmps164
 go_wp2_with fail
 refine(dz HT).mono ?_
 rintro e w3 ⟨rfl,hb⟩
 by_cases hq:(t==x)=true
 ·rw[hq]
  go_wp2_with fail
  refine(dz HF _ hb).mono ?_
  rintro e w4 ⟨rfl,hb4⟩
  go_wp2
  go_ret
  exact⟨by rw[hq];rfl,hb.trans (hb4.mono hb.size)⟩
 ·have hq':(t==x)=false:=by simpa using hq
  rw[hq']
  go_wp2
  go_ret
  exact⟨by rw[hq'];rfl,hb⟩
def Mem.reasoned(m:Mem)(v:Nat)(r:Int):Mem:={ m with facts:=m.facts.set (v*3+2) r }
set_option maxRecDepth 100000 in
set_option maxHeartbeats 1600000 in
theorem pS(base:Nat)(m:Mem)(x r:Int)(w:World)(hS:SAt base w m)(h0:-12<=x)(h1:x<=12):
  Calls Tryz.prog 166 #[.pointer (some ⟨m.s,3,none⟩),.int .i64 x,.int .i64 r] w fun e w'=>e=.returned (.tuple #[])/\Mut base w m w' (m.reasoned x.natAbs r):=by
 have HV:=aq (fun wx=>aT x wx h0 h1)
 obtain⟨b,cap,hfa,hlt,-,hc⟩:=hS.facts
 have hc3:w.cell? ⟨m.s,3,none⟩=some (.slice (some ⟨b,0,none⟩) 13 cap):=by rw[hS.cell 3 (by decide),←hfa];rfl
 have hx:x.natAbs<13:=by omega
 have hsl:m.s<w.heap.size:=World.block_lt_of_cell? w ⟨m.s,3,none⟩ hc3
 obtain⟨c0,c1,c2⟩:=hc x.natAbs hx
 have f2:=hS.facts_free hfa (x.natAbs*3+2)
 have HM:Hid (Mut base w m (w.setCell ⟨b,x.natAbs*3+2,none⟩ (.int .i64 r)) (m.reasoned x.natAbs r)):=aq (Mut.fact1 hS hfa _ _)
 clear hc hS hfa c0 c1
 generalize m.reasoned x.natAbs r=m1 at *
 generalize x.natAbs=v at *
 generalize m.reason v=ro at *
 go_enter Tryz.func166,Tryz.ntmps166
 go_wp2_with fail
 go_region_with (go_at_call 129;refine(dz HV _).mono ?_;rintro e w3 ⟨rfl,rfl⟩)
 all_goals go_wp2
 all_goals go_end0
 all_goals first|exact⟨rfl,(dz HM).drew⟩|exact⟨rfl,dz HM⟩|exact⟨rfl,(dz HM).drew.drew⟩
end Go.Proofs.YtekkkoipcghlmaaGreatDoor
namespace Go.Proofs.YtekkkoipcghlmaaGreatDoor
open Go.RowKit
attribute [local go_sem ↓] Go.wp_at_zero Go.wp_at_succ
section
variable {base:Nat}{w w':World}{m:Mem}
def Mem.stored(m:Mem)(v:Value)(l:List Int):Mem:={ m with cl:=v,store:=l }
theorem Mut.clauses(h:SAt base w m){w4:World}{g cap n:Nat}{l:List Int}(hown:w4.ownsRow base 3 1 (.slice (some ⟨g,0,none⟩) n cap) n (ints l))(hn:l.length=n){wz:World}(hz:Below w.heap.size w wz)(hgr:wz.grownBy w4 m.cl.ownBlock)(hloc:m.cl.ownBlock=some g∨g=wz.heap.size):
  Mut base w m (w4.setCell ⟨m.s,0,none⟩ (.slice (some ⟨g,0,none⟩) n cap)) (m.stored (.slice (some ⟨g,0,none⟩) n cap) l)/\w4.cell? ⟨m.s,0,none⟩=some m.cl/\w4.frozen? ⟨m.s,0,none⟩=false:=by
 subst hn
 have h1:=PMut.below h.pack hz
 have hzs:=hz.size
 have h2:=PMut.row h1.pack (i:=3) (r':=aB (.slice (some ⟨g,0,none⟩) l.length cap) l) rfl hown hgr (by
  rcases hloc with h|h
  ·exact .inr (.inl h.symm)
  ·exact .inr (.inr ⟨g,rfl,by omega⟩))
 have h3:=PMut.store h2.pack (i:=0) rfl rfl 0 (.slice (some ⟨g,0,none⟩) l.length cap)
 refine⟨⟨?_,h.ws,h.ls,h.counts,h.places,rfl,rfl,rfl⟩,?_,?_⟩
 ·exact h1.trans (h2.trans h3)
 ·exact World.ownsRow.cellAt (h2.pack.rows 0 _ rfl) 0 (by simp[aI,Mem.sCells])
 ·exact World.ownsRow.frozenAt (h2.pack.rows 0 _ rfl) 0
end
set_option maxRecDepth 100000 in
set_option maxHeartbeats 1600000 in
theorem kW(base:Nat)(m:Mem)(v:Value)(lits:List Int)(w:World)(hS:SAt base w m)(hbs:base<=w.heap.size)(hl:lits.length<=1000)(hsz:m.store.length<=9900000)(hv:Lies w v (ints lits))(hnf:∀k,v.ownBlock=some k->¬foot m.rows k):
  Calls Tryz.prog 110 #[.pointer (some ⟨m.s,0,none⟩),v] w fun e w'=>e=.returned (.int .i64 (m.store.length:Int))/\∃cl,Mut base w m w' (m.stored cl (m.store++[(lits.length:Int),0]++lits)):=by
 have hc0:w.cell? ⟨m.s,0,none⟩=some m.cl:=by rw[hS.cell 0 (by decide)];rfl
 obtain⟨ao,cp,hsh⟩:=aC (hS.pack.rows 3 _ rfl)
 have hsh':m.cl=.slice ao m.store.length cp:=hsh
 obtain⟨vo,vc,hvs⟩:∃vo vc,v=.slice vo lits.length vc:=by
  rcases hv with⟨h0,ao,cap,rfl⟩|⟨b,off,cap,hp,rfl,hb,hc⟩
  ·have:lits=[]:=by simpa [ints] using h0
   subst this;exact⟨_,_,rfl⟩
  ·exact⟨_,_,by rw[cA]⟩
 have HE:=aq (fun wx=>nI m.cl ao m.store.length cp wx hsh')
 have HROW:Hid (w.ownsRow base 3 1 m.cl m.store.length (ints m.store)):=aq (hS.pack.rows 3 _ rfl)
 have hss:=hS.lt.1
 have HO:Hid (∀(wz w4:World) (g cap:Nat),w4.ownsRow base 3 1 (.slice (some ⟨g,0,none⟩) (m.store.length+2) cap) (m.store.length+2) (ints m.store++[.int .i64 (lits.length:Int),.int .i64 0])->Below w.heap.size w wz->wz.grownBy w4 m.cl.ownBlock->(m.cl.ownBlock=some g∨g=wz.heap.size)->
   Mut base w m (w4.setCell ⟨m.s,0,none⟩ (.slice (some ⟨g,0,none⟩) (m.store.length+2) cap)) (m.stored (.slice (some ⟨g,0,none⟩) (m.store.length+2) cap) (m.store++[(lits.length:Int),0]))/\w4.cell? ⟨m.s,0,none⟩=some m.cl/\w4.frozen? ⟨m.s,0,none⟩=false/\(w4.setCell ⟨m.s,0,none⟩ (.slice (some ⟨g,0,none⟩) (m.store.length+2) cap)).ownsRow base 3 1 (.slice (some ⟨g,0,none⟩) (m.store.length+2) cap) (m.store.length+2) (ints (m.store++[(lits.length:Int),0]))):=aq (by
  intro wz w4 g cap ho hz hg hl
  have e:ints m.store++[.int .i64 (lits.length:Int),.int .i64 0]=ints (m.store++[(lits.length:Int),0]):=by simp[ints]
  rw[e]at ho
  have hh:=Mut.clauses hS ho (by simp) hz hg hl
  have hr:=hh.1.at.pack.rows 3 _ rfl
  have e2:(m.store++[(lits.length:Int),0]).length=m.store.length+2:=by simp
  unfold Row.ok aB at hr
  simp only[Mem.stored,e2]at hr
  exact⟨hh.1,hh.2.1,hh.2.2,hr⟩)
 have HO2:Hid (∀(w1 w4:World) (c1 v':Value),Mut base w m w1 (m.stored c1 (m.store++[(lits.length:Int),0]))->w4.ownsRow base 3 1 v' (m.store.length+2+lits.length) (ints (m.store++[(lits.length:Int),0])++ints lits)->w1.grownBy w4 c1.ownBlock->(v'.ownBlock=c1.ownBlock∨v'.ownBlock=some w1.heap.size)->
   (∃cl,Mut base w m (w4.setCell ⟨m.s,0,none⟩ v') (m.stored cl (m.store++[(lits.length:Int),0]++lits)))/\w4.cell? ⟨m.s,0,none⟩=some c1/\w4.frozen? ⟨m.s,0,none⟩=false):=aq (by
  intro w1 w4 c1 v' hm ho hg hl
  obtain⟨g,cap,hv',-,-⟩:=World.ownsRow.form ho (by omega)
  subst hv'
  have e:ints (m.store++[(lits.length:Int),0])++ints lits=ints (m.store++[(lits.length:Int),0]++lits):=by simp[ints]
  rw[e]at ho
  have hh:=Mut.clauses hm.at ho (by simp;omega) (Below.refl _ _) hg (by
   rcases hl with h|h
   ·exact .inl h.symm
   ·exact .inr (by simpa [Value.ownBlock] using h))
  exact⟨⟨_,hm.trans hh.1⟩,hh.2⟩)
 have HLIES:Hid (∀(w1:World) (m1:Mem),Mut base w m w1 m1->Lies w1 v (ints lits)):=aq (fun w1 m1 hm=>hm.to.lies hv hnf)
 rw[hsh']at hc0 HE
 rw[hvs]at HLIES⊢
 clear hS hsh hv
 go_enter Tryz.func110,Tryz.ntmps110
 go_wp2_with fail
 refine(dz HE _).mono ?_
 rintro e w3 ⟨rfl,rfl⟩
 rw[hsh']at HROW HO
 clear hvs hsh'
 have H1C:Hid (∀u,u∈ints lits->u.oneCell'=true):=aq (by
  intro u hu
  unfold ints at hu
  obtain⟨x,-,rfl⟩:=List.mem_map.1 hu
  rfl)
 have HLL:Hid ((ints lits).length=lits.length):=aq (cA _)
 go_wp2_with first
  | (at_builtin;(refine xW (base:=base) rfl _ _ 118 3 rfl Tryz.underlying118 Tryz.infoInt rfl (by decide) (dz HROW) (by rfl) (by rfl) (by rfl) (by rfl) (by omega) hbs ?_;intro g' cap' w4 hown4 hgr4 hloc;have HMID:=aq (dz HO _ _ _ _ hown4 (by go_grown) hgr4 hloc);clear hown4 hgr4 hloc;have hc04:=(dz HMID).2.1;have hf04:=(dz HMID).2.2.1))
  | (at_builtin;(refine nC (base:=base) rfl _ _ 118 25 3 3 rfl Tryz.underlying118 Tryz.underlying25 Tryz.infoInt rfl (by decide) (dz HMID).2.2.2 (by rfl) (by rfl) (dz HLIES _ _ (dz HMID).1) (dz H1C) (by rw[dz HLL];omega) (Nat.le_trans hbs (dz HMID).1.to.only.size) ?_;rw[dz HLL];intro v5 w5 hown5 hgr5 hloc5 hnn5 hnil5;obtain⟨ao5,cp5,rfl⟩:=aC hown5;have HFIN:=aq (dz HO2 _ _ _ _ (dz HMID).1 hown5 hgr5 hloc5);clear hown5 hgr5 hloc5 hnn5 hnil5;have hc05:=(dz HFIN).2.1;have hf05:=(dz HFIN).2.2))
 go_ret
 exact⟨rfl,(dz HFIN).1⟩
end Go.Proofs.YtekkkoipcghlmaaGreatDoor
