import Derived.Test.YtekkkoipcghlmaaGreatDoorU45
import Derived.Test.YtekkkoipcghlmaaGreatDoorU40
set_option linter.all false
namespace Go.Proofs.YtekkkoipcghlmaaGreatDoor
open Go.RowKit
theorem aF5(ms:List Nat)(xs:List Int):(addTo ms xs).2.length<=ms.length+1:=by
 unfold addTo
 split
 ·simp
 ·split
  ·simp
  ·split<;>simp
theorem uW{ms:List Nat}(xs:List Int)(h:∀m,m∈ms->m<2 ^ 24):∀m,m∈(addTo ms xs).2->m<2 ^ 24:=by
 unfold addTo
 split
 ·exact h
 ·rename_i ha
  have ha:bD xs=true:=by simpa using ha
  split
  ·exact h
  ·split
   ·exact h
   ·intro m hm
    rcases List.mem_append.1 hm with hm|hm
    ·exact h m hm
    ·simp at hm;subst hm
     exact Sp.maskOf_lt _ (fun y hy=>(cJ.1 (by rw[bD,List.all_eq_true]at ha;exact ha y hy)).2)
theorem YAt.rowLt{base:Nat}{w:World}{y:Nat}{lv:Value}{vs:List Value}{ms:List Nat}(h:YAt base w y lv vs ms){v:Value}(hv:v∈vs){g:Nat}(hg:v.ownBlock=some g):g<w.heap.size:=by
 obtain⟨i,hi⟩:=List.getElem?_of_mem hv
 have hil:i<vs.length:=(List.getElem?_eq_some_iff.1 hi).1
 have hc:i<(ms.map Sp.litsOf).length:=by rw[←h.rows.1];exact hil
 exact((h.rows.2 i v _ hi (List.getElem?_eq_getElem hc)).lt g hg).2
theorem aP5{Z:Play}{pv:Value}{pb:List UInt8}{base:Nat}{w wq wL w2 w3 w4:World}{F:Nat->Prop}{p x:Nat}{kv:Value}{y:Nat}{lv:Value}{vs:List Value}{ms:List Nat}{xs:List Int}(hs:SideIs base w F p x kv y lv vs ms pv pb Z)(hq:Below w.heap.size w wq)(hL:Below wq.heap.size wq wL)(hgL:wq.heap.size<wL.heap.size)
  (hX:AddX base x kv ms xs pv pb wL w2) (hY:AddY base y lv vs ms xs w2 w3) (hB:Only (·=wq.heap.size) w3 w4):gC base w w4 F p ms Z:=by
 obtain⟨kv',hx2,ox,lx⟩:=hX
 obtain⟨lv',vs',hy3,oy,ly,lvs⟩:=hY
 obtain⟨pr,gr,la,en,hblk,hZ⟩:=hs.block
 have hqs:=hq.size
 have hA:Below w.heap.size w wL:=hq.trans (hL.mono hqs)
 have s2:=ox.size
 have s3:=oy.size
 have s4:=hB.size
 have hxl:=aA hs.prog.block
 have hyl:=aA hs.doc.block
 have hpl:=aA hblk
 have hbase:base<=w.heap.size:=Nat.le_trans hs.le (Nat.le_of_lt hpl)
 have hXL:=hs.prog.below hA
 have hYL:=hs.doc.below hA
 have hY2:=hYL.overX hXL ox
 have hx3:=hx2.overY hY2 oy
 have kvg:∀g,kv'.ownBlock=some g->(F g∨w.heap.size<=g)/\g≠wq.heap.size:=fun g hg=>by
  rcases lx g hg with h|h
  ·have:=(hs.prog.row.lt g h).2
   exact⟨.inl (hs.fx.2.1 g h),by omega⟩
  ·exact⟨.inr (by omega),by omega⟩
 have lvg:∀g,lv'.ownBlock=some g->(F g∨w.heap.size<=g)/\g≠wq.heap.size:=fun g hg=>by
  rcases ly g hg with h|h
  ·have:=(hs.doc.row.lt g h).2
   exact⟨.inl (hs.fy.2.1 g h),by omega⟩
  ·exact⟨.inr (by omega),by omega⟩
 have vsg:∀v,v∈vs'->∀g,v.ownBlock=some g->(F g∨w.heap.size<=g)/\g≠wq.heap.size:=fun v hv g hg=>by
  rcases lvs v hv with h|h
  ·have:=hs.doc.rowLt h hg
   exact⟨.inl (hs.fy.2.2 v h g hg),by omega⟩
  ·have:=h g hg
   exact⟨.inr (by omega),by omega⟩
 have hx4:=hx3.overG hB (by omega) (fun h=>(kvg _ h).2 rfl) (fun h=>by have:=(hs.prog.prow.lt _ h).2;omega)
 have hy4:=hy3.overG hB (by omega) (fun h=>(lvg _ h).2 rfl) (fun v hv h=>(vsg v hv _ h).2 rfl)
 have hpx:p≠x:=by intro e;subst e;have:=hblk.symm.trans hs.prog.block;simp at this
 have hpy:p≠y:=by intro e;subst e;have:=hblk.symm.trans hs.doc.block;simp at this
 have pL:=(hA.block p hpl).trans hblk
 have p2:=(ox.block p (aA pL) (fun h=>h.elim hpx (aZ hXL.row pL (by decide)))).trans pL
 have p3:=(oy.block p (aA p2) (fun h=>h.elim hpy (aZ hY2.row p2 (by decide)))).trans p2
 have p4:=(hB.block p (aA p3) (by omega)).trans p3
 have o1:Only F wL w2:=ox.weaken (fun k _ h=>h.elim (fun e=>by rw[e];exact hs.fx.1) (fun e=>hs.fx.2.1 k e))
 have o2:Only F w2 w3:=oy.weaken (fun k _ h=>h.elim (fun e=>by rw[e];exact hs.fy.1) (fun e=>hs.fy.2.1 k e))
 have o3:Only F w w3:=(Only.of_below _ hA).trans (o1.trans o2)
 refine⟨fun k=>(F k∨w.heap.size<=k)/\k<w4.heap.size,(addTo ms xs).2,⟨hB.os.trans o3.os,hB.tape.trans o3.tape,hB.output.trans o3.output,Nat.le_trans o3.size hB.size,fun k hk hn=>(hB.block k (by omega) (by omega)).trans (o3.block k hk hn)⟩,⟨x,kv',y,lv',vs',pv,pb,?_⟩,fun k hk=>hk.1,aF5 ms xs⟩
 refine⟨⟨_,_,_,_,p4,Z.add _ _ _ _ _ _ _ hZ⟩,hs.le,hx4,hy4,⟨.inl hs.fp,by omega⟩,⟨⟨.inl hs.fx.1,by omega⟩,fun g hg=>⟨(kvg g hg).1,(hx4.row.lt g hg).2⟩,fun g hg=>⟨.inl (hs.fx.2.2 g hg),(hx4.prow.lt g hg).2⟩⟩,⟨⟨.inl hs.fy.1,by omega⟩,fun g hg=>⟨(lvg g hg).1,(hy4.row.lt g hg).2⟩,fun v hv g hg=>⟨(vsg v hv g hg).1,hy4.rowLt hv hg⟩⟩,fun k hk=>⟨?_,hk.2⟩,uW xs hs.small⟩
 rcases hk.1 with hf|hf
 ·exact(hs.inn k hf).1
 ·omega
end Go.Proofs.YtekkkoipcghlmaaGreatDoor
namespace Go.Proofs.YtekkkoipcghlmaaGreatDoor
open Go.RowKit
structure Alike(w w':World):Prop where
 below:Below w.heap.size w w'
 size:w'.heap.size=w.heap.size
theorem Alike.refl(w:World):Alike w w:=⟨Below.refl _ _,rfl⟩
theorem Alike.drew{w w':World}(h:Alike w w'):Alike w w'.drew:=⟨h.below.drew,h.size⟩
theorem AddX.from{pv:Value}{pb:List UInt8}{base x:Nat}{kv:Value}{ms:List Nat}{xs:List Int}{w w1 w':World}(ha:Alike w w1)(h:AddX base x kv ms xs pv pb w1 w'):AddX base x kv ms xs pv pb w w':=by
 obtain⟨kv',h1,h2,h3⟩:=h
 exact⟨kv',h1,(Only.of_below _ ha.below).trans h2,fun g hg=>by have:=h3 g hg;rw[ha.size]at this;exact this⟩
theorem AddY.from{base y:Nat}{lv:Value}{vs:List Value}{ms:List Nat}{xs:List Int}{w w1 w':World}(ha:Alike w w1)(h:AddY base y lv vs ms xs w1 w'):AddY base y lv vs ms xs w w':=by
 obtain⟨lv',vs',h1,h2,h3,h4⟩:=h
 exact⟨lv',vs',h1,(Only.of_below _ ha.below).trans h2,fun g hg=>(by have:=h3 g hg;rw[ha.size]at this;exact this),fun v hv=>(by have:=h4 v hv;rw[ha.size]at this;exact this)⟩
theorem SideIs.over{Z:Play}{pv:Value}{pb:List UInt8}{base:Nat}{w wL w2:World}{F:Nat->Prop}{p x:Nat}{kv:Value}{y:Nat}{lv:Value}{vs:List Value}{ms:List Nat}{xs:List Int}(hs:SideIs base w F p x kv y lv vs ms pv pb Z)(hA:Below w.heap.size w wL)(hX:AddX base x kv ms xs pv pb wL w2):
  YAt base w2 y lv vs ms/\Only F wL w2/\w2.cell? ⟨p,1,none⟩=some (.pointer (some ⟨y,0,none⟩)):=by
 obtain⟨kv',hx2,ox,lx⟩:=hX
 obtain⟨pr,gr,la,en,hblk,hZ⟩:=hs.block
 have hpl:=aA hblk
 have hXL:=hs.prog.below hA
 have hYL:=hs.doc.below hA
 have hpx:p≠x:=by intro e;subst e;have:=hblk.symm.trans hs.prog.block;simp at this
 have pL:=(hA.block p hpl).trans hblk
 have p2:=(ox.block p (aA pL) (fun h=>h.elim hpx (aZ hXL.row pL (by decide)))).trans pL
 exact⟨hYL.overX hXL ox,ox.weaken (fun k _ h=>h.elim (fun e=>by rw[e];exact hs.fx.1) (fun e=>hs.fx.2.1 k e)),cell_of_row _ _ 1 _ _ _ p2⟩
theorem SideIs.over2{Z:Play}{pv:Value}{pb:List UInt8}{base:Nat}{w w2 w3:World}{F:Nat->Prop}{p x:Nat}{kv:Value}{y:Nat}{lv:Value}{vs:List Value}{ms:List Nat}{xs:List Int}(hs:SideIs base w F p x kv y lv vs ms pv pb Z)(hY:AddY base y lv vs ms xs w2 w3):Only F w2 w3:=by
 obtain⟨lv',vs',h1,oy,h3,h4⟩:=hY
 exact oy.weaken (fun k _ h=>h.elim (fun e=>by rw[e];exact hs.fy.1) (fun e=>hs.fy.2.1 k e))
theorem vQ{w:World}{g:Nat}{xs ys:List Int}{cap:Nat}(h:w.heap[g]?=some (.cells (ints (xs++ys)).toArray 3 (0,0))):Lies w (.slice (some ⟨g,0,none⟩) xs.length cap) (ints xs):=by
 by_cases h0:xs=[]
 ·subst h0;exact .inl ⟨rfl,_,_,rfl⟩
 ·refine .inr ⟨g,0,cap,?_,by simp[ints],aA h,fun k x hx=>?_⟩
  ·simp[ints];exact List.length_pos_iff.2 h0
  ·rw[Nat.zero_add,cell_of_row _ _ _ _ _ _ h]
   have hk:k<(ints xs).length:=(List.getElem?_eq_some_iff.1 hx).1
   have:(ints (xs++ys))[k]?=some x:=by
    unfold ints at hx hk⊢
    rw[List.map_append,List.getElem?_append_left hk];exact hx
   simpa using this
set_option maxRecDepth 100000 in
set_option maxHeartbeats 3200000 in
theorem aM8{Z:Play}(base B n:Nat)(a b:Int)(s t:List UInt8)(v lv:Value)(xs:List Int)(p:Nat->Nat)(F:Nat->Nat->Prop)(ms:Nat->List Nat)(w:World)(h0:-9223372036854775808<=a)(h1:a<=9223372036854775807)(hn:0<n)(hW:WIs base w B n lv p F ms Z)
  (hL:∀i,i<n->(ms i).length<=10000000) (hl:xs.length<=10000000) (hv:Lies w v (ints xs)) (hvF:xs≠[]->∀i,i<n->∀g,v.ownBlock=some g->g<w.heap.size->¬F i g):
  Calls Tryz.prog 35 #[.pointer (some ⟨B,0,none⟩),dO 4 a b s t v] w fun e w'=>e=.returned (.bool true)/\gC base w w' (F (aL a n)) (p (aL a n)) (ms (aL a n)) Z:=by
 obtain⟨g,cp,rfl,hc0,hcd⟩:=hW.cells hn
 have h4:=hW.four
 have hBl:=aA hW.block
 have hgl:=(hW.row.lt g rfl).2
 have HP:=aq (fun wx=>gP a n wx h0 h1 hn h4)
 have hd:=eN a hn
 obtain⟨x,kv,y,yv,vs,pv,pb,hs⟩:=hW.sides _ hd
 have HLd:=aq (hL _ hd)
 have HVF:=aq (fun hx=>hvF hx _ hd)
 have HS:=aq hs
 have HV:=aq hv
 obtain⟨vo,vc,hvs⟩:∃vo vc,v=.slice vo xs.length vc:=by
  have:=aY hv
  simpa [ints] using this
 have hpx:=hs.cellX
 have hpl:=hs.ltp
 unfold dO
 obtain⟨w1,hw1,hop⟩:=lQ w 4 a b s t v
 have c0:=hop.c0
 have c1:=hop.c1
 have c5:=hop.c5
 have hcB:w1.cell? ⟨B,0,none⟩=some (.slice (some ⟨g,0,none⟩) n cp):=(hop.below.cell (p:=⟨B,0,none⟩) hBl).trans hc0
 have HB1:=aq hop.below
 have HZ1:=aq hop.size
 have hcd1:w1.cell? ⟨g,aL a n,none⟩=some (.pointer (some ⟨p (aL a n),0,none⟩)):=(hop.below.cell (p:=⟨g,aL a n,none⟩) hgl).trans (hcd _ hd)
 generalize ms (aL a n)=md at *
 generalize F (aL a n)=Fd at *
 generalize p (aL a n)=pd at *
 generalize aL a n=d at *
 subst hvs
 clear hop hc0 hcd hW hs hL hvF hv
 go_enter Tryz.func35,Tryz.ntmps35
 go_wp2
 go_quiet ((go_at_call 53;refine Calls.quiet_of_same (dz HP _)))
 go_wp2_with fail
 have hb2:=aG (dz HB1) nq
 refine(uF _ xs _ hl ((dz HV).below hb2)).mono ?_
 rintro e wL ⟨rfl,hrow,hbL⟩
 have hA:Below w.heap.size w wL:=hb2.trans (hbL.mono hb2.size)
 have hz1:w1.heap.size=w.heap.size+1:=dz HZ1
 have hgL:w1.heap.size<wL.heap.size:=aA hrow
 have c5L:wL.cell? ⟨w.heap.size,5,none⟩=some (.slice vo xs.length vc):=(hbL.cell (p:=⟨w.heap.size,5,none⟩) (show w.heap.size<w1.heap.size by omega)).trans c5
 have hpxL:wL.cell? ⟨pd,0,none⟩=some (.pointer (some ⟨x,0,none⟩)):=(hA.cell (p:=⟨pd,0,none⟩) hpl).trans hpx
 have HROW:Hid (wL.heap[w1.heap.size]?=some (.cells (ints (xs++[77,0])).toArray 3 (0,0))):=aq hrow
 have HAX:Hid (∀wx,Alike wL wx->Calls Tryz.prog 24 #[.pointer (some ⟨x,0,none⟩),.slice (some ⟨w1.heap.size,0,none⟩) xs.length (xs.length+2)] wx fun e w'=>e=.returned (.int .i64 (addTo md xs).1)/\AddX base x kv md xs pv pb wL w'):=
  aq (fun wx ha=>(aM0 base x kv _ md xs wx pv pb (((dz HS).prog.below hA).below ha.below) (dz HLd) hl ((vQ hrow).below ha.below)).mono (fun e w' h=>⟨h.1,h.2.from ha⟩))
 have HA:=aq hA
 have HBL:=aq hbL
 have HZ:=aq hz1
 have HGL:=aq hgL
 clear hrow hbL hA hz1 hgL
 go_upto_region 17 with fail
 go_cut [8] (fun s8 wx=>s8=.int .i64 (addTo md xs).1/\Hid (AddX base x kv md xs pv pb wL wx))
 case first=>
  go_region_with (go_at_call 24;refine(dz HAX _ (by first|exact Alike.refl _|exact(Alike.refl _).drew|exact(Alike.refl _).drew.drew|exact(Alike.refl _).drew.drew.drew|exact(Alike.refl _).drew.drew.drew.drew)).mono ?_;rintro e w2 ⟨rfl,hax⟩)
  all_goals (go_wp2_with fail;go_meet;exact⟨rfl,by first|exact aq hax|exact aq (hax.to (Alike.refl _).drew)⟩)
 case rest=>
 obtain⟨rfl,HAXR⟩:=hcut
 obtain⟨w2,rfl⟩:∃w2,w2=wc:=⟨wc,rfl⟩
 have HNF:Hid (∀k,w.heap.size<=k->¬Fd k):=aq (fun k hk hf=>by have:=((dz HS).inn k hf).2;omega)
 have HVN:Hid (ints xs≠[]->∀k,(Value.slice vo xs.length vc).ownBlock=some k->¬Fd k):=aq (fun hx k hk hf=>dz HVF (fun e=>hx (by rw[e];rfl)) k hk ((dz HS).inn k hf).2 hf)
 obtain⟨hy2,of2,hpy2⟩:=(dz HS).over (dz HA) (dz HAXR)
 have HO2:=aq of2
 have hwL:w.heap.size<wL.heap.size:=by have:=dz HZ;have:=dz HGL;omega
 have c5M:w2.cell? ⟨w.heap.size,5,none⟩=some (.slice vo xs.length vc):=(World.cell?_of_block (w:=wL) (a:=⟨w.heap.size,5,none⟩) (of2.block w.heap.size hwL (dz HNF _ (Nat.le_refl _)))).trans c5L
 have HV2:Hid (Lies w2 (.slice vo xs.length vc) (ints xs)):=aq (lX ((dz HV).below (dz HA)) of2 (fun hx k hk _=>dz HVN hx k hk))
 have HAY:Hid (∀wx,Alike w2 wx->Calls Tryz.prog 55 #[.pointer (some ⟨y,0,none⟩),.slice vo xs.length vc] wx fun e w'=>e=.returned (.int .i64 (addTo md xs).1)/\AddY base y yv vs md xs w2 w'):=
  aq (fun wx ha=>(aH3 base y yv _ vs md xs wx (hy2.below ha.below) (dz HLd) hl ((dz HV2).below ha.below)).mono (fun e w' h=>⟨h.1,h.2.from ha⟩))
 clear hy2 of2 HAX
 go_upto_region 18 with fail
 go_cut [9] (fun s9 wx=>s9=.int .i64 (addTo md xs).1/\Hid (AddY base y yv vs md xs w2 wx))
 case first=>
  go_region_with (go_at_call 55;refine(dz HAY _ (by first|exact Alike.refl _|exact(Alike.refl _).drew|exact(Alike.refl _).drew.drew|exact(Alike.refl _).drew.drew.drew|exact(Alike.refl _).drew.drew.drew.drew)).mono ?_;rintro e w3 ⟨rfl,hay⟩)
  all_goals (go_wp2_with fail;go_meet;exact⟨rfl,by first|exact aq hay|exact aq (hay.to (Alike.refl _).drew)⟩)
 case rest=>
 obtain⟨rfl,HAYR⟩:=hcut
 obtain⟨w3,rfl⟩:∃w3,w3=wc:=⟨wc,rfl⟩
 have of3:=(dz HS).over2 (dz HAYR)
 have sz2:=(dz HO2).size
 have hgL:=dz HGL
 have c5N:w3.cell? ⟨w.heap.size,5,none⟩=some (.slice vo xs.length vc):=(World.cell?_of_block (w:=w2) (a:=⟨w.heap.size,5,none⟩) (of3.block w.heap.size (by omega) (dz HNF _ (Nat.le_refl _)))).trans c5M
 have HV3:Hid (Lies w3 (.slice vo xs.length vc) (ints xs)):=aq (lX (dz HV2) of3 (fun hx k hk _=>dz HVN hx k hk))
 have hzz:w.heap.size<=w1.heap.size:=by have:=dz HZ;omega
 have HROW3:Hid (w3.heap[w1.heap.size]?=some (.cells (ints (xs++[77,0])).toArray 3 (0,0))):=aq ((of3.block w1.heap.size (by omega) (dz HNF _ hzz)).trans (((dz HO2).block w1.heap.size hgL (dz HNF _ hzz)).trans (dz HROW)))
 have HBK:=aq (uY w1.heap.size _ xs w3 hl (dz HV3) (fun hne hk=>by
  rcases dz HV with⟨h0,_⟩|⟨bb,off,cap,_,e,hbb,_⟩
  ·exact hne (by simpa [ints] using h0)
  ·rw[e]at hk
   simp[Value.ownBlock]at hk
   omega) (dz HROW3))
 clear of3 sz2 hgL hzz
 go_wp2_with fail
 refine(dz HBK).mono ?_
 rintro e w4 ⟨rfl,hob⟩
 go_wp2
 go_ret
 exact⟨by simp,aP5 (dz HS) hb2 (dz HBL) (dz HGL) (dz HAXR) (dz HAYR) hob⟩
end Go.Proofs.YtekkkoipcghlmaaGreatDoor
namespace Go.Proofs.YtekkkoipcghlmaaGreatDoor
open Go.RowKit
theorem Tryz.infoSideP:(Tryz.prog.info? 90).map (fun i=>(i.zero,i.size,i.bytes))=some (some (.pointer none),1,8):=by kernel_rfl
set_option maxRecDepth 100000 in
set_option maxHeartbeats 1600000 in
theorem pV{Z:Play}(base B:Nat)(a b:Int)(s t:List UInt8)(v lv:Value)(p:Nat->Nat)(F:Nat->Nat->Prop)(ms:Nat->List Nat)(w:World)(hW:WIs base w B 4 lv p F ms Z):
  Calls Tryz.prog 35 #[.pointer (some ⟨B,0,none⟩),dO 3 a b s t v] w fun e w'=>e=.returned (.bool true)/\Below w.heap.size w w':=by
 obtain⟨g,cp,rfl,hc0,hcd⟩:=hW.cells (by decide)
 have hBl:=aA hW.block
 unfold dO
 obtain⟨w1,hw1,hop⟩:=lQ w 3 a b s t v
 have c0:=hop.c0
 have hcB:(w1.alloc (.cells #[.slice none 0 0,.int .i64 0,.slice none 0 0] 77)).cell? ⟨B,0,none⟩=some (.slice (some ⟨g,0,none⟩) 4 cp):=((aU w1 _).cell (p:=⟨B,0,none⟩) (Nat.lt_of_lt_of_le hBl hop.below.size)).trans ((hop.below.cell (p:=⟨B,0,none⟩) hBl).trans hc0)
 have HB1:=aq hop.below
 have HN:=aq (tT w1)
 obtain⟨w2,hw2⟩:∃w2,w2=w1.alloc (.cells #[.slice none 0 0,.int .i64 0,.slice none 0 0] 77):=⟨_,rfl⟩
 rw[←hw2]at hcB HN
 have HB2:Hid (Below w.heap.size w w2):=aq (by rw[hw2];exact hop.below.trans ((aU w1 _).mono hop.below.size))
 clear hop hc0 hcd hW hw2
 go_enter Tryz.func35,Tryz.ntmps35
 go_wp2_with fail
 refine(dz HN).mono ?_
 rintro e w3 ⟨rfl,rfl⟩
 go_wp2
 go_ret
 exact⟨rfl,dz HB2⟩
def xObj:Obj:=.cells #[.slice none 0 0,.int .i64 0,.slice none 0 0] 77
def yObj:Obj:=.cells #[.slice none 0 0] 93
def sObj(x y:Nat):Obj:=.cells #[.pointer (some ⟨x,0,none⟩),.pointer (some ⟨y,0,none⟩),.string ⟨#[]⟩,.bool false,.string ⟨#[]⟩,.bool false] 95
theorem bU(w0:World)(o:Obj):(w0.alloc o).heap[w0.heap.size]?=some o:=by show(w0.heap.push o)[w0.heap.size]?=_;simp
theorem cL{w0:World}(o:Obj){k:Nat}(h:k<w0.heap.size):(w0.alloc o).heap[k]?=w0.heap[k]?:=Below.heap_alloc _ _ _ h
theorem aR2{Z:Play}{base:Nat}{w w1 w2 wz w5:World}{B n:Nat}{lv:Value}{p:Nat->Nat}{F:Nat->Nat->Prop}{ms:Nat->List Nat}{g' cap':Nat}{o:Obj}(hW:WIs base w B n lv p F ms Z)(hb1:Below w.heap.size w w1)(hw2:w2=w1.alloc xObj)(hwz:wz=(w2.alloc yObj).alloc (sObj w1.heap.size w2.heap.size))(hn:n<4)
  (hown:w5.ownsRow base 90 1 (.slice (some ⟨g',0,none⟩) (n+1) cap') (n+1) (((List.range n).map fun i=>.pointer (some ⟨p i,0,none⟩))++[.pointer (some ⟨w2.heap.size+1,0,none⟩)])) (hgr:(wz.alloc o).grownBy w5 lv.ownBlock) (hloc:lv.ownBlock=some g'∨g'=(wz.alloc o).heap.size):
  w5.heap[B]?=some (.cells #[lv,Z.bk] 64 (0,0))/\
  WIs base (w5.setCell ⟨B,0,none⟩ (.slice (some ⟨g',0,none⟩) (n+1) cap')) B (n+1) (.slice (some ⟨g',0,none⟩) (n+1) cap') (fun i=>if i=n then w2.heap.size+1 else p i) (fun i=>if i=n then(fun k=>k=w1.heap.size∨k=w2.heap.size∨k=w2.heap.size+1)else F i) (fun i=>if i=n then []else ms i) Z/\
  Below base w (w5.setCell ⟨B,0,none⟩ (.slice (some ⟨g',0,none⟩) (n+1) cap')):=by
 have hs1:=hb1.size
 have hs2:w2.heap.size=w1.heap.size+1:=by rw[hw2];simp
 have hsz:wz.heap.size=w2.heap.size+2:=by rw[hwz];simp
 have hsa:(wz.alloc o).heap.size=w2.heap.size+3:=by simp[hsz]
 have hs5:=hgr.size
 have hBl:=aA hW.block
 have hbase:base<=w.heap.size:=Nat.le_trans hW.le (Nat.le_of_lt hBl)
 have hold:∀k,k<w.heap.size->(wz.alloc o).heap[k]?=w.heap[k]?:=fun k hk=>by
  rw[cL o (by omega),hwz,cL _ (by simp;omega),cL _ (by omega),hw2,cL _ (by omega)]
  exact hb1.block k hk
 have hx:(wz.alloc o).heap[w1.heap.size]?=some xObj:=by
  rw[cL o (by omega),hwz,cL _ (by simp;omega),cL _ (by omega),hw2];exact bU _ _
 have hy:(wz.alloc o).heap[w2.heap.size]?=some yObj:=by
  rw[cL o (by omega),hwz,cL _ (by simp)];exact bU _ _
 have hsd:(wz.alloc o).heap[w2.heap.size+1]?=some (sObj w1.heap.size w2.heap.size):=by
  rw[cL o (by omega),hwz]
  have:=bU (w2.alloc yObj) (sObj w1.heap.size w2.heap.size)
  simpa using this
 have hlvl:∀k,lv.ownBlock=some k->k<w.heap.size:=fun k hk=>(hW.row.lt k hk).2
 have hne:lv.ownBlock≠some B:=aZ hW.row hW.block (by decide)
 have h5:∀k,k<(wz.alloc o).heap.size->lv.ownBlock≠some k->w5.heap[k]?=(wz.alloc o).heap[k]?:=fun k hk hn=>hgr.block k hk (fun e=>hn e.symm)
 have h5B:w5.heap[B]?=some (.cells #[lv,Z.bk] 64 (0,0)):=by rw[h5 B (by omega) hne,hold B hBl];exact hW.block
 have hfar:∀k,w.heap.size<=k->lv.ownBlock≠some k:=fun k hk e=>by have:=hlvl k e;omega
 have hg'B:g'≠B:=by
  rcases hloc with h|h
  ·intro e;subst e;exact hne h
  ·omega
 have hset:∀k,k≠B->(w5.setCell ⟨B,0,none⟩ (.slice (some ⟨g',0,none⟩) (n+1) cap')).heap[k]?=w5.heap[k]?:=fun k hk=>Below.heap_setCell _ _ _ _ hk
 have fx:(w5.setCell ⟨B,0,none⟩ (.slice (some ⟨g',0,none⟩) (n+1) cap')).heap[w1.heap.size]?=some xObj:=by rw[hset _ (by omega),h5 _ (by omega) (hfar _ (by omega))];exact hx
 have fy:(w5.setCell ⟨B,0,none⟩ (.slice (some ⟨g',0,none⟩) (n+1) cap')).heap[w2.heap.size]?=some yObj:=by rw[hset _ (by omega),h5 _ (by omega) (hfar _ (by omega))];exact hy
 have fs:(w5.setCell ⟨B,0,none⟩ (.slice (some ⟨g',0,none⟩) (n+1) cap')).heap[w2.heap.size+1]?=some (sObj w1.heap.size w2.heap.size):=by rw[hset _ (by omega),h5 _ (by omega) (hfar _ (by omega))];exact hsd
 have hfs:(w5.setCell ⟨B,0,none⟩ (.slice (some ⟨g',0,none⟩) (n+1) cap')).heap.size=w5.heap.size:=by simp
 have fold:∀k,k<w.heap.size->k≠B->lv.ownBlock≠some k->(w5.setCell ⟨B,0,none⟩ (.slice (some ⟨g',0,none⟩) (n+1) cap')).heap[k]?=w.heap[k]?:=fun k hk hkB hkl=>by
  rw[hset k hkB,h5 k (by omega) hkl,hold k hk]
 have hFlt:∀i,i<n->∀k,F i k->base<=k/\k<w.heap.size:=fun i hi k hk=>by
  obtain⟨x,kv,y,lv',vs,pv,pb,hh⟩:=hW.sides i hi
  exact hh.inn k hk
 have fF:∀i,i<n->∀k,F i k->(w5.setCell ⟨B,0,none⟩ (.slice (some ⟨g',0,none⟩) (n+1) cap')).heap[k]?=w.heap[k]?:=fun i hi k hk=>
  fold k (hFlt i hi k hk).2 (fun e=>hW.notB i hi (by rw[←e];exact hk)) (fun e=>hW.notRow i hi k e hk)
 refine⟨h5B,⟨by rw[heap_setCell_same w5 B 0 _ _ _ h5B];rfl,hW.le,?_,fun i hi=>?_,fun i j hi hj hij k hk=>?_,fun i hi=>?_,fun i hi k hk=>?_,by omega,?_,fun k hk=>⟨(hW.inG k hk).1,by have:=(hW.inG k hk).2;omega⟩,fun i hi k hk hg=>?_,hW.notBG,fun k hk hg=>?_⟩,?_⟩
 ·have e1:((List.range (n+1)).map fun i=>Value.pointer (some ⟨if i=n then w2.heap.size+1 else p i,0,none⟩))=((List.range n).map fun i=>.pointer (some ⟨p i,0,none⟩))++[.pointer (some ⟨w2.heap.size+1,0,none⟩)]:=by
   rw[List.range_succ,List.map_append]
   congr 1
   ·apply List.map_congr_left
    intro i hi
    have:i<n:=by simpa using hi
    rw[if_neg (by omega)]
   ·simp
  rw[e1]
  exact ownsRow_setCell_other hown (a:=⟨B,0,none⟩) (by simp[Value.ownBlock];exact hg'B) _
 ·by_cases e:i=n
  ·subst e
   simp only[if_true]
   refine⟨w1.heap.size,.slice none 0 0,w2.heap.size,.slice none 0 0,[],.slice none 0 0,[],⟨⟨_,_,_,_,fs,Z.new⟩,by omega,⟨fx,by omega,World.ownsRow_nil _ _ _ _,World.ownsRow_nil _ _ _ _⟩,⟨fy,by omega,World.ownsRow_nil _ _ _ _,rfl,fun i a c ha hc=>by simp at ha⟩,.inr (.inr rfl),⟨.inl rfl,fun g hg=>(by cases hg),fun g hg=>(by cases hg)⟩,⟨.inr (.inl rfl),fun g hg=>(by cases hg),fun v hv=>(by cases hv)⟩,fun k hk=>⟨by omega,by omega⟩,fun m hm=>(by cases hm)⟩⟩
  ·simp only[if_neg e]
   have hi':i<n:=by omega
   exact(hW.sides i hi').keep (by omega) (fF i hi')
 ·by_cases e:i=n
  ·subst e
   simp only[if_true]at hk
   simp only[if_neg (Ne.symm hij)]
   intro hf
   have:=(hFlt j (by omega) k hf).2
   omega
  ·simp only[if_neg e]at hk
   have hkl:=(hFlt i (by omega) k hk).2
   by_cases e2:j=n
   ·subst e2;simp only[if_true];omega
   ·simp only[if_neg e2];exact hW.apart i j (by omega) (by omega) hij k hk
 ·by_cases e:i=n
  ·subst e;simp only[if_true];omega
  ·simp only[if_neg e];exact hW.notB i (by omega)
 ·simp[Value.ownBlock]at hk
  subst hk
  by_cases e:i=n
  ·subst e
   simp only[if_true]
   rcases hloc with h|h
   ·have:=hlvl _ h;omega
   ·omega
  ·simp only[if_neg e]
   rcases hloc with h|h
   ·exact hW.notRow i (by omega) _ h
   ·intro hf;have:=(hFlt i (by omega) _ hf).2;omega
 ·exact Z.keep _ _ hW.book (by omega) (fun k hk=>fold k (hW.inG k hk).2 (fun e=>hW.notBG (by rw[←e];exact hk)) (fun e=>hW.notRowG k e hk))
 ·have hgl:=(hW.inG k hg).2
  by_cases e:i=n
  ·subst e
   simp only[if_true]at hk
   omega
  ·simp only[if_neg e]at hk
   exact hW.apartG i (by omega) k hk hg
 ·simp[Value.ownBlock]at hk
  subst hk
  rcases hloc with h|h
  ·exact hW.notRowG _ h hg
  ·have:=(hW.inG _ hg).2;omega
 ·refine⟨hgr.os.trans ?_,hgr.tape.trans ?_,hgr.output.trans ?_,by omega,fun k hk=>fold k (by omega) (by have:=hW.le;omega) (fun e=>by have:=(hW.row.lt k e).1;omega)⟩
  ·rw[hwz,hw2];exact hb1.os
  ·rw[hwz,hw2];exact hb1.tape
  ·rw[hwz,hw2];exact hb1.output
set_option maxRecDepth 100000 in
set_option maxHeartbeats 1600000 in
theorem uD{Z:Play}(base B n:Nat)(a b:Int)(s t:List UInt8)(v lv:Value)(p:Nat->Nat)(F:Nat->Nat->Prop)(ms:Nat->List Nat)(w:World)(hn:n<4)(hW:WIs base w B n lv p F ms Z)(L:Nat)(hL:∀i,i<n->(ms i).length<=L):
  Calls Tryz.prog 35 #[.pointer (some ⟨B,0,none⟩),dO 3 a b s t v] w fun e w'=>e=.returned (.bool true)/\KWAt base w' B (n+1) L Z/\Below base w w':=by
 have hc0:w.cell? ⟨B,0,none⟩=some lv:=by simp[World.cell?,hW.block]
 obtain⟨ao,cp,hsh⟩:=aC hW.row
 subst hsh
 have hBl:=aA hW.block
 unfold dO
 obtain⟨w1,hw1,hop⟩:=lQ w 3 a b s t v
 have c0:=hop.c0
 have HB1:=aq hop.below
 have HN:=aq (tT w1)
 obtain⟨w2,hw2⟩:∃w2,w2=w1.alloc (.cells #[.slice none 0 0,.int .i64 0,.slice none 0 0] 77):=⟨_,rfl⟩
 rw[←hw2]at HN
 have hb2:Below w.heap.size w w2:=by rw[hw2];exact hop.below.trans ((aU w1 _).mono hop.below.size)
 have hcB:w2.cell? ⟨B,0,none⟩=some (.slice ao n cp):=(hb2.cell (p:=⟨B,0,none⟩) hBl).trans hc0
 have HW:=aq hW
 have HB2:=aq hb2
 have HW2:=aq hw2
 clear hop hc0 hW hw2 hb2
 go_enter Tryz.func35,Tryz.ntmps35
 go_wp2_with fail
 refine(dz HN).mono ?_
 rintro e w3 ⟨rfl,rfl⟩
 obtain⟨wz,hwz⟩:∃wz,wz=(w3.alloc yObj).alloc (sObj w1.heap.size w3.heap.size):=⟨_,rfl⟩
 have hwz':((w3.alloc (.cells #[.slice none 0 0] 93)).alloc (.cells #[.pointer (some ⟨w1.heap.size,0,none⟩),.pointer (some ⟨w3.heap.size,0,none⟩),.string ⟨#[]⟩,.bool false,.string ⟨#[]⟩,.bool false] 95))=wz:=hwz.symm
 have HWZ:=aq hwz
 have hn':(n:Int)<4:=by omega
 have HROWZ:Hid (wz.ownsRow base 90 1 (.slice ao n cp) n ((List.range n).map fun i=>.pointer (some ⟨p i,0,none⟩))):=aq (by
  refine aH (dz HW).row (fun g hg=>?_)
  have h1:=((dz HW).row.lt g hg).2
  have h2:=(dz HB2).size
  rw[hwz,cL _ (by simp;omega),cL _ (by omega)]
  exact(dz HB2).block g h1)
 have hszz:base<=wz.heap.size:=by
  have h1:=(dz HW).le
  have h2:=(dz HB2).size
  rw[hwz];simp;omega
 clear hwz
 go_wp2_with (at_builtin;refine bY (base:=base) rfl _ _ 59 90 rfl Tryz.underlying59 Tryz.infoSideP rfl (by decide) (dz HROWZ) rfl rfl rfl (by omega) hszz ?_;intro g' cap' w5 hown5 hgr5 hloc;have HFIN:=aq (aR2 (dz HW) (dz HB1) (dz HW2) (dz HWZ) hn hown5 hgr5 hloc);clear hown5 hgr5 hloc;have hcB5:w5.cell? ⟨B,0,none⟩=some (.slice ao n cp):=(cell_of_row _ _ 0 _ _ _ (dz HFIN).1);have hfB5:w5.frozen? ⟨B,0,none⟩=false:=frozen_of_row _ _ _ _ _ (dz HFIN).1)
 go_ret
 exact⟨rfl,⟨_,_,_,_,(dz HFIN).2.1,fun i hi=>by
  by_cases e:i=n
  ·simp only[if_pos e];simp
  ·simp only[if_neg e];exact hL i (by omega)⟩,(dz HFIN).2.2⟩
end Go.Proofs.YtekkkoipcghlmaaGreatDoor
namespace Go.Proofs.YtekkkoipcghlmaaGreatDoor
open Go.RowKit
theorem WIs.keepAll{Z:Play}{base:Nat}{w w':World}{B n:Nat}{lv:Value}{p:Nat->Nat}{F:Nat->Nat->Prop}{ms:Nat->List Nat}(h:WIs base w B n lv p F ms Z)(hb:Below w.heap.size w w'):WIs base w' B n lv p F ms Z:=by
 refine⟨(hb.block B (aA h.block)).trans h.block,h.le,aH h.row (fun g hg=>hb.block g (h.row.lt g hg).2),fun i hi=>(h.sides i hi).keep hb.size (fun k hk=>?_),h.apart,h.notB,h.notRow,h.four,Z.keep _ _ h.book hb.size (fun k hk=>hb.block k (h.inG k hk).2),fun k hk=>⟨(h.inG k hk).1,Nat.lt_of_lt_of_le (h.inG k hk).2 hb.size⟩,h.apartG,h.notBG,h.notRowG⟩
 obtain⟨x,kv,y,lv',vs,pv,pb,hh⟩:=h.sides i hi
 exact hb.block k (hh.inn k hk).2
theorem WIs.inn{Z:Play}{base:Nat}{w:World}{B n:Nat}{lv:Value}{p:Nat->Nat}{F:Nat->Nat->Prop}{ms:Nat->List Nat}(h:WIs base w B n lv p F ms Z){i:Nat}(hi:i<n){k:Nat}(hk:F i k):base<=k/\k<w.heap.size:=by
 obtain⟨x,kv,y,lv',vs,pv,pb,hh⟩:=h.sides i hi
 exact hh.inn k hk
theorem WIs.base_le{Z:Play}{base:Nat}{w:World}{B n:Nat}{lv:Value}{p:Nat->Nat}{F:Nat->Nat->Prop}{ms:Nat->List Nat}(h:WIs base w B n lv p F ms Z):base<=w.heap.size:=Nat.le_trans h.le (Nat.le_of_lt (aA h.block))
theorem WIs.turned{Z:Play}{base:Nat}{w w':World}{B n L:Nat}{lv:Value}{p:Nat->Nat}{F:Nat->Nat->Prop}{ms:Nat->List Nat}(h:WIs base w B n lv p F ms Z)(hL:∀i,i<n->(ms i).length<=L){d:Nat}(hd:d<n)(ht:gC base w w' (F d) (p d) (ms d) Z):KWAt base w' B n (L+1) Z/\Below base w w':=by
 obtain⟨F',ms',ho,hs,hF,hl⟩:=ht
 refine⟨⟨lv,p,_,_,h.turn hd ho hs hF,fun i hi=>?_⟩,ho.below (fun k hk=>(h.inn hd hk).1) h.base_le⟩
 by_cases e:i=d
 ·subst e;simp only[if_true];have:=hL i hi;omega
 ·simp only[if_neg e];have:=hL i hi;omega
def sW(Z:Play)(base B L:Nat)(kind:Int)(n:Nat)(w:World)(e:Ending)(w':World):Prop:=e=.returned (.bool true)/\∃n',0<n'/\KWAt base w' B n' L Z/\Below base w w'/\(kind≠3->n'=n)
theorem aK1{Z:Play}(base B n L:Nat)(kind a b:Int)(s t:List UInt8)(v:Value)(xs:List Int)(w w0:World)(hk:kind<=6)(h0:-9223372036854775808<=a)(h1:a<=9223372036854775807)(hn:0<n)(hs:s.length<=9223372036854775807)(ht:t.length<=9223372036854775807)(hl:xs.length<=10000000)(hLm:L<=10000000)
  (hW:KWAt base w0 B n L Z) (hb:Below w0.heap.size w0 w) (he:Env w) (hv:Lies w v (ints xs)) (hvb:xs≠[]->∀g,v.ownBlock=some g->g<base∨w0.heap.size<=g):
  Calls Tryz.prog 35 #[.pointer (some ⟨B,0,none⟩),dO kind a b s t v] w fun e w'=>sW Z base B (L+1) kind n w e w':=by
 obtain⟨lv,p,F,ms,hI0,hL⟩:=hW
 have hI:=hI0.keepAll hb
 have hWw:KWAt base w B n L Z:=⟨lv,p,F,ms,hI,hL⟩
 have hbase:=hI.base_le
 have stay:∀e w',(e=.returned (.bool true)/\Below w.heap.size w w')->sW Z base B (L+1) kind n w e w':=fun e w' h=>⟨h.1,n,hn,(hWw.below h.2).more (by omega),h.2.mono hbase,fun _=>rfl⟩
 have turn:∀e w',(e=.returned (.bool true)/\gC base w w' (F (aL a n)) (p (aL a n)) (ms (aL a n)) Z)->sW Z base B (L+1) kind n w e w':=fun e w' h=>by
  obtain⟨h2,h3⟩:=hI.turned hL (eN a hn) h.2
  exact⟨h.1,n,hn,h2,h3,fun _=>rfl⟩
 have hL7:∀i,i<n->(ms i).length<=10000000:=fun i hi=>Nat.le_trans (hL i hi) hLm
 by_cases k0:kind<1
 ·exact(aD9 base B n kind a b s t v lv p F ms w k0 h0 h1 hn hI).mono stay
 ·have:kind=1∨kind=2∨kind=3∨kind=4∨kind=5∨kind=6:=by omega
  rcases this with rfl|rfl|rfl|rfl|rfl|rfl
  ·exact(yU B a b s t v w hs he).mono stay
  ·exact(xX B a b s t v w hs ht he).mono stay
  ·by_cases h4:n<4
   ·refine(uD base B n a b s t v lv p F ms w h4 hI L hL).mono fun e w' h=>?_
    exact⟨h.1,n+1,by omega,h.2.1.more (by omega),h.2.2,fun h=>absurd rfl h⟩
   ·have:n=4:=by have:=hI.four;omega
    subst this
    exact(pV base B a b s t v lv p F ms w hI).mono stay
  ·refine(aM8 base B n a b s t v lv xs p F ms w h0 h1 hn hI hL7 hl hv (fun hx i hi g hg _ hf=>?_)).mono turn
   have h5:=hI0.inn hi hf
   rcases hvb hx g hg with h6|h6<;>omega
  ·exact(sX base B n a b s t v lv p F ms w h0 h1 hn hI hL7 he).mono stay
  ·exact(zA base B n a b s t v lv p F ms w h0 h1 hn hI).mono turn
end Go.Proofs.YtekkkoipcghlmaaGreatDoor
namespace Go.Proofs.YtekkkoipcghlmaaGreatDoor
open Go.RowKit
def tJ(w:World)(b off len:Nat):Prop:=
 ∀k,k<len->∃(kind a bb:Int) (s t:List UInt8) (v:Value) (xs:List Int),w.cell? ⟨b,off+k*6,none⟩=some (.int .i64 kind)/\w.cell? ⟨b,off+k*6+1,none⟩=some (.int .i64 a)/\w.cell? ⟨b,off+k*6+2,none⟩=some (.int .i64 bb)/\
  w.cell? ⟨b,off+k*6+3,none⟩=some (.string (bs s))/\w.cell? ⟨b,off+k*6+4,none⟩=some (.string (bs t))/\w.cell? ⟨b,off+k*6+5,none⟩=some v/\-9223372036854775808<=a/\a<=9223372036854775807/\s.length<=9223372036854775807/\t.length<=9223372036854775807/\xs.length<=2000000/\Lies w v (ints xs)/\-9223372036854775808<=bb/\bb<=9223372036854775807/\∀ao n c,v=.slice ao n c->n<=c
theorem xC{w:World}{v:Value}{xs:List Int}(h:Lies w v (ints xs))(hx:xs≠[]){g:Nat}(hg:v.ownBlock=some g):g<w.heap.size:=by
 rcases h with⟨h0,_⟩|⟨b,off,cap,_,rfl,hb,_⟩
 ·exact absurd (by simpa [ints] using h0) hx
 ·simp[Value.ownBlock]at hg;subst hg;exact hb
theorem KWAt.book{Z:Play}{base:Nat}{w:World}{B n L:Nat}(h:KWAt base w B n L Z):w.cell? ⟨B,1,none⟩=some Z.bk/\∃ao cp,w.cell? ⟨B,0,none⟩=some (.slice ao n cp):=by
 obtain⟨lv,p,F,ms,hI,_⟩:=h
 obtain⟨ao,cp,rfl⟩:=aC hI.row
 exact⟨cell_of_row _ _ 1 _ _ _ hI.block,ao,cp,cell_of_row _ _ 0 _ _ _ hI.block⟩
theorem vO(w1:World)(a b:Int):Lies (w1.alloc (.cells #[.int .i64 a,.int .i64 b] 3)) (.slice (some ⟨w1.heap.size,0,none⟩) 2 2) (ints [a,b]):=by
 have h:=bU w1 (.cells #[.int .i64 a,.int .i64 b] 3)
 refine .inr ⟨w1.heap.size,0,2,by simp[ints],rfl,aA h,fun k x hx=>?_⟩
 rw[Nat.zero_add,cell_of_row _ _ _ _ _ _ h]
 simpa [ints] using hx
end Go.Proofs.YtekkkoipcghlmaaGreatDoor
