import Derived.Test.YtekkkoipcghlmaaGreatDoorU50
import Derived.Deep.RegionHeld3
set_option linter.all false
namespace Go.Proofs.YtekkkoipcghlmaaGreatDoor
open Go.RowKit
section
variable {wL w2 wz:World}{a b c d:Value}
theorem zX{rb:Nat}{cs:Array Value}(hcs:cs.size=4)(hz:wz.heap[rb]?=some (.cells cs 34 (0,0))):(cQ wz rb a b c d).heap[rb]?=some (.cells #[a,b,c,d] 34 (0,0))/\Only (·=rb) wz (cQ wz rb a b c d):=by
 obtain⟨l⟩:=cs
 match l,hcs with
 | [e0,e1,e2,e3],_=>
  have h0:=heap_setCell_same _ _ 0 _ _ a hz
  have h1:=heap_setCell_same _ _ 1 _ _ b h0
  have h2:=heap_setCell_same _ _ 2 _ _ c h1
  have h3:=heap_setCell_same _ _ 3 _ _ d h2
  refine⟨h3,?_⟩
  unfold cQ
  exact(((Only.setCell (F:=(·=rb)) (p:=⟨rb,0,none⟩) rfl _ _).trans (Only.setCell (F:=(·=rb)) (p:=⟨rb,1,none⟩) rfl _ _)).trans (Only.setCell (F:=(·=rb)) (p:=⟨rb,2,none⟩) rfl _ _)).trans (Only.setCell (F:=(·=rb)) (p:=⟨rb,3,none⟩) rfl _ _)
theorem RBox.behind(hs:wL.heap.size<=w2.heap.size):RBox wL w2 (w2.alloc (.cells #[a,b,c,d] 34)) w2.heap.size #[a,b,c,d]:=
 ⟨Only.alloc _ _ _,heap_alloc_new w2 _,hs,.inl (Nat.le_refl _)⟩
theorem RBox.ahead{rb:Nat}(hr:wL.heap.size<=rb)(h:w2.heap[rb]?=some bA):RBox wL w2 (cQ w2 rb a b c d) rb #[a,b,c,d]:=by
 obtain⟨h1,h2⟩:=zX (a:=a) (b:=b) (c:=c) (d:=d) rfl h
 exact⟨h2,h1,hr,.inr ⟨_,h⟩⟩
end
set_option maxRecDepth 100000 in
set_option maxHeartbeats 6400000 in
theorem wU{R:Rule}(base B q:Nat)(kd a b:Int)(s t:List UInt8)(v lv0 bk:Value)(G:Nat->Prop)(es:List Entry)(xs:List Int)(F:Nat->Prop)(p x y:Nat)(kv yv:Value)(vs:List Value)(ms:List Nat)(pv:Value)(pb:List UInt8)(w:World)(hs:SideIs base w F p x kv y yv vs ms pv pb (eI R base bk G es q))(hBw:w.heap[B]?=some (.cells #[lv0,bk] 64 (0,0)))(hbook:BookIs base w bk G es)(hes:es.length<=2*q)(hq:q<=199000)(hG:∀k,G k->base<=k/\k<w.heap.size)(hFG:∀k,F k->¬G k)(hFB:¬F B)(hGB:¬G B)(he:EnvFrom base w)(hml:ms.length<=3000000)
  (hl:xs.length<=10000000) (hv:Lies w v (ints xs)) (hvc:∀ao n c,v=.slice ao n c->n<=c) (hvF:xs≠[]->∀g,v.ownBlock=some g->¬F g) (hb0:-9223372036854775808<=b) (hb1:b<=9223372036854775807):
  Calls Tryz.prog 58 #[.pointer (some ⟨B,0,none⟩),.pointer (some ⟨p,0,none⟩),.agg #[.int .i64 kd,.int .i64 a,.int .i64 b,.string (bs s),.string (bs t),v]] w fun e w'=>e=.returned (.bool true)/\(Below w.heap.size w w'∨zM R base w w' B lv0 bk F G p ms q):=by
 obtain⟨vo,vc,hvs⟩:∃vo vc,v=.slice vo xs.length vc:=by
  have:=aY hv
  simpa [ints] using this
 have hpx:=hs.cellX
 have hpl:=hs.ltp
 have hBl:=aA hBw
 obtain⟨w1,hw1,hop⟩:=lQ w kd a b s t v
 have c5:=hop.c5
 have HB1:=aq hop.below
 have HZ1:=aq hop.size
 have HO1:Hid (w1.heap[w.heap.size]?=some (qQ kd a b s t v)):=aq (by rw[←hw1];exact bU _ _)
 have HS:=aq hs
 have HV:=aq hv
 have HVC:=aq hvc
 have HE:=aq he
 have HKT:Hid (∀{wz:World} {pv':Value} {pb':List UInt8} {b1:Nat} {mo co:Option Addr} {mk mc ck cc:Nat} {xs ys:List Int} {ob:Obj} {rb:Nat} {ro:Array Value} {pr:ByteArray} {gr:Bool} {la:ByteArray} {en:Bool},SMid base w F p x y kv yv vs ms pv' pb' b1 (.slice mo mk mc) (.slice co ck cc) mk ck xs ys ob rb ro pr gr la en wz->(mo=none∨co=none)->mk<=24->ck<=24->w.heap.size<b1->b1<=wz.heap.size->R.I (q+1) ms pb' pr gr la en->∀wx,Alike wz wx->Calls Tryz.prog 103 #[.pointer (some ⟨B,1,none⟩),.slice mo mk mc] wx fun e w1=>e=.returned (.tuple #[])/\w1.heap[rb]?=some (.cells ro 34 (0,0))/\B<w1.heap.size/\
   ∀wy,Alike w1 wy->Calls Tryz.prog 103 #[.pointer (some ⟨B,1,none⟩),.slice co ck cc] wy fun e w2=>e=.returned (.tuple #[])/\w2.heap[rb]?=some (.cells ro 34 (0,0))/\∀wf,Alike w2 wf->zM R base w wf B lv0 bk F G p ms q):=aq (fun h h1 h2 h3 h4 h5 h6=>xV h hs hBw hbook hes (by omega) hG hFG hFB hGB h1 h2 h3 h4 h5 h6)
 have HVN:Hid (ints xs≠[]->∀k,v.ownBlock=some k->¬F k):=aq (fun hx k hk=>hvF (fun e=>hx (by rw[e];rfl)) k hk)
 have HNF:Hid (∀k,w.heap.size<=k->¬F k):=aq (fun k hk hf=>by have:=(hs.inn k hf).2;omega)
 subst hvs
 clear hop hs hv hvc hvF he hbook hes hG hFG hFB hGB hBw
 go_enter Tryz.func58,Tryz.ntmps58
 go_wp2_with fail
 have hb1':=dz HB1
 refine(uF _ xs _ hl ((dz HV).below hb1')).mono ?_
 rintro e wL ⟨rfl,hrow,hbL⟩
 have hA:Below w.heap.size w wL:=hb1'.trans (hbL.mono hb1'.size)
 have hz1:w1.heap.size=w.heap.size+1:=dz HZ1
 have hgL:w1.heap.size<wL.heap.size:=aA hrow
 have hwL:w.heap.size<wL.heap.size:=by omega
 have HOL:Hid (wL.heap[w.heap.size]?=some (qQ kd a b s t (.slice vo xs.length vc))):=aq ((hbL.block _ (by omega)).trans (dz HO1))
 have c5L:wL.cell? ⟨w.heap.size,5,none⟩=some (.slice vo xs.length vc):=cell_of_row _ _ 5 _ _ _ (dz HOL)
 have c2L:wL.cell? ⟨w.heap.size,2,none⟩=some (.int .i64 b):=cell_of_row _ _ 2 _ _ _ (dz HOL)
 have hpxL:wL.cell? ⟨p,0,none⟩=some (.pointer (some ⟨x,0,none⟩)):=(hA.cell (p:=⟨p,0,none⟩) hpl).trans hpx
 have hplL:p<wL.heap.size:=by omega
 have HROW:Hid (wL.heap[w1.heap.size]?=some (.cells (ints (xs++[77,0])).toArray 3 (0,0))):=aq hrow
 have HSOL:Hid (∀wx,Below wL.heap.size wL wx->Calls Tryz.prog 18 #[.pointer (some ⟨x,0,none⟩),.slice (some ⟨w1.heap.size,0,none⟩) xs.length (xs.length+2),.int .i64 b] wx fun e w'=>∃kind mo mk mc co ck cc cf er,e=.returned (.tuple #[.agg #[.int .i64 kind,.slice mo mk mc,.slice co ck cc,.int .i64 cf],.int .i64 er])/\Hid (Sol base x kv ms pv pb xs b F kind mo mk mc co ck cc cf er wL w')/\Hid (∀o,wx.heap[wL.heap.size]?=some o->w'.heap[wL.heap.size]?=some o)/\p<w'.heap.size/\w.heap.size<w'.heap.size/\Hid (wL.heap.size<=w'.heap.size)/\(w'.cell? ⟨p,0,none⟩=some (.pointer (some ⟨x,0,none⟩))/\w'.cell? ⟨w.heap.size,5,none⟩=some (.slice vo xs.length vc)/\w'.cell? ⟨w.heap.size,2,none⟩=some (.int .i64 b))):=aq (fun wx hx=>(aQ5 (dz HS) hA hrow (dz HE) hml hq hl hb0 hb1 wx hx).mono (by
  rintro e w' ⟨kind,mo,mk,mc,co,ck,cc,cf,er,rfl,h1,h2⟩
  obtain⟨h3,h4⟩:=dz h2
  have hxs:=hx.size
  have hk:∀k,(k=p∨w.heap.size<=k)->k<wL.heap.size->w'.heap[k]?=wL.heap[k]?:=fun k hk hlt=>(h4 k hk (by omega)).trans (hx.block k hlt)
  exact⟨kind,mo,mk,mc,co,ck,cc,cf,er,rfl,h1,aq (fun o ho=>(h4 _ (.inr (by omega)) (aA ho)).trans ho),by omega,by omega,aq (by omega),(World.cell?_of_block (a:=⟨p,0,none⟩) (hk p (.inl rfl) hplL)).trans hpxL,(World.cell?_of_block (a:=⟨w.heap.size,5,none⟩) (hk _ (.inr (Nat.le_refl _)) hwL)).trans c5L,(World.cell?_of_block (a:=⟨w.heap.size,2,none⟩) (hk _ (.inr (Nat.le_refl _)) hwL)).trans c2L⟩))
 have HA:=aq hA
 have HBL:=aq hbL
 have HGL:=aq hgL
 clear hrow hbL hA hb1' c5 hpx hz1 hgL
 have hsl0:(0:Int)<=(xs.length:Int):=by omega
 have hsl1:(xs.length:Int)<=((xs.length+2:Nat):Int):=by omega
 have hsl2:(xs.length:Int)<=(xs.length:Int)+2:=by omega
 have ne1:=World.new_ne wL _ hpxL
 have ne2:=World.new_ne wL _ c5L
 go_upto_region 2 with fail
 go_cut [8,9] (fun s8 s9 wz=>∃rb kind mo mk mc co ck cc cf er w2,s8=.pointer (some ⟨rb,0,none⟩)/\s9=.int .i64 er/\Hid (Sol base x kv ms pv pb xs b F kind mo mk mc co ck cc cf er wL w2)/\Hid (RBox wL w2 wz rb #[.int .i64 kind,.slice mo mk mc,.slice co ck cc,.int .i64 cf]))
 case first=>
  go_region_held3 (fun w'=>w'.cell? ⟨p,0,none⟩=some (.pointer (some ⟨x,0,none⟩))/\w'.cell? ⟨w.heap.size,5,none⟩=some (.slice vo xs.length vc)/\w'.cell? ⟨w.heap.size,2,none⟩=some (.int .i64 b)) (first|exact hS2|go_keep) (first|(go_at_call 18;refine(dz HSOL _ (by go_grown)).mono ?_;rintro e w2 ⟨kind,mo,mk,mc,co,ck,cc,cf,er,rfl,HSO,HK,hlp2,hlo2,HL2,hS2⟩;(first|(have hbx:w2.heap[wL.heap.size]?=some bA:=dz HK _ (heap_alloc_new _ _);obtain⟨⟨q0,q1,q2,q3⟩,⟨p0,p1,p2,p3⟩,-⟩:=dJ hbx;have HBX:=aq hbx;clear hbx)|skip)))
  all_goals (go_wp2_with fail;go_meet;exact⟨_,kind,mo,mk,mc,co,ck,cc,cf,er,w2,rfl,rfl,HSO,(by first|exact aq (RBox.behind (dz HL2))|exact aq (RBox.ahead (Nat.le_refl _) (dz HBX)))⟩)
 case rest=>
 obtain⟨rb,kind,mo,mk,mc,co,ck,cc,cf,er,w2,rfl,rfl,HSO,HRB⟩:=hcut
 obtain⟨wz,rfl⟩:∃wz,wz=wc:=⟨wc,rfl⟩
 obtain⟨oF,hsol⟩:=dz HSO
 have hR:=dz HRB
 have szL:=oF.size
 have szR:=hR.1.size
 have hrb:=hR.2.2.1
 have hgL:=dz HGL
 have hz1:=dz HZ1
 have kz:∀k,k<wL.heap.size->¬F k->wz.heap[k]?=wL.heap[k]?:=fun k hk hn=>(hR.1.block k (by omega) (by omega)).trans (oF.block k hk hn)
 have HOZ:Hid (wz.heap[w.heap.size]?=some (qQ kd a b s t (.slice vo xs.length vc))):=aq ((kz _ hwL (dz HNF _ (Nat.le_refl _))).trans (dz HOL))
 have HROWZ:Hid (wz.heap[w1.heap.size]?=some (.cells (ints (xs++[77,0])).toArray 3 (0,0))):=aq ((kz _ hgL (dz HNF _ (by omega))).trans (dz HROW))
 have HVZ:Hid (Lies wz (.slice vo xs.length vc) (ints xs)):=aq (by
  have h0:=(dz HV).below (dz HA)
  rcases h0 with h0|⟨bb,off,cap,hp,e,hbb,hc⟩
  ·exact .inl h0
  ·exact bS (.inr ⟨bb,off,cap,hp,e,hbb,hc⟩) (by omega) (fun g hg=>by
    have:g=bb:=by rw[e]at hg;simpa [Value.ownBlock] using hg.symm
    subst this
    exact kz g hbb (dz HVN (List.length_pos_iff.1 hp) g hg)))
 have c5Z:wz.cell? ⟨w.heap.size,5,none⟩=some (.slice vo xs.length vc):=cell_of_row _ _ 5 _ _ _ (dz HOZ)
 have hVg:xs≠[]->(Value.slice vo xs.length vc).ownBlock≠some w1.heap.size:=fun hne hk=>by
  rcases dz HV with⟨h0,_⟩|⟨bb,off,cap,_,e,hbb,_⟩
  ·exact hne (by simpa [ints] using h0)
  ·rw[e]at hk
   simp[Value.ownBlock]at hk
   omega
 have HBK:=aq (uY w1.heap.size _ xs wz hl (dz HVZ) hVg (dz HROWZ))
 have HVG:=aq hVg
 have HRR:=aq hR
 have HSZ:Hid (wL.heap.size<=wz.heap.size/\w1.heap.size<wz.heap.size/\w1.heap.size=w.heap.size+1/\wL.heap.size<=rb/\w1.heap.size<wL.heap.size):=aq ⟨by omega,by omega,hz1,hrb,hgL⟩
 have HSS:=aq hsol
 clear oF hsol hR szL szR hrb hgL hz1 kz hVg HSOL ne1 ne2 c2L c5L hpxL
 go_wp2_with fail
 refine(dz HBK).mono ?_
 rintro e w4 ⟨rfl,hob⟩
 obtain⟨z1,z2,z3,z4,z5⟩:=dz HSZ
 have k4:∀k,k<wz.heap.size->k≠w1.heap.size->w4.heap[k]?=wz.heap[k]?:=fun k hk hn=>hob.block k hk hn
 have HO4:Hid (w4.heap[w.heap.size]?=some (qQ kd a b s t (.slice vo xs.length vc))):=aq ((k4 _ (by omega) (by omega)).trans (dz HOZ))
 have HR4:Hid (w4.heap[rb]?=some (.cells #[.int .i64 kind,.slice mo mk mc,.slice co ck cc,.int .i64 cf] 34 (0,0))):=aq ((k4 _ (aA (dz HRR).2.1) (by omega)).trans (dz HRR).2.1)
 have HV4:Hid (Lies w4 (.slice vo xs.length vc) (ints xs)):=aq (lX (dz HVZ) hob (fun hne g hg _ e=>dz HVG (fun h=>hne (by rw[h];rfl)) (by rw[←e];exact hg)))
 have c5F:w4.cell? ⟨w.heap.size,5,none⟩=some (.slice vo xs.length vc):=cell_of_row _ _ 5 _ _ _ (dz HO4)
 have c2F:w4.cell? ⟨w.heap.size,2,none⟩=some (.int .i64 b):=cell_of_row _ _ 2 _ _ _ (dz HO4)
 have r0F:w4.cell? ⟨rb,0,none⟩=some (.int .i64 kind):=cell_of_row _ _ 0 _ _ _ (dz HR4)
 have r1F:w4.cell? ⟨rb,1,none⟩=some (.slice mo mk mc):=cell_of_row _ _ 1 _ _ _ (dz HR4)
 have r2F:w4.cell? ⟨rb,2,none⟩=some (.slice co ck cc):=cell_of_row _ _ 2 _ _ _ (dz HR4)
 have r3F:w4.cell? ⟨rb,3,none⟩=some (.int .i64 cf):=cell_of_row _ _ 3 _ _ _ (dz HR4)
 have HRT:=aq (rF _ xs w4 hl (dz HV4))
 have hlo4:w.heap.size<w4.heap.size:=aA (dz HO4)
 have hlr4:rb<w4.heap.size:=aA (dz HR4)
 have HOB:=aq hob
 clear z1 z2 z3 z4 z5 k4 hob c5Z HBK
 go_wp2_with fail
 refine(dz HRT).mono ?_
 rintro e w5 ⟨rfl,rfl⟩
 rcases dz HSS with⟨hbad,⟨rfl,rfl,rfl,rfl,rfl,rfl,rfl,rfl⟩,hbl⟩|⟨hal,hbz,rfl,hres⟩
 ·have HBB:Hid (Below w.heap.size w w5):=aq (by
   obtain⟨z1,z2,z3,z4,z5⟩:=dz HSZ
   have hA:=dz HA
   have h1:=hA.trans (hbl.mono hA.size)
   have h2:=h1.trans ((dz HRR).1.below (fun k hk=>by rw[hk];omega) h1.size)
   exact h2.trans ((dz HOB).below (fun k hk=>by rw[hk];omega) h2.size))
  clear HKT HSS HSO HRR HRB HRT HV4 HV HVZ hbl
  rcases hbad with⟨ha,rfl⟩|⟨ha,hneg,rfl⟩
  ·rw[ha]
   clear ha
   go_wp2
   go_ret
   exact⟨by simp,.inl (dz HBB)⟩
  ·rw[ha]
   clear ha
   go_wp2
   go_ret
   exact⟨by simp,.inl (dz HBB)⟩
 ·have hb0z:(b<0)=False:=by simp;omega
  obtain⟨z1,z2,z3,z4,z5⟩:=dz HSZ
  obtain⟨pv',pb',xm,ys,pr,gr,la,en,hmid,hmk,hck,hyl,hone,hyb,hRI,hcf0,hcf1,hans⟩:=aA9 (dz HS) (dz HA) (dz HOL) (by omega:w.heap.size<w1.heap.size) z5 hres (iU hal) (dz HRR) (dz HOB) hbz
  have c0F:w5.cell? ⟨w.heap.size,0,none⟩=some (.int .i64 kd):=cell_of_row _ _ 0 _ _ _ (dz HO4)
  have c1F:w5.cell? ⟨w.heap.size,1,none⟩=some (.int .i64 a):=cell_of_row _ _ 1 _ _ _ (dz HO4)
  have c3F:w5.cell? ⟨w.heap.size,3,none⟩=some (.string (bs s)):=cell_of_row _ _ 3 _ _ _ (dz HO4)
  have c4F:w5.cell? ⟨w.heap.size,4,none⟩=some (.string (bs t)):=cell_of_row _ _ 4 _ _ _ (dz HO4)
  have hpyF:w5.cell? ⟨p,1,none⟩=some (.pointer (some ⟨y,0,none⟩)):=cell_of_row _ _ 1 _ _ _ hmid.blk
  have hlp5:p<w5.heap.size:=aA hmid.blk
  have HRES:Hid (∀wx,Below w5.heap.size w5 wx->Calls Tryz.prog 102 #[.agg #[.int .i64 kind,.slice mo mk mc,.slice co ck cc,.int .i64 cf],.pointer (some ⟨y,0,none⟩),.agg #[.int .i64 kd,.int .i64 a,.int .i64 b,.string (bs s),.string (bs t),.slice vo xs.length vc]] wx fun e w'=>e=.returned (.bool true)/\Hid (Below w5.heap.size w5 w')/\(w'.cell? ⟨rb,0,none⟩=some (.int .i64 kind)/\w'.cell? ⟨rb,1,none⟩=some (.slice mo mk mc)/\w'.cell? ⟨rb,2,none⟩=some (.slice co ck cc)/\w'.cell? ⟨rb,3,none⟩=some (.int .i64 cf)/\w'.cell? ⟨p,1,none⟩=some (.pointer (some ⟨y,0,none⟩))/\w'.cell? ⟨w.heap.size,0,none⟩=some (.int .i64 kd)/\w'.cell? ⟨w.heap.size,1,none⟩=some (.int .i64 a)/\w'.cell? ⟨w.heap.size,2,none⟩=some (.int .i64 b)/\w'.cell? ⟨w.heap.size,3,none⟩=some (.string (bs s))/\w'.cell? ⟨w.heap.size,4,none⟩=some (.string (bs t))/\w'.cell? ⟨w.heap.size,5,none⟩=some (.slice vo xs.length vc))):=aq (fun wx hx=>(xG base y yv _ vs ms xs kd a b s t kind cf mo co mk mc ck cc wx (hmid.doc.below hx) (by omega) (dz HS).small (iU hal) hl ((dz HV4).below hx) (dz HVC) hbz hb1 hcf0 hcf1 (by
   rcases hans with⟨a1,a2,a3,a4,bb,a5,a6,a7,a8⟩|⟨a1,a2,a3,a4,pp,a5,a6,a7⟩|h
   ·exact .inl ⟨a1,a2,a3,a4,bb,a5,a6,a7,a8.below hx⟩
   ·exact .inr (.inl ⟨a1,a2,a3,a4,pp,a5.below hx,a6,a7⟩)
   ·exact .inr (.inr h))).mono (fun e w' h=>by
   have h6:=hx.trans (h.2.mono hx.size)
   exact⟨h.1,aq h6,(h6.cell (p:=⟨rb,0,none⟩) hlr4).trans r0F,(h6.cell (p:=⟨rb,1,none⟩) hlr4).trans r1F,(h6.cell (p:=⟨rb,2,none⟩) hlr4).trans r2F,(h6.cell (p:=⟨rb,3,none⟩) hlr4).trans r3F,(h6.cell (p:=⟨p,1,none⟩) hlp5).trans hpyF,(h6.cell (p:=⟨w.heap.size,0,none⟩) hlo4).trans c0F,(h6.cell (p:=⟨w.heap.size,1,none⟩) hlo4).trans c1F,(h6.cell (p:=⟨w.heap.size,2,none⟩) hlo4).trans c2F,(h6.cell (p:=⟨w.heap.size,3,none⟩) hlo4).trans c3F,(h6.cell (p:=⟨w.heap.size,4,none⟩) hlo4).trans c4F,(h6.cell (p:=⟨w.heap.size,5,none⟩) hlo4).trans c5F⟩))
  have HM5:=aq hmid
  have HRI:=aq hRI
  have HLL:Hid (w.heap.size<wL.heap.size/\wL.heap.size<=w5.heap.size):=aq ⟨by omega,by have:=(dz HOB).size;omega⟩
  have HHH:Hid (mk<=24/\ck<=24/\ys.length=ck/\(mo=none∨co=none)/\∀z,z∈ys->z≠0/\-12<=z/\z<=12):=aq ⟨hmk,hck,hyl,hone,hyb⟩
  rw[hal]
  clear hmid hRI hans hcf0 hcf1 hmk hck hyl hone hyb hres hal z1 z2 z3 z4 z5 HSS HSO HRB HRR HRT HV4 HV HVZ HVC HE HOZ HROWZ HROW HBL
  go_wp2_with fail
  go_region_held3 (fun w'=>w'.cell? ⟨rb,0,none⟩=some (.int .i64 kind)/\w'.cell? ⟨rb,1,none⟩=some (.slice mo mk mc)/\w'.cell? ⟨rb,2,none⟩=some (.slice co ck cc)/\w'.cell? ⟨rb,3,none⟩=some (.int .i64 cf)/\w'.cell? ⟨p,1,none⟩=some (.pointer (some ⟨y,0,none⟩))/\w'.cell? ⟨w.heap.size,0,none⟩=some (.int .i64 kd)/\w'.cell? ⟨w.heap.size,1,none⟩=some (.int .i64 a)/\w'.cell? ⟨w.heap.size,2,none⟩=some (.int .i64 b)/\w'.cell? ⟨w.heap.size,3,none⟩=some (.string (bs s))/\w'.cell? ⟨w.heap.size,4,none⟩=some (.string (bs t))/\w'.cell? ⟨w.heap.size,5,none⟩=some (.slice vo xs.length vc)) (first|exact hS6|go_keep) (first|(go_at_call 102;refine(dz HRES _ (by go_grown)).mono ?_;rintro e w6 ⟨rfl,HB6,hS6⟩))
  have hb6:=dz HB6
  have hm6:=(dz HM5).below (dz HS) hb6
  have k3:=cell_of_row _ _ 3 _ _ _ hm6.blk
  have k5:=cell_of_row _ _ 5 _ _ _ hm6.blk
  have f1:=fun j=>frozen_of_row _ _ j _ _ hm6.blk
  have hlp6:=aA hm6.blk
  have r0G:=hS6.1
  obtain⟨w7,hw7⟩:∃w7,(w6.setCell ⟨p,3,none⟩ (.bool true)).setCell ⟨p,5,none⟩ (.bool (kind==2))=w7:=⟨_,rfl⟩
  have hm7:SMid base w F p x y kv yv vs ms pv' pb' wL.heap.size (.slice mo mk mc) (.slice co ck cc) mk ck xm ys (qQ kd a b s t (.slice vo xs.length vc)) rb #[.int .i64 kind,.slice mo mk mc,.slice co ck cc,.int .i64 cf] pr true la (kind==2) w7:=by
   rw[←hw7]
   exact(hm6.put (dz HS) 3 (.bool true) rfl).put (dz HS) 5 (.bool (kind==2)) rfl
  have HM7:=aq hm7
  have r2G:=cell_of_row _ _ 2 _ _ _ hm7.rbox
  have hlr7:=aA hm7.rbox
  have HS7:Hid (wL.heap.size<=w7.heap.size):=aq (by rw[←hw7];have:=hb6.size;have:=(dz HLL).2;simp;omega)
  clear hm7 hm6 hb6 hS6 HM5 HRES r0F r1F r2F r3F c0F c1F c2F c3F c4F c5F hpyF hlo4 hlr4 hlp5 HO4 HR4 HB6
  go_wp2_with fail
  clear hw7 k3 k5 f1 r0G hlp6
  go_loopw [15,16] (fun last i wr=>∃(k:Nat) (lx:Value),lx=last/\k<=ck/\i=.int .i64 k/\Hid (wr.ownsRow w7.heap.size 3 1 lx k (ints ((ys.take k).map (fun x=>-x))))/\Hid (Below w7.heap.size w7 wr)) (fun _ i _=>ck-(intOf i).toNat)
  case atStart=>exact⟨0,_,rfl,Nat.zero_le _,rfl,aq (World.ownsRow_nil _ _ _ _),aq (Below.refl _ _)⟩
  case round=>
   obtain⟨k,lx,rfl,hk,rfl,HOW,HBr⟩:=hrel
   have hbr:=dz HBr
   obtain⟨hmk,hck,hyl,hone,hyb⟩:=dz HHH
   have r2r:wr.cell? ⟨rb,2,none⟩=some (.slice co ck cc):=(hbr.cell (p:=⟨rb,2,none⟩) hlr7).trans r2G
   have hlrr:rb<wr.heap.size:=Nat.lt_of_lt_of_le hlr7 hbr.size
   by_cases hlt:k<ck
   ·obtain⟨gc,rfl⟩:∃gc,co=some ⟨gc,0,none⟩:=by
     rcases (dz HM7).crow.2 with⟨h1,h2⟩|⟨g,cap,cur,h1,_⟩
     ·omega
     ·cases h1;exact⟨g,rfl⟩
    have hkl:k<ys.length:=by omega
    have hcell:wr.cell? ⟨gc,k,none⟩=some (.int .i64 ys[k]):=by
     have h1:=(dz HM7).crow.cells (g:=gc) rfl k (.int .i64 ys[k]) (by simp[ints,hkl])
     rw[Addr.add_lit,Nat.zero_add]at h1
     exact(hbr.cell (p:=⟨gc,k,none⟩) ((dz HM7).crow.lt gc rfl).2).trans h1
    have hgl:gc<wr.heap.size:=World.block_lt_of_cell? wr _ hcell
    have hy:=hyb ys[k] (List.getElem_mem hkl)
    have hy0:=hy.2.1
    have hy1:=hy.2.2
    have HTK:Hid ((ys.take (k+1)).map (fun x=>-x)=(ys.take k).map (fun x=>-x)++[-ys[k]]):=aq (by rw[List.take_succ_eq_append_getElem hkl,List.map_append];rfl)
    have hdk:decide ((k:Int)<(ck:Int))=true:=decide_eq_true (by omega)
    have hk0:(0:Int)<=(k:Int):=by omega
    have hk1:(k:Int)<(ck:Int):=by omega
    generalize ys[k]=yk at *
    clear hyb hy hbr hone hyl
    go_wp2_with (at_builtin;refine bR rfl _ _ 25 3 rfl Tryz.underlying25 Tryz.infoIntW rfl (by decide) (dz HOW) rfl rfl rfl (by omega) (Nat.le_refl _) (dz HBr) ?_;intro v' w3 hown' hbel' _)
    go_roundw
    case rel=>exact⟨k+1,_,rfl,by omega,by go_num,aq (by rw[dz HTK];simpa [ints] using hown'),aq hbel'⟩
    case measure=>simp[intOf];omega
   ·have hkc:k=ck:=by omega
    subst hkc
    have hown:wr.ownsRow w7.heap.size 3 1 lx k (ints (ys.map (fun x=>-x))):=by
     have h1:=dz HOW
     rwa [List.take_of_length_le (by omega)]at h1
    have hsb:∀z,z∈Sp.sorted (ys.map (fun x=>-x))->z≠0/\-12<=z/\z<=12:=fun z hz=>Sp.sortedTo_bd _ 12 z hz
    have hsl:(Sp.sorted (ys.map (fun x=>-x))).length<=100:=Nat.le_trans (Sp.sortedTo_len _ 12) (by decide)
    have HSRT:=aq (gZ lx (ys.map (fun x=>-x)) wr (by rw[List.length_map];omega) (aE hown (by rw[←hyl];simp[ints])))
    have HTLD:Hid (∀v8 w8,w8.ownsRow wr.heap.size 3 1 v8 (Sp.sorted (ys.map (fun x=>-x))).length (ints (Sp.sorted (ys.map (fun x=>-x))))->Calls Tryz.prog 101 #[v8] w8 fun e w'=>e=.returned (.string (bs (Sp.told (Sp.sorted (ys.map (fun x=>-x))))))/\Below w8.heap.size w8 w'):=aq (fun v8 w8 h8=>pD v8 _ w8 hsl hsb (aE h8 (by simp[ints])))
    have HRI2:=aq (dz HRI _ rfl)
    have HON:=aq hone
    have HCK:Hid (mk<=24/\k<=24):=aq ⟨hmk,hck⟩
    have HBR:=aq hbr
    clear hown hsb hsl hmk hck hyl hone hyb HRI hbr HOW HBr HHH
    generalize Sp.sorted (ys.map (fun x=>-x))=so at *
    go_wp2_with fail
    refine(dz HSRT).mono ?_
    rintro e w8 ⟨v8,rfl,hown8,hb8⟩
    have HT8:=aq (dz HTLD v8 w8 hown8)
    have HB8:Hid (Below w7.heap.size w7 w8):=aq ((dz HBR).trans (hb8.mono (dz HBR).size))
    clear hown8 hb8 HSRT HTLD
    generalize Sp.told so=tx at *
    go_wp2_with fail
    refine(dz HT8).mono ?_
    rintro e w9 ⟨rfl,hb9⟩
    have hm9:=(dz HM7).below (dz HS) ((dz HB8).trans (hb9.mono (dz HB8).size))
    have k4:=cell_of_row _ _ 4 _ _ _ hm9.blk
    have f1:=fun j=>frozen_of_row _ _ j _ _ hm9.blk
    have hlp9:=aA hm9.blk
    obtain⟨w10,hw10⟩:∃w10,w9.setCell ⟨p,4,none⟩ (.string (bs tx))=w10:=⟨_,rfl⟩
    have hm10:SMid base w F p x y kv yv vs ms pv' pb' wL.heap.size (.slice mo mk mc) (.slice co k cc) mk k xm ys (qQ kd a b s t (.slice vo xs.length vc)) rb #[.int .i64 kind,.slice mo mk mc,.slice co k cc,.int .i64 cf] pr true (bs tx) (kind==2) w10:=by
     rw[←hw10]
     exact hm9.put (dz HS) 4 (.string (bs tx)) rfl
    have hz10:wL.heap.size<=w10.heap.size:=by
     rw[←hw10]
     have h1:=dz HS7
     have h2:=(dz HB8).size
     have h3:=hb9.size
     simp
     omega
    have r1H:=cell_of_row _ _ 1 _ _ _ hm10.rbox
    have hlrH:=aA hm10.rbox
    have HKP:=aq (dz HKT hm10 (dz HON) (dz HCK).1 (dz HCK).2 (dz HLL).1 hz10 (dz HRI2))
    clear hm10 hz10 hm9 hb9 HT8 HB8 HM7 HKT HRI2 r2r hlrr
    go_wp2_with fail
    clear hw10 k4 f1 hlp9
    go_region_held3 (fun w'=>w'.cell? ⟨rb,1,none⟩=some (.slice mo mk mc)) (first|exact hS11|go_keep) (first|(go_at_call 103;refine(dz HKP _ (by first|exact Alike.refl _|exact(Alike.refl _).drew|exact(Alike.refl _).drew.drew)).mono ?_;rintro e w11 ⟨rfl,hrb11,hB11,HK2⟩;have hS11:=cell_of_row _ _ 1 _ _ _ hrb11;have r2I:=cell_of_row _ _ 2 _ _ _ hrb11;have hlrI:=aA hrb11;have HK3:=aq HK2;clear HK2 hrb11))
    go_wp2_with fail
    go_region_held3 (fun w'=>w'.cell? ⟨rb,2,none⟩=some (.slice co k cc)) (first|exact hS12|go_keep) (first|(go_at_call 103;refine(dz HK3 _ (by first|exact Alike.refl _|exact(Alike.refl _).drew|exact(Alike.refl _).drew.drew)).mono ?_;rintro e w12 ⟨rfl,hrb12,HAS⟩;have hS12:=cell_of_row _ _ 2 _ _ _ hrb12;clear hrb12;have HAX:=aq HAS;clear HAS))
    go_wp2
    go_ret
    exact⟨rfl,.inr (dz HAX _ (by first|exact Alike.refl _|exact(Alike.refl _).drew|exact(Alike.refl _).drew.drew))⟩
end Go.Proofs.YtekkkoipcghlmaaGreatDoor
namespace Go.Proofs.YtekkkoipcghlmaaGreatDoor
open Go.RowKit
set_option maxRecDepth 100000 in
set_option maxHeartbeats 3200000 in
theorem xE{R:Rule}(base B n q:Nat)(a b:Int)(s t:List UInt8)(v lv bk:Value)(G:Nat->Prop)(es:List Entry)(xs:List Int)(p:Nat->Nat)(F:Nat->Nat->Prop)(ms:Nat->List Nat)(w:World)(h0:-9223372036854775808<=a)(h1:a<=9223372036854775807)(hb0:-9223372036854775808<=b)(hb1:b<=9223372036854775807)(hn:0<n)(hW:WIs base w B n lv p F ms (eI R base bk G es q))(hq:q<=199000)
  (hL:∀i,i<n->(ms i).length<=3000000) (hl:xs.length<=10000000) (hv:Lies w v (ints xs)) (hvc:∀ao n c,v=.slice ao n c->n<=c) (hvF:xs≠[]->∀i,i<n->∀g,v.ownBlock=some g->g<w.heap.size->¬F i g) (he:EnvFrom base w):
  Calls Tryz.prog 35 #[.pointer (some ⟨B,0,none⟩),dO 7 a b s t v] w fun e w'=>e=.returned (.bool true)/\∃bk' G' es' F',WIs base w' B n lv p F' ms (eI R base bk' G' es' (q+1))/\Below base w w':=by
 have hd:=eN a hn
 have hbase:=hW.base_le
 have HSV:Hid (∀wx,Below w.heap.size w wx->Calls Tryz.prog 58 #[.pointer (some ⟨B,0,none⟩),.pointer (some ⟨p (aL a n),0,none⟩),.agg #[.int .i64 7,.int .i64 a,.int .i64 b,.string (bs s),.string (bs t),v]] wx fun e w'=>e=.returned (.bool true)/\∃bk' G' es' F',WIs base w' B n lv p F' ms (eI R base bk' G' es' (q+1))/\Below base w w'):=aq (by
  intro wx hx
  have hI:=hW.keepAll hx
  obtain⟨x,kv,y,yv,vs,pv,pb,hs⟩:=hI.sides _ hd
  have hxb:Below base w wx:=hx.mono hbase
  refine(wU base B q 7 a b s t v lv bk G es xs (F (aL a n)) (p (aL a n)) x y kv yv vs (ms (aL a n)) pv pb wx hs hI.block hI.book.1 hI.book.2 hq hI.inG (hI.apartG _ hd) (hI.notB _ hd) hI.notBG (he.below hxb) (hL _ hd) hl (hv.below hx) hvc (fun hne g hg hf=>hvF hne _ hd g hg (hW.inn hd hf).2 hf) hb0 hb1).mono ?_
  rintro e w' ⟨rfl,h|h⟩
  ·exact⟨rfl,bk,G,es,F,(hI.keepAll h).later,hxb.trans (h.mono (Nat.le_trans hbase hx.size))⟩
  ·obtain⟨bk',G',es',F',h1,h2⟩:=hI.asked hd h
   exact⟨rfl,bk',G',es',F',h1,hxb.trans h2⟩)
 obtain⟨g,cp,rfl,hc0,hcd⟩:=hW.cells hn
 have h4:=hW.four
 have hBl:=aA hW.block
 have hgl:=(hW.row.lt g rfl).2
 have HP:=aq (fun wx=>gP a n wx h0 h1 hn h4)
 unfold dO
 obtain⟨w1,hw1,hop⟩:=lQ w 7 a b s t v
 have c0:=hop.c0
 have c1:=hop.c1
 have c2:=hop.c2
 have c3:=hop.c3
 have c4:=hop.c4
 have c5:=hop.c5
 have hcB:w1.cell? ⟨B,0,none⟩=some (.slice (some ⟨g,0,none⟩) n cp):=(hop.below.cell (p:=⟨B,0,none⟩) hBl).trans hc0
 have HB1:=aq hop.below
 have hcd1:w1.cell? ⟨g,aL a n,none⟩=some (.pointer (some ⟨p (aL a n),0,none⟩)):=(hop.below.cell (p:=⟨g,aL a n,none⟩) hgl).trans (hcd _ hd)
 generalize p (aL a n)=pd at HSV hcd1
 generalize aL a n=d at *
 clear hop hc0 hcd hW hL hvF hv hvc he
 go_enter Tryz.func35,Tryz.ntmps35
 go_wp2
 go_quiet ((go_at_call 53;refine Calls.quiet_of_same (dz HP _)))
 go_wp2_with fail
 refine(dz HSV _ (aG (dz HB1) nq)).mono ?_
 rintro e w2 ⟨rfl,hr⟩
 have HR:=aq hr
 clear hr
 go_wp2
 go_ret
 exact⟨rfl,dz HR⟩
def PlayInv(R:Rule)(base B n q:Nat)(w:World):Prop:=0<n/\∃bk G es,KWAt base w B n q (eI R base bk G es q)
theorem PlayInv.more{R:Rule}{base B n q:Nat}{w:World}(h:PlayInv R base B n q w):PlayInv R base B n (q+1) w:=by
 obtain⟨hn,bk,G,es,lv,p,F,ms,h,hL⟩:=h
 exact⟨hn,bk,G,es,lv,p,F,ms,h.later,fun i hi=>Nat.le_trans (hL i hi) (by omega)⟩
theorem PlayInv.below{R:Rule}{base B n q:Nat}{w w':World}(h:PlayInv R base B n q w)(hb:Below w.heap.size w w'):PlayInv R base B n q w':=by
 obtain⟨hn,bk,G,es,h⟩:=h
 exact⟨hn,bk,G,es,h.below hb⟩
theorem PlayInv.cells{R:Rule}{base B n q:Nat}{w:World}(h:PlayInv R base B n q w):n<=4/\B<w.heap.size/\∃ao cp,w.cell? ⟨B,0,none⟩=some (.slice ao n cp):=by
 obtain⟨hn,bk,G,es,h⟩:=h
 have hb:=h.book.2
 obtain⟨lv,p,F,ms,h,hL⟩:=h
 exact⟨h.four,aA h.block,hb⟩
theorem PlayInv.looks{R:Rule}{base B n q:Nat}{w:World}(h:PlayInv R base B n q w)(hq:q<=199000):
  Calls Tryz.prog 36 #[.pointer (some ⟨B,1,none⟩)] w fun e w'=>e=.returned (.bool true)/\Below w.heap.size w w':=by
 obtain⟨hn,bk,G,es,h⟩:=h
 have hb:=h.book.1
 obtain⟨lv,p,F,ms,h,hL⟩:=h
 have h2:es.length<=2*q:=h.book.2
 exact yE base B bk G es w hb h.book.1 (fun k hk=>(h.inG k hk).2) (by omega)
def aJ7(R:Rule)(hi:Int)(base B:Nat)(w:World):Prop:=
 ∀(n q:Nat) (kind a bb:Int) (s t:List UInt8) (v:Value) (xs:List Int) (wx w0:World),kind<=hi->-9223372036854775808<=a->a<=9223372036854775807->-9223372036854775808<=bb->bb<=9223372036854775807->s.length<=9223372036854775807->t.length<=9223372036854775807->xs.length<=10000000->q<=199000->PlayInv R base B n q w0->Below w0.heap.size w0 wx->Below base w w0->Lies wx v (ints xs)->(∀ao n c,v=.slice ao n c->n<=c)->(xs≠[]->∀g,v.ownBlock=some g->g<base∨w0.heap.size<=g)->
  Calls Tryz.prog 35 #[.pointer (some ⟨B,0,none⟩),.agg #[.int .i64 kind,.int .i64 a,.int .i64 bb,.string (bs s),.string (bs t),v]] wx fun e w'=>e=.returned (.bool true)/\∃n',PlayInv R base B n' (q+1) w'/\Below base wx w'/\(kind≠3->n'=n)
theorem steps7(R:Rule)(base B:Nat)(w:World)(he:Env w)(hb:w.heap.size<=base):aJ7 R 7 base B w:=by
 intro n q kind a bb s t v xs wx w0 hk h0 h1 hb0 hb1 hs ht hl hq hI hx hw hv hvc hvb
 obtain⟨hn,bk,G,es,hW⟩:=hI
 have hxw:Below w.heap.size w wx:=(hw.mono hb).trans (hx.mono (Nat.le_trans hb (by obtain⟨lv,p,F,ms,h,-⟩:=hW;exact h.base_le)))
 by_cases h7:kind=7
 ·subst h7
  obtain⟨lv,p,F,ms,hI0,hL⟩:=hW
  refine(xE base B n q a bb s t v lv bk G es xs p F ms wx h0 h1 hb0 hb1 hn (hI0.keepAll hx) hq (fun i hi=>Nat.le_trans (hL i hi) (by omega)) hl hv hvc (fun hne i hi g hg _ hf=>?_) ⟨w,he.toEnvT,hb,hxw⟩).mono ?_
  ·have h5:=hI0.inn hi hf
   rcases hvb hne g hg with h6|h6<;>omega
  ·rintro e w' ⟨rfl,bk',G',es',F',h2,h3⟩
   exact⟨rfl,n,⟨hn,bk',G',es',lv,p,F',ms,h2,fun i hi=>Nat.le_trans (hL i hi) (by omega)⟩,h3,fun _=>rfl⟩
 ·refine(aK1 base B n q kind a bb s t v xs wx w0 (by omega) h0 h1 hn hs ht hl (by omega) hW hx (he.below hxw) hv hvb).mono ?_
  rintro e w' ⟨rfl,n',hn',h2,h3,h4⟩
  obtain⟨lv,p,F,ms,h2,hL⟩:=h2
  exact⟨rfl,n',⟨hn',bk,G,es,lv,p,F,ms,h2.later,hL⟩,h3,h4⟩
end Go.Proofs.YtekkkoipcghlmaaGreatDoor
