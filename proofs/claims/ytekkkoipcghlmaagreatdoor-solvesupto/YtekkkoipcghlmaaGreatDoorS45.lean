import Derived.Test.YtekkkoipcghlmaaGreatDoorS37
import Derived.Test.YtekkkoipcghlmaaGreatDoorS39
import Derived.Test.YtekkkoipcghlmaaGreatDoorS44
import Derived.Deep.QuietTactic
import Derived.Deep.DeepCutAuto
import Derived.BigQuiet
set_option linter.all false
namespace Go.Proofs.YtekkkoipcghlmaaGreatDoor
open Go.RowKit
theorem below_alloc(w:World)(o:Obj):Below w.heap.size w (w.alloc o):=(Below.refl _ _).alloc (Nat.le_refl _) o
def opObj(kind a b:Int)(s t:List UInt8)(v:Value):Obj:=.cells #[.int .i64 kind,.int .i64 a,.int .i64 b,.string (bs s),.string (bs t),v] 67
structure OpIn(w w1:World)(kind a b:Int)(s t:List UInt8)(v:Value):Prop where
 below:Below w.heap.size w w1
 size:w1.heap.size=w.heap.size+1
 c0:w1.cell? ⟨w.heap.size,0,none⟩=some (.int .i64 kind)
 c1:w1.cell? ⟨w.heap.size,1,none⟩=some (.int .i64 a)
 c2:w1.cell? ⟨w.heap.size,2,none⟩=some (.int .i64 b)
 c3:w1.cell? ⟨w.heap.size,3,none⟩=some (.string (bs s))
 c4:w1.cell? ⟨w.heap.size,4,none⟩=some (.string (bs t))
 c5:w1.cell? ⟨w.heap.size,5,none⟩=some v
theorem op_in(w:World)(kind a b:Int)(s t:List UInt8)(v:Value):∃w1,w.alloc (.cells #[.int .i64 kind,.int .i64 a,.int .i64 b,.string (bs s),.string (bs t),v] 67)=w1/\OpIn w w1 kind a b s t v:=by
 have hh:∀o:Obj,(w.alloc o).heap[w.heap.size]?=some o:=fun o=>by show(w.heap.push o)[w.heap.size]?=_;simp
 have h:=hh (.cells #[.int .i64 kind,.int .i64 a,.int .i64 b,.string (bs s),.string (bs t),v] 67)
 exact⟨_,rfl,below_alloc _ _,by simp,cell_of_row _ _ 0 _ _ _ h,cell_of_row _ _ 1 _ _ _ h,cell_of_row _ _ 2 _ _ _ h,cell_of_row _ _ 3 _ _ _ h,cell_of_row _ _ 4 _ _ _ h,cell_of_row _ _ 5 _ _ _ h⟩
set_option maxRecDepth 100000 in
theorem step_plain(B:Nat)(a b:Int)(s t:List UInt8)(v:Value)(w:World)(hs:s.length<=9223372036854775807)(he:Env w):
  Calls Tryz.prog 35 #[.pointer (some ⟨B,0,none⟩),opVal 1 a b s t v] w fun e w'=>e=.returned (.bool true)/\Below w.heap.size w w':=by
 have HP:=aq (fun wx (hb:Below w.heap.size w wx)=>lawPlain_any s wx hs (he.below hb))
 unfold opVal
 go_enter Tryz.func35,Tryz.ntmps35
 go_wp2_with fail
 have hb0:=below_alloc w (.cells #[.int .i64 1,.int .i64 a,.int .i64 b,.string (bs s),.string (bs t),v] 67)
 refine(dz HP _ hb0).mono ?_
 rintro e w1 ⟨rfl,hb1⟩
 go_wp2
 go_ret
 exact⟨rfl,hb0.trans (hb1.mono hb0.size)⟩
set_option maxRecDepth 100000 in
theorem step_check(B:Nat)(a b:Int)(s t:List UInt8)(v:Value)(w:World)(hs:s.length<=9223372036854775807)(ht:t.length<=9223372036854775807)(he:Env w):
  Calls Tryz.prog 35 #[.pointer (some ⟨B,0,none⟩),opVal 2 a b s t v] w fun e w'=>e=.returned (.bool true)/\Below w.heap.size w w':=by
 have HP:=aq (fun wx (hb:Below w.heap.size w wx)=>lawChecked_any s t wx hs ht (he.below hb))
 unfold opVal
 go_enter Tryz.func35,Tryz.ntmps35
 go_wp2_with fail
 have hb0:=below_alloc w (.cells #[.int .i64 2,.int .i64 a,.int .i64 b,.string (bs s),.string (bs t),v] 67)
 refine(dz HP _ hb0).mono ?_
 rintro e w1 ⟨rfl,hb1⟩
 go_wp2
 go_ret
 exact⟨rfl,hb0.trans (hb1.mono hb0.size)⟩
theorem WIs.cells{Z:Play}{base:Nat}{w:World}{B n:Nat}{lv:Value}{p:Nat->Nat}{F:Nat->Nat->Prop}{ms:Nat->List Nat}(h:WIs base w B n lv p F ms Z)(hn:0<n):
  ∃g cp,lv=.slice (some ⟨g,0,none⟩) n cp/\w.cell? ⟨B,0,none⟩=some lv/\∀d,d<n->w.cell? ⟨g,d,none⟩=some (.pointer (some ⟨p d,0,none⟩)):=by
 have hc:w.cell? ⟨B,0,none⟩=some lv:=by simp[World.cell?,h.block]
 have hrow:=h.row
 rcases hrow.2 with⟨_,h0⟩|⟨g,cp,cur,rfl,_⟩
 ·omega
 ·refine⟨g,cp,rfl,hc,fun d hd=>?_⟩
  rw[hrow.cellAt d (by omega)]
  simp[hd]
set_option maxRecDepth 100000 in
set_option maxHeartbeats 800000 in
theorem step_idle{Z:Play}(base B n:Nat)(kind a b:Int)(s t:List UInt8)(v lv:Value)(p:Nat->Nat)(F:Nat->Nat->Prop)(ms:Nat->List Nat)(w:World)(hk:kind<1)(h0:-9223372036854775808<=a)(h1:a<=9223372036854775807)(hn:0<n)(hW:WIs base w B n lv p F ms Z):
  Calls Tryz.prog 35 #[.pointer (some ⟨B,0,none⟩),opVal kind a b s t v] w fun e w'=>e=.returned (.bool true)/\Below w.heap.size w w':=by
 obtain⟨g,cp,rfl,hc0,hcd⟩:=hW.cells hn
 have h4:=hW.four
 have hBl:=lt_of_block hW.block
 have hgl:=(hW.row.lt g rfl).2
 have HP:=aq (fun wx=>pick_any a n wx h0 h1 hn h4)
 have HCD:=aq hcd
 clear hcd hW
 have q0:¬kind=1:=by omega
 have q1:(kind==1)=false:=by rw[beq_eq_false_iff_ne];omega
 have q2:(kind==2)=false:=by rw[beq_eq_false_iff_ne];omega
 have q3:(kind==3)=false:=by rw[beq_eq_false_iff_ne];omega
 have q4:(kind==4)=false:=by rw[beq_eq_false_iff_ne];omega
 have q5:(kind==5)=false:=by rw[beq_eq_false_iff_ne];omega
 have q6:(kind==6)=false:=by rw[beq_eq_false_iff_ne];omega
 have q7:(kind==7)=false:=by rw[beq_eq_false_iff_ne];omega
 have q8:(kind==8)=false:=by rw[beq_eq_false_iff_ne];omega
 clear hk
 unfold opVal
 obtain⟨w1,hw1,hop⟩:=op_in w kind a b s t v
 have c0:=hop.c0
 have c1:=hop.c1
 have hcB:w1.cell? ⟨B,0,none⟩=some (.slice (some ⟨g,0,none⟩) n cp):=(hop.below.cell (p:=⟨B,0,none⟩) hBl).trans hc0
 have HB1:=aq hop.below
 have HCD1:Hid (∀d,d<n->w1.cell? ⟨g,d,none⟩=some (.pointer (some ⟨p d,0,none⟩))):=aq (fun d hd=>(hop.below.cell (p:=⟨g,d,none⟩) hgl).trans (dz HCD d hd))
 have hd:=pickOf_lt a hn
 have hcd:=dz HCD1 (pickOf a n) hd
 generalize pickOf a n=d at *
 clear hop HCD hc0
 go_enter Tryz.func35,Tryz.ntmps35
 go_wp2
 go_quiet ((go_at_call 53;refine Calls.quiet_of_same (dz HP _)))
 go_wp2
 go_ret
 exact⟨rfl,belowDrew (dz HB1) _⟩
end Go.Proofs.YtekkkoipcghlmaaGreatDoor
namespace Go.Proofs.YtekkkoipcghlmaaGreatDoor
open Go.RowKit
theorem SideIs.cellX{Z:Play}{pv:Value}{pb:List UInt8}{base:Nat}{w:World}{F:Nat->Prop}{p x:Nat}{kv:Value}{y:Nat}{lv:Value}{vs:List Value}{ms:List Nat}(h:SideIs base w F p x kv y lv vs ms pv pb Z):w.cell? ⟨p,0,none⟩=some (.pointer (some ⟨x,0,none⟩)):=by
 obtain⟨pr,gr,la,en,hb,hZ⟩:=h.block
 exact cell_of_row _ _ 0 _ _ _ hb
theorem SideIs.cellY{Z:Play}{pv:Value}{pb:List UInt8}{base:Nat}{w:World}{F:Nat->Prop}{p x:Nat}{kv:Value}{y:Nat}{lv:Value}{vs:List Value}{ms:List Nat}(h:SideIs base w F p x kv y lv vs ms pv pb Z):w.cell? ⟨p,1,none⟩=some (.pointer (some ⟨y,0,none⟩)):=by
 obtain⟨pr,gr,la,en,hb,hZ⟩:=h.block
 exact cell_of_row _ _ 1 _ _ _ hb
theorem SideIs.ltp{Z:Play}{pv:Value}{pb:List UInt8}{base:Nat}{w:World}{F:Nat->Prop}{p x:Nat}{kv:Value}{y:Nat}{lv:Value}{vs:List Value}{ms:List Nat}(h:SideIs base w F p x kv y lv vs ms pv pb Z):p<w.heap.size:=by
 obtain⟨pr,gr,la,en,hb,hZ⟩:=h.block
 exact lt_of_block hb
def Turned(base:Nat)(w w':World)(Fd:Nat->Prop)(pd:Nat)(md:List Nat)(Z:Play):Prop:=∃F' ms',Only Fd w w'/\SideAt base w' F' pd ms' Z/\(∀k,F' k->Fd k∨w.heap.size<=k)/\ms'.length<=md.length+1
theorem SideIs.block2{Z:Play}{pv:Value}{pb:List UInt8}{base:Nat}{w wq w2:World}{F:Nat->Prop}{p x:Nat}{kv:Value}{y:Nat}{lv:Value}{vs:List Value}{ms:List Nat}(h:SideIs base w F p x kv y lv vs ms pv pb Z)(hb:Below w.heap.size w wq)(ho:Only (·=x) wq w2):
  ∃pr gr la en,w2.heap[p]?=some (.cells #[.pointer (some ⟨x,0,none⟩),.pointer (some ⟨y,0,none⟩),.string pr,.bool gr,.string la,.bool en] 95 (0,0)):=by
 obtain⟨pr,gr,la,en,hblk,hZ⟩:=h.block
 have hne:p≠x:=by intro e;subst e;have:=hblk.symm.trans h.prog.block;simp at this
 have hq:=(hb.block p (lt_of_block hblk)).trans hblk
 exact⟨pr,gr,la,en,(ho.block p (lt_of_block hq) hne).trans hq⟩
def resetWorld(w2:World)(p:Nat):World:=((((w2.setCell ⟨p,1,none⟩ (.pointer (some ⟨w2.heap.size,0,none⟩))).setCell ⟨p,2,none⟩ (.string ⟨#[]⟩)).setCell ⟨p,3,none⟩ (.bool false)).setCell ⟨p,5,none⟩ (.bool false)).alloc (.cells #[.slice none 0 0] 93)
theorem reset_fin{Z:Play}{pv:Value}{pb:List UInt8}{base:Nat}{w wq w2:World}{F:Nat->Prop}{p x:Nat}{kv:Value}{y:Nat}{lv:Value}{vs:List Value}{ms:List Nat}{pr la:ByteArray}{gr en:Bool}(h:SideIs base w F p x kv y lv vs ms pv pb Z)(hb:Below w.heap.size w wq)(hx:XAt base w2 x (.slice none 0 0) [] (.slice none 0 0) [])(ho:Only (·=x) wq w2)
  (hblk:w2.heap[p]?=some (.cells #[.pointer (some ⟨x,0,none⟩),.pointer (some ⟨y,0,none⟩),.string pr,.bool gr,.string la,.bool en] 95 (0,0))):Turned base w (resetWorld w2 p) F p ms Z:=by
 have hpl:=lt_of_block hblk
 have hxl:=lt_of_block hx.block
 have hxp:x≠p:=by intro e;subst e;have:=hblk.symm.trans hx.block;simp at this
 have hsz:w.heap.size<=w2.heap.size:=Nat.le_trans hb.size ho.size
 have b1:=heap_setCell_same w2 p 1 _ _ (.pointer (some ⟨w2.heap.size,0,none⟩)) hblk
 have b2:=heap_setCell_same _ p 2 _ _ (.string ⟨#[]⟩) b1
 have b3:=heap_setCell_same _ p 3 _ _ (.bool false) b2
 have b4:=heap_setCell_same _ p 5 _ _ (.bool false) b3
 have hcs:((((w2.setCell ⟨p,1,none⟩ (.pointer (some ⟨w2.heap.size,0,none⟩))).setCell ⟨p,2,none⟩ (.string ⟨#[]⟩)).setCell ⟨p,3,none⟩ (.bool false)).setCell ⟨p,5,none⟩ (.bool false)).heap.size=w2.heap.size:=by simp
 have ow:Only (·=p) w2 (resetWorld w2 p):=((Only.setCell (F:=(·=p)) (p:=⟨p,1,none⟩) rfl _ _).trans ((Only.setCell (F:=(·=p)) (p:=⟨p,2,none⟩) rfl _ _).trans ((Only.setCell (F:=(·=p)) (p:=⟨p,3,none⟩) rfl _ _).trans ((Only.setCell (F:=(·=p)) (p:=⟨p,5,none⟩) rfl _ _).trans (Only.alloc _ _ _)))))
 have hws:(resetWorld w2 p).heap.size=w2.heap.size+1:=by unfold resetWorld;simp
 have bp:(resetWorld w2 p).heap[p]?=some (.cells #[.pointer (some ⟨x,0,none⟩),.pointer (some ⟨w2.heap.size,0,none⟩),.string ⟨#[]⟩,.bool false,.string la,.bool false] 95 (0,0)):=by
  unfold resetWorld
  rw[Below.heap_alloc _ _ _ (by rw[hcs];exact hpl),b4];rfl
 have by':(resetWorld w2 p).heap[w2.heap.size]?=some (.cells #[.slice none 0 0] 93 (0,0)):=by
  have hh:∀(w0:World) (o:Obj),(w0.alloc o).heap[w0.heap.size]?=some o:=fun w0 o=>by show(w0.heap.push o)[w0.heap.size]?=_;simp
  have:=hh ((((w2.setCell ⟨p,1,none⟩ (.pointer (some ⟨w2.heap.size,0,none⟩))).setCell ⟨p,2,none⟩ (.string ⟨#[]⟩)).setCell ⟨p,3,none⟩ (.bool false)).setCell ⟨p,5,none⟩ (.bool false)) (.cells #[.slice none 0 0] 93)
  rw[hcs]at this
  exact this
 have hbase:base<=w.heap.size:=Nat.le_trans h.le (Nat.le_of_lt h.ltp)
 have hFp:=h.fp
 have hFx:=h.fx.1
 refine⟨fun k=>(F k∨w.heap.size<=k)/\k<(resetWorld w2 p).heap.size,[],(Only.of_below _ hb).trans ((ho.weaken (fun k _ e=>by rw[e];exact hFx)).trans (ow.weaken (fun k _ e=>by rw[e];exact hFp))),⟨x,.slice none 0 0,w2.heap.size,.slice none 0 0,[],.slice none 0 0,[],?_⟩,fun k hk=>hk.1,by simp⟩
 refine⟨⟨_,_,_,_,bp,Z.reset la⟩,h.le,?_,?_,⟨.inl hFp,by omega⟩,⟨⟨.inl hFx,by omega⟩,fun g hg=>(by cases hg),fun g hg=>(by cases hg)⟩,⟨⟨.inr hsz,by omega⟩,fun g hg=>(by cases hg),fun v hv=>(by cases hv)⟩,fun k hk=>⟨?_,hk.2⟩,fun m hm=>(by cases hm)⟩
 ·exact⟨(ow.block x hxl hxp).trans hx.block,hx.le,World.ownsRow_nil _ _ _ _,World.ownsRow_nil _ _ _ _⟩
 ·exact⟨by',Nat.le_trans hbase hsz,World.ownsRow_nil _ _ _ _,rfl,fun i a c ha hc=>by simp at ha⟩
 ·rcases hk.1 with hf|hf
  ·exact(h.inn k hf).1
  ·omega
set_option maxRecDepth 100000 in
set_option maxHeartbeats 1600000 in
theorem step_clauses{Z:Play}(base B n:Nat)(a b:Int)(s t:List UInt8)(v lv:Value)(p:Nat->Nat)(F:Nat->Nat->Prop)(ms:Nat->List Nat)(w:World)(h0:-9223372036854775808<=a)(h1:a<=9223372036854775807)(hn:0<n)(hW:WIs base w B n lv p F ms Z)
  (hL:∀i,i<n->(ms i).length<=10000000) (he:Env w):
  Calls Tryz.prog 35 #[.pointer (some ⟨B,0,none⟩),opVal 5 a b s t v] w fun e w'=>e=.returned (.bool true)/\Below w.heap.size w w':=by
 obtain⟨g,cp,rfl,hc0,hcd⟩:=hW.cells hn
 have h4:=hW.four
 have hBl:=lt_of_block hW.block
 have hgl:=(hW.row.lt g rfl).2
 have HP:=aq (fun wx=>pick_any a n wx h0 h1 hn h4)
 have hd:=pickOf_lt a hn
 obtain⟨x,kv,y,yv,vs,pv,pb,hs⟩:=hW.sides _ hd
 have HX:=aq (fun wx (hb:Below w.heap.size w wx)=>clausesX_any base x kv (ms (pickOf a n)) wx pv pb (hs.prog.below hb) (hL _ hd) hs.small (he.below hb).toEnvT)
 have HY:=aq (fun wx (hb:Below w.heap.size w wx)=>clausesY_any base y yv vs (ms (pickOf a n)) wx (hs.doc.below hb) (hL _ hd))
 have hpx:=hs.cellX
 have hpy:=hs.cellY
 have hpl:=hs.ltp
 unfold opVal
 obtain⟨w1,hw1,hop⟩:=op_in w 5 a b s t v
 have c0:=hop.c0
 have c1:=hop.c1
 have hcB:w1.cell? ⟨B,0,none⟩=some (.slice (some ⟨g,0,none⟩) n cp):=(hop.below.cell (p:=⟨B,0,none⟩) hBl).trans hc0
 have HB1:=aq hop.below
 have hcd1:w1.cell? ⟨g,pickOf a n,none⟩=some (.pointer (some ⟨p (pickOf a n),0,none⟩)):=(hop.below.cell (p:=⟨g,pickOf a n,none⟩) hgl).trans (hcd _ hd)
 have hpx1:w1.cell? ⟨p (pickOf a n),0,none⟩=some (.pointer (some ⟨x,0,none⟩)):=(hop.below.cell (p:=⟨p (pickOf a n),0,none⟩) hpl).trans hpx
 generalize maskText (ms (pickOf a n))=tx at *
 generalize p (pickOf a n)=pd at *
 generalize pickOf a n=d at *
 clear hop hc0 hcd hW hs hpx hL
 go_enter Tryz.func35,Tryz.ntmps35
 go_wp2
 go_quiet ((go_at_call 53;refine Calls.quiet_of_same (dz HP _)))
 go_wp2_with fail
 have hb2:=belowDrew (dz HB1) nq
 refine(dz HX _ hb2).mono ?_
 rintro e w2 ⟨rfl,hb3⟩
 have hb4:=hb2.trans (hb3.mono hb2.size)
 have hpy2:w2.cell? ⟨pd,1,none⟩=some (.pointer (some ⟨y,0,none⟩)):=(hb4.cell (p:=⟨pd,1,none⟩) hpl).trans hpy
 go_wp2_with fail
 refine(dz HY _ hb4).mono ?_
 rintro e w3 ⟨rfl,hb5⟩
 go_wp2
 go_ret
 exact⟨by simp,hb4.trans (hb5.mono hb4.size)⟩
set_option maxRecDepth 100000 in
set_option maxHeartbeats 1600000 in
theorem step_reset{Z:Play}(base B n:Nat)(a b:Int)(s t:List UInt8)(v lv:Value)(p:Nat->Nat)(F:Nat->Nat->Prop)(ms:Nat->List Nat)(w:World)(h0:-9223372036854775808<=a)(h1:a<=9223372036854775807)(hn:0<n)(hW:WIs base w B n lv p F ms Z):
  Calls Tryz.prog 35 #[.pointer (some ⟨B,0,none⟩),opVal 6 a b s t v] w fun e w'=>e=.returned (.bool true)/\Turned base w w' (F (pickOf a n)) (p (pickOf a n)) (ms (pickOf a n)) Z:=by
 obtain⟨g,cp,rfl,hc0,hcd⟩:=hW.cells hn
 have h4:=hW.four
 have hBl:=lt_of_block hW.block
 have hgl:=(hW.row.lt g rfl).2
 have HP:=aq (fun wx=>pick_any a n wx h0 h1 hn h4)
 have hd:=pickOf_lt a hn
 obtain⟨x,kv,y,yv,vs,pv,pb,hs⟩:=hW.sides _ hd
 have HX:=aq (fun wx (hb:Below w.heap.size w wx)=>resetX_any base x kv (ms (pickOf a n)) wx pv pb (hs.prog.below hb))
 have HS:=aq hs
 have hpx:=hs.cellX
 have hpy:=hs.cellY
 have hpl:=hs.ltp
 unfold opVal
 obtain⟨w1,hw1,hop⟩:=op_in w 6 a b s t v
 have c0:=hop.c0
 have c1:=hop.c1
 have hcB:w1.cell? ⟨B,0,none⟩=some (.slice (some ⟨g,0,none⟩) n cp):=(hop.below.cell (p:=⟨B,0,none⟩) hBl).trans hc0
 have HB1:=aq hop.below
 have hcd1:w1.cell? ⟨g,pickOf a n,none⟩=some (.pointer (some ⟨p (pickOf a n),0,none⟩)):=(hop.below.cell (p:=⟨g,pickOf a n,none⟩) hgl).trans (hcd _ hd)
 have hpx1:w1.cell? ⟨p (pickOf a n),0,none⟩=some (.pointer (some ⟨x,0,none⟩)):=(hop.below.cell (p:=⟨p (pickOf a n),0,none⟩) hpl).trans hpx
 generalize ms (pickOf a n)=md at *
 generalize F (pickOf a n)=Fd at *
 generalize p (pickOf a n)=pd at *
 generalize pickOf a n=d at *
 clear hop hc0 hcd hW hs hpx hpy
 go_enter Tryz.func35,Tryz.ntmps35
 go_wp2
 go_quiet ((go_at_call 53;refine Calls.quiet_of_same (dz HP _)))
 go_wp2_with fail
 have hb2:=belowDrew (dz HB1) nq
 refine(dz HX _ hb2).mono ?_
 rintro e w2 ⟨rfl,hx2,ho2⟩
 obtain⟨pr,gr,la,en,hblk⟩:=(dz HS).block2 hb2 ho2
 have HF:=aq (reset_fin (dz HS) hb2 hx2 ho2 hblk)
 have k1:=cell_of_row _ _ 1 _ _ _ hblk
 have k2:=cell_of_row _ _ 2 _ _ _ hblk
 have k3:=cell_of_row _ _ 3 _ _ _ hblk
 have k5:=cell_of_row _ _ 5 _ _ _ hblk
 have f1:=fun j=>frozen_of_row _ _ j _ _ hblk
 have hpl2:=lt_of_block hblk
 clear hx2 ho2 hblk
 go_wp2
 go_ret
 exact⟨rfl,dz HF⟩
end Go.Proofs.YtekkkoipcghlmaaGreatDoor
namespace Go.Proofs.YtekkkoipcghlmaaGreatDoor
open Go.RowKit
theorem addTo_len(ms:List Nat)(xs:List Int):(addTo ms xs).2.length<=ms.length+1:=by
 unfold addTo
 split
 ·simp
 ·split
  ·simp
  ·split<;>simp
theorem addTo_small{ms:List Nat}(xs:List Int)(h:∀m,m∈ms->m<2 ^ 24):∀m,m∈(addTo ms xs).2->m<2 ^ 24:=by
 unfold addTo
 split
 ·exact h
 ·rename_i ha
  have ha:allInt xs=true:=by simpa using ha
  split
  ·exact h
  ·split
   ·exact h
   ·intro m hm
    rcases List.mem_append.1 hm with hm|hm
    ·exact h m hm
    ·simp at hm;subst hm
     exact Sp.maskOf_lt _ (fun y hy=>(isLit_iff.1 (by rw[allInt,List.all_eq_true]at ha;exact ha y hy)).2)
theorem YAt.rowLt{base:Nat}{w:World}{y:Nat}{lv:Value}{vs:List Value}{ms:List Nat}(h:YAt base w y lv vs ms){v:Value}(hv:v∈vs){g:Nat}(hg:v.ownBlock=some g):g<w.heap.size:=by
 obtain⟨i,hi⟩:=List.getElem?_of_mem hv
 have hil:i<vs.length:=(List.getElem?_eq_some_iff.1 hi).1
 have hc:i<(ms.map Sp.litsOf).length:=by rw[←h.rows.1];exact hil
 exact((h.rows.2 i v _ hi (List.getElem?_eq_getElem hc)).lt g hg).2
theorem add_fin{Z:Play}{pv:Value}{pb:List UInt8}{base:Nat}{w wq wL w2 w3 w4:World}{F:Nat->Prop}{p x:Nat}{kv:Value}{y:Nat}{lv:Value}{vs:List Value}{ms:List Nat}{xs:List Int}(hs:SideIs base w F p x kv y lv vs ms pv pb Z)(hq:Below w.heap.size w wq)(hL:Below wq.heap.size wq wL)(hgL:wq.heap.size<wL.heap.size)
  (hX:AddX base x kv ms xs pv pb wL w2) (hY:AddY base y lv vs ms xs w2 w3) (hB:Only (·=wq.heap.size) w3 w4):Turned base w w4 F p ms Z:=by
 obtain⟨kv',hx2,ox,lx⟩:=hX
 obtain⟨lv',vs',hy3,oy,ly,lvs⟩:=hY
 obtain⟨pr,gr,la,en,hblk,hZ⟩:=hs.block
 have hqs:=hq.size
 have hA:Below w.heap.size w wL:=hq.trans (hL.mono hqs)
 have s2:=ox.size
 have s3:=oy.size
 have s4:=hB.size
 have hxl:=lt_of_block hs.prog.block
 have hyl:=lt_of_block hs.doc.block
 have hpl:=lt_of_block hblk
 have hbase:base<=w.heap.size:=Nat.le_trans hs.le (Nat.le_of_lt hpl)
 have hXL:=hs.prog.below hA
 have hYL:=hs.doc.below hA
 have hY2:=hYL.overX hXL ox
 have hx3:=hx2.overY hY2 oy
 have kvg:∀g,kv'.ownBlock=some g->(F g∨w.heap.size<=g)/\g≠wq.heap.size:=fun g hg=>by
  rcases lx g hg with h|h
  ·have:=(hs.prog.row.lt g h).2
   exact⟨.inl (hs.fx.2.1 g h),by omega⟩
  ·exact⟨.inr (by omega),by omega⟩
 have lvg:∀g,lv'.ownBlock=some g->(F g∨w.heap.size<=g)/\g≠wq.heap.size:=fun g hg=>by
  rcases ly g hg with h|h
  ·have:=(hs.doc.row.lt g h).2
   exact⟨.inl (hs.fy.2.1 g h),by omega⟩
  ·exact⟨.inr (by omega),by omega⟩
 have vsg:∀v,v∈vs'->∀g,v.ownBlock=some g->(F g∨w.heap.size<=g)/\g≠wq.heap.size:=fun v hv g hg=>by
  rcases lvs v hv with h|h
  ·have:=hs.doc.rowLt h hg
   exact⟨.inl (hs.fy.2.2 v h g hg),by omega⟩
  ·have:=h g hg
   exact⟨.inr (by omega),by omega⟩
 have hx4:=hx3.overG hB (by omega) (fun h=>(kvg _ h).2 rfl) (fun h=>by have:=(hs.prog.prow.lt _ h).2;omega)
 have hy4:=hy3.overG hB (by omega) (fun h=>(lvg _ h).2 rfl) (fun v hv h=>(vsg v hv _ h).2 rfl)
 have hpx:p≠x:=by intro e;subst e;have:=hblk.symm.trans hs.prog.block;simp at this
 have hpy:p≠y:=by intro e;subst e;have:=hblk.symm.trans hs.doc.block;simp at this
 have pL:=(hA.block p hpl).trans hblk
 have p2:=(ox.block p (lt_of_block pL) (fun h=>h.elim hpx (row_ne hXL.row pL (by decide)))).trans pL
 have p3:=(oy.block p (lt_of_block p2) (fun h=>h.elim hpy (row_ne hY2.row p2 (by decide)))).trans p2
 have p4:=(hB.block p (lt_of_block p3) (by omega)).trans p3
 have o1:Only F wL w2:=ox.weaken (fun k _ h=>h.elim (fun e=>by rw[e];exact hs.fx.1) (fun e=>hs.fx.2.1 k e))
 have o2:Only F w2 w3:=oy.weaken (fun k _ h=>h.elim (fun e=>by rw[e];exact hs.fy.1) (fun e=>hs.fy.2.1 k e))
 have o3:Only F w w3:=(Only.of_below _ hA).trans (o1.trans o2)
 refine⟨fun k=>(F k∨w.heap.size<=k)/\k<w4.heap.size,(addTo ms xs).2,⟨hB.os.trans o3.os,hB.tape.trans o3.tape,hB.output.trans o3.output,Nat.le_trans o3.size hB.size,fun k hk hn=>(hB.block k (by omega) (by omega)).trans (o3.block k hk hn)⟩,⟨x,kv',y,lv',vs',pv,pb,?_⟩,fun k hk=>hk.1,addTo_len ms xs⟩
 refine⟨⟨_,_,_,_,p4,Z.add _ _ _ _ _ _ _ hZ⟩,hs.le,hx4,hy4,⟨.inl hs.fp,by omega⟩,⟨⟨.inl hs.fx.1,by omega⟩,fun g hg=>⟨(kvg g hg).1,(hx4.row.lt g hg).2⟩,fun g hg=>⟨.inl (hs.fx.2.2 g hg),(hx4.prow.lt g hg).2⟩⟩,⟨⟨.inl hs.fy.1,by omega⟩,fun g hg=>⟨(lvg g hg).1,(hy4.row.lt g hg).2⟩,fun v hv g hg=>⟨(vsg v hv g hg).1,hy4.rowLt hv hg⟩⟩,fun k hk=>⟨?_,hk.2⟩,addTo_small xs hs.small⟩
 rcases hk.1 with hf|hf
 ·exact(hs.inn k hf).1
 ·omega
end Go.Proofs.YtekkkoipcghlmaaGreatDoor
namespace Go.Proofs.YtekkkoipcghlmaaGreatDoor
open Go.RowKit
structure Alike(w w':World):Prop where
 below:Below w.heap.size w w'
 size:w'.heap.size=w.heap.size
theorem Alike.refl(w:World):Alike w w:=⟨Below.refl _ _,rfl⟩
theorem Alike.drew{w w':World}(h:Alike w w'):Alike w w'.drew:=⟨h.below.drew,h.size⟩
theorem AddX.from{pv:Value}{pb:List UInt8}{base x:Nat}{kv:Value}{ms:List Nat}{xs:List Int}{w w1 w':World}(ha:Alike w w1)(h:AddX base x kv ms xs pv pb w1 w'):AddX base x kv ms xs pv pb w w':=by
 obtain⟨kv',h1,h2,h3⟩:=h
 exact⟨kv',h1,(Only.of_below _ ha.below).trans h2,fun g hg=>by have:=h3 g hg;rw[ha.size]at this;exact this⟩
theorem AddY.from{base y:Nat}{lv:Value}{vs:List Value}{ms:List Nat}{xs:List Int}{w w1 w':World}(ha:Alike w w1)(h:AddY base y lv vs ms xs w1 w'):AddY base y lv vs ms xs w w':=by
 obtain⟨lv',vs',h1,h2,h3,h4⟩:=h
 exact⟨lv',vs',h1,(Only.of_below _ ha.below).trans h2,fun g hg=>(by have:=h3 g hg;rw[ha.size]at this;exact this),fun v hv=>(by have:=h4 v hv;rw[ha.size]at this;exact this)⟩
theorem SideIs.over{Z:Play}{pv:Value}{pb:List UInt8}{base:Nat}{w wL w2:World}{F:Nat->Prop}{p x:Nat}{kv:Value}{y:Nat}{lv:Value}{vs:List Value}{ms:List Nat}{xs:List Int}(hs:SideIs base w F p x kv y lv vs ms pv pb Z)(hA:Below w.heap.size w wL)(hX:AddX base x kv ms xs pv pb wL w2):
  YAt base w2 y lv vs ms/\Only F wL w2/\w2.cell? ⟨p,1,none⟩=some (.pointer (some ⟨y,0,none⟩)):=by
 obtain⟨kv',hx2,ox,lx⟩:=hX
 obtain⟨pr,gr,la,en,hblk,hZ⟩:=hs.block
 have hpl:=lt_of_block hblk
 have hXL:=hs.prog.below hA
 have hYL:=hs.doc.below hA
 have hpx:p≠x:=by intro e;subst e;have:=hblk.symm.trans hs.prog.block;simp at this
 have pL:=(hA.block p hpl).trans hblk
 have p2:=(ox.block p (lt_of_block pL) (fun h=>h.elim hpx (row_ne hXL.row pL (by decide)))).trans pL
 exact⟨hYL.overX hXL ox,ox.weaken (fun k _ h=>h.elim (fun e=>by rw[e];exact hs.fx.1) (fun e=>hs.fx.2.1 k e)),cell_of_row _ _ 1 _ _ _ p2⟩
theorem SideIs.over2{Z:Play}{pv:Value}{pb:List UInt8}{base:Nat}{w w2 w3:World}{F:Nat->Prop}{p x:Nat}{kv:Value}{y:Nat}{lv:Value}{vs:List Value}{ms:List Nat}{xs:List Int}(hs:SideIs base w F p x kv y lv vs ms pv pb Z)(hY:AddY base y lv vs ms xs w2 w3):Only F w2 w3:=by
 obtain⟨lv',vs',h1,oy,h3,h4⟩:=hY
 exact oy.weaken (fun k _ h=>h.elim (fun e=>by rw[e];exact hs.fy.1) (fun e=>hs.fy.2.1 k e))
theorem cut_lies{w:World}{g:Nat}{xs ys:List Int}{cap:Nat}(h:w.heap[g]?=some (.cells (ints (xs++ys)).toArray 3 (0,0))):Lies w (.slice (some ⟨g,0,none⟩) xs.length cap) (ints xs):=by
 by_cases h0:xs=[]
 ·subst h0;exact .inl ⟨rfl,_,_,rfl⟩
 ·refine .inr ⟨g,0,cap,?_,by simp[ints],lt_of_block h,fun k x hx=>?_⟩
  ·simp[ints];exact List.length_pos_iff.2 h0
  ·rw[Nat.zero_add,cell_of_row _ _ _ _ _ _ h]
   have hk:k<(ints xs).length:=(List.getElem?_eq_some_iff.1 hx).1
   have:(ints (xs++ys))[k]?=some x:=by
    unfold ints at hx hk⊢
    rw[List.map_append,List.getElem?_append_left hk];exact hx
   simpa using this
set_option maxRecDepth 100000 in
set_option maxHeartbeats 3200000 in
theorem step_add{Z:Play}(base B n:Nat)(a b:Int)(s t:List UInt8)(v lv:Value)(xs:List Int)(p:Nat->Nat)(F:Nat->Nat->Prop)(ms:Nat->List Nat)(w:World)(h0:-9223372036854775808<=a)(h1:a<=9223372036854775807)(hn:0<n)(hW:WIs base w B n lv p F ms Z)
  (hL:∀i,i<n->(ms i).length<=10000000) (hl:xs.length<=10000000) (hv:Lies w v (ints xs)) (hvF:xs≠[]->∀i,i<n->∀g,v.ownBlock=some g->g<w.heap.size->¬F i g):
  Calls Tryz.prog 35 #[.pointer (some ⟨B,0,none⟩),opVal 4 a b s t v] w fun e w'=>e=.returned (.bool true)/\Turned base w w' (F (pickOf a n)) (p (pickOf a n)) (ms (pickOf a n)) Z:=by
 obtain⟨g,cp,rfl,hc0,hcd⟩:=hW.cells hn
 have h4:=hW.four
 have hBl:=lt_of_block hW.block
 have hgl:=(hW.row.lt g rfl).2
 have HP:=aq (fun wx=>pick_any a n wx h0 h1 hn h4)
 have hd:=pickOf_lt a hn
 obtain⟨x,kv,y,yv,vs,pv,pb,hs⟩:=hW.sides _ hd
 have HLd:=aq (hL _ hd)
 have HVF:=aq (fun hx=>hvF hx _ hd)
 have HS:=aq hs
 have HV:=aq hv
 obtain⟨vo,vc,hvs⟩:∃vo vc,v=.slice vo xs.length vc:=by
  have:=lies_shape hv
  simpa [ints] using this
 have hpx:=hs.cellX
 have hpl:=hs.ltp
 unfold opVal
 obtain⟨w1,hw1,hop⟩:=op_in w 4 a b s t v
 have c0:=hop.c0
 have c1:=hop.c1
 have c5:=hop.c5
 have hcB:w1.cell? ⟨B,0,none⟩=some (.slice (some ⟨g,0,none⟩) n cp):=(hop.below.cell (p:=⟨B,0,none⟩) hBl).trans hc0
 have HB1:=aq hop.below
 have HZ1:=aq hop.size
 have hcd1:w1.cell? ⟨g,pickOf a n,none⟩=some (.pointer (some ⟨p (pickOf a n),0,none⟩)):=(hop.below.cell (p:=⟨g,pickOf a n,none⟩) hgl).trans (hcd _ hd)
 generalize ms (pickOf a n)=md at *
 generalize F (pickOf a n)=Fd at *
 generalize p (pickOf a n)=pd at *
 generalize pickOf a n=d at *
 subst hvs
 clear hop hc0 hcd hW hs hL hvF hv
 go_enter Tryz.func35,Tryz.ntmps35
 go_wp2
 go_quiet ((go_at_call 53;refine Calls.quiet_of_same (dz HP _)))
 go_wp2_with fail
 have hb2:=belowDrew (dz HB1) nq
 refine(lent_any _ xs _ hl ((dz HV).below hb2)).mono ?_
 rintro e wL ⟨rfl,hrow,hbL⟩
 have hA:Below w.heap.size w wL:=hb2.trans (hbL.mono hb2.size)
 have hz1:w1.heap.size=w.heap.size+1:=dz HZ1
 have hgL:w1.heap.size<wL.heap.size:=lt_of_block hrow
 have c5L:wL.cell? ⟨w.heap.size,5,none⟩=some (.slice vo xs.length vc):=(hbL.cell (p:=⟨w.heap.size,5,none⟩) (show w.heap.size<w1.heap.size by omega)).trans c5
 have hpxL:wL.cell? ⟨pd,0,none⟩=some (.pointer (some ⟨x,0,none⟩)):=(hA.cell (p:=⟨pd,0,none⟩) hpl).trans hpx
 have HROW:Hid (wL.heap[w1.heap.size]?=some (.cells (ints (xs++[77,0])).toArray 3 (0,0))):=aq hrow
 have HAX:Hid (∀wx,Alike wL wx->Calls Tryz.prog 24 #[.pointer (some ⟨x,0,none⟩),.slice (some ⟨w1.heap.size,0,none⟩) xs.length (xs.length+2)] wx fun e w'=>e=.returned (.int .i64 (addTo md xs).1)/\AddX base x kv md xs pv pb wL w'):=
  aq (fun wx ha=>(addX_any base x kv _ md xs wx pv pb (((dz HS).prog.below hA).below ha.below) (dz HLd) hl ((cut_lies hrow).below ha.below)).mono (fun e w' h=>⟨h.1,h.2.from ha⟩))
 have HA:=aq hA
 have HBL:=aq hbL
 have HZ:=aq hz1
 have HGL:=aq hgL
 clear hrow hbL hA hz1 hgL
 go_upto_region 17 with fail
 go_cut [8] (fun s8 wx=>s8=.int .i64 (addTo md xs).1/\Hid (AddX base x kv md xs pv pb wL wx))
 case first=>
  go_region_with (go_at_call 24;refine(dz HAX _ (by first|exact Alike.refl _|exact(Alike.refl _).drew|exact(Alike.refl _).drew.drew|exact(Alike.refl _).drew.drew.drew|exact(Alike.refl _).drew.drew.drew.drew)).mono ?_;rintro e w2 ⟨rfl,hax⟩)
  all_goals (go_wp2_with fail;go_meet;exact⟨rfl,by first|exact aq hax|exact aq (hax.to (Alike.refl _).drew)⟩)
 case rest=>
 obtain⟨rfl,HAXR⟩:=hcut
 obtain⟨w2,rfl⟩:∃w2,w2=wc:=⟨wc,rfl⟩
 have HNF:Hid (∀k,w.heap.size<=k->¬Fd k):=aq (fun k hk hf=>by have:=((dz HS).inn k hf).2;omega)
 have HVN:Hid (ints xs≠[]->∀k,(Value.slice vo xs.length vc).ownBlock=some k->¬Fd k):=aq (fun hx k hk hf=>dz HVF (fun e=>hx (by rw[e];rfl)) k hk ((dz HS).inn k hf).2 hf)
 obtain⟨hy2,of2,hpy2⟩:=(dz HS).over (dz HA) (dz HAXR)
 have HO2:=aq of2
 have hwL:w.heap.size<wL.heap.size:=by have:=dz HZ;have:=dz HGL;omega
 have c5M:w2.cell? ⟨w.heap.size,5,none⟩=some (.slice vo xs.length vc):=(World.cell?_of_block (w:=wL) (a:=⟨w.heap.size,5,none⟩) (of2.block w.heap.size hwL (dz HNF _ (Nat.le_refl _)))).trans c5L
 have HV2:Hid (Lies w2 (.slice vo xs.length vc) (ints xs)):=aq (lies_only ((dz HV).below (dz HA)) of2 (fun hx k hk _=>dz HVN hx k hk))
 have HAY:Hid (∀wx,Alike w2 wx->Calls Tryz.prog 55 #[.pointer (some ⟨y,0,none⟩),.slice vo xs.length vc] wx fun e w'=>e=.returned (.int .i64 (addTo md xs).1)/\AddY base y yv vs md xs w2 w'):=
  aq (fun wx ha=>(addY_any base y yv _ vs md xs wx (hy2.below ha.below) (dz HLd) hl ((dz HV2).below ha.below)).mono (fun e w' h=>⟨h.1,h.2.from ha⟩))
 clear hy2 of2 HAX
 go_upto_region 18 with fail
 go_cut [9] (fun s9 wx=>s9=.int .i64 (addTo md xs).1/\Hid (AddY base y yv vs md xs w2 wx))
 case first=>
  go_region_with (go_at_call 55;refine(dz HAY _ (by first|exact Alike.refl _|exact(Alike.refl _).drew|exact(Alike.refl _).drew.drew|exact(Alike.refl _).drew.drew.drew|exact(Alike.refl _).drew.drew.drew.drew)).mono ?_;rintro e w3 ⟨rfl,hay⟩)
  all_goals (go_wp2_with fail;go_meet;exact⟨rfl,by first|exact aq hay|exact aq (hay.to (Alike.refl _).drew)⟩)
 case rest=>
 obtain⟨rfl,HAYR⟩:=hcut
 obtain⟨w3,rfl⟩:∃w3,w3=wc:=⟨wc,rfl⟩
 have of3:=(dz HS).over2 (dz HAYR)
 have sz2:=(dz HO2).size
 have hgL:=dz HGL
 have c5N:w3.cell? ⟨w.heap.size,5,none⟩=some (.slice vo xs.length vc):=(World.cell?_of_block (w:=w2) (a:=⟨w.heap.size,5,none⟩) (of3.block w.heap.size (by omega) (dz HNF _ (Nat.le_refl _)))).trans c5M
 have HV3:Hid (Lies w3 (.slice vo xs.length vc) (ints xs)):=aq (lies_only (dz HV2) of3 (fun hx k hk _=>dz HVN hx k hk))
 have hzz:w.heap.size<=w1.heap.size:=by have:=dz HZ;omega
 have HROW3:Hid (w3.heap[w1.heap.size]?=some (.cells (ints (xs++[77,0])).toArray 3 (0,0))):=aq ((of3.block w1.heap.size (by omega) (dz HNF _ hzz)).trans (((dz HO2).block w1.heap.size hgL (dz HNF _ hzz)).trans (dz HROW)))
 have HBK:=aq (back_any w1.heap.size _ xs w3 hl (dz HV3) (fun hne hk=>by
  rcases dz HV with⟨h0,_⟩|⟨bb,off,cap,_,e,hbb,_⟩
  ·exact hne (by simpa [ints] using h0)
  ·rw[e]at hk
   simp[Value.ownBlock]at hk
   omega) (dz HROW3))
 clear of3 sz2 hgL hzz
 go_wp2_with fail
 refine(dz HBK).mono ?_
 rintro e w4 ⟨rfl,hob⟩
 go_wp2
 go_ret
 exact⟨by simp,add_fin (dz HS) hb2 (dz HBL) (dz HGL) (dz HAXR) (dz HAYR) hob⟩
end Go.Proofs.YtekkkoipcghlmaaGreatDoor
