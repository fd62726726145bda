import Derived.Test.YtekkkoipcghlmaaGreatDoorU44
import Derived.Test.YtekkkoipcghlmaaGreatDoorU42
import Derived.Test.YtekkkoipcghlmaaGreatDoorU40
import Derived.Deep.QuietTactic
import Derived.Deep.DeepCutAuto
import Derived.BigQuiet
import Derived.Deep.RegionHeld3
set_option linter.all false
namespace Go.Proofs.YtekkkoipcghlmaaGreatDoor
open Go.RowKit
set_option maxRecDepth 100000 in
set_option maxHeartbeats 10000000 in
theorem aG7(s t:List UInt8)(w:World)(hs2:s.length<=9223372036854775807)(ht2:t.length<=9223372036854775807)(he:Env w):
  Calls Tryz.prog 50 #[.string (bs s),.string (bs t)] w fun e W=>iX s t w e W:=by
 have hszt:=aN t
 have hbA:Below w.heap.size w ((w.alloc (.cells #[.int .i64 0] 35)).alloc (.cells #[.int .i64 0] 3)):=((Below.refl _ w).alloc (Nat.le_refl _) _).alloc (by simp) _
 have hsA:((w.alloc (.cells #[.int .i64 0] 35)).alloc (.cells #[.int .i64 0] 3)).heap.size=w.heap.size+2:=by simp
 have e0:=(Boxed.new w 35 (.int .i64 0)).alloc (.cells #[.int .i64 0] 3)
 have e1:=Boxed.new (w.alloc (.cells #[.int .i64 0] 35)) 3 (.int .i64 0)
 simp only[World.size_alloc]at e1
 have HBO:Hid (∀W1,Below ((w.alloc (.cells #[.int .i64 0] 35)).alloc (.cells #[.int .i64 0] 3)).heap.size ((w.alloc (.cells #[.int .i64 0] 35)).alloc (.cells #[.int .i64 0] 3)) W1->Boxed W1 w.heap.size 35 (.int .i64 0)/\Boxed W1 (w.heap.size+1) 3 (.int .i64 0)/\Below w.heap.size w W1):=
  aq (fun W1 hb=>⟨(hb.block _ (by rw[hsA];omega)).trans e0,(hb.block _ (by rw[hsA];omega)).trans e1,hbA.trans (hb.mono (by rw[hsA];omega))⟩)
 have early:∀(er:Int) (k:Int) (v:Value),er≠0->CheckOut s t (er,k)->
   (Calls Tryz.prog 91 #[.string (bs s)] ((w.alloc (.cells #[.int .i64 0] 35)).alloc (.cells #[.int .i64 0] 3)) fun e W=>Below ((w.alloc (.cells #[.int .i64 0] 35)).alloc (.cells #[.int .i64 0] 3)).heap.size ((w.alloc (.cells #[.int .i64 0] 35)).alloc (.cells #[.int .i64 0] 3)) W/\e=.returned (.tuple #[v,.int .i64 er,.int .i64 k]))->
   Calls Tryz.prog 50 #[.string (bs s),.string (bs t)] w fun e W=>iX s t w e W:=by
  intro er k v hne hco hrd
  have HCO:=aq hco
  have HRD:=aq hrd
  have hq:(er==(0:Int))=false:=by rw[beq_eq_false_iff_ne];exact hne
  clear hco hrd hne e0 e1 hbA hsA
  go_enter Tryz.func50,Tryz.ntmps50
  go_wp2_with fail
  refine(dz HRD).mono ?_
  rintro e W1 ⟨hb1,rfl⟩
  obtain⟨b0,b1,b2⟩:=dz HBO W1 hb1
  have hr0:W1.cell? ⟨w.heap.size,0,none⟩=some (.int .i64 0):=b0.cell
  have hf0:W1.frozen? ⟨w.heap.size,0,none⟩=false:=b0.frozen
  have hr1:W1.cell? ⟨w.heap.size+1,0,none⟩=some (.int .i64 0):=b1.cell
  have hf1:W1.frozen? ⟨w.heap.size+1,0,none⟩=false:=b1.frozen
  have a0:Boxed (W1.setCell ⟨w.heap.size,0,none⟩ (.int .i64 er)) w.heap.size 35 (.int .i64 er):=b0.set _
  have a1:Boxed (W1.setCell ⟨w.heap.size,0,none⟩ (.int .i64 er)) (w.heap.size+1) 3 (.int .i64 0):=(Below.heap_setCell W1 _ _ _ (by simp)).trans b1
  have k0:((W1.setCell ⟨w.heap.size,0,none⟩ (.int .i64 er)).setCell ⟨w.heap.size+1,0,none⟩ (.int .i64 k)).cell? ⟨w.heap.size,0,none⟩=some (.int .i64 er):=Boxed.cell (t:=35) ((Below.heap_setCell _ _ _ _ (by simp)).trans a0)
  have k1:((W1.setCell ⟨w.heap.size,0,none⟩ (.int .i64 er)).setCell ⟨w.heap.size+1,0,none⟩ (.int .i64 k)).cell? ⟨w.heap.size+1,0,none⟩=some (.int .i64 k):=(a1.set _).cell
  have HPB:Hid (Below w.heap.size w ((W1.setCell ⟨w.heap.size,0,none⟩ (.int .i64 er)).setCell ⟨w.heap.size+1,0,none⟩ (.int .i64 k))):=aq ((b2.setCell (p:=⟨w.heap.size,0,none⟩) (by simp) _).setCell (p:=⟨w.heap.size+1,0,none⟩) (by simp) _)
  have HK0:=aq k0
  have HK1:=aq k1
  clear b0 b1 b2 a0 a1 k0 k1
  go_wp2
  have k0:=dz HK0
  have k1:=dz HK1
  refine bodyPost_ret (v:=.tuple #[.int .i64 er,.int .i64 k]) (by simp[results,Tryz.results50,go_sem,k0,k1]) rfl ?_
  exact⟨(er,k),rfl,dz HCO,dz HPB⟩
 by_cases hs:6000<s.length
 ·exact early 4 0 _ (by decide) (.inl ⟨hs,rfl⟩) (qT s _ hs hs2)
 ·cases hn:Sp.scanSegs 0 (Sp.segs s)with
  | some n=>
   refine early 5 n (.slice none 0 0) (by decide) (.inr ⟨by omega,.inl ⟨n,hn,rfl⟩⟩) ((lC s _ (by omega) (he.below hbA)).mono ?_)
   rintro e W ⟨hb,⟨k,hk,rfl⟩|⟨hk,_⟩⟩
   ·rw[hn]at hk;cases hk;exact⟨hb,rfl⟩
   ·rw[hn]at hk;cases hk
  | none=>
   by_cases ht:6000<t.length
   ·have HRD:=aq (lC s _ (by omega) (he.below hbA))
    have HN:=aq hn
    clear e0 e1 hbA hsA hn early
    go_enter Tryz.func50,Tryz.ntmps50
    go_wp2_with fail
    refine(dz HRD).mono ?_
    rintro e W1 ⟨hb1,⟨k,hk,rfl⟩|⟨-,v,rfl,-⟩⟩
    ·exfalso;rw[dz HN]at hk;cases hk
    obtain⟨b0,b1,b2⟩:=dz HBO W1 hb1
    have hr0:W1.cell? ⟨w.heap.size,0,none⟩=some (.int .i64 0):=b0.cell
    have hf0:W1.frozen? ⟨w.heap.size,0,none⟩=false:=b0.frozen
    have hr1:W1.cell? ⟨w.heap.size+1,0,none⟩=some (.int .i64 0):=b1.cell
    have hf1:W1.frozen? ⟨w.heap.size+1,0,none⟩=false:=b1.frozen
    have a0:Boxed (W1.setCell ⟨w.heap.size,0,none⟩ (.int .i64 4)) w.heap.size 35 (.int .i64 4):=b0.set _
    have a1:Boxed (W1.setCell ⟨w.heap.size,0,none⟩ (.int .i64 4)) (w.heap.size+1) 3 (.int .i64 0):=(Below.heap_setCell W1 _ _ _ (by simp)).trans b1
    have k0:((W1.setCell ⟨w.heap.size,0,none⟩ (.int .i64 4)).setCell ⟨w.heap.size+1,0,none⟩ (.int .i64 0)).cell? ⟨w.heap.size,0,none⟩=some (.int .i64 4):=Boxed.cell (t:=35) ((Below.heap_setCell _ _ _ _ (by simp)).trans a0)
    have k1:((W1.setCell ⟨w.heap.size,0,none⟩ (.int .i64 4)).setCell ⟨w.heap.size+1,0,none⟩ (.int .i64 0)).cell? ⟨w.heap.size+1,0,none⟩=some (.int .i64 0):=(a1.set _).cell
    have HPB:Hid (Below w.heap.size w ((W1.setCell ⟨w.heap.size,0,none⟩ (.int .i64 4)).setCell ⟨w.heap.size+1,0,none⟩ (.int .i64 0))):=aq ((b2.setCell (p:=⟨w.heap.size,0,none⟩) (by simp) _).setCell (p:=⟨w.heap.size+1,0,none⟩) (by simp) _)
    have HK0:=aq k0
    have HK1:=aq k1
    clear b0 b1 b2 a0 a1 k0 k1
    go_wp2
    have k0:=dz HK0
    have k1:=dz HK1
    refine bodyPost_ret (v:=.tuple #[.int .i64 4,.int .i64 0]) (by simp[results,Tryz.results50,go_sem,k0,k1]) rfl ?_
    exact⟨(4,0),rfl,.inr ⟨by omega,.inr ⟨dz HN,.inl ⟨ht,rfl⟩⟩⟩,dz HPB⟩
   ·exact aF3 s t w (by omega) (by omega) hn he
set_option maxRecDepth 100000 in
theorem wG(s t:List UInt8)(w:World)(hs2:s.length<=9223372036854775807)(ht2:t.length<=9223372036854775807)(he:Env w):
  Calls Tryz.prog 31 #[.string (bs s),.string (bs t)] w fun e W=>iX s t w e W:=by
 have HP:=aq (aG7 s t w hs2 ht2 he)
 go_enter Tryz.func31,Tryz.ntmps31
 go_wp2_with fail
 refine(dz HP).mono ?_
 rintro e w1 ⟨⟨a,b⟩,rfl,ho,hb1⟩
 have HO:=aq ho
 clear ho
 go_wp2
 go_ret2
 exact⟨(a,b),rfl,dz HO,hb1⟩
set_option maxRecDepth 100000 in
set_option maxHeartbeats 800000 in
theorem oV(s t:List UInt8)(w:World)(hs2:s.length<=9223372036854775807)(ht2:t.length<=9223372036854775807)(he:Env w):
  Calls Tryz.prog 52 #[.string (bs s),.string (bs t)] w fun e w'=>e=.returned (.bool true)/\Below w.heap.size w w':=by
 have HP:=aq (wG s t w hs2 ht2 he)
 have HQ:=aq (fun wx=>sB s t wx hs2 ht2)
 go_enter Tryz.func52,Tryz.ntmps52
 go_wp2_with fail
 refine(dz HP).mono ?_
 rintro e w1 ⟨⟨a,b⟩,rfl,ho,hb1⟩
 have HO:=aq ho
 clear ho
 go_wp2_with fail
 refine(dz HQ w1).mono ?_
 rintro e w2 ⟨⟨a',b'⟩,rfl,ho',hb2⟩
 have hu:=(dz HO).unique ho'
 cases hu
 clear ho'
 go_wp2
 go_ret
 exact⟨rfl,hb1.trans (hb2.mono hb1.size)⟩
end Go.Proofs.YtekkkoipcghlmaaGreatDoor
namespace Go.Proofs.YtekkkoipcghlmaaGreatDoor
open Go.RowKit
theorem aU(w:World)(o:Obj):Below w.heap.size w (w.alloc o):=(Below.refl _ _).alloc (Nat.le_refl _) o
def qQ(kind a b:Int)(s t:List UInt8)(v:Value):Obj:=.cells #[.int .i64 kind,.int .i64 a,.int .i64 b,.string (bs s),.string (bs t),v] 67
structure OpIn(w w1:World)(kind a b:Int)(s t:List UInt8)(v:Value):Prop where
 below:Below w.heap.size w w1
 size:w1.heap.size=w.heap.size+1
 c0:w1.cell? ⟨w.heap.size,0,none⟩=some (.int .i64 kind)
 c1:w1.cell? ⟨w.heap.size,1,none⟩=some (.int .i64 a)
 c2:w1.cell? ⟨w.heap.size,2,none⟩=some (.int .i64 b)
 c3:w1.cell? ⟨w.heap.size,3,none⟩=some (.string (bs s))
 c4:w1.cell? ⟨w.heap.size,4,none⟩=some (.string (bs t))
 c5:w1.cell? ⟨w.heap.size,5,none⟩=some v
theorem lQ(w:World)(kind a b:Int)(s t:List UInt8)(v:Value):∃w1,w.alloc (.cells #[.int .i64 kind,.int .i64 a,.int .i64 b,.string (bs s),.string (bs t),v] 67)=w1/\OpIn w w1 kind a b s t v:=by
 have hh:∀o:Obj,(w.alloc o).heap[w.heap.size]?=some o:=fun o=>by show(w.heap.push o)[w.heap.size]?=_;simp
 have h:=hh (.cells #[.int .i64 kind,.int .i64 a,.int .i64 b,.string (bs s),.string (bs t),v] 67)
 exact⟨_,rfl,aU _ _,by simp,cell_of_row _ _ 0 _ _ _ h,cell_of_row _ _ 1 _ _ _ h,cell_of_row _ _ 2 _ _ _ h,cell_of_row _ _ 3 _ _ _ h,cell_of_row _ _ 4 _ _ _ h,cell_of_row _ _ 5 _ _ _ h⟩
set_option maxRecDepth 100000 in
theorem yU(B:Nat)(a b:Int)(s t:List UInt8)(v:Value)(w:World)(hs:s.length<=9223372036854775807)(he:Env w):
  Calls Tryz.prog 35 #[.pointer (some ⟨B,0,none⟩),dO 1 a b s t v] w fun e w'=>e=.returned (.bool true)/\Below w.heap.size w w':=by
 have HP:=aq (fun wx (hb:Below w.heap.size w wx)=>sC s wx hs (he.below hb))
 unfold dO
 go_enter Tryz.func35,Tryz.ntmps35
 go_wp2_with fail
 have hb0:=aU w (.cells #[.int .i64 1,.int .i64 a,.int .i64 b,.string (bs s),.string (bs t),v] 67)
 refine(dz HP _ hb0).mono ?_
 rintro e w1 ⟨rfl,hb1⟩
 go_wp2
 go_ret
 exact⟨rfl,hb0.trans (hb1.mono hb0.size)⟩
set_option maxRecDepth 100000 in
theorem xX(B:Nat)(a b:Int)(s t:List UInt8)(v:Value)(w:World)(hs:s.length<=9223372036854775807)(ht:t.length<=9223372036854775807)(he:Env w):
  Calls Tryz.prog 35 #[.pointer (some ⟨B,0,none⟩),dO 2 a b s t v] w fun e w'=>e=.returned (.bool true)/\Below w.heap.size w w':=by
 have HP:=aq (fun wx (hb:Below w.heap.size w wx)=>oV s t wx hs ht (he.below hb))
 unfold dO
 go_enter Tryz.func35,Tryz.ntmps35
 go_wp2_with fail
 have hb0:=aU w (.cells #[.int .i64 2,.int .i64 a,.int .i64 b,.string (bs s),.string (bs t),v] 67)
 refine(dz HP _ hb0).mono ?_
 rintro e w1 ⟨rfl,hb1⟩
 go_wp2
 go_ret
 exact⟨rfl,hb0.trans (hb1.mono hb0.size)⟩
theorem WIs.cells{Z:Play}{base:Nat}{w:World}{B n:Nat}{lv:Value}{p:Nat->Nat}{F:Nat->Nat->Prop}{ms:Nat->List Nat}(h:WIs base w B n lv p F ms Z)(hn:0<n):
  ∃g cp,lv=.slice (some ⟨g,0,none⟩) n cp/\w.cell? ⟨B,0,none⟩=some lv/\∀d,d<n->w.cell? ⟨g,d,none⟩=some (.pointer (some ⟨p d,0,none⟩)):=by
 have hc:w.cell? ⟨B,0,none⟩=some lv:=by simp[World.cell?,h.block]
 have hrow:=h.row
 rcases hrow.2 with⟨_,h0⟩|⟨g,cp,cur,rfl,_⟩
 ·omega
 ·refine⟨g,cp,rfl,hc,fun d hd=>?_⟩
  rw[hrow.cellAt d (by omega)]
  simp[hd]
set_option maxRecDepth 100000 in
set_option maxHeartbeats 800000 in
theorem aD9{Z:Play}(base B n:Nat)(kind a b:Int)(s t:List UInt8)(v lv:Value)(p:Nat->Nat)(F:Nat->Nat->Prop)(ms:Nat->List Nat)(w:World)(hk:kind<1)(h0:-9223372036854775808<=a)(h1:a<=9223372036854775807)(hn:0<n)(hW:WIs base w B n lv p F ms Z):
  Calls Tryz.prog 35 #[.pointer (some ⟨B,0,none⟩),dO kind a b s t v] w fun e w'=>e=.returned (.bool true)/\Below w.heap.size w w':=by
 obtain⟨g,cp,rfl,hc0,hcd⟩:=hW.cells hn
 have h4:=hW.four
 have hBl:=aA hW.block
 have hgl:=(hW.row.lt g rfl).2
 have HP:=aq (fun wx=>gP a n wx h0 h1 hn h4)
 have HCD:=aq hcd
 clear hcd hW
 have q0:¬kind=1:=by omega
 have q1:(kind==1)=false:=by rw[beq_eq_false_iff_ne];omega
 have q2:(kind==2)=false:=by rw[beq_eq_false_iff_ne];omega
 have q3:(kind==3)=false:=by rw[beq_eq_false_iff_ne];omega
 have q4:(kind==4)=false:=by rw[beq_eq_false_iff_ne];omega
 have q5:(kind==5)=false:=by rw[beq_eq_false_iff_ne];omega
 have q6:(kind==6)=false:=by rw[beq_eq_false_iff_ne];omega
 have q7:(kind==7)=false:=by rw[beq_eq_false_iff_ne];omega
 have q8:(kind==8)=false:=by rw[beq_eq_false_iff_ne];omega
 clear hk
 unfold dO
 obtain⟨w1,hw1,hop⟩:=lQ w kind a b s t v
 have c0:=hop.c0
 have c1:=hop.c1
 have hcB:w1.cell? ⟨B,0,none⟩=some (.slice (some ⟨g,0,none⟩) n cp):=(hop.below.cell (p:=⟨B,0,none⟩) hBl).trans hc0
 have HB1:=aq hop.below
 have HCD1:Hid (∀d,d<n->w1.cell? ⟨g,d,none⟩=some (.pointer (some ⟨p d,0,none⟩))):=aq (fun d hd=>(hop.below.cell (p:=⟨g,d,none⟩) hgl).trans (dz HCD d hd))
 have hd:=eN a hn
 have hcd:=dz HCD1 (aL a n) hd
 generalize aL a n=d at *
 clear hop HCD hc0
 go_enter Tryz.func35,Tryz.ntmps35
 go_wp2
 go_quiet ((go_at_call 53;refine Calls.quiet_of_same (dz HP _)))
 go_wp2
 go_ret
 exact⟨rfl,aG (dz HB1) _⟩
end Go.Proofs.YtekkkoipcghlmaaGreatDoor
namespace Go.Proofs.YtekkkoipcghlmaaGreatDoor
open Go.RowKit
theorem SideIs.cellX{Z:Play}{pv:Value}{pb:List UInt8}{base:Nat}{w:World}{F:Nat->Prop}{p x:Nat}{kv:Value}{y:Nat}{lv:Value}{vs:List Value}{ms:List Nat}(h:SideIs base w F p x kv y lv vs ms pv pb Z):w.cell? ⟨p,0,none⟩=some (.pointer (some ⟨x,0,none⟩)):=by
 obtain⟨pr,gr,la,en,hb,hZ⟩:=h.block
 exact cell_of_row _ _ 0 _ _ _ hb
theorem SideIs.cellY{Z:Play}{pv:Value}{pb:List UInt8}{base:Nat}{w:World}{F:Nat->Prop}{p x:Nat}{kv:Value}{y:Nat}{lv:Value}{vs:List Value}{ms:List Nat}(h:SideIs base w F p x kv y lv vs ms pv pb Z):w.cell? ⟨p,1,none⟩=some (.pointer (some ⟨y,0,none⟩)):=by
 obtain⟨pr,gr,la,en,hb,hZ⟩:=h.block
 exact cell_of_row _ _ 1 _ _ _ hb
theorem SideIs.ltp{Z:Play}{pv:Value}{pb:List UInt8}{base:Nat}{w:World}{F:Nat->Prop}{p x:Nat}{kv:Value}{y:Nat}{lv:Value}{vs:List Value}{ms:List Nat}(h:SideIs base w F p x kv y lv vs ms pv pb Z):p<w.heap.size:=by
 obtain⟨pr,gr,la,en,hb,hZ⟩:=h.block
 exact aA hb
def gC(base:Nat)(w w':World)(Fd:Nat->Prop)(pd:Nat)(md:List Nat)(Z:Play):Prop:=∃F' ms',Only Fd w w'/\SideAt base w' F' pd ms' Z/\(∀k,F' k->Fd k∨w.heap.size<=k)/\ms'.length<=md.length+1
theorem SideIs.block2{Z:Play}{pv:Value}{pb:List UInt8}{base:Nat}{w wq w2:World}{F:Nat->Prop}{p x:Nat}{kv:Value}{y:Nat}{lv:Value}{vs:List Value}{ms:List Nat}(h:SideIs base w F p x kv y lv vs ms pv pb Z)(hb:Below w.heap.size w wq)(ho:Only (·=x) wq w2):
  ∃pr gr la en,w2.heap[p]?=some (.cells #[.pointer (some ⟨x,0,none⟩),.pointer (some ⟨y,0,none⟩),.string pr,.bool gr,.string la,.bool en] 95 (0,0)):=by
 obtain⟨pr,gr,la,en,hblk,hZ⟩:=h.block
 have hne:p≠x:=by intro e;subst e;have:=hblk.symm.trans h.prog.block;simp at this
 have hq:=(hb.block p (aA hblk)).trans hblk
 exact⟨pr,gr,la,en,(ho.block p (aA hq) hne).trans hq⟩
def dQ(w2:World)(p:Nat):World:=((((w2.setCell ⟨p,1,none⟩ (.pointer (some ⟨w2.heap.size,0,none⟩))).setCell ⟨p,2,none⟩ (.string ⟨#[]⟩)).setCell ⟨p,3,none⟩ (.bool false)).setCell ⟨p,5,none⟩ (.bool false)).alloc (.cells #[.slice none 0 0] 93)
theorem aG8{Z:Play}{pv:Value}{pb:List UInt8}{base:Nat}{w wq w2:World}{F:Nat->Prop}{p x:Nat}{kv:Value}{y:Nat}{lv:Value}{vs:List Value}{ms:List Nat}{pr la:ByteArray}{gr en:Bool}(h:SideIs base w F p x kv y lv vs ms pv pb Z)(hb:Below w.heap.size w wq)(hx:XAt base w2 x (.slice none 0 0) [] (.slice none 0 0) [])(ho:Only (·=x) wq w2)
  (hblk:w2.heap[p]?=some (.cells #[.pointer (some ⟨x,0,none⟩),.pointer (some ⟨y,0,none⟩),.string pr,.bool gr,.string la,.bool en] 95 (0,0))):gC base w (dQ w2 p) F p ms Z:=by
 have hpl:=aA hblk
 have hxl:=aA hx.block
 have hxp:x≠p:=by intro e;subst e;have:=hblk.symm.trans hx.block;simp at this
 have hsz:w.heap.size<=w2.heap.size:=Nat.le_trans hb.size ho.size
 have b1:=heap_setCell_same w2 p 1 _ _ (.pointer (some ⟨w2.heap.size,0,none⟩)) hblk
 have b2:=heap_setCell_same _ p 2 _ _ (.string ⟨#[]⟩) b1
 have b3:=heap_setCell_same _ p 3 _ _ (.bool false) b2
 have b4:=heap_setCell_same _ p 5 _ _ (.bool false) b3
 have hcs:((((w2.setCell ⟨p,1,none⟩ (.pointer (some ⟨w2.heap.size,0,none⟩))).setCell ⟨p,2,none⟩ (.string ⟨#[]⟩)).setCell ⟨p,3,none⟩ (.bool false)).setCell ⟨p,5,none⟩ (.bool false)).heap.size=w2.heap.size:=by simp
 have ow:Only (·=p) w2 (dQ w2 p):=((Only.setCell (F:=(·=p)) (p:=⟨p,1,none⟩) rfl _ _).trans ((Only.setCell (F:=(·=p)) (p:=⟨p,2,none⟩) rfl _ _).trans ((Only.setCell (F:=(·=p)) (p:=⟨p,3,none⟩) rfl _ _).trans ((Only.setCell (F:=(·=p)) (p:=⟨p,5,none⟩) rfl _ _).trans (Only.alloc _ _ _)))))
 have hws:(dQ w2 p).heap.size=w2.heap.size+1:=by unfold dQ;simp
 have bp:(dQ w2 p).heap[p]?=some (.cells #[.pointer (some ⟨x,0,none⟩),.pointer (some ⟨w2.heap.size,0,none⟩),.string ⟨#[]⟩,.bool false,.string la,.bool false] 95 (0,0)):=by
  unfold dQ
  rw[Below.heap_alloc _ _ _ (by rw[hcs];exact hpl),b4];rfl
 have by':(dQ w2 p).heap[w2.heap.size]?=some (.cells #[.slice none 0 0] 93 (0,0)):=by
  have hh:∀(w0:World) (o:Obj),(w0.alloc o).heap[w0.heap.size]?=some o:=fun w0 o=>by show(w0.heap.push o)[w0.heap.size]?=_;simp
  have:=hh ((((w2.setCell ⟨p,1,none⟩ (.pointer (some ⟨w2.heap.size,0,none⟩))).setCell ⟨p,2,none⟩ (.string ⟨#[]⟩)).setCell ⟨p,3,none⟩ (.bool false)).setCell ⟨p,5,none⟩ (.bool false)) (.cells #[.slice none 0 0] 93)
  rw[hcs]at this
  exact this
 have hbase:base<=w.heap.size:=Nat.le_trans h.le (Nat.le_of_lt h.ltp)
 have hFp:=h.fp
 have hFx:=h.fx.1
 refine⟨fun k=>(F k∨w.heap.size<=k)/\k<(dQ w2 p).heap.size,[],(Only.of_below _ hb).trans ((ho.weaken (fun k _ e=>by rw[e];exact hFx)).trans (ow.weaken (fun k _ e=>by rw[e];exact hFp))),⟨x,.slice none 0 0,w2.heap.size,.slice none 0 0,[],.slice none 0 0,[],?_⟩,fun k hk=>hk.1,by simp⟩
 refine⟨⟨_,_,_,_,bp,Z.reset la⟩,h.le,?_,?_,⟨.inl hFp,by omega⟩,⟨⟨.inl hFx,by omega⟩,fun g hg=>(by cases hg),fun g hg=>(by cases hg)⟩,⟨⟨.inr hsz,by omega⟩,fun g hg=>(by cases hg),fun v hv=>(by cases hv)⟩,fun k hk=>⟨?_,hk.2⟩,fun m hm=>(by cases hm)⟩
 ·exact⟨(ow.block x hxl hxp).trans hx.block,hx.le,World.ownsRow_nil _ _ _ _,World.ownsRow_nil _ _ _ _⟩
 ·exact⟨by',Nat.le_trans hbase hsz,World.ownsRow_nil _ _ _ _,rfl,fun i a c ha hc=>by simp at ha⟩
 ·rcases hk.1 with hf|hf
  ·exact(h.inn k hf).1
  ·omega
set_option maxRecDepth 100000 in
set_option maxHeartbeats 1600000 in
theorem sX{Z:Play}(base B n:Nat)(a b:Int)(s t:List UInt8)(v lv:Value)(p:Nat->Nat)(F:Nat->Nat->Prop)(ms:Nat->List Nat)(w:World)(h0:-9223372036854775808<=a)(h1:a<=9223372036854775807)(hn:0<n)(hW:WIs base w B n lv p F ms Z)
  (hL:∀i,i<n->(ms i).length<=10000000) (he:Env w):
  Calls Tryz.prog 35 #[.pointer (some ⟨B,0,none⟩),dO 5 a b s t v] w fun e w'=>e=.returned (.bool true)/\Below w.heap.size w w':=by
 obtain⟨g,cp,rfl,hc0,hcd⟩:=hW.cells hn
 have h4:=hW.four
 have hBl:=aA hW.block
 have hgl:=(hW.row.lt g rfl).2
 have HP:=aq (fun wx=>gP a n wx h0 h1 hn h4)
 have hd:=eN a hn
 obtain⟨x,kv,y,yv,vs,pv,pb,hs⟩:=hW.sides _ hd
 have HX:=aq (fun wx (hb:Below w.heap.size w wx)=>sJ base x kv (ms (aL a n)) wx pv pb (hs.prog.below hb) (hL _ hd) hs.small (he.below hb).toEnvT)
 have HY:=aq (fun wx (hb:Below w.heap.size w wx)=>sG base y yv vs (ms (aL a n)) wx (hs.doc.below hb) (hL _ hd))
 have hpx:=hs.cellX
 have hpy:=hs.cellY
 have hpl:=hs.ltp
 unfold dO
 obtain⟨w1,hw1,hop⟩:=lQ w 5 a b s t v
 have c0:=hop.c0
 have c1:=hop.c1
 have hcB:w1.cell? ⟨B,0,none⟩=some (.slice (some ⟨g,0,none⟩) n cp):=(hop.below.cell (p:=⟨B,0,none⟩) hBl).trans hc0
 have HB1:=aq hop.below
 have hcd1:w1.cell? ⟨g,aL a n,none⟩=some (.pointer (some ⟨p (aL a n),0,none⟩)):=(hop.below.cell (p:=⟨g,aL a n,none⟩) hgl).trans (hcd _ hd)
 have hpx1:w1.cell? ⟨p (aL a n),0,none⟩=some (.pointer (some ⟨x,0,none⟩)):=(hop.below.cell (p:=⟨p (aL a n),0,none⟩) hpl).trans hpx
 generalize aV (ms (aL a n))=tx at *
 generalize p (aL a n)=pd at *
 generalize aL a n=d at *
 clear hop hc0 hcd hW hs hpx hL
 go_enter Tryz.func35,Tryz.ntmps35
 go_wp2
 go_quiet ((go_at_call 53;refine Calls.quiet_of_same (dz HP _)))
 go_wp2_with fail
 have hb2:=aG (dz HB1) nq
 refine(dz HX _ hb2).mono ?_
 rintro e w2 ⟨rfl,hb3⟩
 have hb4:=hb2.trans (hb3.mono hb2.size)
 have hpy2:w2.cell? ⟨pd,1,none⟩=some (.pointer (some ⟨y,0,none⟩)):=(hb4.cell (p:=⟨pd,1,none⟩) hpl).trans hpy
 go_wp2_with fail
 refine(dz HY _ hb4).mono ?_
 rintro e w3 ⟨rfl,hb5⟩
 go_wp2
 go_ret
 exact⟨by simp,hb4.trans (hb5.mono hb4.size)⟩
set_option maxRecDepth 100000 in
set_option maxHeartbeats 1600000 in
theorem zA{Z:Play}(base B n:Nat)(a b:Int)(s t:List UInt8)(v lv:Value)(p:Nat->Nat)(F:Nat->Nat->Prop)(ms:Nat->List Nat)(w:World)(h0:-9223372036854775808<=a)(h1:a<=9223372036854775807)(hn:0<n)(hW:WIs base w B n lv p F ms Z):
  Calls Tryz.prog 35 #[.pointer (some ⟨B,0,none⟩),dO 6 a b s t v] w fun e w'=>e=.returned (.bool true)/\gC base w w' (F (aL a n)) (p (aL a n)) (ms (aL a n)) Z:=by
 obtain⟨g,cp,rfl,hc0,hcd⟩:=hW.cells hn
 have h4:=hW.four
 have hBl:=aA hW.block
 have hgl:=(hW.row.lt g rfl).2
 have HP:=aq (fun wx=>gP a n wx h0 h1 hn h4)
 have hd:=eN a hn
 obtain⟨x,kv,y,yv,vs,pv,pb,hs⟩:=hW.sides _ hd
 have HX:=aq (fun wx (hb:Below w.heap.size w wx)=>yX base x kv (ms (aL a n)) wx pv pb (hs.prog.below hb))
 have HS:=aq hs
 have hpx:=hs.cellX
 have hpy:=hs.cellY
 have hpl:=hs.ltp
 unfold dO
 obtain⟨w1,hw1,hop⟩:=lQ w 6 a b s t v
 have c0:=hop.c0
 have c1:=hop.c1
 have hcB:w1.cell? ⟨B,0,none⟩=some (.slice (some ⟨g,0,none⟩) n cp):=(hop.below.cell (p:=⟨B,0,none⟩) hBl).trans hc0
 have HB1:=aq hop.below
 have hcd1:w1.cell? ⟨g,aL a n,none⟩=some (.pointer (some ⟨p (aL a n),0,none⟩)):=(hop.below.cell (p:=⟨g,aL a n,none⟩) hgl).trans (hcd _ hd)
 have hpx1:w1.cell? ⟨p (aL a n),0,none⟩=some (.pointer (some ⟨x,0,none⟩)):=(hop.below.cell (p:=⟨p (aL a n),0,none⟩) hpl).trans hpx
 generalize ms (aL a n)=md at *
 generalize F (aL a n)=Fd at *
 generalize p (aL a n)=pd at *
 generalize aL a n=d at *
 clear hop hc0 hcd hW hs hpx hpy
 go_enter Tryz.func35,Tryz.ntmps35
 go_wp2
 go_quiet ((go_at_call 53;refine Calls.quiet_of_same (dz HP _)))
 go_wp2_with fail
 have hb2:=aG (dz HB1) nq
 refine(dz HX _ hb2).mono ?_
 rintro e w2 ⟨rfl,hx2,ho2⟩
 obtain⟨pr,gr,la,en,hblk⟩:=(dz HS).block2 hb2 ho2
 have HF:=aq (aG8 (dz HS) hb2 hx2 ho2 hblk)
 have k1:=cell_of_row _ _ 1 _ _ _ hblk
 have k2:=cell_of_row _ _ 2 _ _ _ hblk
 have k3:=cell_of_row _ _ 3 _ _ _ hblk
 have k5:=cell_of_row _ _ 5 _ _ _ hblk
 have f1:=fun j=>frozen_of_row _ _ j _ _ hblk
 have hpl2:=aA hblk
 clear hx2 ho2 hblk
 go_wp2
 go_ret
 exact⟨rfl,dz HF⟩
end Go.Proofs.YtekkkoipcghlmaaGreatDoor
namespace Go.Proofs.YtekkkoipcghlmaaGreatDoor
open Go.RowKit Sp
theorem YAt.rowsOf{base y:Nat}{w:World}{lv:Value}{vs:List Value}{ms:List Nat}(h:YAt base w y lv vs ms):RowsOf w lv ms:=
 ⟨vs,aE h.row (by rw[h.rows.1];simp),by rw[h.rows.1];simp,fun i x m hx hm=>aE (h.rows.2 i x (litsOf m) hx (by simp[hm])) (by simp[ints])⟩
set_option maxRecDepth 100000 in
set_option maxHeartbeats 3200000 in
theorem xR{Z:Play}(base:Nat)(F:Nat->Prop)(p x y:Nat)(kv lv:Value)(vs:List Value)(ms:List Nat)(pv:Value)(pb:List UInt8)(w:World)(hs:SideIs base w F p x kv y lv vs ms pv pb Z)(hml:ms.length<=3000000)(hI:∀pr gr la en,Z.I ms pb pr gr la en->sQ ms pb pr gr la en/\Z.I ms pb (bs pb) false la en):
  Calls Tryz.prog 59 #[.pointer (some ⟨p,0,none⟩)] w fun e w'=>e=.returned (.bool true)/\gC base w w' F p ms Z:=by
 obtain⟨pr,gr,la,en,hblk,hZ⟩:=hs.block
 obtain⟨⟨⟨s,M,R,hpb,hok,hruns,-,hsl⟩,hlen,⟨p0,t,rfl,hpt,hgr⟩,hen⟩,hZ2⟩:=hI pr gr la en hZ
 have HPR:=aq (xT base x kv ms w pv pb hs.prog)
 obtain⟨lo,lc,hlv⟩:=aC hs.doc.row
 subst hlv
 have k0:w.cell? ⟨p,0,none⟩=some (.pointer (some ⟨x,0,none⟩)):=cell_of_row _ _ 0 _ _ _ hblk
 have k1:w.cell? ⟨p,1,none⟩=some (.pointer (some ⟨y,0,none⟩)):=cell_of_row _ _ 1 _ _ _ hblk
 have k2:w.cell? ⟨p,2,none⟩=some (.string (bs p0)):=cell_of_row _ _ 2 _ _ _ hblk
 have k3:w.cell? ⟨p,3,none⟩=some (.bool gr):=cell_of_row _ _ 3 _ _ _ hblk
 have y0:w.cell? ⟨y,0,none⟩=some (.slice lo ms.length lc):=by simp[World.cell?,hs.doc.block]
 have hpl:=aA hblk
 have hyl:=aA hs.doc.block
 have htk:pb.take p0.length=p0:=by rw[hpt];simp
 have hp0:p0.length<=pb.length:=by rw[hpt,List.length_append];omega
 have hsl0:∀wx:World,(Instr.slice 9 (.string (bs pb)) none (some (.int .i64 (p0.length:Int))) none).run Tryz.prog wx=.ok (.string (bs p0)) wx:=fun wx=>by
  have:=mT (P:=Tryz.prog) 9 Tryz.underlying9 pb (p0.length:Int) p0.length rfl hp0 wx
  rwa [htk]at this
 have hln:=fQ s
 have HSH:Hid (∀wx,Below w.heap.size w wx->Calls Tryz.prog 104 #[.slice lo ms.length lc,.string (bs pb)] wx fun e w'=>∃b:Int,e=.returned (.tuple #[.int .i64 0,.int .i64 b])/\Below w.heap.size w w'):=aq (fun wx hx=>by
  refine(qL _ ms pb wx (by omega) hs.small (by omega) (by rw[hpb,hln.1,List.length_map];exact hsl) (by rw[hpb,hln.1];intro z hz;obtain⟨u,-,rfl⟩:=List.mem_map.1 hz;exact qN u) (hs.doc.below hx).rowsOf).mono ?_
  rintro e w' ⟨r,rfl,ho,hb⟩
  have h1:Sp.Outcome ms 0 (segs pb) (0,0):=by
   have e:=yJ s []
   rw[List.append_nil,←hpb]at e
   rw[e]
   exact Runs.out hruns hok rfl
  have h2:=Sp.Outcome.unique _ _ _ _ _ ho h1
  subst h2
  exact⟨0,rfl,hx.trans (hb.mono hx.size)⟩)
 have HEN:Hid (∀wx,Below w.heap.size w wx->Calls Tryz.prog 105 #[.string (bs pb)] wx fun e w'=>e=.returned (.string (bs (gA s)))/\Below w.heap.size w w'):=aq (fun wx hx=>by
  have:=yZ s wx hsl (by rw[←hpb];omega)
  rw[←hpb]at this
  exact this.mono (fun e w' h=>⟨h.1,hx.trans (h.2.mono hx.size)⟩))
 have HLE:Hid (pb=[]∨gA s≠[]):=aq (by
  by_cases h0:s=[]
  ·left;rw[hpb,h0];rfl
  ·right;rw[gA,dif_neg h0];simp)
 have HRT:Hid (((bs pb).toList.isEmpty||!(bs (gA s)).toList.isEmpty)=true):=aq (by
  rw[cF,cF]
  rcases dz HLE with h|h
  ·rw[h];rfl
  ·cases hl:gA s with
   | nil=>exact absurd hl h
   | cons a r=>simp)
 have HLL:Hid (en=true->∃m,m<2 ^ 24/\gA s=told (litsOf m)/\la=bs (told (litsOf m))):=aq (fun he=>by
  obtain⟨U,m,hm,hU,hla⟩:=hen he
  have e:s.map bE=(U++[(false,m)]).map bE:=by rw[←(fQ s).1,←(fQ _).1,←hpb,←hU]
  have hne:s≠[]:=by intro h;subst h;simp at e
  have e2:=congrArg List.getLast? e
  rw[List.getLast?_map,List.getLast?_eq_some_getLast hne]at e2
  simp at e2
  refine⟨m,hm,?_,hla⟩
  rw[gA,dif_neg hne,e2]
  simp[bE,told])
 have HFIN:Hid (∀wx,Below w.heap.size w wx->wx.heap[p]?=some (.cells #[.pointer (some ⟨x,0,none⟩),.pointer (some ⟨y,0,none⟩),.string (bs p0),.bool gr,.string la,.bool en] 95 (0,0))/\gC base w ((wx.setCell ⟨p,2,none⟩ (.string (bs pb))).setCell ⟨p,3,none⟩ (.bool false)) F p ms Z):=aq (fun wx hx=>by
  have hb:=(hx.block p hpl).trans hblk
  refine⟨hb,?_⟩
  obtain⟨w9,hw9⟩:∃w9,(wx.setCell ⟨p,2,none⟩ (.string (bs pb))).setCell ⟨p,3,none⟩ (.bool false)=w9:=⟨_,rfl⟩
  have hblk9:w9.heap[p]?=some (.cells #[.pointer (some ⟨x,0,none⟩),.pointer (some ⟨y,0,none⟩),.string (bs pb),.bool false,.string la,.bool en] 95 (0,0)):=by
   rw[←hw9,heap_setCell_same _ p 3 _ _ _ (heap_setCell_same wx p 2 _ _ _ hb)]
   rfl
  have ho:Only (·=p) wx w9:=by
   rw[←hw9]
   exact(Only.setCell (F:=(·=p)) (p:=⟨p,2,none⟩) rfl _ _).trans (Only.setCell (F:=(·=p)) (p:=⟨p,3,none⟩) rfl _ _)
  have hpx:x≠p:=by intro e;subst e;have:=hblk.symm.trans hs.prog.block;simp at this
  have hpy:y≠p:=by intro e;subst e;have:=hblk.symm.trans hs.doc.block;simp at this
  have hX:=hs.prog.below hx
  have hY:=hs.doc.below hx
  have oF:Only F w w9:=(Only.of_below _ hx).trans (ho.weaken (fun k _ e=>by rw[e];exact hs.fp))
  rw[hw9]
  refine⟨F,ms,oF,⟨x,kv,y,_,vs,pv,pb,⟨_,_,_,_,hblk9,hZ2⟩,hs.le,hX.overG ho hpx (aZ hX.row hb (by decide)) (aZ hX.prow hb (by decide)),hY.overG ho hpy (aZ hY.row hb (by decide)) (fun v hv hg=>?_),hs.fp,hs.fx,hs.fy,fun k hk=>⟨(hs.inn k hk).1,Nat.lt_of_lt_of_le (hs.inn k hk).2 oF.size⟩,hs.small⟩,fun k hk=>.inl hk,by omega⟩
  obtain⟨i,hi⟩:=List.getElem?_of_mem hv
  have hil:i<vs.length:=(List.getElem?_eq_some_iff.1 hi).1
  have hc:i<(ms.map litsOf).length:=by rw[←hY.rows.1];exact hil
  exact aZ (hY.rows.2 i v _ hi (List.getElem?_eq_getElem hc)) hb (by decide) hg)
 have hz1:=aN pb
 have hz2:=aN p0
 have hq1:decide (pb.length<p0.length)=false:=decide_eq_false (by omega)
 have hgr2:gr=true∨(gr=false/\p0.length=pb.length):=by
  cases gr
  ·exact .inr ⟨rfl,by rw[hgr rfl]⟩
  ·exact .inl rfl
 clear hpb hok hruns hsl hpt htk hen hZ hZ2 hln hI hgr hs hblk
 go_enter Tryz.func59,Tryz.ntmps59
 go_wp2_with fail
 refine(dz HPR).mono ?_
 rintro e w1 ⟨rfl,rfl⟩
 have hq2:gr=true∨(gr=false/\decide (p0.length<pb.length)=false):=by
  rcases hgr2 with h|h
  ·exact .inl h
  ·exact .inr ⟨h.1,decide_eq_false (by omega)⟩
 clear hgr2
 rcases hq2 with rfl|⟨rfl,hq2⟩
 all_goals
  go_wp2_with fail
  go_quiet (fail)
  have hbd:Below w1.heap.size w1 (w1.drewN nq):=aG (Below.refl _ _) nq
  go_wp2_with fail
  refine(dz HSH _ hbd).mono ?_
  rintro e w2 ⟨b2,rfl,hb2⟩
  go_wp2_with fail
  refine(dz HEN _ hb2).mono ?_
  rintro e w3 ⟨rfl,hb3⟩
  obtain⟨hblk,-⟩:=dz HFIN _ hb3
  have j2:=cell_of_row _ _ 2 _ _ _ hblk
  have j3:=cell_of_row _ _ 3 _ _ _ hblk
  have j4:w3.cell? ⟨p,4,none⟩=some (.string la):=cell_of_row _ _ 4 _ _ _ hblk
  have j5:w3.cell? ⟨p,5,none⟩=some (.bool en):=cell_of_row _ _ 5 _ _ _ hblk
  have f1:=fun j=>frozen_of_row _ _ j _ _ hblk
  have hpl3:=aA hblk
  have HB3:=aq hb3
  clear hb3 hb2 hbd hblk
  cases en
  ·go_wp2_with fail
   go_quiet (fail)
   have HTD:=aq (dz HFIN _ (aG (dz HB3) nq)).2
   clear HFIN
   go_wp2
   all_goals go_ret
   all_goals exact⟨(by first|rfl|(rw[dz HRT];rfl)),dz HTD⟩
  ·obtain⟨m,hm,hla1,hla2⟩:=dz HLL rfl
   have HSO:=aq (fun wx=>uM hm wx)
   rw[hla1]at HRT⊢
   subst hla2
   clear hla1 HLL HEN HLE hm
   generalize told (litsOf m)=tx at *
   have HSP:Hid (∀wx,Below w3.heap.size w3 wx->Calls Tryz.prog 106 #[.string (bs tx)] wx fun e w'=>e=.returned (.string (bs tx))/\Hid (Below w1.heap.size w1 w')/\(w'.cell? ⟨p,5,none⟩=some (.bool true)/\w'.cell? ⟨p,4,none⟩=some (.string (bs tx)))):=aq (fun wx hx=>(dz HSO wx).mono (fun e w' h=>by
    have h6:=hx.trans (h.2.mono hx.size)
    exact⟨h.1,aq ((dz HB3).trans (h6.mono (dz HB3).size)),(h6.cell (p:=⟨p,5,none⟩) hpl3).trans j5,(h6.cell (p:=⟨p,4,none⟩) hpl3).trans j4⟩))
   clear HSO
   go_wp2_with fail
   go_region_held3 (fun w'=>w'.cell? ⟨p,5,none⟩=some (.bool true)/\w'.cell? ⟨p,4,none⟩=some (.string (bs tx))) (first|exact hS4|go_keep) (first|(go_at_call 106;refine(dz HSP _ (by go_grown)).mono ?_;rintro e w4 ⟨rfl,HB4,hS4⟩))
   obtain⟨hblk4,htd4⟩:=dz HFIN _ (dz HB4)
   have i2:=cell_of_row _ _ 2 _ _ _ hblk4
   have i3:=cell_of_row _ _ 3 _ _ _ hblk4
   have f4:=fun j=>frozen_of_row _ _ j _ _ hblk4
   have hpl4:=aA hblk4
   have HTD:=aq htd4
   clear htd4 hblk4 HFIN HSP
   go_wp2
   all_goals go_ret
   all_goals exact⟨(by first|rfl|(rw[dz HRT];rfl)),dz HTD⟩
end Go.Proofs.YtekkkoipcghlmaaGreatDoor
