import Derived.Test.YtekkkoipcghlmaaGreatDoorS48
set_option linter.all false
namespace Go.Proofs.YtekkkoipcghlmaaGreatDoor
open Go.RowKit
theorem YAt.rowsL{base y:Nat}{w:World}{lv:Value}{vs:List Value}{ms:List Nat}(h:YAt base w y lv vs ms):RowsL w lv (ms.map Sp.litsOf):=
 ⟨vs,lies_of_owns h.row (by rw[h.rows.1];simp),h.rows.1,fun i x c hx hc=>lies_of_owns (h.rows.2 i x c hx hc) (by simp[ints])⟩
theorem lits_rows(ms:List Nat):∀c,c∈ms.map Sp.litsOf->Lits c/\c.length<=10000000:=fun c hc=>by
 obtain⟨m,_,rfl⟩:=List.mem_map.1 hc
 exact⟨litsOf_bd m,by have:=litsOf_len m;omega⟩
set_option maxRecDepth 100000 in
set_option maxHeartbeats 1600000 in
theorem result_any(base y:Nat)(lv v:Value)(vs:List Value)(ms:List Nat)(A:List Int)(kd a b:Int)(s t:List UInt8)(kind cf:Int)(mo co:Option Addr)(mk mc ck cc:Nat)(w:World)(hY:YAt base w y lv vs ms)(hms:ms.length<=10000000)(hsm:∀m,m∈ms->m<2 ^ 24)(hA:Lits A)(ha:A.length<=10000000)(hav:Lies w v (ints A))(hac:∀ao n c,v=.slice ao n c->n<=c)
  (hb0:0<=b) (hb1:b<=9223372036854775807) (hc0:0<=cf) (hc1:0<b->cf<=b)
  (hres:(kind=1/\co=none/\ck=0/\cc=0/\∃bb,bb<4096/\(∀x,x∈A->tru bb x=true)/\(∀g,g∈ms->holdsB bb g)/\Lies w (.slice mo mk mc) (ints (modelOf bb)))∨
   (kind=2/\mo=none/\mk=0/\mc=0/\∃p:Int->Bool,Lies w (.slice co ck cc) (ints ((once A).filter p))/\ck<=cc/\∀bb,(∀g,g∈ms->holdsB bb g)->∃x,x∈(once A).filter p/\tru bb x=false)∨
   (kind=3/\mo=none/\mk=0/\mc=0/\co=none/\ck=0/\cc=0/\0<b/\cf=b)):
  Calls Tryz.prog 102 #[.agg #[.int .i64 kind,.slice mo mk mc,.slice co ck cc,.int .i64 cf],.pointer (some ⟨y,0,none⟩),opVal kd a b s t v] w fun e w'=>e=.returned (.bool true)/\Below w.heap.size w w':=by
 obtain⟨ao,ac,rfl⟩:∃ao ac,v=.slice ao A.length ac:=by
  obtain⟨ao,ac,h⟩:=lies_shape hav;exact⟨ao,ac,by rw[h];simp[ints]⟩
 unfold opVal
 obtain⟨w1,hw1⟩:∃w1,w.alloc (.cells #[.int .i64 kind,.slice mo mk mc,.slice co ck cc,.int .i64 cf] 34)=w1:=⟨_,rfl⟩
 obtain⟨w2,hw2⟩:∃w2,w1.alloc (.cells #[.int .i64 kd,.int .i64 a,.int .i64 b,.string (bs s),.string (bs t),.slice ao A.length ac] 67)=w2:=⟨_,rfl⟩
 have b1:Below w.heap.size w w1:=by rw[←hw1];exact below_alloc _ _
 have b2:Below w1.heap.size w1 w2:=by rw[←hw2];exact below_alloc _ _
 have b02:Below w.heap.size w w2:=b1.trans (b2.mono b1.size)
 have x1:w1.heap[w.heap.size]?=some (.cells #[.int .i64 kind,.slice mo mk mc,.slice co ck cc,.int .i64 cf] 34):=by rw[←hw1];exact alloc_last _ _
 have hl1:=lt_of_block x1
 have x2:w2.heap[w.heap.size]?=some (.cells #[.int .i64 kind,.slice mo mk mc,.slice co ck cc,.int .i64 cf] 34):=(b2.block _ hl1).trans x1
 have y2:w2.heap[w1.heap.size]?=some (.cells #[.int .i64 kd,.int .i64 a,.int .i64 b,.string (bs s),.string (bs t),.slice ao A.length ac] 67):=by rw[←hw2];exact alloc_last _ _
 have r0:w2.cell? ⟨w.heap.size,0,none⟩=some (.int .i64 kind):=cell_of_row _ _ 0 _ _ _ x2
 have r1:w2.cell? ⟨w.heap.size,1,none⟩=some (.slice mo mk mc):=cell_of_row _ _ 1 _ _ _ x2
 have r2:w2.cell? ⟨w.heap.size,2,none⟩=some (.slice co ck cc):=cell_of_row _ _ 2 _ _ _ x2
 have r3:w2.cell? ⟨w.heap.size,3,none⟩=some (.int .i64 cf):=cell_of_row _ _ 3 _ _ _ x2
 have o2:w2.cell? ⟨w1.heap.size,2,none⟩=some (.int .i64 b):=cell_of_row _ _ 2 _ _ _ y2
 have o5:w2.cell? ⟨w1.heap.size,5,none⟩=some (.slice ao A.length ac):=cell_of_row _ _ 5 _ _ _ y2
 have hl2:=lt_of_block y2
 have hlr:=lt_of_block x2
 have hY2:=hY.below b02
 have hyl:=lt_of_block hY2.block
 have yc:w2.cell? ⟨y,0,none⟩=some lv:=cell_of_row _ _ 0 _ _ _ hY2.block
 have HAV:=aq (hav.below b02)
 have HRL:=aq hY2.rowsL
 have HY2:=aq hY2
 have HCAN:Hid (∀n,Calls Tryz.prog 146 #[lv,.slice ao A.length ac] (w2.drewN n) fun e w'=>e=.returned (.bool (canOf (ms.map Sp.litsOf) A))/\∃m,w'=(w2.drewN n).drewN m):=aq (fun n=>can_any _ _ _ A (w2.drewN n) (by simpa using hms) ha (lits_rows ms) hA (dz HRL) (dz HAV) hac)
 have HFIN:Hid (∀n,Below w.heap.size w (w2.drewN n)):=aq (fun n=>belowDrew b02 n)
 obtain⟨go,gn,gc,hlv⟩:∃go gn gc,lv=.slice go gn gc:=by
  obtain⟨o,c,h⟩:=owns_shape hY.row
  exact⟨o,_,c,h⟩
 subst hlv
 have hbc:(0<b/\cf<=b)∨b=0:=by omega
 rcases hres with⟨rfl,rfl,rfl,rfl,bb,hbb,h1,h2,h3⟩|⟨rfl,rfl,rfl,rfl,p,h1,h2,h3⟩|⟨rfl,rfl,rfl,rfl,rfl,rfl,rfl,h1,rfl⟩
 ·have HMO:Hid (∀n,Calls Tryz.prog 147 #[.pointer (some ⟨y,0,none⟩),.slice mo mk mc,.slice ao A.length ac] (w2.drewN n) fun e w'=>e=.returned (.bool true)/\∃q,w'=(w2.drewN n).drewN q):=aq (fun n=>model_any base y _ _ _ vs ms A bb (w2.drewN n) ((dz HY2).below (belowDrew (Below.refl _ _) n)) hms ha hbb hA (dz HAV) hac (lies_drew (h3.below b02) n) (by rw[List.all_eq_true];exact h1) (by
   rw[List.all_eq_true]
   intro c hc
   obtain⟨m,hm,rfl⟩:=List.mem_map.1 hc
   exact(holds_lits (hsm m hm)).2 (h2 m hm)))
  rw[can_yes hbb hsm h1 h2]at HCAN
  clear hY hY2 x1 x2 y2 h1 h2 h3 hav hac hA hsm b1 b2 b02 hc1
  rcases hbc with⟨hbp,hcb⟩|rfl
  all_goals (
   go_enter Tryz.func102,Tryz.ntmps102
   go_wp2
   go_quiet ((go_at_call 146;refine Calls.quiet_of (dz HCAN _)))
   go_wp2_with fail
   refine(dz HMO nq).mono ?_
   rintro e w3 ⟨rfl,q3,rfl⟩
   rw[World.drewN_drewN]
   go_wp2
   go_ret
   exact⟨rfl,dz HFIN _⟩)
 ·have hcl:ck=((once A).filter p).length:=by
   obtain⟨o,c,h⟩:=lies_shape h1
   simp only[Value.slice.injEq]at h
   rw[h.2.1];simp[ints]
  have hcore:∀x,x∈(once A).filter p->x∈A:=fun x hx=>(once_mem A x).1 (List.mem_filter.1 hx).1
  have hcln:((once A).filter p).length<=10000000:=by have:=List.length_filter_le p (once A);have:=once_len A;omega
  have HSO:Hid (∀n,Calls Tryz.prog 148 #[.slice co ck cc,.slice ao A.length ac] (w2.drewN n) fun e w'=>e=.returned (.bool true)/\∃q,w'=(w2.drewN n).drewN q):=aq (fun n=>by
   have:=some_any (.slice co ck cc) (.slice ao A.length ac) ((once A).filter p) A (w2.drewN n) hcln ha (lies_drew (h1.below b02) n) (dz HAV)
   rw[some_all]at this
   exact this)
  have HCA2:Hid (∀n,Calls Tryz.prog 146 #[.slice go gn gc,.slice co ck cc] (w2.drewN n) fun e w'=>e=.returned (.bool false)/\∃m,w'=(w2.drewN n).drewN m):=aq (fun n=>by
   have:=can_any (.slice go gn gc) (.slice co ck cc) (ms.map Sp.litsOf) ((once A).filter p) (w2.drewN n) (by simpa using hms) hcln (lits_rows ms) (fun x hx=>hA x (hcore x hx)) (dz HRL) (lies_drew (h1.below b02) n) (fun ao n c h=>by cases h;exact h2)
   rw[can_no hsm h3]at this
   exact this)
  rw[can_no hsm (fun bb hbb=>by
   obtain⟨x,hx,ht⟩:=h3 bb hbb
   exact⟨x,hcore x hx,ht⟩)]at HCAN
  have HCA3:Hid (∀k n,Calls Tryz.prog 146 #[.slice go gn gc,.slice co ck cc] ((w2.drewN k).drewN n) fun e w'=>e=.returned (.bool false)/\∃m,w'=((w2.drewN k).drewN n).drewN m):=aq (fun k n=>by rw[World.drewN_drewN];exact dz HCA2 _)
  have HCL:=aq hcl
  clear hY hY2 x1 x2 y2 h1 h2 h3 hav hac hA hsm b1 b2 b02 hc1 hcl hcore hcln
  rcases hbc with⟨hbp,hcb⟩|rfl
  all_goals (
   go_enter Tryz.func102,Tryz.ntmps102
   go_wp2
   go_quiet ((go_at_call 146;refine Calls.quiet_of (dz HCAN _)))
   go_wp2_with fail
   refine(dz HSO nq).mono ?_
   rintro e w3 ⟨rfl,q3,rfl⟩
   rw[World.drewN_drewN]
   have r1:(w2.drewN (nq+q3)).cell? ⟨w.heap.size,1,none⟩=some (.slice none 0 0):=r1
   have r2:(w2.drewN (nq+q3)).cell? ⟨w.heap.size,2,none⟩=some (.slice co ck cc):=r2
   have yc:(w2.drewN (nq+q3)).cell? ⟨y,0,none⟩=some (.slice go gn gc):=yc
   have HCW:Hid (∀n,Calls Tryz.prog 146 #[.slice go gn gc,.slice co ck cc] ((w2.drewN (nq+q3)).drewN n) fun e w'=>e=.returned (.bool false)/\∃m,w'=((w2.drewN (nq+q3)).drewN n).drewN m):=aq (fun n=>dz HCA3 _ n)
   have HFW:Hid (∀n,Below w.heap.size w ((w2.drewN (nq+q3)).drewN n)):=aq (fun n=>by rw[World.drewN_drewN];exact dz HFIN _)
   have hlz:w.heap.size<(w2.drewN (nq+q3)).heap.size:=hlr
   have hyz:y<(w2.drewN (nq+q3)).heap.size:=hyl
   clear HCA2 HCA3 HSO HCAN HFIN HRL HAV HY2
   generalize w2.drewN (nq+q3)=wz at *
   go_wp2
   go_quiet ((go_at_call 146;refine Calls.quiet_of (dz HCW _)))
   go_wp2
   go_ret
   exact⟨rfl,dz HFW _⟩)
 ·clear hY hY2 x1 x2 y2 hav hac hA hsm b1 b2 b02 hc1 hbc
  generalize canOf (ms.map Sp.litsOf) A=can at *
  go_enter Tryz.func102,Tryz.ntmps102
  go_wp2
  go_quiet ((go_at_call 146;refine Calls.quiet_of (dz HCAN _)))
  go_wp2
  go_ret
  exact⟨rfl,dz HFIN _⟩
end Go.Proofs.YtekkkoipcghlmaaGreatDoor
namespace Go.Proofs.YtekkkoipcghlmaaGreatDoor
open Go.RowKit
theorem YAt.overP{pv:Value}{pb:List UInt8}{base:Nat}{w w':World}{x y:Nat}{kv lv:Value}{vs:List Value}{ms ms':List Nat}(hY:YAt base w y lv vs ms')(hX:XAt base w x kv ms pv pb)(ho:Only (XF x pv) w w'):YAt base w' y lv vs ms':=by
 have hyx:y≠x:=by intro e;subst e;have:=hX.block.symm.trans hY.block;simp at this
 refine⟨(ho.block y (lt_of_block hY.block) (fun h=>h.elim hyx (row_ne hX.prow hY.block (by decide)))).trans hY.block,hY.le,owns_at hY.row (fun g hg=>ho.block g (hY.row.lt g hg).2 (fun h=>h.elim (fun e=>row_ne hY.row hX.block (by decide) (by rw[←e];exact hg)) (fun e=>rows_differ (by decide) hX.prow hY.row e hg))),hY.rows.1,fun i r c hr hc=>?_⟩
 have hrow:=hY.rows.2 i r c hr hc
 exact owns_at hrow (fun g hg=>ho.block g (hrow.lt g hg).2 (fun h=>h.elim (fun e=>row_ne hrow hX.block (by decide) (by rw[←e];exact hg)) (fun e=>rows_differ (by decide) hX.prow hrow e hg)))
theorem SideIs.overP{Z:Play}{pv:Value}{pb:List UInt8}{base:Nat}{w wL w2:World}{F:Nat->Prop}{p x:Nat}{kv:Value}{y:Nat}{lv:Value}{vs:List Value}{ms:List Nat}(hs:SideIs base w F p x kv y lv vs ms pv pb Z)(hA:Below w.heap.size w wL)(ho:Only (XF x pv) wL w2):
  YAt base w2 y lv vs ms/\Only F wL w2/\∃pr gr la en,w2.heap[p]?=some (.cells #[.pointer (some ⟨x,0,none⟩),.pointer (some ⟨y,0,none⟩),.string pr,.bool gr,.string la,.bool en] 95 (0,0))/\Z.I ms pb pr gr la en:=by
 obtain⟨pr,gr,la,en,hblk,hZ⟩:=hs.block
 have hpl:=lt_of_block hblk
 have hXL:=hs.prog.below hA
 have hYL:=hs.doc.below hA
 have hpx:p≠x:=by intro e;subst e;have:=hblk.symm.trans hs.prog.block;simp at this
 have pL:=(hA.block p hpl).trans hblk
 have p2:=(ho.block p (lt_of_block pL) (fun h=>h.elim hpx (row_ne hXL.prow pL (by decide)))).trans pL
 exact⟨hYL.overP hXL ho,ho.weaken (fun k _ h=>h.elim (fun e=>by rw[e];exact hs.fx.1) (fun e=>hs.fx.2.2 k e)),pr,gr,la,en,p2,hZ⟩
theorem SolveRes.answer{base x:Nat}{kv pv:Value}{ms:List Nat}{pb:List UInt8}{A:List Int}{B kind cf:Int}{w w':World}{mo co:Option Addr}{mk mc ck cc:Nat}(h:SolveRes base x kv ms pv pb (once A) B w kind (.slice mo mk mc) (.slice co ck cc) cf w')(hA:Lits A)(hB:0<=B):
  0<=cf/\(0<B->cf<=B)/\((kind=1/\co=none/\ck=0/\cc=0/\∃bb,bb<4096/\(∀x,x∈A->tru bb x=true)/\(∀g,g∈ms->holdsB bb g)/\Lies w' (.slice mo mk mc) (ints (modelOf bb)))∨
   (kind=2/\mo=none/\mk=0/\mc=0/\∃p:Int->Bool,Lies w' (.slice co ck cc) (ints ((once A).filter p))/\ck<=cc/\∀bb,(∀g,g∈ms->holdsB bb g)->∃x,x∈(once A).filter p/\tru bb x=false)∨
   (kind=3/\mo=none/\mk=0/\mc=0/\co=none/\ck=0/\cc=0/\0<B/\cf=B)):=by
 obtain⟨S,D,pv',core,-,hch,-,-,h4,h5,h6⟩:=h
 refine⟨h4,h5,?_⟩
 rcases h6 with⟨h1,h2,b,h3,hb,hg,hm⟩|⟨h1,h2,⟨p,hp⟩,hr,hf⟩|⟨h1,h2,h3,hb,hc⟩
 ·cases h2
  exact .inl ⟨h1,rfl,rfl,rfl,b,h3,fun y hy=>hb y ((once_mem A y).2 hy),hg,lies_of_owns hm (by simp[ints,modelOf])⟩
 ·cases h2
  refine .inr (.inl ⟨h1,rfl,rfl,rfl,p,?_,?_,fun bb hG=>?_⟩)
  ·rw[←hp]
   exact lies_of_owns hr (by simp[ints])
  ·rcases hr.2 with⟨hv,_⟩|⟨g,cap,cur,hv,_,_,hle,_⟩
   ·cases hv;exact Nat.le_refl _
   ·cases hv;exact hle
  ·have hA':∀y,y∈once A->y≠0:=fun y hy=>(hA y ((once_mem A y).1 hy)).1
   have:=fol_ent hf (b:=bb) (fun c hc=>(List.mem_append.1 hc).elim (hG c) (hch.ent hG c))
   have hne:∀y,y∈core.map (fun x=>-x)->y≠0:=fun y hy=>by
    obtain⟨z,hz,rfl⟩:=List.mem_map.1 hy
    rw[hp]at hz
    have:=hA' z (List.mem_filter.1 hz).1
    omega
   obtain⟨y,hy,ht⟩:=holds_iff.1 ((holdsB_mask hne).1 this)
   obtain⟨z,hz,rfl⟩:=List.mem_map.1 hy
   rw[hp]at hz
   rw[tru_neg bb (hA' z (List.mem_filter.1 hz).1)]at ht
   exact⟨z,hz,by simpa using ht⟩
 ·cases h2
  cases h3
  exact .inr (.inr ⟨h1,rfl,rfl,rfl,rfl,rfl,rfl,hb,hc⟩)
theorem nodup_le{α:Type}[DecidableEq α]:∀(l m:List α),l.Nodup->(∀x,x∈l->x∈m)->l.length<=m.length
 | [],_,_,_=>Nat.zero_le _
 | x::l,m,hn,hs=>by
  have hx:=hs x (by simp)
  rw[List.nodup_cons]at hn
  have h1:=nodup_le l (m.erase x) hn.2 (fun y hy=>(List.mem_erase_of_ne (fun e=>hn.1 (by rw[←e];exact hy))).2 (hs y (List.mem_cons_of_mem _ hy)))
  rw[List.length_erase_of_mem hx]at h1
  have:=List.length_pos_of_mem hx
  rw[List.length_cons]
  omega
theorem once_nodupB(A:List Int):∀n,(once (A.take n)).Nodup:=by
 intro n
 induction n with
 | zero=>simp[once]
 | succ n ih=>
  rcases Nat.lt_or_ge n A.length with h|h
  ·rw[once_step A n h]
   split
   ·exact ih
   ·rename_i hm
    rw[List.nodup_append]
    refine⟨ih,by simp,fun a ha b hb=>?_⟩
    simp at hb
    subst hb
    exact fun e=>hm (by rw[←e];exact ha)
  ·rw[List.take_of_length_le h]at ih
   rw[List.take_of_length_le (by omega)]
   exact ih
theorem once_24{A:List Int}(hA:Lits A):(once A).length<=24:=by
 have h1:=once_nodupB A A.length
 rw[List.take_length]at h1
 have:=nodup_le (once A) ((List.range 12).flatMap (fun(i:Nat)=>[(i:Int)+1,-((i:Int)+1)])) h1 (fun x hx=>by
  have:=hA x ((once_mem A x).1 hx)
  rw[List.mem_flatMap]
  refine⟨x.natAbs-1,List.mem_range.2 (by omega),?_⟩
  simp only[List.mem_cons,List.not_mem_nil,or_false]
  omega)
 exact Nat.le_trans this (by decide)
end Go.Proofs.YtekkkoipcghlmaaGreatDoor
namespace Go.Proofs.YtekkkoipcghlmaaGreatDoor
open Go.RowKit
structure Rule where
 I:Nat->List Nat->List UInt8->ByteArray->Bool->ByteArray->Bool->Prop
 new:∀q,I q [] [] ⟨#[]⟩ false ⟨#[]⟩ false
 add:∀q ms pb pr gr la en xs,I q ms pb pr gr la en->I q (addTo ms xs).2 pb pr gr la en
 reset:∀q la,I q [] [] ⟨#[]⟩ false la false
 more:∀q ms pb pr gr la en,I q ms pb pr gr la en->I (q+1) ms pb pr gr la en
 ok:∀q ms pb pr gr la en,I q ms pb pr gr la en->((∀m,m∈ms->m<2 ^ 24/\alwaysMask m=false)/\sizes ms<=400)/\pb.length<=q*700000097
 solve:∀q ms pb pr gr la en S D core (kind:Int) la',I q ms pb pr gr la en->Chain ms (stepMasks S) D->(∀s,s∈S->wfLits s.2)->S.length<=7000000->(kind=2->Lits core/\Sp.Fol (ms++D) (Sp.maskOf (core.map (fun x=>-x)))/\la'=bs (Sp.told (Sp.sorted (core.map (fun x=>-x)))))->
  I (q+1) ms (pb++(stepsText S++if kind=2 then Sp.told (Sp.litsOf (oppMask (Sp.maskOf core)))else [])) pr true la' (decide (kind=2))
def playOf(R:Rule)(base:Nat)(bk:Value)(G:Nat->Prop)(es:List Entry)(q:Nat):Play where
 bk:=bk
 G:=G
 J:=fun w=>BookIs base w bk G es/\es.length<=2*q
 I:=R.I q
 keep:=fun _ _ h hs hk=>⟨h.1.keep hs hk,h.2⟩
 new:=R.new q
 add:=R.add q
 reset:=R.reset q
structure SMid(base:Nat)(w:World)(F:Nat->Prop)(p x y:Nat)(kv lv:Value)(vs:List Value)(ms:List Nat)(pv':Value)(pb':List UInt8)(b1:Nat)(mv cv:Value)(mk ck:Nat)(xs ys:List Int)(ob:Obj)(rb:Nat)(ro:Array Value)(pr:ByteArray)(gr:Bool)(la:ByteArray)(en:Bool)(wz:World):Prop where
 only:Only F w wz
 prog:XAt base wz x kv ms pv' pb'
 doc:YAt base wz y lv vs ms
 blk:wz.heap[p]?=some (.cells #[.pointer (some ⟨x,0,none⟩),.pointer (some ⟨y,0,none⟩),.string pr,.bool gr,.string la,.bool en] 95 (0,0))
 pvf:∀g,pv'.ownBlock=some g->F g∨w.heap.size<=g
 mrow:wz.ownsRow b1 3 1 mv mk (ints xs)
 crow:wz.ownsRow b1 3 1 cv ck (ints ys)
 obox:wz.heap[w.heap.size]?=some ob
 rbox:wz.heap[rb]?=some (.cells ro 34 (0,0))
section
variable {base:Nat}{w wz wz':World}{F:Nat->Prop}{p x y:Nat}{kv lv:Value}{vs:List Value}{ms:List Nat}{pv pv':Value}{pb pb':List UInt8}{b1:Nat}{mv cv:Value}{mk ck:Nat}{xs ys:List Int}{ob:Obj}{rb:Nat}{ro:Array Value}{pr:ByteArray}{gr:Bool}{la:ByteArray}{en:Bool}{Z:Play}
theorem SMid.step{P:Nat->Prop}(h:SMid base w F p x y kv lv vs ms pv' pb' b1 mv cv mk ck xs ys ob rb ro pr gr la en wz)(hs:SideIs base w F p x kv y lv vs ms pv pb Z)(ho:Only P wz wz')(hP:∀k,P k->w.heap.size<k/\pv'.ownBlock≠some k/\mv.ownBlock≠some k/\cv.ownBlock≠some k/\k≠rb):SMid base w F p x y kv lv vs ms pv' pb' b1 mv cv mk ck xs ys ob rb ro pr gr la en wz':=by
 have hn:∀k,F k->¬P k:=fun k hk hp=>by have:=(hs.inn k hk).2;have:=(hP k hp).1;omega
 have low:∀k,F k->wz'.heap[k]?=wz.heap[k]?:=fun k hk=>ho.block k (by have:=(hs.inn k hk).2;have:=h.only.size;omega) (hn k hk)
 refine⟨⟨ho.os.trans h.only.os,ho.tape.trans h.only.tape,ho.output.trans h.only.output,Nat.le_trans h.only.size ho.size,fun k hk hf=>(ho.block k (Nat.lt_of_lt_of_le hk h.only.size) (fun hp=>by have:=(hP k hp).1;omega)).trans (h.only.block k hk hf)⟩,⟨(low x hs.fx.1).trans h.prog.block,h.prog.le,owns_at h.prog.row (fun g hg=>low g (hs.fx.2.1 g hg)),owns_at h.prog.prow (fun g hg=>ho.block g (h.prog.prow.lt g hg).2 (fun hp=>(hP g hp).2.1 hg))⟩,h.doc.keep hs.fy low,(low p hs.fp).trans h.blk,h.pvf,owns_at h.mrow (fun g hg=>ho.block g (h.mrow.lt g hg).2 (fun hp=>(hP g hp).2.2.1 hg)),owns_at h.crow (fun g hg=>ho.block g (h.crow.lt g hg).2 (fun hp=>(hP g hp).2.2.2.1 hg)),(ho.block _ (lt_of_block h.obox) (fun hp=>by have:=(hP _ hp).1;omega)).trans h.obox,(ho.block _ (lt_of_block h.rbox) (fun hp=>(hP _ hp).2.2.2.2 rfl)).trans h.rbox⟩
theorem SMid.below(h:SMid base w F p x y kv lv vs ms pv' pb' b1 mv cv mk ck xs ys ob rb ro pr gr la en wz)(hs:SideIs base w F p x kv y lv vs ms pv pb Z)(hb:Below wz.heap.size wz wz'):SMid base w F p x y kv lv vs ms pv' pb' b1 mv cv mk ck xs ys ob rb ro pr gr la en wz':=
 h.step hs (Only.of_below (fun _=>False) hb) (fun k hk=>hk.elim)
theorem SMid.put(h:SMid base w F p x y kv lv vs ms pv' pb' b1 mv cv mk ck xs ys ob rb ro pr gr la en wz)(hs:SideIs base w F p x kv y lv vs ms pv pb Z)(i:Nat)(v:Value){pr':ByteArray}{gr':Bool}{la':ByteArray}{en':Bool}(e:([.pointer (some ⟨x,0,none⟩),.pointer (some ⟨y,0,none⟩),.string pr,.bool gr,.string la,.bool en]:List Value).set i v=[.pointer (some ⟨x,0,none⟩),.pointer (some ⟨y,0,none⟩),.string pr',.bool gr',.string la',.bool en']):
  SMid base w F p x y kv lv vs ms pv' pb' b1 mv cv mk ck xs ys ob rb ro pr' gr' la' en' (wz.setCell ⟨p,i,none⟩ v):=by
 have hx:∀k,k≠p->(wz.setCell ⟨p,i,none⟩ v).heap[k]?=wz.heap[k]?:=fun k hk=>Below.heap_setCell _ _ _ _ hk
 have hpl:=(hs.inn p hs.fp).2
 have ne:∀{e:TypeId} {b n:Nat} {u:Value} {l:List Value},wz.ownsRow b e 1 u n l->95≠e->∀g,u.ownBlock=some g->(wz.setCell ⟨p,i,none⟩ v).heap[g]?=wz.heap[g]?:=fun hr he g hg=>hx g (fun e=>row_ne hr h.blk he (by rw[←e];exact hg))
 have hpx:x≠p:=by intro e;subst e;have:=h.blk.symm.trans h.prog.block;simp at this
 have hrb:p≠rb:=by intro e;subst e;have:=h.blk.symm.trans h.rbox;simp at this
 have hpy:y≠p:=by intro e;subst e;have:=h.blk.symm.trans h.doc.block;simp at this
 refine⟨h.only.trans (Only.setCell (p:=⟨p,i,none⟩) hs.fp _ _),⟨(hx x hpx).trans h.prog.block,h.prog.le,owns_at h.prog.row (ne h.prog.row (by decide)),owns_at h.prog.prow (ne h.prog.prow (by decide))⟩,⟨(hx y hpy).trans h.doc.block,h.doc.le,owns_at h.doc.row (ne h.doc.row (by decide)),h.doc.rows.1,fun j r c hr hc=>owns_at (h.doc.rows.2 j r c hr hc) (ne (h.doc.rows.2 j r c hr hc) (by decide))⟩,?_,h.pvf,owns_at h.mrow (ne h.mrow (by decide)),owns_at h.crow (ne h.crow (by decide)),(hx _ (by omega)).trans h.obox,(hx _ (Ne.symm hrb)).trans h.rbox⟩
 rw[heap_setCell_same wz p i _ _ v h.blk]
 simp only[List.setIfInBounds_toArray,e]
end
def Asked(R:Rule)(base:Nat)(w w':World)(B:Nat)(lv0 bk:Value)(F G:Nat->Prop)(p:Nat)(ms:List Nat)(q:Nat):Prop:=
 ∃bk' G' es' F',Only (fun k=>F k∨G k∨k=B) w w'/\SideAt base w' F' p ms (playOf R base bk' G' es' (q+1))/\BookIs base w' bk' G' es'/\es'.length<=2*(q+1)/\w'.heap[B]?=some (.cells #[lv0,bk'] 64 (0,0))/\(∀k,F' k->F k∨w.heap.size<=k)/\(∀k,G' k->(G k∨w.heap.size<=k)/\base<=k/\k<w'.heap.size)/\∀k,F' k->¬G' k
theorem keep_twice{R:Rule}{base:Nat}{w wz:World}{F G:Nat->Prop}{p x y:Nat}{kv lv:Value}{vs:List Value}{ms:List Nat}{pv pv':Value}{pb pb':List UInt8}{b1:Nat}{mo co:Option Addr}{mk mc ck cc:Nat}{xs ys:List Int}{ob:Obj}{rb:Nat}{ro:Array Value}{pr:ByteArray}{gr:Bool}{la:ByteArray}{en:Bool}{B q:Nat}{lv0 bk:Value}{es:List Entry}{Z:Play}
  (h:SMid base w F p x y kv lv vs ms pv' pb' b1 (.slice mo mk mc) (.slice co ck cc) mk ck xs ys ob rb ro pr gr la en wz) (hs:SideIs base w F p x kv y lv vs ms pv pb Z) (hBw:w.heap[B]?=some (.cells #[lv0,bk] 64 (0,0))) (hbook:BookIs base w bk G es) (hes:es.length<=2*q) (hq:q<=400000) (hG:∀k,G k->base<=k/\k<w.heap.size) (hFG:∀k,F k->¬G k) (hFB:¬F B) (hGB:¬G B) (hone:mo=none∨co=none) (hmk:mk<=24) (hck:ck<=24) (hb1:w.heap.size<b1) (hbz:b1<=wz.heap.size) (hI:R.I (q+1) ms pb' pr gr la en):
  ∀wx,Alike wz wx->Calls Tryz.prog 103 #[.pointer (some ⟨B,1,none⟩),.slice mo mk mc] wx fun e w1=>e=.returned (.tuple #[])/\w1.heap[rb]?=some (.cells ro 34 (0,0))/\B<w1.heap.size/\
   ∀wy,Alike w1 wy->Calls Tryz.prog 103 #[.pointer (some ⟨B,1,none⟩),.slice co ck cc] wy fun e w2=>e=.returned (.tuple #[])/\w2.heap[rb]?=some (.cells ro 34 (0,0))/\∀wf,Alike w2 wf->Asked R base w wf B lv0 bk F G p ms q:=by
 intro wx hax
 have hX:=h.below hs hax.below
 have hsx:=hax.size
 have hBl:=lt_of_block hBw
 have hsz:=hX.only.size
 have hbase:base<=w.heap.size:=Nat.le_trans hs.le (Nat.le_of_lt (hs.inn p hs.fp).2)
 have hBx:wx.heap[B]?=some (.cells #[lv0,bk] 64 (0,0)):=(hX.only.block B hBl hFB).trans hBw
 have hbkx:BookIs base wx bk G es:=hbook.keep hsz (fun k hk=>hX.only.block k (hG k hk).2 (fun hf=>hFG k hf hk))
 have mlt:∀g,(Value.slice mo mk mc).ownBlock=some g->b1<=g/\g<wx.heap.size:=fun g hg=>hX.mrow.lt g hg
 have clt:∀g,(Value.slice co ck cc).ownBlock=some g->b1<=g/\g<wx.heap.size:=fun g hg=>hX.crow.lt g hg
 have mB:(Value.slice mo mk mc).ownBlock≠some B:=row_ne hX.mrow hBx (by decide)
 have cB:(Value.slice co ck cc).ownBlock≠some B:=row_ne hX.crow hBx (by decide)
 have mr:(Value.slice mo mk mc).ownBlock≠some rb:=row_ne hX.mrow hX.rbox (by decide)
 have bkr:bk.ownBlock≠some rb:=row_ne hbkx.row hX.rbox (by decide)
 have hBr:rb≠B:=by intro e;subst e;have:=hBx.symm.trans hX.rbox;simp at this
 have bkG:∀g,bk.ownBlock=some g->G g:=hbook.foot
 have pvm:∀g,pv'.ownBlock=some g->(Value.slice mo mk mc).ownBlock≠some g:=fun g hg e=>rows_differ (by decide) hX.prog.prow hX.mrow hg e
 have pvc:∀g,pv'.ownBlock=some g->(Value.slice co ck cc).ownBlock≠some g:=fun g hg e=>rows_differ (by decide) hX.prog.prow hX.crow hg e
 have mc0:∀g,(Value.slice co ck cc).ownBlock=some g->(Value.slice mo mk mc).ownBlock≠some g:=fun g hg e=>by
  rcases hone with e1|e1
  ·subst e1;cases e
  ·subst e1;cases hg
 refine(keepB_any base b1 B lv0 bk G es wx mo mk mc xs hBx hbkx (fun k hk=>⟨(hG k hk).1,by have:=(hG k hk).2;omega⟩) hGB hX.mrow (fun g hg=>⟨fun hg2=>by have:=(hG g hg2).2;have:=(mlt g hg).1;omega,by have:=(mlt g hg).1;omega⟩) (by omega) (by omega) (by omega) (by omega)).mono ?_
 rintro e w1 ⟨rfl,bk1,G1,es1,hbk1,hes1,ho1,hB1,hG1⟩
 have hs1:=ho1.size
 have hrb1:w1.heap[rb]?=some (.cells ro 34 (0,0)):=(ho1.block rb (lt_of_block hX.rbox) (fun hf=>by
  rcases hf with e|e|e
  ·exact hBr e
  ·exact mr e
  ·exact bkr e)).trans hX.rbox
 refine⟨rfl,hrb1,lt_of_block hB1,fun wy hay=>?_⟩
 have hsy:=hay.size
 have al:∀k,k<w1.heap.size->wy.heap[k]?=w1.heap[k]?:=fun k hk=>hay.below.block k hk
 have hBy:wy.heap[B]?=some (.cells #[lv0,bk1] 64 (0,0)):=(al B (lt_of_block hB1)).trans hB1
 have hbky:BookIs base wy bk1 G1 es1:=hbk1.keep (by omega) (fun k hk=>al k (hG1 k hk).2.2)
 have cG1:∀g,(Value.slice co ck cc).ownBlock=some g->¬G1 g:=fun g hg hf=>by
  have:=clt g hg
  rcases (hG1 g hf).1 with e|e|e
  ·have:=(hG g e).2;omega
  ·exact mc0 g hg e
  ·omega
 have hcy:wy.ownsRow b1 3 1 (.slice co ck cc) ck (ints ys):=owns_at hX.crow (fun g hg=>(al g (by have:=clt g hg;omega)).trans (ho1.block g (clt g hg).2 (fun hf=>by
  rcases hf with e|e|e
  ·exact cB (by rw[←e];exact hg)
  ·exact mc0 g hg e
  ·have:=(hG g (bkG g e)).2;have:=clt g hg;omega)))
 have hGB1:¬G1 B:=fun hf=>by
  rcases (hG1 B hf).1 with e|e|e
  ·exact hGB e
  ·exact mB e
  ·omega
 refine(keepB_any base b1 B lv0 bk1 G1 es1 wy co ck cc ys hBy hbky (fun k hk=>⟨(hG1 k hk).2.1,by have:=(hG1 k hk).2.2;omega⟩) hGB1 hcy (fun g hg=>⟨cG1 g hg,by have:=(clt g hg).1;omega⟩) (by omega) (by omega) (by omega) (by omega)).mono ?_
 rintro e w2 ⟨rfl,bk2,G2,es2,hbk2,hes2,ho2,hB2,hG2⟩
 have hrby:wy.heap[rb]?=some (.cells ro 34 (0,0)):=(al rb (lt_of_block hrb1)).trans hrb1
 refine⟨rfl,(ho2.block rb (lt_of_block hrby) (fun hf=>?_)).trans hrby,fun wf haf=>?_⟩
 ·rcases hf with e|e|e
  ·exact hBr e
  ·exact row_ne hcy hrby (by decide) e
  ·exact row_ne hbky.row hrby (by decide) e
 have hs2:=ho2.size
 have hsf:=haf.size
 have alf:∀k,k<w2.heap.size->wf.heap[k]?=w2.heap[k]?:=fun k hk=>haf.below.block k hk
 have st:∀k,k<wx.heap.size->k≠B->(Value.slice mo mk mc).ownBlock≠some k->(Value.slice co ck cc).ownBlock≠some k->¬G k->wf.heap[k]?=wx.heap[k]?:=fun k hk hb hm hc hg=>by
  have g1:bk1.ownBlock≠some k:=fun e=>by
   rcases (hG1 k (hbk1.foot k e)).1 with e|e|e
   ·exact hg e
   ·exact hm e
   ·omega
  rw[alf k (by omega),ho2.block k (by omega) (fun hf=>by
   rcases hf with e|e|e
   ·exact hb e
   ·exact hc e
   ·exact g1 e),al k (by omega)]
  exact ho1.block k hk (fun hf=>by
   rcases hf with e|e|e
   ·exact hb e
   ·exact hm e
   ·exact hg (bkG k e))
 have low:∀k,k<w.heap.size->k≠B->¬G k->wf.heap[k]?=wx.heap[k]?:=fun k hk hb hg=>st k (by omega) hb (fun e=>by have:=(mlt k e).1;omega) (fun e=>by have:=(clt k e).1;omega) hg
 have lowF:∀k,F k->wf.heap[k]?=wx.heap[k]?:=fun k hk=>low k (hs.inn k hk).2 (fun e=>hFB (by rw[←e];exact hk)) (hFG k hk)
 have pvB:pv'.ownBlock≠some B:=row_ne hX.prog.prow hBx (by decide)
 have pvG:∀g,pv'.ownBlock=some g->¬G g:=fun g hg hf=>by
  rcases hX.pvf g hg with e|e
  ·exact hFG g e hf
  ·have:=(hG g hf).2;omega
 have pvk:∀g,pv'.ownBlock=some g->wf.heap[g]?=wx.heap[g]?:=fun g hg=>st g (hX.prog.prow.lt g hg).2 (fun e=>pvB (by rw[←e];exact hg)) (pvm g hg) (pvc g hg) (pvG g hg)
 have hG2':∀k,G2 k->(G k∨(Value.slice mo mk mc).ownBlock=some k∨(Value.slice co ck cc).ownBlock=some k∨wx.heap.size<=k)/\base<=k/\k<wf.heap.size:=fun k hk=>by
  obtain⟨h1,h2,h3⟩:=hG2 k hk
  refine⟨?_,h2,by omega⟩
  rcases h1 with e|e|e
  ·rcases (hG1 k e).1 with e|e|e
   ·exact .inl e
   ·exact .inr (.inl e)
   ·exact .inr (.inr (.inr e))
  ·exact .inr (.inr (.inl e))
  ·exact .inr (.inr (.inr (by omega)))
 have hbkf:BookIs base wf bk2 G2 es2:=hbk2.keep (by omega) (fun k hk=>alf k (hG2 k hk).2.2)
 have hx2:XAt base wf x kv ms pv' pb':=⟨(lowF x hs.fx.1).trans hX.prog.block,hX.prog.le,owns_at hX.prog.row (fun g hg=>lowF g (hs.fx.2.1 g hg)),owns_at hX.prog.prow pvk⟩
 refine⟨bk2,G2,es2,fun k=>F k∨pv'.ownBlock=some k,⟨haf.below.os.trans (ho2.os.trans (hay.below.os.trans (ho1.os.trans hX.only.os))),haf.below.tape.trans (ho2.tape.trans (hay.below.tape.trans (ho1.tape.trans hX.only.tape))),haf.below.output.trans (ho2.output.trans (hay.below.output.trans (ho1.output.trans hX.only.output))),by omega,fun k hk hn=>?_⟩,⟨x,kv,y,lv,vs,pv',pb',⟨_,_,_,_,(lowF p hs.fp).trans hX.blk,hI⟩,hs.le,hx2,hX.doc.keep hs.fy lowF,.inl hs.fp,⟨.inl hs.fx.1,fun g hg=>.inl (hs.fx.2.1 g hg),fun g hg=>.inr hg⟩,⟨.inl hs.fy.1,fun g hg=>.inl (hs.fy.2.1 g hg),fun v hv g hg=>.inl (hs.fy.2.2 v hv g hg)⟩,fun k hk=>?_,hs.small⟩,hbkf,by omega,(alf B (lt_of_block hB2)).trans hB2,fun k hk=>?_,fun k hk=>?_,fun k hk hg=>?_⟩
 ·have hn1:¬F k:=fun e=>hn (.inl e)
  have hn2:¬G k:=fun e=>hn (.inr (.inl e))
  exact(low k hk (fun e=>hn (.inr (.inr e))) hn2).trans (hX.only.block k hk hn1)
 ·rcases hk with hk|hk
  ·exact⟨(hs.inn k hk).1,by have:=(hs.inn k hk).2;omega⟩
  ·exact hx2.prow.lt k hk
 ·rcases hk with hk|hk
  ·exact .inl hk
  ·exact hX.pvf k hk
 ·obtain⟨h1,h2,h3⟩:=hG2' k hk
  refine⟨?_,h2,h3⟩
  rcases h1 with e|e|e|e
  ·exact .inl e
  ·exact .inr (by have:=(mlt k e).1;omega)
  ·exact .inr (by have:=(clt k e).1;omega)
  ·exact .inr (by omega)
 ·obtain⟨h1,-,-⟩:=hG2' k hg
  rcases hk with hk|hk
  ·have:=(hs.inn k hk).2
   rcases h1 with e|e|e|e
   ·exact hFG k hk e
   ·have:=(mlt k e).1;omega
   ·have:=(clt k e).1;omega
   ·omega
  ·rcases h1 with e|e|e|e
   ·exact pvG k hk e
   ·exact pvm k hk e
   ·exact pvc k hk e
   ·have:=(hX.prog.prow.lt k hk).2;omega
theorem WIs.asked{R:Rule}{base:Nat}{w w':World}{B n:Nat}{lv:Value}{p:Nat->Nat}{F:Nat->Nat->Prop}{ms:Nat->List Nat}{bk:Value}{G:Nat->Prop}{es:List Entry}{q:Nat}(h:WIs base w B n lv p F ms (playOf R base bk G es q)){d:Nat}(hd:d<n)(ha:Asked R base w w' B lv bk (F d) G (p d) (ms d) q):
  ∃bk' G' es' F',WIs base w' B n lv p F' ms (playOf R base bk' G' es' (q+1))/\Below base w w':=by
 obtain⟨bk',G',es',F',ho,hs,hbk,hes,hB,hF,hG,hFG⟩:=ha
 have hlt:∀i,i<n->∀k,F i k->k<w.heap.size:=fun i hi k hk=>by
  obtain⟨x,kv,y,lv',vs,pv,pb,hh⟩:=h.sides i hi
  exact(hh.inn k hk).2
 have hle:∀i,i<n->∀k,F i k->base<=k:=fun i hi k hk=>by
  obtain⟨x,kv,y,lv',vs,pv,pb,hh⟩:=h.sides i hi
  exact(hh.inn k hk).1
 have hBlt:=lt_of_block h.block
 have hrow:∀g,lv.ownBlock=some g->g<w.heap.size:=fun g hg=>(h.row.lt g hg).2
 have hrB:lv.ownBlock≠some B:=row_ne h.row h.block (by decide)
 have off:∀k,k<w.heap.size->¬F d k->¬F' k:=fun k hk hn hf=>by
  rcases hF k hf with h1|h1
  ·exact hn h1
  ·omega
 have offG:∀k,k<w.heap.size->¬G k->¬G' k:=fun k hk hn hf=>by
  rcases (hG k hf).1 with h1|h1
  ·exact hn h1
  ·omega
 have key:∀i,i<n->i≠d->∀k,F i k->w'.heap[k]?=w.heap[k]?:=fun i hi hid k hk=>ho.block k (hlt i hi k hk) (fun hf=>by
  rcases hf with e|e|e
  ·exact h.apart i d hi hd hid k hk e
  ·exact h.apartG i hi k hk e
  ·subst e;exact h.notB i hi hk)
 refine⟨bk',G',es',fun i=>if i=d then F' else F i,⟨hB,h.le,owns_at h.row (fun g hg=>ho.block g (hrow g hg) (fun hf=>?_)),fun i hi=>?_,fun i j hi hj hij k hk=>?_,fun i hi=>?_,fun i hi g hg=>?_,h.four,⟨hbk,hes⟩,fun k hk=>(hG k hk).2,fun i hi k hk hg=>?_,offG B hBlt h.notBG,fun g hg=>offG g (hrow g hg) (h.notRowG g hg)⟩,ho.below (fun k hk=>?_) (Nat.le_trans h.le (Nat.le_of_lt hBlt))⟩
 ·rcases hf with e|e|e
  ·exact h.notRow d hd g hg e
  ·exact h.notRowG g hg e
  ·exact hrB (by rw[←e];exact hg)
 ·by_cases e:i=d
  ·subst e;simp only[if_true];exact hs
  ·simp only[if_neg e]
   obtain⟨x,kv,y,lv',vs,pv,pb,hh⟩:=(h.sides i hi).keep ho.size (key i hi e)
   obtain⟨pr,gr,la,en,hb,hZ⟩:=hh.block
   exact⟨x,kv,y,lv',vs,pv,pb,⟨pr,gr,la,en,hb,R.more _ _ _ _ _ _ _ hZ⟩,hh.le,hh.prog,hh.doc,hh.fp,hh.fx,hh.fy,hh.inn,hh.small⟩
 ·by_cases e:i=d
  ·subst e
   simp only[if_true,if_neg (Ne.symm hij)]at hk⊢
   intro hj'
   exact off k (hlt j hj k hj') (fun hf=>h.apart i j hi hj hij k hf hj') hk
  ·simp only[if_neg e]at hk
   by_cases e2:j=d
   ·subst e2
    simp only[if_true]
    exact off k (hlt i hi k hk) (h.apart i j hi hj hij k hk)
   ·simp only[if_neg e2];exact h.apart i j hi hj hij k hk
 ·by_cases e:i=d
  ·subst e;simp only[if_true];exact off B hBlt (h.notB i hi)
  ·simp only[if_neg e];exact h.notB i hi
 ·by_cases e:i=d
  ·subst e;simp only[if_true];exact off g (hrow g hg) (h.notRow i hi g hg)
  ·simp only[if_neg e];exact h.notRow i hi g hg
 ·by_cases e:i=d
  ·subst e
   simp only[if_true]at hk
   exact hFG k hk hg
  ·simp only[if_neg e]at hk
   exact offG k (hlt i hi k hk) (h.apartG i hi k hk) hg
 ·rcases hk with e|e|e
  ·exact hle d hd k e
  ·exact(h.inG k e).1
  ·rw[e];exact h.le
theorem WIs.later{R:Rule}{base:Nat}{w:World}{B n:Nat}{lv:Value}{p:Nat->Nat}{F:Nat->Nat->Prop}{ms:Nat->List Nat}{bk:Value}{G:Nat->Prop}{es:List Entry}{q:Nat}(h:WIs base w B n lv p F ms (playOf R base bk G es q)):WIs base w B n lv p F ms (playOf R base bk G es (q+1)):=by
 refine⟨h.block,h.le,h.row,fun i hi=>?_,h.apart,h.notB,h.notRow,h.four,⟨h.book.1,by have:=h.book.2;omega⟩,h.inG,h.apartG,h.notBG,h.notRowG⟩
 obtain⟨x,kv,y,lv',vs,pv,pb,hh⟩:=h.sides i hi
 obtain⟨pr,gr,la,en,hb,hZ⟩:=hh.block
 exact⟨x,kv,y,lv',vs,pv,pb,⟨pr,gr,la,en,hb,R.more _ _ _ _ _ _ _ hZ⟩,hh.le,hh.prog,hh.doc,hh.fp,hh.fx,hh.fy,hh.inn,hh.small⟩
end Go.Proofs.YtekkkoipcghlmaaGreatDoor
