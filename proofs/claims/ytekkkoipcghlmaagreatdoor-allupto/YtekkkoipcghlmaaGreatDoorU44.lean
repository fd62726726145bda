import Derived.Test.YtekkkoipcghlmaaGreatDoorU43
import Derived.Test.YtekkkoipcghlmaaGreatDoorU29
import Derived.Test.YtekkkoipcghlmaaGreatDoorCards
import Derived.Test.YtekkkoipcghlmaaGreatDoorTie
import Derived.ProofKit
import Derived.OpenShut
import Derived.Deep.DeepHandedRow
import Derived.Deep.Slices
import Derived.Lib.LaidTab
import Derived.Lib.LaidU8
import Derived.Lay
import Derived.Stop.LaidErr
import Derived.Shelf.Vars
import Derived.SevenTiedAt
set_option linter.all false
namespace Go.Proofs.YtekkkoipcghlmaaGreatDoor
open Go.RowKit Go.Maps
theorem aE3{base p bm n m:Nat}{L:List Nat}{w:World}(hst:St base w p bm n L)(hn:n<=10000000)(hl:L.length<=10000000)(hL:Small L)(hm:m<2 ^ 24):
  Calls Tryz.prog 141 #[.pointer (some ⟨p,0,none⟩),.int .u32 m] w fun e w'=>yF L m w e w':=by
 obtain⟨ev,D,E,hla,hbag,hEn⟩:=hst
 refine pP p ev E L m w (cH hla.block) hla.cell0 hla.lies (by omega) hbag.live (fun x hx=>?_) hL hm
 have hc:=hbag.count x hx
 refine⟨by rw[←hc];exact Nat.le_trans List.count_le_length hl,fun h0=>hL _ (List.count_pos_iff.1 (by omega))⟩
theorem St.base_le{base p bm n:Nat}{L:List Nat}{w:World}(h:St base w p bm n L):base<=w.heap.size:=by
 obtain⟨ev,D,E,hla,_,_⟩:=h
 exact Nat.le_trans hla.lep (Nat.le_of_lt (cH hla.block))
def iD(base p bm n:Nat)(L:List Nat)(x:List UInt8×Bool)(er:Int)(w':World):Prop:=
 (Sp.stepOk x=false/\er=6)∨
 (Sp.stepOk x=true/\(Sp.stepOf x.1).1=true/\((Sp.stepMask x.1∉L/\er=7)∨(Sp.stepMask x.1∈L/\er=0/\St base w' p bm (n+1) (L.erase (Sp.stepMask x.1)))))∨
 (Sp.stepOk x=true/\(Sp.stepOf x.1).1=false/\((¬Sp.Fol L (Sp.stepMask x.1)/\er=8)∨(Sp.Fol L (Sp.stepMask x.1)/\er=0/\St base w' p bm (n+1) (L++[Sp.stepMask x.1]))))
def aJ8(base p bm n:Nat)(L:List Nat)(x:List UInt8×Bool)(w:World)(e:Ending)(w':World):Prop:=∃er:Int,e=.returned (.int .i64 er)/\iD base p bm n L x er w'/\Below base w w'/\Frame bm w w'
theorem St.more{base p bm n:Nat}{L:List Nat}{w:World}(h:St base w p bm n L):St base w p bm (n+1) L:=by
 obtain⟨ev,D,E,h1,h2,h3⟩:=h
 exact⟨ev,D,E,h1,h2,by omega⟩
set_option maxRecDepth 100000 in
set_option maxHeartbeats 800000 in
theorem aC3(base p bm n:Nat)(L:List Nat)(x:List UInt8)(en:Bool)(w:World)(hst:St base w p bm n L)(hn:n<=100000)(hl:L.length<=100000)(hL:Small L)(hx:x.length<=6000)(h:en=false->x.getLast?≠some 10)(he:Env w):
  Calls Tryz.prog 94 #[.pointer (some ⟨p,0,none⟩),.string (bs (bF x en))] w fun e w'=>aJ8 base p bm n L (x,en) w e w':=by
 have HR:=aq (tE x en w hx h he)
 have HST:=aq hst
 have hbs:=hst.base_le
 have hml:=iN x
 have HSL:=aq hL
 clear hst hL h he
 generalize bs (bF x en)=line at *
 go_enter Tryz.func94,Tryz.ntmps94
 go_wp2_with fail
 refine(dz HR).mono ?_
 rintro e w1 ⟨c,rfl,hc,hb1⟩
 have hbb1:Below base w w1:=hb1.mono hbs
 have hfr1:Frame bm w w1:=Frame.below hb1
 have HS1:=aq ((dz HST).below hb1)
 simp only at hc⊢
 cases hok:Sp.stepOk (x,en)
 ·have HOK:=aq hok
  clear hok hc
  generalize (Sp.stepOf x).1=gg
  go_wp2
  go_ret
  exact⟨6,rfl,.inl ⟨dz HOK,rfl⟩,hbb1,hfr1⟩
 ·have hce:=hc hok
  subst hce
  have HOK:=aq hok
  clear hok hc
  cases hgo:(Sp.stepOf x).1
  ·have HGO:=aq hgo
   clear hgo
   have HF:=aq (aE3 (dz HS1) (by omega) (by omega) (dz HSL) hml)
   have HAD:=aq (fun(w2:World) (hb2:Below w1.heap.size w1 w2)=>wD base p bm n (Sp.stepMask x) L w2 ((dz HS1).below hb2) (by omega) (by omega) hml)
   have HT1:Hid (¬Sp.Fol L (Sp.stepMask x)->∀w',iD base p bm n L (x,en) 8 w'):=aq (fun h w'=>.inr (.inr ⟨dz HOK,dz HGO,.inl ⟨h,rfl⟩⟩))
   have HT2:Hid (Sp.Fol L (Sp.stepMask x)->∀w',St base w' p bm (n+1) (L++[Sp.stepMask x])->iD base p bm n L (x,en) 0 w'):=aq (fun h w' hs=>.inr (.inr ⟨dz HOK,dz HGO,.inr ⟨h,rfl,hs⟩⟩))
   generalize Sp.stepMask x=m at *
   go_wp2_with fail
   refine(dz HF).mono ?_
   rintro e w2 ⟨r,rfl,hr,hb2⟩
   have HRR:=aq hr
   clear hr
   have hbb2:Below base w w2:=hbb1.trans (hb2.mono (Nat.le_trans hbs hb1.size))
   have hfr2:Frame bm w w2:=hfr1.trans (Frame.below hb2)
   cases r
   ·have HFN:=aq (dz HT1 (fun h=>by have:=(dz HRR).2 h;cases this))
    go_wp2
    go_ret
    exact⟨8,rfl,dz HFN _,hbb2,hfr2⟩
   ·have HFN:=aq (dz HT2 ((dz HRR).1 rfl))
    go_wp2_with fail
    refine(dz HAD w2 hb2).mono ?_
    rintro e w3 ⟨rfl,hs3,hb3,hf3⟩
    have HS3:=aq hs3
    clear hs3
    go_wp2
    go_ret
    exact⟨0,rfl,dz HFN _ (dz HS3),hbb2.trans hb3,hfr2.trans hf3⟩
  ·have HGO:=aq hgo
   clear hgo
   have HDR:=aq (aI8 base p bm n (Sp.stepMask x) L w1 (dz HS1) (by omega) (by omega) hml)
   have HT1:Hid (Sp.stepMask x∉L->∀w',iD base p bm n L (x,en) 7 w'):=aq (fun h w'=>.inr (.inl ⟨dz HOK,dz HGO,.inl ⟨h,rfl⟩⟩))
   have HT2:Hid (Sp.stepMask x∈L->∀w',St base w' p bm n (L.erase (Sp.stepMask x))->iD base p bm n L (x,en) 0 w'):=aq (fun h w' hs=>.inr (.inl ⟨dz HOK,dz HGO,.inr ⟨h,rfl,hs.more⟩⟩))
   generalize Sp.stepMask x=m at *
   go_wp2_with fail
   refine(dz HDR).mono ?_
   rintro e w2 ⟨r,rfl,hr,hs2,hb2,hf2⟩
   have HRR:=aq hr
   have HS2:=aq hs2
   clear hr hs2
   cases r
   ·have HFN:=aq (dz HT1 (fun h=>by have:=(dz HRR).2 h;cases this))
    go_wp2
    go_ret
    exact⟨7,rfl,dz HFN _,hbb1.trans hb2,hfr1.trans hf2⟩
   ·have HFN:=aq (dz HT2 ((dz HRR).1 rfl))
    go_wp2
    go_ret
    exact⟨0,rfl,dz HFN _ (dz HS2),hbb1.trans hb2,hfr1.trans hf2⟩
end Go.Proofs.YtekkkoipcghlmaaGreatDoor
namespace Go.Proofs.YtekkkoipcghlmaaGreatDoor
open Go.RowKit Go.Shelf Go.Maps
attribute [local go_sem] Oper.semAt_some
theorem St.move{base:Nat}{W W':World}{p bm n:Nat}{M:List Nat}(h:St base W p bm n M)(hk:∀k o,W.heap[k]?=some o->(k=p∨k=bm∨∃cs fz,o=.cells cs 221 fz)->W'.heap[k]?=some o):St base W' p bm n M:=by
 obtain⟨ev,D,E,hla,h2,h3⟩:=h
 refine⟨ev,D,E,⟨hk _ _ hla.block (.inl rfl),hla.lep,hla.lem,⟨hla.row.1,?_⟩,?_,hla.places⟩,h2,h3⟩
 ·rcases hla.row.2 with h'|⟨g,cap,cur,hv,hg,hh,hr⟩
  ·exact .inl h'
  ·exact .inr ⟨g,cap,cur,hv,hg,hk _ _ hh (.inr (.inr ⟨_,_,rfl⟩)),hr⟩
 ·obtain⟨es,clock,hm,hr⟩:=hla.map
  exact⟨es,clock,hk _ _ hm (.inr (.inl rfl)),hr⟩
structure PInv(w:World)(b0 b p bm k0:Nat)(s:List UInt8)(L:List (List UInt8×Bool))(n:Nat)(W:World):Prop where
 r0:Boxed W w.heap.size 35 (.int .i64 0)
 r1:Boxed W (w.heap.size+1) 3 (.int .i64 0)
 lb:Boxed W b 146 (.pointer (some ⟨p,0,none⟩))
 num:Boxed W (b+1) 3 (.int .i64 n)
 box:∃u,Boxed W (b+2) 9 u
 bel:Below w.heap.size w W
 st:∃M,St b0 W p bm (k0+L.length) M/\Small M/\M.length<=k0+L.length/\∀rest r,Sp.Outcome M L.length rest r->Sp.Outcome (bV s) 0 (L++rest) r
 hw:w.heap.size+2<=b
 hp:p<b
 hm:bm<b
section
theorem PInv.move{w:World}{b0 b p bm k0:Nat}{s:List UInt8}{L:List (List UInt8×Bool)}{n:Nat}{W:World}(h:PInv w b0 b p bm k0 s L n W){m:Nat}{W':World}(hk:∀k o,k≠b+2->k≠b+1->W.heap[k]?=some o->(o.isCells=true∨k<b)->W'.heap[k]?=some o)
  (hn:Boxed W' (b+1) 3 (.int .i64 m)) (hb:∃u,Boxed W' (b+2) 9 u) (hbel:Below w.heap.size w W'):PInv w b0 b p bm k0 s L m W':=by
 obtain⟨M,hst,h1,h2,h3⟩:=h.st
 obtain⟨u,hu⟩:=h.box
 have hnum:=h.num
 have hw:=h.hw
 have hp:=h.hp
 have hm:=h.hm
 refine⟨hk _ _ (by omega) (by omega) h.r0 (.inl rfl),hk _ _ (by omega) (by omega) h.r1 (.inl rfl),hk _ _ (by omega) (by omega) h.lb (.inl rfl),hn,hb,hbel,⟨M,hst.move ?_,h1,h2,h3⟩,hw,hp,hm⟩
 rintro k o ho (rfl|rfl|⟨cs,fz,rfl⟩)
 ·exact hk _ _ (by omega) (by omega) ho (.inr hp)
 ·exact hk _ _ (by omega) (by omega) ho (.inr hm)
 ·refine hk _ _ ?_ ?_ ho (.inl rfl)
  ·rintro rfl
   have:=(show W.heap[b+2]?=_ from hu).symm.trans ho
   simp at this
  ·rintro rfl
   have:=(show W.heap[b+1]?=_ from hnum).symm.trans ho
   simp at this
theorem PInv.set{w:World}{b0 b p bm k0:Nat}{s:List UInt8}{L:List (List UInt8×Bool)}{n:Nat}{W:World}(h:PInv w b0 b p bm k0 s L n W)(v:Value):PInv w b0 b p bm k0 s L n (W.setCell ⟨b+2,0,none⟩ v):=by
 obtain⟨u,hu⟩:=h.box
 have hw:=h.hw
 exact h.move (fun k o hne _ hk _=>(Below.heap_setCell W _ _ _ hne).trans hk) ((Below.heap_setCell W _ _ _ (by simp)).trans h.num) ⟨v,hu.set v⟩ (h.bel.setCell (p:=⟨b+2,0,none⟩) (by simp;omega) v)
theorem PInv.bump{w:World}{b0 b p bm k0:Nat}{s:List UInt8}{L:List (List UInt8×Bool)}{n:Nat}{W:World}(h:PInv w b0 b p bm k0 s L n W)(m:Nat):PInv w b0 b p bm k0 s L m (W.setCell ⟨b+1,0,none⟩ (.int .i64 m)):=by
 obtain⟨u,hu⟩:=h.box
 have hw:=h.hw
 exact h.move (fun k o _ hne hk _=>(Below.heap_setCell W _ _ _ hne).trans hk) (h.num.set _) ⟨u,(Below.heap_setCell W _ _ _ (by simp)).trans hu⟩ (h.bel.setCell (p:=⟨b+1,0,none⟩) (by simp;omega) _)
theorem PInv.drew{w:World}{b0 b p bm k0:Nat}{s:List UInt8}{L:List (List UInt8×Bool)}{n:Nat}{W:World}(h:PInv w b0 b p bm k0 s L n W):PInv w b0 b p bm k0 s L n W.drew:=h.move (fun _ _ _ _ hk _=>hk) h.num h.box h.bel.drew
end
theorem aK2(w:World)(b0 b p bm k0:Nat)(s:List UInt8):OwnFrom (b+3) (fun L=>PInv w b0 b p bm k0 s L L.length):=by
 intro L W W' row h hg hr
 obtain⟨u,hu⟩:=h.box
 have hw:=h.hw
 have hne:∀k o,W.heap[k]?=some o->(o.isCells=true∨k<b)->some k≠row:=by
  intro k o hk ho e
  obtain⟨hB,o',ho',hc⟩:=hr k e.symm
  rcases ho with ho|ho
  ·rw[hk]at ho';cases ho';rw[ho]at hc;cases hc
  ·omega
 exact h.move (fun k o _ _ hk ho=>(hg.block k (cH hk) (hne k o hk ho)).trans hk) (h.num.kept hg (hne _ _ h.num (.inl rfl))) ⟨u,hu.kept hg (hne _ _ hu (.inl rfl))⟩
  (h.bel.grown hg h.bel.size (fun k e=>by have:=(hr k e).1;omega))
structure PStop(w:World)(b:Nat)(s t:List UInt8)(L:List (List UInt8×Bool))(W:World):Prop where
 out:∃er:Int,Boxed W w.heap.size 35 (.int .i64 er)/\Sp.Outcome (bV s) 0 (Sp.segs t) (er,(L.length:Int))
 r1:Boxed W (w.heap.size+1) 3 (.int .i64 L.length)
 bel:Below w.heap.size w W
 hw:w.heap.size+2<=b
theorem aB0(w:World)(b:Nat)(s t:List UInt8):OwnFrom (b+3) (PStop w b s t):=by
 intro L W W' row h hg hr
 have hne:∀k o,W.heap[k]?=some o->o.isCells=true->some k≠row:=by
  intro k o hk ho e
  obtain⟨_,o',ho',hc⟩:=hr k e.symm
  rw[hk]at ho';cases ho';rw[ho]at hc;cases hc
 obtain⟨er,h1,h2⟩:=h.out
 have hw:=h.hw
 exact⟨⟨er,h1.kept hg (hne _ _ h1 rfl),h2⟩,h.r1.kept hg (hne _ _ h.r1 rfl),h.bel.grown hg h.bel.size (fun k e=>by have:=(hr k e).1;omega),hw⟩
theorem St.lts{base:Nat}{W:World}{p bm n:Nat}{M:List Nat}(h:St base W p bm n M):p<W.heap.size/\bm<W.heap.size:=by
 obtain⟨ev,D,E,hla,_,_⟩:=h
 exact⟨cH hla.block,hla.map.lt⟩
theorem aC7{base p bm k:Nat}{M:List Nat}{x:List UInt8×Bool}{W:World}(h:iD base p bm k M x 0 W)(hM:Small M):∃M',St base W p bm (k+1) M'/\Small M'/\M'.length<=M.length+1/\∀(n:Nat) rest r,Sp.Outcome M' (n+1) rest r->Sp.Outcome M n (x::rest) r:=by
 rcases h with⟨_,h⟩|⟨h1,h2,⟨_,h⟩|⟨h3,_,h4⟩⟩|⟨h1,h2,⟨_,h⟩|⟨h3,_,h4⟩⟩
 ·omega
 ·omega
 ·exact⟨_,h4,hM.erase _,Nat.le_trans (List.length_erase_le) (Nat.le_succ _),fun n rest r hr=>.inr ⟨h1,.inl ⟨h2,.inl ⟨h3,hr⟩⟩⟩⟩
 ·omega
 ·exact⟨_,h4,hM.snoc (iN _),by simp,fun n rest r hr=>.inr ⟨h1,.inr ⟨h2,.inl ⟨h3,hr⟩⟩⟩⟩
theorem zW{base p bm k:Nat}{M:List Nat}{x:List UInt8×Bool}{W:World}{er:Int}(h:iD base p bm k M x er W)(he:er≠0)(n:Nat)(rest:List (List UInt8×Bool)):Sp.Outcome M n (x::rest) (er,(n:Int)+1):=by
 rcases h with⟨h1,rfl⟩|⟨h1,h2,⟨h3,rfl⟩|⟨_,h,_⟩⟩|⟨h1,h2,⟨h3,rfl⟩|⟨_,h,_⟩⟩
 ·exact .inl ⟨h1,rfl⟩
 ·exact .inr ⟨h1,.inl ⟨h2,.inr ⟨h3,rfl⟩⟩⟩
 ·exact absurd h he
 ·exact .inr ⟨h1,.inr ⟨h2,.inr ⟨h3,rfl⟩⟩⟩
 ·exact absurd h he
theorem jG{v:Value}{t:TypeId}(h1:t≠186)(h2:t≠221):lP (.cells #[v] t (0,0)):=fun cs fz=>⟨fun h=>h1 (by cases h;rfl),fun h=>h2 (by cases h;rfl)⟩
theorem pQ{o:Obj}(h:o.isCells=false):lP o:=fun cs fz=>⟨fun e=>(by subst e;cases h),fun e=>(by subst e;cases h)⟩
theorem PInv.took{w:World}{b0 b p bm k0:Nat}{s:List UInt8}{L:List (List UInt8×Bool)}{n:Nat}{W W':World}(h:PInv w b0 b p bm k0 s L n W)(hb0:w.heap.size+2<=b0)(hbe:Below b0 W W')(hfr:Frame bm W W'):
  Boxed W' w.heap.size 35 (.int .i64 0)/\Boxed W' (w.heap.size+1) 3 (.int .i64 0)/\Boxed W' b 146 (.pointer (some ⟨p,0,none⟩))/\Boxed W' (b+1) 3 (.int .i64 n)/\W'.heap[b+2]?=W.heap[b+2]?/\(∃u,Boxed W' (b+2) 9 u)/\Below w.heap.size w W'/\KeepsFrom (b+3) W W':=by
 obtain⟨u,hu⟩:=h.box
 have hw:=h.hw
 have hm:=h.hm
 have hu':=hfr.same _ _ hu (jG (by decide) (by decide)) (by omega)
 refine⟨(hbe.block _ (by omega)).trans h.r0,(hbe.block _ (by omega)).trans h.r1,hfr.same _ _ h.lb (jG (by decide) (by decide)) (by omega),hfr.same _ _ h.num (jG (by decide) (by decide)) (by omega),hu'.trans (show _=_ from hu).symm,⟨u,hu'⟩,h.bel.trans (hbe.mono (by omega)),⟨hfr.size,fun k o hk ho hc=>hfr.same k o ho (pQ hc) (by omega)⟩⟩
set_option maxRecDepth 100000 in
set_option maxHeartbeats 10000000 in
theorem aF3(s t:List UInt8)(w:World)(hs:s.length<=6000)(ht:t.length<=6000)(hn:Sp.scanSegs 0 (Sp.segs s)=none)(he:Env w):
  Calls Tryz.prog 50 #[.string (bs s),.string (bs t)] w fun e W=>iX s t w e W:=by
 have hsz:=aN s
 have hszt:=aN t
 have HN:=aq hn
 have HE:=aq he
 clear hn he
 refine(callsIn_wide (n:=6)).1 ?_
 refine callsIn_of_wp_marks Tryz.func50 rfl trivial ?_ rfl
 simp only[Tryz.ntmps50,List.size_toArray,List.length_cons,List.length_nil,Nat.reduceAdd,Nat.reduceSub,Array.replicate_succ,Array.replicate_zero,List.push_toArray,List.append_toArray,List.nil_append,List.cons_append]
 gi_wp2_with fail
 refine⟨trivial,?_⟩
 have hbA:Below w.heap.size w ((w.alloc (.cells #[.int .i64 0] 35)).alloc (.cells #[.int .i64 0] 3)):=((Below.refl _ w).alloc (Nat.le_refl _) _).alloc (by simp) _
 have HR:=aq (lC s ((w.alloc (.cells #[.int .i64 0] 35)).alloc (.cells #[.int .i64 0] 3)) hs ((dz HE).below hbA))
 refine(callsIn_wide.2 (dz HR)).mono ?_
 rintro e W1 ⟨hb1,⟨k,hk,rfl⟩|⟨-,v,rfl,hli⟩⟩
 ·exfalso;rw[dz HN]at hk;cases hk
 ·have HLI:=aq hli
  clear hli
  gi_wp2_with fail
  refine⟨trivial,?_⟩
  have hml:=rI s
  have HNL:=aq (uE v (bV s) W1 (by omega) (jE s) (dz HLI))
  refine(callsIn_wide.2 (dz HNL)).mono ?_
  rintro e W2 ⟨p,bm,rfl,hst,hb2⟩
  have HST:=aq hst
  clear hst
  gi_wp2_with fail
  refine⟨trivial,?_⟩
  refine(callsIn_wide.2 (mM _ _)).mono ?_
  rintro e w' ⟨rfl,rfl⟩
  gi_wp2_with fail
  obtain⟨W0,hW0⟩:∃W0,(((W2.alloc (.cells #[.pointer (some ⟨p,0,none⟩)] 146)).alloc (.cells #[.int .i64 0] 3)).alloc (.cells #[.string (bs t)] 9))=W0:=⟨_,rfl⟩
  have hz0:W0.heap.size=W2.heap.size+3:=by rw[←hW0];simp
  have hbx:Boxed W0 (W2.heap.size+2) 9 (.string (bs t)):=by
   have e5:=Boxed.new ((W2.alloc (.cells #[.pointer (some ⟨p,0,none⟩)] 146)).alloc (.cells #[.int .i64 0] 3)) 9 (.string (bs t))
   simp only[World.size_alloc]at e5
   rw[←hW0];exact e5
  have hb20:Below W2.heap.size W2 W0:=by rw[←hW0];exact(((Below.refl _ W2).alloc (Nat.le_refl _) _).alloc (by simp) _).alloc (by simp;omega) _
  have hsA:((w.alloc (.cells #[.int .i64 0] 35)).alloc (.cells #[.int .i64 0] 3)).heap.size=w.heap.size+2:=by simp
  have hw1:=hb1.size
  rw[hsA]at hw1
  have hinv0:PInv w W1.heap.size W2.heap.size p bm (bV s).length s [] 0 W0:=by
   have e0:=(Boxed.new w 35 (.int .i64 0)).alloc (.cells #[.int .i64 0] 3)
   have e1:=Boxed.new (w.alloc (.cells #[.int .i64 0] 35)) 3 (.int .i64 0)
   simp only[World.size_alloc]at e1
   have hw2:=hb2.size
   have keep:∀k o,k<w.heap.size+2->((w.alloc (.cells #[.int .i64 0] 35)).alloc (.cells #[.int .i64 0] 3)).heap[k]?=some o->W0.heap[k]?=some o:=fun k o hk ho=>
    (hb20.block k (by omega)).trans ((hb2.block k (by omega)).trans ((hb1.block k (by rw[hsA];exact hk)).trans ho))
   obtain⟨hpl,hml'⟩:=(dz HST).lts
   refine⟨keep _ _ (by omega) e0,keep _ _ (by omega) e1,?_,?_,⟨_,hbx⟩,?_,⟨bV s,(dz HST).below hb20,jE s,by simp,fun rest r hr=>hr⟩,by omega,hpl,hml'⟩
   ·rw[←hW0];exact((Boxed.new W2 _ _).alloc _).alloc _
   ·have e4:=(Boxed.new (W2.alloc (.cells #[.pointer (some ⟨p,0,none⟩)] 146)) 3 (.int .i64 0)).alloc (.cells #[.string (bs t)] 9)
    simp only[World.size_alloc]at e4
    rw[←hW0];exact e4
   ·exact hbA.trans (((hb1.mono (by rw[hsA];omega)).trans ((hb2.mono (by omega)).trans (hb20.mono (by omega)))))
  rw[hW0]
  clear hW0 HST HR HNL
  refine mZ (α:=List UInt8×Bool) rfl (by omega) (gf:=137) (lb:=#[.pointer (some ⟨W2.heap.size+2,0,none⟩)]) rfl trivial (enters_of Tryz.func137 (by kernel_rfl) rfl)
   (encs:=fun x=>#[.string (bs (bF x.1 x.2))]) (W2.heap.size+2) (by omega) (S:=fun xs=>xs=Sp.segs t) (G:=fun pre x=>pre++[x] <+: Sp.segs t)
   (fun l J Jx W hWB hJs hJd hY h0=>(qY 5 l (W2.heap.size+2) t ht J Jx hJs hJd hY W (Boxed.cell (t:=9) (hWB.trans hbx)) (Boxed.frozen (t:=9) (v:=.string (bs t)) (hWB.trans hbx)) h0).mono ?conv)
   (fun _=>rfl) (fun L=>PInv w W1.heap.size W2.heap.size p bm (bV s).length s L L.length) (PStop w W2.heap.size s t) (by rw[hz0];exact aK2 w _ _ _ _ _ s) (by rw[hz0];exact aB0 w _ s t) (fun _ _ v h=>h.set v) (fun _ _ h=>h.drew) hinv0
   (fun x=>{ tmps:=#[.string (bs s),.string (bs t),undef,undef,.pointer (some ⟨w.heap.size,0,none⟩),.pointer (some ⟨w.heap.size+1,0,none⟩),v,.int .i64 0,.int .i64 0,.pointer (some ⟨W2.heap.size,0,none⟩),.pointer (some ⟨W2.heap.size+1,0,none⟩),.string (bs (bF x.1 x.2)),undef,
   .tuple #[v,.int .i64 0,.int .i64 0],.string (bs s),.tuple #[v,.int .i64 0,.int .i64 0],v,.int .i64 0,.int .i64 0,.int .i64 0,.bool false,undef,undef,.string (bs t),.int .i64 t.length,.bool (decide ((6000:Int)<t.length)),v,.pointer (some ⟨p,0,none⟩),.string (bs t),.func (.func 137) #[] #[.pointer (some ⟨W2.heap.size+2,0,none⟩)],.string (bs (bF x.1 x.2)),undef,undef,undef,undef,undef,undef,undef,undef,undef],defers:=[] }) ?assign ?body ?done ?stop
  case conv=>
   rintro e W' ⟨hv,h|h⟩
   ·exact⟨hv,.inl ⟨_,rfl,h⟩⟩
   ·exact⟨hv,.inr h⟩
  case assign=>
   intro l x W K hK
   gi_wp2
   exact hK
  case body=>
   rintro l pre ⟨y,f⟩ W hinv hG
   have hmem:(y,f)∈Sp.segs t:=hG.subset (by simp)
   have hyl:y.length<=6000:=by have:=Sp.segsAux_len t [] (y,f) hmem;simp at this;omega
   have hyn:=Sp.segsAux_no t [] (by simp) (y,f) hmem
   have hpl:pre.length<=6001:=by
    have h1:=hG.length_le
    have h2:=Sp.segsAux_count t []
    unfold Sp.segs at h1
    simp at h1;omega
   have hlast:f=false->y.getLast?≠some 10:=fun _ h=>hyn (List.mem_of_getLast? h)
   have HG:=aq hG
   have hcn:W.cell? ⟨W2.heap.size+1,0,none⟩=some (.int .i64 pre.length):=hinv.num.cell
   have hfn:W.frozen? ⟨W2.heap.size+1,0,none⟩=false:=hinv.num.frozen
   have h1:PInv w W1.heap.size W2.heap.size p bm (bV s).length s pre (pre.length+1) (W.setCell ⟨W2.heap.size+1,0,none⟩ (.int .i64 ((pre.length:Int)+1))):=hinv.bump (pre.length+1)
   have hk1:KeepsFrom (W2.heap.size+3) W (W.setCell ⟨W2.heap.size+1,0,none⟩ (.int .i64 ((pre.length:Int)+1))):=(KeepsOthers.setCell _ _ _).from _
   have hB1:(W.setCell ⟨W2.heap.size+1,0,none⟩ (.int .i64 ((pre.length:Int)+1))).heap[W2.heap.size+2]?=W.heap[W2.heap.size+2]?:=Below.heap_setCell _ _ _ _ (by simp)
   have hcl:(W.setCell ⟨W2.heap.size+1,0,none⟩ (.int .i64 ((pre.length:Int)+1))).cell? ⟨W2.heap.size,0,none⟩=some (.pointer (some ⟨p,0,none⟩)):=h1.lb.cell
   clear hG hinv hmem hyn
   have HE1:=aq ((dz HE).below h1.bel)
   have H1:=aq h1
   have HK1:=aq hk1
   have HB1:=aq hB1
   clear h1 hk1 hB1
   gi_wp2_with fail
   generalize W.setCell ⟨W2.heap.size+1,0,none⟩ (.int .i64 ((pre.length:Int)+1))=X at H1 HE1 HK1 HB1 hcl⊢
   obtain⟨M,hst,hsm,hMl,hout⟩:=(dz H1).st
   have HOUT:=aq hout
   have HSM:=aq hsm
   have HTK:=aq (aC3 W1.heap.size p bm _ M y f X hst (by omega) (by omega) hsm hyl hlast (dz HE1))
   clear hst hout hsm
   refine⟨trivial,?_⟩
   refine(CallsIn.inRound l (callsIn_wide.2 (dz HTK))).mono ?_
   rintro e W3 ⟨er,rfl,hto,hbe,hfr⟩
   obtain⟨q0,q1,q2,q3,q4,q5,q6,q7⟩:=(dz H1).took hw1 hbe hfr
   have hwb:=(dz H1).hw
   have hpb:=(dz H1).hp
   have hmb:=(dz H1).hm
   have HK3:Hid (KeepsFrom (W2.heap.size+3) W W3):=aq ((dz HK1).trans q7)
   have HB3:Hid (W3.heap[W2.heap.size+2]?=W.heap[W2.heap.size+2]?):=aq (q4.trans (dz HB1))
   have HTO:=aq hto
   clear hto q7 q4 hcn hfn hcl HTK
   by_cases her:er=0
   ·subst her
    have HFIN:Hid (PInv w W1.heap.size W2.heap.size p bm (bV s).length s (pre++[(y,f)]) (pre++[(y,f)]).length W3):=by
     obtain⟨M',hs',hsm',hl',ho'⟩:=aC7 (dz HTO) (dz HSM)
     refine aq ⟨q0,q1,q2,by rw[List.length_append];exact q3,q5,q6,⟨M',by rw[List.length_append];exact hs',hsm',by rw[List.length_append];simp;omega,fun rest r hr=>?_⟩,hwb,hpb,hmb⟩
     rw[List.length_append]at hr
     rw[List.append_assoc]
     exact dz HOUT _ r (ho' _ rest r hr)
    clear q0 q1 q2 q3 q5 q6
    gi_wp2
    exact⟨by rw[hz0];exact dz HK3,dz HB3,dz HFIN⟩
   ·have hq:(er==(0:Int))=false:=by rw[beq_eq_false_iff_ne];exact her
    have hcn:W3.cell? ⟨W2.heap.size+1,0,none⟩=some (.int .i64 ((pre.length:Int)+1)):=q3.cell
    have hr0:W3.cell? ⟨w.heap.size,0,none⟩=some (.int .i64 0):=q0.cell
    have hf0:W3.frozen? ⟨w.heap.size,0,none⟩=false:=q0.frozen
    have hr1:W3.cell? ⟨w.heap.size+1,0,none⟩=some (.int .i64 0):=q1.cell
    have hf1:W3.frozen? ⟨w.heap.size+1,0,none⟩=false:=q1.frozen
    have HA1:Hid (PStop w W2.heap.size s t (pre++[(y,f)]) ((W3.setCell ⟨w.heap.size,0,none⟩ (.int .i64 er)).setCell ⟨w.heap.size+1,0,none⟩ (.int .i64 ((pre.length:Int)+1))).drew):=by
     obtain⟨rest,hr⟩:=dz HG
     have ho:=dz HOUT _ _ (zW (dz HTO) her pre.length rest)
     rw[show pre++(y,f)::rest=Sp.segs t from by rw[←hr];simp]at ho
     have a0:Boxed (W3.setCell ⟨w.heap.size,0,none⟩ (.int .i64 er)) w.heap.size 35 (.int .i64 er):=q0.set _
     have a1:Boxed (W3.setCell ⟨w.heap.size,0,none⟩ (.int .i64 er)) (w.heap.size+1) 3 (.int .i64 0):=(Below.heap_setCell W3 _ _ _ (by simp)).trans q1
     have pb:=(q6.setCell (p:=⟨w.heap.size,0,none⟩) (by simp) (.int .i64 er)).setCell (p:=⟨w.heap.size+1,0,none⟩) (by simp) (.int .i64 ((pre.length:Int)+1))
     generalize W3.setCell ⟨w.heap.size,0,none⟩ (.int .i64 er)=W4 at a0 a1 pb⊢
     refine aq ⟨⟨er,(Below.heap_setCell W4 _ _ _ (by simp)).trans a0,by rw[List.length_append];exact ho⟩,?_,pb.drew,hwb⟩
     rw[List.length_append]
     exact a1.set _
    have HKF:Hid (KeepsFrom (W2.heap.size+3) W ((W3.setCell ⟨w.heap.size,0,none⟩ (.int .i64 er)).setCell ⟨w.heap.size+1,0,none⟩ (.int .i64 ((pre.length:Int)+1))).drew):=aq ((dz HK3).trans ((show KeepsOthers W3 ((W3.setCell ⟨w.heap.size,0,none⟩ (.int .i64 er)).setCell ⟨w.heap.size+1,0,none⟩ (.int .i64 ((pre.length:Int)+1))).drew from nO (X:=((W3.setCell ⟨w.heap.size,0,none⟩ (.int .i64 er)).setCell ⟨w.heap.size+1,0,none⟩ (.int .i64 ((pre.length:Int)+1)))) ((KeepsOthers.setCell W3 _ _).trans (KeepsOthers.setCell _ _ _)) rfl).from _))
    clear her q0 q1 q2 q3 q5 q6
    gi_wp2
    gi_region
    all_goals gi_wp2
    all_goals exact⟨by rw[hz0];exact dz HKF,rfl,dz HA1⟩
  case done=>
   rintro D ys W hD rfl hinv hK
   have hb1c:W.cell? ⟨w.heap.size,0,none⟩=some (.int .i64 0):=hinv.r0.cell
   have hb1f:W.frozen? ⟨w.heap.size,0,none⟩=false:=hinv.r0.frozen
   have hb2c:W.cell? ⟨w.heap.size+1,0,none⟩=some (.int .i64 0):=hinv.r1.cell
   have hb2f:W.frozen? ⟨w.heap.size+1,0,none⟩=false:=hinv.r1.frozen
   have hwb:=hinv.hw
   have a0:Boxed (W.setCell ⟨w.heap.size,0,none⟩ (.int .i64 0)) w.heap.size 35 (.int .i64 0):=hinv.r0.set _
   have a1:Boxed (W.setCell ⟨w.heap.size,0,none⟩ (.int .i64 0)) (w.heap.size+1) 3 (.int .i64 0):=(Below.heap_setCell W _ _ _ (by simp)).trans hinv.r1
   have c0:Boxed ((W.setCell ⟨w.heap.size,0,none⟩ (.int .i64 0)).setCell ⟨w.heap.size+1,0,none⟩ (.int .i64 0)) w.heap.size 35 (.int .i64 0):=(Below.heap_setCell _ _ _ _ (by simp)).trans a0
   have c1:Boxed ((W.setCell ⟨w.heap.size,0,none⟩ (.int .i64 0)).setCell ⟨w.heap.size+1,0,none⟩ (.int .i64 0)) (w.heap.size+1) 3 (.int .i64 0):=a1.set _
   have pb:Below w.heap.size w ((W.setCell ⟨w.heap.size,0,none⟩ (.int .i64 0)).setCell ⟨w.heap.size+1,0,none⟩ (.int .i64 0)):=(hinv.bel.setCell (p:=⟨w.heap.size,0,none⟩) (by simp) _).setCell (p:=⟨w.heap.size+1,0,none⟩) (by simp) _
   have HO:Hid (Sp.Outcome (bV s) 0 (Sp.segs t) (0,0)):=by
    obtain⟨M,_,_,_,ho⟩:=hinv.st
    have:=ho [] (0,0) rfl
    rw[List.append_nil]at this
    exact aq this
   have HK2:Hid (((W.setCell ⟨w.heap.size,0,none⟩ (.int .i64 0)).setCell ⟨w.heap.size+1,0,none⟩ (.int .i64 0)).heap[D]?=some (.deferred (some []))):=
    aq ((Below.heap_setCell _ _ _ _ (by simp;omega)).trans ((Below.heap_setCell _ _ _ _ (by simp;omega)).trans hK))
   have HC0:=aq c0
   have HC1:=aq c1
   have HPB:=aq pb
   clear hinv hK a0 a1 c0 c1 pb
   gi_wp2
   refine⟨by simp,.inl ⟨_,_,rfl,run_takeDeferred (dz HK2),?_⟩⟩
   have k0:=((dz HC0).kept (grownBy_putObj' _ D (.deferred none)) (by simp;omega)).cell
   have k1:=((dz HC1).kept (grownBy_putObj' _ D (.deferred none)) (by simp;omega)).cell
   refine⟨.tuple #[.int .i64 0,.int .i64 0],by simp[results,Tryz.results50,go_sem,k0,k1],?_⟩
   exact⟨(0,0),rfl,.inr ⟨hs,.inr ⟨dz HN,.inr ⟨ht,dz HO⟩⟩⟩,(dz HPB).grown (grownBy_putObj' _ D _) (dz HPB).size (fun k e=>by cases e;omega)⟩
  case stop=>
   rintro D pre W hD hst hK
   obtain⟨er,hr0,hro⟩:=hst.out
   have hwb:=hst.hw
   have hb1c:W.cell? ⟨w.heap.size,0,none⟩=some (.int .i64 er):=hr0.cell
   have hb2c:W.cell? ⟨w.heap.size+1,0,none⟩=some (.int .i64 pre.length):=hst.r1.cell
   have HI:=aq hst
   have HR0:=aq hr0
   have HRO:=aq hro
   clear hst hr0 hro
   gi_wp2
   refine⟨by simp,.inl ⟨_,_,rfl,run_takeDeferred hK,?_⟩⟩
   have k0:=((dz HR0).kept (grownBy_putObj' W D (.deferred none)) (by simp;omega)).cell
   have k1:=((dz HI).r1.kept (grownBy_putObj' W D (.deferred none)) (by simp;omega)).cell
   refine⟨.tuple #[.int .i64 er,.int .i64 pre.length],by simp[results,Tryz.results50,go_sem,k0,k1],?_⟩
   exact⟨(er,(pre.length:Int)),rfl,.inr ⟨hs,.inr ⟨dz HN,.inr ⟨ht,dz HRO⟩⟩⟩,(dz HI).bel.grown (grownBy_putObj' W D _) (dz HI).bel.size (fun k e=>by cases e;omega)⟩
end Go.Proofs.YtekkkoipcghlmaaGreatDoor
namespace Go.Proofs.YtekkkoipcghlmaaGreatDoor
open Go.ChangeShapes Go.WideShapes Go.ChangeAt Go.RowKit Go.Deep
theorem Tryz.ownKnob:ownKnob Tryz.prog.godebug=none:=by kernel_rfl
theorem Tryz.gTabType:(Tryz.prog.globals[1]?).map (·.type)=some 238:=by kernel_rfl
theorem Tryz.gSynType:(Tryz.prog.globals[4]?).map (·.type)=some 140:=by kernel_rfl
theorem Tryz.gRngType:(Tryz.prog.globals[5]?).map (·.type)=some 140:=by kernel_rfl
theorem Tryz.gBrjType:(Tryz.prog.globals[0]?).map (·.type)=some 202:=by kernel_rfl
theorem Tryz.gBrj:Tryz.prog.globalNamed "math/bits.deBruijn32tab" = some 0:=by kernel_rfl
theorem Tryz.cellsU64:Tryz.prog.cellsOf 230=1:=by kernel_rfl
theorem Tryz.cellsTab:Tryz.prog.cellsOf 238=20:=by kernel_rfl
theorem Tryz.cellsU8:Tryz.prog.cellsOf 5=1:=by kernel_rfl
theorem Tryz.cellsBrj:Tryz.prog.cellsOf 202=32:=by kernel_rfl
theorem Tryz.cellsErr:Tryz.prog.cellsOf 267=1:=by kernel_rfl
theorem Tryz.cellsStr:Tryz.prog.cellsOf 9=1:=by kernel_rfl
theorem Tryz.cellsInt:Tryz.prog.cellsOf 3=1:=by kernel_rfl
theorem Tryz.cellsOp:Tryz.prog.cellsOf 67=6:=by kernel_rfl
theorem brj_of{W:World}(h:Lib.TabIs Tryz.prog W "math/bits.deBruijn32tab" .u8 (Lib.deBruijn32tab.map Int.ofNat)):0<W.heap.size/\TabAt 0 Lib.deBruijn32tab W:=by
 have hc:∀j,j<32->W.cell? ⟨0,j,none⟩=some (.int .u8 ((Lib.deBruijn32tab.map Int.ofNat).getD j 0)):=fun j hj=>h.cell Tryz.gBrj j hj
 refine⟨World.block_lt_of_cell? W _ (hc 0 (by decide)),fun j hj=>?_⟩
 have hj':j<32:=hj
 rw[hc j hj']
 congr 2
 have:∀j:Fin 32,(Lib.deBruijn32tab.map Int.ofNat).getD j.val 0=((Lib.deBruijn32tab.getD j.val 0:Nat):Int):=by decide
 exact this ⟨j,hj'⟩
theorem Tryz.star : "*" ++ "errors.errorString" = "*errors.errorString" := by decide
theorem Tryz.rowErr(u:TypeId)(h:Tryz.prog.typeName? 3 u=some "*errors.errorString"):u=265:=
 typeName_ptr_named (nm := "errors.errorString") (by rw [Tryz.star]; kernel_rfl) (by kernel_rfl) (by decide) u (by rw [Tryz.star]; exact h)
theorem tab_eq:(Rows.laid_internal_strconv_uint64pow10:DataW Unit)=Lib.tabData .u64 Lib.pow10Tab:=by kernel_rfl
theorem brj_eq:(Rows.laid_math_bits_deBruijn32tab:DataW Unit)=Lib.tabData .u8 (Lib.deBruijn32tab.map Int.ofNat):=by kernel_rfl
set_option maxRecDepth 100000 in
theorem env_of{W:World}(hL0:laidMetH Tryz.prog Rows.keepsRow.laid W)(hS:W.ShapedOpen Tryz.prog):Env W:=by
 have hL:=hL0
 rw[MakeChecks.laidMetH_plain _ _ _ (by kernel_rfl)]at hL
 obtain⟨a1,s1,hv1,_,_,_⟩:=laid_sentinel hL.tail.tail.tail.tail Tryz.gRng Tryz.gRngType Tryz.underlying140 Tryz.rowErr Tryz.underlying265 Tryz.underlying267 rfl rfl Tryz.underlying9 Tryz.cellsErr Tryz.cellsStr
 obtain⟨a0,s0,hv0,_,_,_⟩:=laid_sentinel hL.tail.tail.tail.tail.tail Tryz.gSyn Tryz.gSynType Tryz.underlying140 Tryz.rowErr Tryz.underlying265 Tryz.underlying267 rfl rfl Tryz.underlying9 Tryz.cellsErr Tryz.cellsStr
 have hT:Lib.TabIs Tryz.prog W "internal/strconv.uint64pow10" .u64 Lib.pow10Tab:=by
  have h2:laidMet Tryz.prog (("internal/strconv.uint64pow10",Rows.laid_internal_strconv_uint64pow10)::_) W:=hL.tail.tail
  rw[tab_eq]at h2
  exact Lib.tabIs_of_head Tryz.gTab Tryz.gTabType Tryz.underlying238 Tryz.underlying230 Tryz.cellsU64 Tryz.cellsTab h2
 have hB:Lib.TabIs Tryz.prog W "math/bits.deBruijn32tab" .u8 (Lib.deBruijn32tab.map Int.ofNat):=by
  have h2:laidMet Tryz.prog (("math/bits.deBruijn32tab",Rows.laid_math_bits_deBruijn32tab)::_) W:=hL
  rw[brj_eq]at h2
  exact Lib.tabIs_of_head Tryz.gBrj Tryz.gBrjType Tryz.underlying202 Tryz.underlying5 Tryz.cellsU8 Tryz.cellsBrj h2
 obtain⟨m,hm⟩:=cell_of_shapedOpen_int (g:=2) (t:=3) (zero:=#[.int .i64 0]) hS (of_decide_eq_true (by kernel_rfl)) (by kernel_rfl) rfl (by kernel_rfl) (by kernel_rfl) Tryz.underlying3
 exact⟨⟨hT,brj_of hB⟩,⟨_,_,hv0⟩,⟨_,_,hv1⟩,⟨World.block_lt_of_cell? W _ hm,m,hm⟩⟩
end Go.Proofs.YtekkkoipcghlmaaGreatDoor
