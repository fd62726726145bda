import Derived.Test.YtekkkoipcghlmaaGreatDoorS45
import Derived.Test.YtekkkoipcghlmaaGreatDoorS39
import Derived.Test.YtekkkoipcghlmaaGreatDoorS36
import Derived.Test.YtekkkoipcghlmaaGreatDoorS01
import Derived.Deep.QuietTactic
import Derived.BigQuiet
set_option linter.all false
namespace Go.Proofs.YtekkkoipcghlmaaGreatDoor
open Go.RowKit
theorem Tryz.infoSideP:(Tryz.prog.info? 90).map (fun i=>(i.zero,i.size,i.bytes))=some (some (.pointer none),1,8):=by kernel_rfl
set_option maxRecDepth 100000 in
set_option maxHeartbeats 1600000 in
theorem step_new_full{Z:Play}(base B:Nat)(a b:Int)(s t:List UInt8)(v lv:Value)(p:Nat->Nat)(F:Nat->Nat->Prop)(ms:Nat->List Nat)(w:World)(hW:WIs base w B 4 lv p F ms Z):
  Calls Tryz.prog 35 #[.pointer (some ⟨B,0,none⟩),opVal 3 a b s t v] w fun e w'=>e=.returned (.bool true)/\Below w.heap.size w w':=by
 obtain⟨g,cp,rfl,hc0,hcd⟩:=hW.cells (by decide)
 have hBl:=lt_of_block hW.block
 unfold opVal
 obtain⟨w1,hw1,hop⟩:=op_in w 3 a b s t v
 have c0:=hop.c0
 have hcB:(w1.alloc (.cells #[.slice none 0 0,.int .i64 0,.slice none 0 0] 77)).cell? ⟨B,0,none⟩=some (.slice (some ⟨g,0,none⟩) 4 cp):=((below_alloc w1 _).cell (p:=⟨B,0,none⟩) (Nat.lt_of_lt_of_le hBl hop.below.size)).trans ((hop.below.cell (p:=⟨B,0,none⟩) hBl).trans hc0)
 have HB1:=aq hop.below
 have HN:=aq (newX_any w1)
 obtain⟨w2,hw2⟩:∃w2,w2=w1.alloc (.cells #[.slice none 0 0,.int .i64 0,.slice none 0 0] 77):=⟨_,rfl⟩
 rw[←hw2]at hcB HN
 have HB2:Hid (Below w.heap.size w w2):=aq (by rw[hw2];exact hop.below.trans ((below_alloc w1 _).mono hop.below.size))
 clear hop hc0 hcd hW hw2
 go_enter Tryz.func35,Tryz.ntmps35
 go_wp2_with fail
 refine(dz HN).mono ?_
 rintro e w3 ⟨rfl,rfl⟩
 go_wp2
 go_ret
 exact⟨rfl,dz HB2⟩
def xObj:Obj:=.cells #[.slice none 0 0,.int .i64 0,.slice none 0 0] 77
def yObj:Obj:=.cells #[.slice none 0 0] 93
def sObj(x y:Nat):Obj:=.cells #[.pointer (some ⟨x,0,none⟩),.pointer (some ⟨y,0,none⟩),.string ⟨#[]⟩,.bool false,.string ⟨#[]⟩,.bool false] 95
theorem alloc_last(w0:World)(o:Obj):(w0.alloc o).heap[w0.heap.size]?=some o:=by show(w0.heap.push o)[w0.heap.size]?=_;simp
theorem alloc_old{w0:World}(o:Obj){k:Nat}(h:k<w0.heap.size):(w0.alloc o).heap[k]?=w0.heap[k]?:=Below.heap_alloc _ _ _ h
theorem new_fin{Z:Play}{base:Nat}{w w1 w2 wz w5:World}{B n:Nat}{lv:Value}{p:Nat->Nat}{F:Nat->Nat->Prop}{ms:Nat->List Nat}{g' cap':Nat}{o:Obj}(hW:WIs base w B n lv p F ms Z)(hb1:Below w.heap.size w w1)(hw2:w2=w1.alloc xObj)(hwz:wz=(w2.alloc yObj).alloc (sObj w1.heap.size w2.heap.size))(hn:n<4)
  (hown:w5.ownsRow base 90 1 (.slice (some ⟨g',0,none⟩) (n+1) cap') (n+1) (((List.range n).map fun i=>.pointer (some ⟨p i,0,none⟩))++[.pointer (some ⟨w2.heap.size+1,0,none⟩)])) (hgr:(wz.alloc o).grownBy w5 lv.ownBlock) (hloc:lv.ownBlock=some g'∨g'=(wz.alloc o).heap.size):
  w5.heap[B]?=some (.cells #[lv,Z.bk] 64 (0,0))/\
  WIs base (w5.setCell ⟨B,0,none⟩ (.slice (some ⟨g',0,none⟩) (n+1) cap')) B (n+1) (.slice (some ⟨g',0,none⟩) (n+1) cap') (fun i=>if i=n then w2.heap.size+1 else p i) (fun i=>if i=n then(fun k=>k=w1.heap.size∨k=w2.heap.size∨k=w2.heap.size+1)else F i) (fun i=>if i=n then []else ms i) Z/\
  Below base w (w5.setCell ⟨B,0,none⟩ (.slice (some ⟨g',0,none⟩) (n+1) cap')):=by
 have hs1:=hb1.size
 have hs2:w2.heap.size=w1.heap.size+1:=by rw[hw2];simp
 have hsz:wz.heap.size=w2.heap.size+2:=by rw[hwz];simp
 have hsa:(wz.alloc o).heap.size=w2.heap.size+3:=by simp[hsz]
 have hs5:=hgr.size
 have hBl:=lt_of_block hW.block
 have hbase:base<=w.heap.size:=Nat.le_trans hW.le (Nat.le_of_lt hBl)
 have hold:∀k,k<w.heap.size->(wz.alloc o).heap[k]?=w.heap[k]?:=fun k hk=>by
  rw[alloc_old o (by omega),hwz,alloc_old _ (by simp;omega),alloc_old _ (by omega),hw2,alloc_old _ (by omega)]
  exact hb1.block k hk
 have hx:(wz.alloc o).heap[w1.heap.size]?=some xObj:=by
  rw[alloc_old o (by omega),hwz,alloc_old _ (by simp;omega),alloc_old _ (by omega),hw2];exact alloc_last _ _
 have hy:(wz.alloc o).heap[w2.heap.size]?=some yObj:=by
  rw[alloc_old o (by omega),hwz,alloc_old _ (by simp)];exact alloc_last _ _
 have hsd:(wz.alloc o).heap[w2.heap.size+1]?=some (sObj w1.heap.size w2.heap.size):=by
  rw[alloc_old o (by omega),hwz]
  have:=alloc_last (w2.alloc yObj) (sObj w1.heap.size w2.heap.size)
  simpa using this
 have hlvl:∀k,lv.ownBlock=some k->k<w.heap.size:=fun k hk=>(hW.row.lt k hk).2
 have hne:lv.ownBlock≠some B:=row_ne hW.row hW.block (by decide)
 have h5:∀k,k<(wz.alloc o).heap.size->lv.ownBlock≠some k->w5.heap[k]?=(wz.alloc o).heap[k]?:=fun k hk hn=>hgr.block k hk (fun e=>hn e.symm)
 have h5B:w5.heap[B]?=some (.cells #[lv,Z.bk] 64 (0,0)):=by rw[h5 B (by omega) hne,hold B hBl];exact hW.block
 have hfar:∀k,w.heap.size<=k->lv.ownBlock≠some k:=fun k hk e=>by have:=hlvl k e;omega
 have hg'B:g'≠B:=by
  rcases hloc with h|h
  ·intro e;subst e;exact hne h
  ·omega
 have hset:∀k,k≠B->(w5.setCell ⟨B,0,none⟩ (.slice (some ⟨g',0,none⟩) (n+1) cap')).heap[k]?=w5.heap[k]?:=fun k hk=>Below.heap_setCell _ _ _ _ hk
 have fx:(w5.setCell ⟨B,0,none⟩ (.slice (some ⟨g',0,none⟩) (n+1) cap')).heap[w1.heap.size]?=some xObj:=by rw[hset _ (by omega),h5 _ (by omega) (hfar _ (by omega))];exact hx
 have fy:(w5.setCell ⟨B,0,none⟩ (.slice (some ⟨g',0,none⟩) (n+1) cap')).heap[w2.heap.size]?=some yObj:=by rw[hset _ (by omega),h5 _ (by omega) (hfar _ (by omega))];exact hy
 have fs:(w5.setCell ⟨B,0,none⟩ (.slice (some ⟨g',0,none⟩) (n+1) cap')).heap[w2.heap.size+1]?=some (sObj w1.heap.size w2.heap.size):=by rw[hset _ (by omega),h5 _ (by omega) (hfar _ (by omega))];exact hsd
 have hfs:(w5.setCell ⟨B,0,none⟩ (.slice (some ⟨g',0,none⟩) (n+1) cap')).heap.size=w5.heap.size:=by simp
 have fold:∀k,k<w.heap.size->k≠B->lv.ownBlock≠some k->(w5.setCell ⟨B,0,none⟩ (.slice (some ⟨g',0,none⟩) (n+1) cap')).heap[k]?=w.heap[k]?:=fun k hk hkB hkl=>by
  rw[hset k hkB,h5 k (by omega) hkl,hold k hk]
 have hFlt:∀i,i<n->∀k,F i k->base<=k/\k<w.heap.size:=fun i hi k hk=>by
  obtain⟨x,kv,y,lv',vs,pv,pb,hh⟩:=hW.sides i hi
  exact hh.inn k hk
 have fF:∀i,i<n->∀k,F i k->(w5.setCell ⟨B,0,none⟩ (.slice (some ⟨g',0,none⟩) (n+1) cap')).heap[k]?=w.heap[k]?:=fun i hi k hk=>
  fold k (hFlt i hi k hk).2 (fun e=>hW.notB i hi (by rw[←e];exact hk)) (fun e=>hW.notRow i hi k e hk)
 refine⟨h5B,⟨by rw[heap_setCell_same w5 B 0 _ _ _ h5B];rfl,hW.le,?_,fun i hi=>?_,fun i j hi hj hij k hk=>?_,fun i hi=>?_,fun i hi k hk=>?_,by omega,?_,fun k hk=>⟨(hW.inG k hk).1,by have:=(hW.inG k hk).2;omega⟩,fun i hi k hk hg=>?_,hW.notBG,fun k hk hg=>?_⟩,?_⟩
 ·have e1:((List.range (n+1)).map fun i=>Value.pointer (some ⟨if i=n then w2.heap.size+1 else p i,0,none⟩))=((List.range n).map fun i=>.pointer (some ⟨p i,0,none⟩))++[.pointer (some ⟨w2.heap.size+1,0,none⟩)]:=by
   rw[List.range_succ,List.map_append]
   congr 1
   ·apply List.map_congr_left
    intro i hi
    have:i<n:=by simpa using hi
    rw[if_neg (by omega)]
   ·simp
  rw[e1]
  exact ownsRow_setCell_other hown (a:=⟨B,0,none⟩) (by simp[Value.ownBlock];exact hg'B) _
 ·by_cases e:i=n
  ·subst e
   simp only[if_true]
   refine⟨w1.heap.size,.slice none 0 0,w2.heap.size,.slice none 0 0,[],.slice none 0 0,[],⟨⟨_,_,_,_,fs,Z.new⟩,by omega,⟨fx,by omega,World.ownsRow_nil _ _ _ _,World.ownsRow_nil _ _ _ _⟩,⟨fy,by omega,World.ownsRow_nil _ _ _ _,rfl,fun i a c ha hc=>by simp at ha⟩,.inr (.inr rfl),⟨.inl rfl,fun g hg=>(by cases hg),fun g hg=>(by cases hg)⟩,⟨.inr (.inl rfl),fun g hg=>(by cases hg),fun v hv=>(by cases hv)⟩,fun k hk=>⟨by omega,by omega⟩,fun m hm=>(by cases hm)⟩⟩
  ·simp only[if_neg e]
   have hi':i<n:=by omega
   exact(hW.sides i hi').keep (by omega) (fF i hi')
 ·by_cases e:i=n
  ·subst e
   simp only[if_true]at hk
   simp only[if_neg (Ne.symm hij)]
   intro hf
   have:=(hFlt j (by omega) k hf).2
   omega
  ·simp only[if_neg e]at hk
   have hkl:=(hFlt i (by omega) k hk).2
   by_cases e2:j=n
   ·subst e2;simp only[if_true];omega
   ·simp only[if_neg e2];exact hW.apart i j (by omega) (by omega) hij k hk
 ·by_cases e:i=n
  ·subst e;simp only[if_true];omega
  ·simp only[if_neg e];exact hW.notB i (by omega)
 ·simp[Value.ownBlock]at hk
  subst hk
  by_cases e:i=n
  ·subst e
   simp only[if_true]
   rcases hloc with h|h
   ·have:=hlvl _ h;omega
   ·omega
  ·simp only[if_neg e]
   rcases hloc with h|h
   ·exact hW.notRow i (by omega) _ h
   ·intro hf;have:=(hFlt i (by omega) _ hf).2;omega
 ·exact Z.keep _ _ hW.book (by omega) (fun k hk=>fold k (hW.inG k hk).2 (fun e=>hW.notBG (by rw[←e];exact hk)) (fun e=>hW.notRowG k e hk))
 ·have hgl:=(hW.inG k hg).2
  by_cases e:i=n
  ·subst e
   simp only[if_true]at hk
   omega
  ·simp only[if_neg e]at hk
   exact hW.apartG i (by omega) k hk hg
 ·simp[Value.ownBlock]at hk
  subst hk
  rcases hloc with h|h
  ·exact hW.notRowG _ h hg
  ·have:=(hW.inG _ hg).2;omega
 ·refine⟨hgr.os.trans ?_,hgr.tape.trans ?_,hgr.output.trans ?_,by omega,fun k hk=>fold k (by omega) (by have:=hW.le;omega) (fun e=>by have:=(hW.row.lt k e).1;omega)⟩
  ·rw[hwz,hw2];exact hb1.os
  ·rw[hwz,hw2];exact hb1.tape
  ·rw[hwz,hw2];exact hb1.output
set_option maxRecDepth 100000 in
set_option maxHeartbeats 1600000 in
theorem step_new{Z:Play}(base B n:Nat)(a b:Int)(s t:List UInt8)(v lv:Value)(p:Nat->Nat)(F:Nat->Nat->Prop)(ms:Nat->List Nat)(w:World)(hn:n<4)(hW:WIs base w B n lv p F ms Z)(L:Nat)(hL:∀i,i<n->(ms i).length<=L):
  Calls Tryz.prog 35 #[.pointer (some ⟨B,0,none⟩),opVal 3 a b s t v] w fun e w'=>e=.returned (.bool true)/\KWAt base w' B (n+1) L Z/\Below base w w':=by
 have hc0:w.cell? ⟨B,0,none⟩=some lv:=by simp[World.cell?,hW.block]
 obtain⟨ao,cp,hsh⟩:=owns_shape hW.row
 subst hsh
 have hBl:=lt_of_block hW.block
 unfold opVal
 obtain⟨w1,hw1,hop⟩:=op_in w 3 a b s t v
 have c0:=hop.c0
 have HB1:=aq hop.below
 have HN:=aq (newX_any w1)
 obtain⟨w2,hw2⟩:∃w2,w2=w1.alloc (.cells #[.slice none 0 0,.int .i64 0,.slice none 0 0] 77):=⟨_,rfl⟩
 rw[←hw2]at HN
 have hb2:Below w.heap.size w w2:=by rw[hw2];exact hop.below.trans ((below_alloc w1 _).mono hop.below.size)
 have hcB:w2.cell? ⟨B,0,none⟩=some (.slice ao n cp):=(hb2.cell (p:=⟨B,0,none⟩) hBl).trans hc0
 have HW:=aq hW
 have HB2:=aq hb2
 have HW2:=aq hw2
 clear hop hc0 hW hw2 hb2
 go_enter Tryz.func35,Tryz.ntmps35
 go_wp2_with fail
 refine(dz HN).mono ?_
 rintro e w3 ⟨rfl,rfl⟩
 obtain⟨wz,hwz⟩:∃wz,wz=(w3.alloc yObj).alloc (sObj w1.heap.size w3.heap.size):=⟨_,rfl⟩
 have hwz':((w3.alloc (.cells #[.slice none 0 0] 93)).alloc (.cells #[.pointer (some ⟨w1.heap.size,0,none⟩),.pointer (some ⟨w3.heap.size,0,none⟩),.string ⟨#[]⟩,.bool false,.string ⟨#[]⟩,.bool false] 95))=wz:=hwz.symm
 have HWZ:=aq hwz
 have hn':(n:Int)<4:=by omega
 have HROWZ:Hid (wz.ownsRow base 90 1 (.slice ao n cp) n ((List.range n).map fun i=>.pointer (some ⟨p i,0,none⟩))):=aq (by
  refine owns_at (dz HW).row (fun g hg=>?_)
  have h1:=((dz HW).row.lt g hg).2
  have h2:=(dz HB2).size
  rw[hwz,alloc_old _ (by simp;omega),alloc_old _ (by omega)]
  exact(dz HB2).block g h1)
 have hszz:base<=wz.heap.size:=by
  have h1:=(dz HW).le
  have h2:=(dz HB2).size
  rw[hwz];simp;omega
 clear hwz
 go_wp2_with (at_builtin;refine append_cell (base:=base) rfl _ _ 59 90 rfl Tryz.underlying59 Tryz.infoSideP rfl (by decide) (dz HROWZ) rfl rfl rfl (by omega) hszz ?_;intro g' cap' w5 hown5 hgr5 hloc;have HFIN:=aq (new_fin (dz HW) (dz HB1) (dz HW2) (dz HWZ) hn hown5 hgr5 hloc);clear hown5 hgr5 hloc;have hcB5:w5.cell? ⟨B,0,none⟩=some (.slice ao n cp):=(cell_of_row _ _ 0 _ _ _ (dz HFIN).1);have hfB5:w5.frozen? ⟨B,0,none⟩=false:=frozen_of_row _ _ _ _ _ (dz HFIN).1)
 go_ret
 exact⟨rfl,⟨_,_,_,_,(dz HFIN).2.1,fun i hi=>by
  by_cases e:i=n
  ·simp only[if_pos e];simp
  ·simp only[if_neg e];exact hL i (by omega)⟩,(dz HFIN).2.2⟩
end Go.Proofs.YtekkkoipcghlmaaGreatDoor
namespace Go.Proofs.YtekkkoipcghlmaaGreatDoor
open Go.RowKit
theorem WIs.keepAll{Z:Play}{base:Nat}{w w':World}{B n:Nat}{lv:Value}{p:Nat->Nat}{F:Nat->Nat->Prop}{ms:Nat->List Nat}(h:WIs base w B n lv p F ms Z)(hb:Below w.heap.size w w'):WIs base w' B n lv p F ms Z:=by
 refine⟨(hb.block B (lt_of_block h.block)).trans h.block,h.le,owns_at h.row (fun g hg=>hb.block g (h.row.lt g hg).2),fun i hi=>(h.sides i hi).keep hb.size (fun k hk=>?_),h.apart,h.notB,h.notRow,h.four,Z.keep _ _ h.book hb.size (fun k hk=>hb.block k (h.inG k hk).2),fun k hk=>⟨(h.inG k hk).1,Nat.lt_of_lt_of_le (h.inG k hk).2 hb.size⟩,h.apartG,h.notBG,h.notRowG⟩
 obtain⟨x,kv,y,lv',vs,pv,pb,hh⟩:=h.sides i hi
 exact hb.block k (hh.inn k hk).2
theorem WIs.inn{Z:Play}{base:Nat}{w:World}{B n:Nat}{lv:Value}{p:Nat->Nat}{F:Nat->Nat->Prop}{ms:Nat->List Nat}(h:WIs base w B n lv p F ms Z){i:Nat}(hi:i<n){k:Nat}(hk:F i k):base<=k/\k<w.heap.size:=by
 obtain⟨x,kv,y,lv',vs,pv,pb,hh⟩:=h.sides i hi
 exact hh.inn k hk
theorem WIs.base_le{Z:Play}{base:Nat}{w:World}{B n:Nat}{lv:Value}{p:Nat->Nat}{F:Nat->Nat->Prop}{ms:Nat->List Nat}(h:WIs base w B n lv p F ms Z):base<=w.heap.size:=Nat.le_trans h.le (Nat.le_of_lt (lt_of_block h.block))
theorem WIs.turned{Z:Play}{base:Nat}{w w':World}{B n L:Nat}{lv:Value}{p:Nat->Nat}{F:Nat->Nat->Prop}{ms:Nat->List Nat}(h:WIs base w B n lv p F ms Z)(hL:∀i,i<n->(ms i).length<=L){d:Nat}(hd:d<n)(ht:Turned base w w' (F d) (p d) (ms d) Z):KWAt base w' B n (L+1) Z/\Below base w w':=by
 obtain⟨F',ms',ho,hs,hF,hl⟩:=ht
 refine⟨⟨lv,p,_,_,h.turn hd ho hs hF,fun i hi=>?_⟩,ho.below (fun k hk=>(h.inn hd hk).1) h.base_le⟩
 by_cases e:i=d
 ·subst e;simp only[if_true];have:=hL i hi;omega
 ·simp only[if_neg e];have:=hL i hi;omega
def PlayRes(Z:Play)(base B L:Nat)(kind:Int)(n:Nat)(w:World)(e:Ending)(w':World):Prop:=e=.returned (.bool true)/\∃n',0<n'/\KWAt base w' B n' L Z/\Below base w w'/\(kind≠3->n'=n)
theorem step_all{Z:Play}(base B n L:Nat)(kind a b:Int)(s t:List UInt8)(v:Value)(xs:List Int)(w w0:World)(hk:kind<=6)(h0:-9223372036854775808<=a)(h1:a<=9223372036854775807)(hn:0<n)(hs:s.length<=9223372036854775807)(ht:t.length<=9223372036854775807)(hl:xs.length<=10000000)(hLm:L<=10000000)
  (hW:KWAt base w0 B n L Z) (hb:Below w0.heap.size w0 w) (he:Env w) (hv:Lies w v (ints xs)) (hvb:xs≠[]->∀g,v.ownBlock=some g->g<base∨w0.heap.size<=g):
  Calls Tryz.prog 35 #[.pointer (some ⟨B,0,none⟩),opVal kind a b s t v] w fun e w'=>PlayRes Z base B (L+1) kind n w e w':=by
 obtain⟨lv,p,F,ms,hI0,hL⟩:=hW
 have hI:=hI0.keepAll hb
 have hWw:KWAt base w B n L Z:=⟨lv,p,F,ms,hI,hL⟩
 have hbase:=hI.base_le
 have stay:∀e w',(e=.returned (.bool true)/\Below w.heap.size w w')->PlayRes Z base B (L+1) kind n w e w':=fun e w' h=>⟨h.1,n,hn,(hWw.below h.2).more (by omega),h.2.mono hbase,fun _=>rfl⟩
 have turn:∀e w',(e=.returned (.bool true)/\Turned base w w' (F (pickOf a n)) (p (pickOf a n)) (ms (pickOf a n)) Z)->PlayRes Z base B (L+1) kind n w e w':=fun e w' h=>by
  obtain⟨h2,h3⟩:=hI.turned hL (pickOf_lt a hn) h.2
  exact⟨h.1,n,hn,h2,h3,fun _=>rfl⟩
 have hL7:∀i,i<n->(ms i).length<=10000000:=fun i hi=>Nat.le_trans (hL i hi) hLm
 by_cases k0:kind<1
 ·exact(step_idle base B n kind a b s t v lv p F ms w k0 h0 h1 hn hI).mono stay
 ·have:kind=1∨kind=2∨kind=3∨kind=4∨kind=5∨kind=6:=by omega
  rcases this with rfl|rfl|rfl|rfl|rfl|rfl
  ·exact(step_plain B a b s t v w hs he).mono stay
  ·exact(step_check B a b s t v w hs ht he).mono stay
  ·by_cases h4:n<4
   ·refine(step_new base B n a b s t v lv p F ms w h4 hI L hL).mono fun e w' h=>?_
    exact⟨h.1,n+1,by omega,h.2.1.more (by omega),h.2.2,fun h=>absurd rfl h⟩
   ·have:n=4:=by have:=hI.four;omega
    subst this
    exact(step_new_full base B a b s t v lv p F ms w hI).mono stay
  ·refine(step_add base B n a b s t v lv xs p F ms w h0 h1 hn hI hL7 hl hv (fun hx i hi g hg _ hf=>?_)).mono turn
   have h5:=hI0.inn hi hf
   rcases hvb hx g hg with h6|h6<;>omega
  ·exact(step_clauses base B n a b s t v lv p F ms w h0 h1 hn hI hL7 he).mono stay
  ·exact(step_reset base B n a b s t v lv p F ms w h0 h1 hn hI).mono turn
end Go.Proofs.YtekkkoipcghlmaaGreatDoor
namespace Go.Proofs.YtekkkoipcghlmaaGreatDoor
open Go.RowKit
def OpsFull(w:World)(b off len:Nat):Prop:=
 ∀k,k<len->∃(kind a bb:Int) (s t:List UInt8) (v:Value) (xs:List Int),w.cell? ⟨b,off+k*6,none⟩=some (.int .i64 kind)/\w.cell? ⟨b,off+k*6+1,none⟩=some (.int .i64 a)/\w.cell? ⟨b,off+k*6+2,none⟩=some (.int .i64 bb)/\
  w.cell? ⟨b,off+k*6+3,none⟩=some (.string (bs s))/\w.cell? ⟨b,off+k*6+4,none⟩=some (.string (bs t))/\w.cell? ⟨b,off+k*6+5,none⟩=some v/\-9223372036854775808<=a/\a<=9223372036854775807/\s.length<=9223372036854775807/\t.length<=9223372036854775807/\xs.length<=2000000/\Lies w v (ints xs)/\-9223372036854775808<=bb/\bb<=9223372036854775807/\∀ao n c,v=.slice ao n c->n<=c
theorem lies_block{w:World}{v:Value}{xs:List Int}(h:Lies w v (ints xs))(hx:xs≠[]){g:Nat}(hg:v.ownBlock=some g):g<w.heap.size:=by
 rcases h with⟨h0,_⟩|⟨b,off,cap,_,rfl,hb,_⟩
 ·exact absurd (by simpa [ints] using h0) hx
 ·simp[Value.ownBlock]at hg;subst hg;exact hb
theorem KWAt.book{Z:Play}{base:Nat}{w:World}{B n L:Nat}(h:KWAt base w B n L Z):w.cell? ⟨B,1,none⟩=some Z.bk/\∃ao cp,w.cell? ⟨B,0,none⟩=some (.slice ao n cp):=by
 obtain⟨lv,p,F,ms,hI,_⟩:=h
 obtain⟨ao,cp,rfl⟩:=owns_shape hI.row
 exact⟨cell_of_row _ _ 1 _ _ _ hI.block,ao,cp,cell_of_row _ _ 0 _ _ _ hI.block⟩
theorem new_lies(w1:World)(a b:Int):Lies (w1.alloc (.cells #[.int .i64 a,.int .i64 b] 3)) (.slice (some ⟨w1.heap.size,0,none⟩) 2 2) (ints [a,b]):=by
 have h:=alloc_last w1 (.cells #[.int .i64 a,.int .i64 b] 3)
 refine .inr ⟨w1.heap.size,0,2,by simp[ints],rfl,lt_of_block h,fun k x hx=>?_⟩
 rw[Nat.zero_add,cell_of_row _ _ _ _ _ _ h]
 simpa [ints] using hx
end Go.Proofs.YtekkkoipcghlmaaGreatDoor
namespace Go.Proofs.YtekkkoipcghlmaaGreatDoor
open Go.RowKit
set_option maxRecDepth 100000 in
set_option maxHeartbeats 800000 in
theorem holds_any(v:Value)(xs:List Int)(b:Nat)(w:World)(hl:xs.length<=10000000)(hb:b<4096)(hx:∀x,x∈xs->x≠0/\-12<=x/\x<=12)(hv:Lies w v (ints xs)):
  Calls Tryz.prog 180 #[v,.int .i64 b] w fun e w'=>e=.returned (.bool (holdsOf b xs))/\∃q,w'=w.drewN q:=by
 rcases hv with⟨h0,ao,cap,rfl⟩|⟨bl,off,cap,hp,rfl,hbb,hc⟩
 ·have hx0:xs=[]:=by simpa [ints] using h0
  subst hx0
  go_enter Tryz.func180,Tryz.ntmps180
  go_wp2
  refine wp_loop_rounds 1 ?_
  rw[rounds_succ]
  go_wp2
  go_ret
  exact⟨rfl,0,rfl⟩
 ·have hlen:(ints xs).length=xs.length:=by simp[ints]
  rw[hlen]at hp⊢
  go_enter Tryz.func180,Tryz.ntmps180
  go_wp2
  go_loopw [5] (fun i wr=>∃k q:Nat,k<=xs.length/\i=.int .i64 k/\wr=w.drewN q/\Hid (holdsOf b (xs.take k)=false)) (fun i _=>xs.length-(intOf i).toNat)
  case atStart=>exact⟨0,0,Nat.zero_le _,rfl,rfl,rfl⟩
  case round=>
   obtain⟨k,q,hk,rfl,rfl,HA⟩:=hrel
   by_cases hlt:k<xs.length
   ·have hcell:=hc k (.int .i64 xs[k]) (by simp[ints,hlt])
    have HM:Hid (xs[k]∈xs):=aq (List.getElem_mem hlt)
    have hxx:=hx xs[k] (List.getElem_mem hlt)
    have HS:Hid (xs.take (k+1)=xs.take k++[xs[k]]):=aq (List.take_succ_eq_append_getElem hlt)
    generalize xs[k]=x at hcell HM HS hxx
    clear hc hx
    by_cases hneg:x<0
    ·have HE:=aq (test_eq b x ((-x).toNat-1) hb (by omega))
     cases ht:tru b x
     ·rw[ht]at HE
      have hE:=dz HE
      have HTX:=aq ht
      clear ht
      go_wp2
      go_quiet (fail)
      go_wp2
      go_roundw
      case rel=>exact⟨k+1,q+nq,by omega,by go_num,rfl,aq (by rw[dz HS];have:=dz HA;unfold holdsOf at this⊢;rw[List.any_append,this];simp[dz HTX])⟩
      case measure=>simp[intOf];omega
     ·rw[ht]at HE
      have hE:=dz HE
      have HTX:=aq ht
      clear ht
      go_wp2
      go_quiet (fail)
      go_wp2
      go_ret
      have:holdsOf b xs=true:=by unfold holdsOf;rw[List.any_eq_true];exact⟨x,dz HM,dz HTX⟩
      exact⟨by rw[this];rfl,q+nq,by rw[World.drewN_drewN]⟩
    ·have HE:=aq (test_eq b x (x.toNat-1) hb (by omega))
     cases ht:tru b x
     ·rw[ht]at HE
      have hE:=dz HE
      have HTX:=aq ht
      clear ht
      go_wp2
      go_quiet (fail)
      go_wp2
      go_roundw
      case rel=>exact⟨k+1,q+nq,by omega,by go_num,rfl,aq (by rw[dz HS];have:=dz HA;unfold holdsOf at this⊢;rw[List.any_append,this];simp[dz HTX])⟩
      case measure=>simp[intOf];omega
     ·rw[ht]at HE
      have hE:=dz HE
      have HTX:=aq ht
      clear ht
      go_wp2
      go_quiet (fail)
      go_wp2
      go_ret
      have:holdsOf b xs=true:=by unfold holdsOf;rw[List.any_eq_true];exact⟨x,dz HM,dz HTX⟩
      exact⟨by rw[this];rfl,q+nq,by rw[World.drewN_drewN]⟩
   ·have HT:Hid (xs.take k=xs):=aq (List.take_of_length_le (by omega))
    go_wp2
    go_ret
    exact⟨by rw[←dz HT,dz HA];rfl,_,rfl⟩
end Go.Proofs.YtekkkoipcghlmaaGreatDoor
namespace Go.Proofs.YtekkkoipcghlmaaGreatDoor
open Go.RowKit
def RowsL(w:World)(v:Value)(l:List (List Int)):Prop:=∃vs,Lies w v vs/\vs.length=l.length/\∀(i:Nat) (x:Value) (c:List Int),vs[i]?=some x->l[i]?=some c->Lies w x (ints c)
theorem lies_drew{w:World}{v:Value}{vs:List Value}(h:Lies w v vs)(q:Nat):Lies (w.drewN q) v vs:=h
theorem all_take{α:Type}(p:α->Bool)(l:List α)(k:Nat)(h:k<l.length):(l.take (k+1)).all p=((l.take k).all p&&p l[k]):=by
 rw[List.take_succ_eq_append_getElem h,List.all_append];simp
theorem all_of_take{α:Type}(p:α->Bool)(l:List α)(k:Nat)(h:(l.take k).all p=false):l.all p=false:=by
 rw[List.all_eq_false]at h⊢
 obtain⟨x,hx,hp⟩:=h
 exact⟨x,List.mem_of_mem_take hx,hp⟩
set_option maxRecDepth 100000 in
set_option maxHeartbeats 1600000 in
theorem can_any(v a:Value)(L:List (List Int))(A:List Int)(w:World)(hl:L.length<=10000000)(ha:A.length<=10000000)(hL:∀c,c∈L->Lits c/\c.length<=10000000)(hA:Lits A)(hv:RowsL w v L)(hav:Lies w a (ints A))(hac:∀ao n c,a=.slice ao n c->n<=c):
  Calls Tryz.prog 146 #[v,a] w fun e w'=>e=.returned (.bool (canOf L A))/\∃q,w'=w.drewN q:=by
 obtain⟨vs,hvs,hvl,hrows⟩:=hv
 obtain⟨vo,vc,hsh⟩:∃vo vc,v=.slice vo L.length vc:=by
  have:=lies_shape hvs
  rw[hvl]at this;exact this
 obtain⟨ao,ac,hsa⟩:∃ao ac,a=.slice ao A.length ac:=by
  have:=lies_shape hav
  simpa [ints] using this
 subst hsh hsa
 have hcap:A.length<=ac:=hac _ _ _ rfl
 clear hac
 have HVS:=aq hvs
 have HROWS:=aq hrows
 have HAV:=aq hav
 have HVL:=aq hvl
 have HLL:=aq hL
 have HAA:=aq hA
 clear hvs hrows hav hvl hL hA
 go_enter Tryz.func146,Tryz.ntmps146
 go_wp2
 go_loopw [5] (fun i wr=>∃k q:Nat,k<=4096/\i=.int .i64 k/\wr=w.drewN q/\Hid (∀b,b<k->canAt L A b=false)) (fun i _=>4096-(intOf i).toNat)
 case atStart=>exact⟨0,0,by omega,rfl,rfl,aq (fun b hb=>by omega)⟩
 case round=>
  obtain⟨k,q,hk,rfl,rfl,HN⟩:=hrel
  by_cases hlt:k<4096
  ·have hltI:decide ((k:Int)<4096)=true:=by rw[decide_eq_true_eq];omega
   go_wp2
   go_loopw [6,7] (fun ok i wr=>∃j q1:Nat,j<=A.length/\i=.int .i64 j/\ok=.bool ((A.take j).all (tru k))/\wr=w.drewN q1) (fun _ i _=>A.length-(intOf i).toNat)
   case atStart=>exact⟨0,q,Nat.zero_le _,rfl,rfl,rfl⟩
   case round=>
    obtain⟨j,q1,hj,rfl,rfl,rfl⟩:=hrel
    cases hok:(A.take j).all (tru k)
    ·have HCA:Hid (canAt L A k=false):=aq (by unfold canAt;rw[all_of_take _ _ _ hok];rfl)
     clear hok
     have HNX:Hid (∀b,b<k+1->canAt L A b=false):=aq (fun b hb=>by
      rcases Nat.lt_or_ge b k with h|h
      ·exact dz HN b h
      ·rw[show b=k from by omega];exact dz HCA)
     by_cases hjl:j<A.length<;>by_cases hL0:(0:Int)<(L.length:Int)
     all_goals go_wp2
     all_goals refine wp_loop_rounds 1 ?_
     all_goals rw[rounds_succ]
     all_goals go_wp2
     all_goals go_roundw
     all_goals first
      | exact⟨k+1,q1,by omega,by go_num,rfl,HNX⟩
      | (simp[intOf];omega)
    ·by_cases hjl:j<A.length
     ·have HST:=aq (all_take (tru k) A j hjl)
      rw[hok]at HST
      clear hok
      rcases dz HAV with⟨h0,_⟩|⟨b,off,cap',hp,hvv,hbb,hc⟩
      ·exfalso;have:=congrArg List.length h0;simp[ints]at this;rw[this]at hjl;simp at hjl
      ·simp only[Value.slice.injEq]at hvv
       obtain⟨rfl,-,rfl⟩:=hvv
       have HLi:Hid (Lies (w.drewN q1) (.slice (some ⟨b,off+j,none⟩) 1 (ac-j)) (ints [A[j]])):=aq (.inr ⟨b,off+j,ac-j,by simp[ints],rfl,hbb,fun t x hx=>by
        have ht:t=0:=by
         have:=(List.getElem?_eq_some_iff.1 hx).1
         simp[ints]at this;omega
        subst ht
        simp[ints]at hx
        subst hx
        exact hc j (.int .i64 A[j]) (by simp[ints,hjl])⟩)
       have HHO:=aq (holds_any _ [A[j]] k (w.drewN q1) (by simp) hlt (fun x hx=>by simp at hx;subst hx;exact dz HAA _ (List.getElem_mem hjl)) (dz HLi))
       have hh1:holdsOf k [A[j]]=tru k A[j]:=by simp[holdsOf]
       rw[hh1]at HHO
       clear hc hh1 HLi
       generalize tru k A[j]=tj at *
       go_wp2_with fail
       refine(dz HHO).mono ?_
       rintro e w2 ⟨rfl,q3,rfl⟩
       go_wp2
       go_roundw
       case rel=>exact⟨j+1,_,by omega,by go_num,by rw[dz HST];simp,rfl⟩
       case measure=>simp[intOf];omega
     ·have HAL:Hid (A.all (tru k)=true):=aq (by rw[List.take_of_length_le (by omega)]at hok;exact hok)
      clear hok
      go_wp2
      go_loopw [6,8] (fun ok i wr=>∃j2 q2:Nat,j2<=L.length/\i=.int .i64 j2/\ok=.bool ((L.take j2).all (holdsOf k))/\wr=w.drewN q2) (fun _ i _=>L.length-(intOf i).toNat)
      case atStart=>exact⟨0,q1,Nat.zero_le _,rfl,rfl,rfl⟩
      case round=>
       obtain⟨j2,q2,hj2,rfl,rfl,rfl⟩:=hrel
       cases hok:(L.take j2).all (holdsOf k)
       ·have HCA:Hid (canAt L A k=false):=aq (by unfold canAt;rw[all_of_take _ _ _ hok];simp)
        have HNX:Hid (∀b,b<k+1->canAt L A b=false):=aq (fun b hb=>by
         rcases Nat.lt_or_ge b k with h|h
         ·exact dz HN b h
         ·rw[show b=k from by omega];exact dz HCA)
        clear hok
        by_cases hL0:j2<L.length
        all_goals go_wp2
        all_goals go_roundw
        all_goals first
         | exact⟨k+1,q2,by omega,by go_num,rfl,HNX⟩
         | (simp[intOf];omega)
       ·by_cases hjl2:j2<L.length
        ·have HST:=aq (all_take (holdsOf k) L j2 hjl2)
         rw[hok]at HST
         clear hok
         have hvl:=dz HVL
         rcases dz HVS with⟨h0,_⟩|⟨b,off,cap',hp,hvv,hbb,hc⟩
         ·exfalso;rw[h0]at hvl;simp at hvl;omega
         ·simp only[Value.slice.injEq]at hvv
          obtain⟨rfl,-,rfl⟩:=hvv
          have hlx:=dz HROWS j2 vs[j2] L[j2] (by simp[hvl,hjl2]) (by simp[hjl2])
          have hcell:=hc j2 vs[j2] (by simp[hvl,hjl2])
          obtain⟨hli,hll⟩:=dz HLL L[j2] (List.getElem_mem hjl2)
          have HHO:=aq (holds_any _ L[j2] k (w.drewN q2) hll hlt hli hlx)
          obtain⟨xo,xc,hxs⟩:∃xo xc,vs[j2]=.slice xo L[j2].length xc:=by
           have:=lies_shape hlx
           simpa [ints] using this
          rw[hxs]at hcell HHO
          clear hc hlx hli hll hxs
          generalize holdsOf k L[j2]=tj at *
          generalize L[j2].length=lj at *
          go_wp2_with fail
          refine(dz HHO).mono ?_
          rintro e w2 ⟨rfl,q3,rfl⟩
          go_wp2
          go_roundw
          case rel=>exact⟨j2+1,_,by omega,by go_num,by rw[dz HST];simp,rfl⟩
          case measure=>simp[intOf];omega
        ·have HCT:Hid (canOf L A=true):=aq (by
          rw[List.take_of_length_le (by omega)]at hok
          unfold canOf
          rw[List.any_eq_true]
          exact⟨k,by simpa using hlt,by unfold canAt;rw[dz HAL,hok];rfl⟩)
         clear hok
         go_wp2
         go_ret
         exact⟨by rw[dz HCT];rfl,_,rfl⟩
  ·have HZ:Hid (canOf L A=false):=aq (by
    unfold canOf
    rw[List.any_eq_false]
    intro b hb
    have:=dz HN b (by
     have:b<4096:=by simpa using hb
     omega)
    rw[this];decide)
   go_wp2
   go_ret
   exact⟨by rw[dz HZ];rfl,_,rfl⟩
end Go.Proofs.YtekkkoipcghlmaaGreatDoor
