import Derived.Test.YtekkkoipcghlmaaGreatDoorU32
import Derived.Test.YtekkkoipcghlmaaGreatDoorU33
import Derived.Laws.CopyOwn
import Derived.Laws.OwnMore
import Derived.OwnWalk
set_option linter.all false
namespace Go.Proofs.YtekkkoipcghlmaaGreatDoor
open Go.RowKit
structure YAt(base:Nat)(w:World)(y:Nat)(lv:Value)(vs:List Value)(ms:List Nat):Prop where
 block:w.heap[y]?=some (.cells #[lv] 93 (0,0))
 le:base<=y
 row:w.ownsRow base 25 1 lv ms.length vs
 rows:RowsAt w base vs (ms.map Sp.litsOf)
def aR8(F:Nat->Prop)(y:Nat)(lv:Value)(vs:List Value):Prop:=F y/\(∀g,lv.ownBlock=some g->F g)/\∀v,v∈vs->∀g,v.ownBlock=some g->F g
theorem YAt.keep{base:Nat}{w w':World}{y:Nat}{lv:Value}{vs:List Value}{ms:List Nat}(h:YAt base w y lv vs ms){F:Nat->Prop}(hf:aR8 F y lv vs)(hk:∀k,F k->w'.heap[k]?=w.heap[k]?):YAt base w' y lv vs ms:=
 ⟨(hk y hf.1).trans h.block,h.le,aH h.row (fun g hg=>hk g (hf.2.1 g hg)),h.rows.1,fun i x c hx hc=>aH (h.rows.2 i x c hx hc) (fun g hg=>hk g (hf.2.2 x (List.mem_of_getElem? hx) g hg))⟩
structure Play where
 bk:Value
 G:Nat->Prop
 J:World->Prop
 I:List Nat->List UInt8->ByteArray->Bool->ByteArray->Bool->Prop
 keep:∀w w',J w->w.heap.size<=w'.heap.size->(∀k,G k->w'.heap[k]?=w.heap[k]?)->J w'
 new:I [] [] ⟨#[]⟩ false ⟨#[]⟩ false
 add:∀ms pb pr gr la en xs,I ms pb pr gr la en->I (addTo ms xs).2 pb pr gr la en
 reset:∀la,I [] [] ⟨#[]⟩ false la false
structure SideIs(base:Nat)(w:World)(F:Nat->Prop)(p x:Nat)(kv:Value)(y:Nat)(lv:Value)(vs:List Value)(ms:List Nat)(pv:Value)(pb:List UInt8)(Z:Play):Prop where
 block:∃pr gr la en,w.heap[p]?=some (.cells #[.pointer (some ⟨x,0,none⟩),.pointer (some ⟨y,0,none⟩),.string pr,.bool gr,.string la,.bool en] 95 (0,0))/\Z.I ms pb pr gr la en
 le:base<=p
 prog:XAt base w x kv ms pv pb
 doc:YAt base w y lv vs ms
 fp:F p
 fx:aR9 F x kv pv
 fy:aR8 F y lv vs
 inn:∀k,F k->base<=k/\k<w.heap.size
 small:∀m,m∈ms->m<2 ^ 24
def SideAt(base:Nat)(w:World)(F:Nat->Prop)(p:Nat)(ms:List Nat)(Z:Play):Prop:=∃x kv y lv vs pv pb,SideIs base w F p x kv y lv vs ms pv pb Z
theorem SideAt.keep{Z:Play}{base:Nat}{w w':World}{F:Nat->Prop}{p:Nat}{ms:List Nat}(h:SideAt base w F p ms Z)(hs:w.heap.size<=w'.heap.size)(hk:∀k,F k->w'.heap[k]?=w.heap[k]?):SideAt base w' F p ms Z:=by
 obtain⟨x,kv,y,lv,vs,pv,pb,h⟩:=h
 obtain⟨pr,gr,la,en,hb,hZ⟩:=h.block
 exact⟨x,kv,y,lv,vs,pv,pb,⟨⟨pr,gr,la,en,(hk p h.fp).trans hb,hZ⟩,h.le,h.prog.keep h.fx hk,h.doc.keep h.fy hk,h.fp,h.fx,h.fy,fun k hf=>⟨(h.inn k hf).1,Nat.lt_of_lt_of_le (h.inn k hf).2 hs⟩,h.small⟩⟩
structure WIs(base:Nat)(w:World)(B n:Nat)(lv:Value)(p:Nat->Nat)(F:Nat->Nat->Prop)(ms:Nat->List Nat)(Z:Play):Prop where
 block:w.heap[B]?=some (.cells #[lv,Z.bk] 64 (0,0))
 le:base<=B
 row:w.ownsRow base 90 1 lv n ((List.range n).map fun i=>.pointer (some ⟨p i,0,none⟩))
 sides:∀i,i<n->SideAt base w (F i) (p i) (ms i) Z
 apart:∀i j,i<n->j<n->i≠j->∀k,F i k->¬F j k
 notB:∀i,i<n->¬F i B
 notRow:∀i,i<n->∀g,lv.ownBlock=some g->¬F i g
 four:n<=4
 book:Z.J w
 inG:∀k,Z.G k->base<=k/\k<w.heap.size
 apartG:∀i,i<n->∀k,F i k->¬Z.G k
 notBG:¬Z.G B
 notRowG:∀g,lv.ownBlock=some g->¬Z.G g
def KWAt(base:Nat)(w:World)(B n L:Nat)(Z:Play):Prop:=∃lv p F ms,WIs base w B n lv p F ms Z/\∀i,i<n->(ms i).length<=L
theorem WIs.turn{Z:Play}{base:Nat}{w w':World}{B n:Nat}{lv:Value}{p:Nat->Nat}{F:Nat->Nat->Prop}{ms:Nat->List Nat}(h:WIs base w B n lv p F ms Z){d:Nat}(hd:d<n){F':Nat->Prop}{ms':List Nat}
  (ho:Only (F d) w w') (hs:SideAt base w' F' (p d) ms' Z) (hF:∀k,F' k->F d k∨w.heap.size<=k):
  WIs base w' B n lv p (fun i=>if i=d then F' else F i) (fun i=>if i=d then ms' else ms i) Z:=by
 have hlt:∀i,i<n->∀k,F i k->k<w.heap.size:=fun i hi k hk=>by
  obtain⟨x,kv,y,lv',vs,pv,pb,hh⟩:=h.sides i hi
  exact(hh.inn k hk).2
 have hBlt:=aA h.block
 have hrow:∀g,lv.ownBlock=some g->g<w.heap.size:=fun g hg=>(h.row.lt g hg).2
 have key:∀i,i<n->i≠d->∀k,F i k->w'.heap[k]?=w.heap[k]?:=fun i hi hid k hk=>ho.block k (hlt i hi k hk) (h.apart i d hi hd hid k hk)
 have off:∀k,k<w.heap.size->¬F d k->¬F' k:=fun k hk hn hf=>by
  rcases hF k hf with h1|h1
  ·exact hn h1
  ·omega
 refine⟨(ho.block B hBlt (h.notB d hd)).trans h.block,h.le,aH h.row (fun g hg=>ho.block g (hrow g hg) (h.notRow d hd g hg)),fun i hi=>?_,fun i j hi hj hij k hk=>?_,fun i hi=>?_,fun i hi g hg=>?_,h.four,Z.keep _ _ h.book ho.size (fun k hk=>ho.block k (h.inG k hk).2 (fun hf=>h.apartG d hd k hf hk)),fun k hk=>⟨(h.inG k hk).1,Nat.lt_of_lt_of_le (h.inG k hk).2 ho.size⟩,fun i hi k hk hg=>?_,h.notBG,h.notRowG⟩
 ·by_cases e:i=d
  ·subst e;simp only[if_true];exact hs
  ·simp only[if_neg e];exact(h.sides i hi).keep ho.size (key i hi e)
 ·by_cases e:i=d
  ·subst e
   simp only[if_true,if_neg (Ne.symm hij)]at hk⊢
   intro hj'
   exact off k (hlt j hj k hj') (fun hf=>h.apart i j hi hj hij k hf hj') hk
  ·simp only[if_neg e]at hk
   by_cases e2:j=d
   ·subst e2
    simp only[if_true]
    exact off k (hlt i hi k hk) (h.apart i j hi hj hij k hk)
   ·simp only[if_neg e2];exact h.apart i j hi hj hij k hk
 ·by_cases e:i=d
  ·subst e;simp only[if_true];exact off B hBlt (h.notB i hi)
  ·simp only[if_neg e];exact h.notB i hi
 ·by_cases e:i=d
  ·subst e;simp only[if_true];exact off g (hrow g hg) (h.notRow i hi g hg)
  ·simp only[if_neg e];exact h.notRow i hi g hg
 ·by_cases e:i=d
  ·subst e
   simp only[if_true]at hk
   exact off k (h.inG k hg).2 (fun hf=>h.apartG i hi k hf hg) hk
  ·simp only[if_neg e]at hk
   exact h.apartG i hi k hk hg
theorem KWAt.below{Z:Play}{base:Nat}{w w':World}{B n L:Nat}(h:KWAt base w B n L Z)(hb:Below w.heap.size w w'):KWAt base w' B n L Z:=by
 obtain⟨lv,p,F,ms,h,hL⟩:=h
 refine⟨lv,p,F,ms,⟨(hb.block B (aA h.block)).trans h.block,h.le,aH h.row (fun g hg=>hb.block g (h.row.lt g hg).2),fun i hi=>(h.sides i hi).keep hb.size (fun k hk=>?_),h.apart,h.notB,h.notRow,h.four,Z.keep _ _ h.book hb.size (fun k hk=>hb.block k (h.inG k hk).2),fun k hk=>⟨(h.inG k hk).1,Nat.lt_of_lt_of_le (h.inG k hk).2 hb.size⟩,h.apartG,h.notBG,h.notRowG⟩,hL⟩
 obtain⟨x,kv,y,lv',vs,pv,pb,hh⟩:=h.sides i hi
 exact hb.block k (hh.inn k hk).2
theorem KWAt.more{Z:Play}{base:Nat}{w:World}{B n L L':Nat}(h:KWAt base w B n L Z)(hl:L<=L'):KWAt base w B n L' Z:=by
 obtain⟨lv,p,F,ms,h,hL⟩:=h
 exact⟨lv,p,F,ms,h,fun i hi=>Nat.le_trans (hL i hi) hl⟩
end Go.Proofs.YtekkkoipcghlmaaGreatDoor
namespace Go.Proofs.YtekkkoipcghlmaaGreatDoor
open Go.RowKit
def aL(c:Int)(n:Nat):Nat:=((if c<0 then -(c+1)else c) % (n:Int)).toNat
theorem eN(c:Int){n:Nat}(hn:0<n):aL c n<n:=by
 unfold aL
 have h1:=Int.emod_nonneg (if c<0 then -(c+1)else c) (b:=(n:Int)) (by omega)
 have h2:=Int.emod_lt_of_pos (if c<0 then -(c+1)else c) (b:=(n:Int)) (by omega)
 omega
theorem tU{c a:Int}{n:Nat}(h:(if c<0 then -(c+1)else c) % (n:Int)=a)(hn:0<n):Ending.returned (.int .i64 a)=.returned (.int .i64 (aL c n:Int)):=by
 unfold aL
 rw[Int.toNat_of_nonneg (Int.emod_nonneg _ (by omega)),h]
theorem gP(c:Int)(n:Nat)(w:World)(h0:-9223372036854775808<=c)(h1:c<=9223372036854775807)(hn:0<n)(hn4:n<=4):
  Calls Tryz.prog 53 #[.int .i64 c,.int .i64 n] w fun e w'=>e=.returned (.int .i64 (aL c n))/\w'=w:=by
 by_cases hc:c<0
 ·have HC:=aq hc
  go_enter Tryz.func53,Tryz.ntmps53
  go_wp2
  go_ret
  have e1:-(c+1).tmod (n:Int)=(-(c+1)) % (n:Int):=by rw[←Int.neg_tmod,Int.tmod_eq_emod_of_nonneg (by omega)]
  exact⟨tU (a:=-(c+1).tmod (n:Int)) (by rw[e1,if_pos (dz HC)]) hn,rfl⟩
 ·have HC:=aq hc
  go_enter Tryz.func53,Tryz.ntmps53
  go_wp2
  go_ret
  exact⟨tU (a:=c % (n:Int)) (by rw[if_neg (by have:=dz HC;omega)]) hn,rfl⟩
theorem aE7{w:World}{base n:Nat}{e:TypeId}{g:Nat}{xs:List Value}(h:w.ownsRow base e 1 (.slice (some ⟨g,0,none⟩) n n) n xs):w.heap[g]?=some (.cells xs.toArray e (0,0)):=by
 rcases h.2 with⟨hv,_⟩|⟨g',cap,cur,hv,_,hg,_,_,hsz,htk⟩
 ·cases hv
 ·simp only[Value.slice.injEq,Option.some.injEq,Addr.mk.injEq]at hv
  obtain⟨⟨rfl,-,-⟩,-,rfl⟩:=hv
  rw[hg]
  have:cur.toList=xs:=by rw[←htk,List.take_of_length_le (by simp;omega)]
  rw[←this]
def kT(xs:List Int):List Value:=splice (List.replicate (xs.length+2) (Value.int .i64 0)) 0 (ints xs)
theorem oL(xs:List Int):kT xs=ints xs++[.int .i64 0,.int .i64 0]:=by
 have:(ints xs).length=xs.length:=by simp[ints]
 unfold kT splice
 simp[this]
theorem aG3{ops:Array Oper}{rest:List Oper}{o:Oper}{a:Act}{Q:Exit->Act->World->Prop}{w w1:World}{xs:List Int}{ao:Option Addr}{cap:Nat}
  (hgd:o.guard=none) (d s:Operand) (ho:o.op=.call { callee:=.builtin .copy,args:=#[d,s],argTypes:=#[25,25] })
  (hd:a.eval d=.slice (some ⟨w.heap.size,0,none⟩) (xs.length+2) (xs.length+2)) (hs:a.eval s=.slice ao xs.length cap)
  (HR:Hid (w1.heap[w.heap.size]?=some (.cells (List.replicate (xs.length+2) (Value.int .i64 0)).toArray 3 (0,0))))
  (HPOS:Hid (∀w1,Below w.heap.size w w1->0<(ints xs).length->∃ad,ao=some ad/\∀j v,(ints xs)[j]?=some v->w1.cell? (ad.add j)=some v)) (hb:Below w.heap.size w w1)
  (h:∀w',Hid (w'.heap[w.heap.size]?=some (.cells (kT xs).toArray 3 (0,0)))->Below w.heap.size w w'->wpList Tryz.prog ops Q rest (a.put o.dst (goInt xs.length)) w'):
  wpList Tryz.prog ops Q (o::rest) a w1:=by
 obtain⟨i0,hi0,hz0,hz1,hz2⟩:=info_parts Tryz.infoIntW
 have hlen:(ints xs).length=xs.length:=by simp[ints]
 refine wpList_copy_splice hgd d s 25 25 ho 3 Tryz.underlying25 (by rw[hi0];simp[hz1]) _ _ _ _ _ _ hd hs w.heap.size 0 (List.replicate (xs.length+2) (Value.int .i64 0)) 3 (dz HR) (ints xs)
  (by rw[hlen];show _=min _ _;omega) (fun hp=>⟨rfl,dz HPOS w1 hb hp⟩) (by rw[hlen];simp) ?_ w.heap.size w hb (Nat.le_refl _) ?_
 ·intro v hv;unfold ints at hv;obtain⟨x,_,rfl⟩:=List.mem_map.1 hv;rfl
 ·intro w' h1 h2
  rw[hlen]
  exact h w' h1 h2
set_option maxRecDepth 100000 in
set_option maxHeartbeats 400000 in
theorem uF(v:Value)(xs:List Int)(w:World)(hl:xs.length<=10000000)(hv:Lies w v (ints xs)):
  Calls Tryz.prog 54 #[v] w fun e w'=>e=.returned (.slice (some ⟨w.heap.size,0,none⟩) (xs.length+2) (xs.length+2))/\w'.heap[w.heap.size]?=some (.cells (ints (xs++[77,0])).toArray 3 (0,0))/\Below w.heap.size w w':=by
 obtain⟨i0,hi0,hz0,hz1,hz2⟩:=info_parts Tryz.infoIntW
 have hlen:(ints xs).length=xs.length:=by simp[ints]
 obtain⟨ao,cap,hsh⟩:∃ao cap,v=.slice ao xs.length cap:=by
  rcases hv with⟨h0,ao,cap,rfl⟩|⟨b,off,cap,hp,rfl,hb,hc⟩
  ·refine⟨ao,cap,?_⟩;rw[h0]at hlen;rw[←hlen];rfl
  ·exact⟨_,_,by rw[hlen]⟩
 subst hsh
 have HPOS:Hid (∀w1,Below w.heap.size w w1->0<(ints xs).length->∃ad,ao=some ad/\∀j v,(ints xs)[j]?=some v->w1.cell? (ad.add j)=some v):=aq (fun w1 hb1 hp=>by
  rcases hv with⟨h0,_⟩|⟨b,off,cap',_,hv,hb,hc⟩
  ·rw[h0]at hp;cases hp
  ·simp only[Value.slice.injEq]at hv
   refine⟨⟨b,off,none⟩,hv.1,fun j x hx=>?_⟩
   rw[show(⟨b,off,none⟩:Addr).add j=⟨b,off+j,none⟩from by simp[Addr.add]];exact(hb1.cell (p:=⟨b,off+j,none⟩) hb).trans (hc j x hx))
 clear hv
 have HROW:Hid ((kT xs).toArray[xs.length]?=some (.int .i64 0)):=aq (by rw[oL];simp[hlen])
 have HSET:Hid ((kT xs).toArray.setIfInBounds xs.length (.int .i64 77)=(ints (xs++[77,0])).toArray):=aq (by rw[oL];simp[ints])
 clear hlen
 go_enter Tryz.func54,Tryz.ntmps54
 go_wp2_with (first
  | (at_make;refine wpList_make_full _ rfl _ _ 25 rfl w.heap.size 3 i0 (.int .i64 0) 1 Tryz.underlying25 hi0 hz0 hz1 .i64 .i64 _ _ (xs.length+2) rfl rfl (by omega) (by omega) (by rw[hz2];omega) (by unfold maxLen;omega) (Nat.le_refl _) ?_;intro w1 hown1 hg1;have HR1:Hid (w1.heap[w.heap.size]?=some (.cells (List.replicate (xs.length+2) (Value.int .i64 0)).toArray 3 (0,0))):=aq (by have h1:=aE7 hown1;rw[Nat.mul_one]at h1;rw[h1,←toList_madeCells_one];rfl);have hb1:Below w.heap.size w w1:=(Below.refl _ _).grown hg1 (Nat.le_refl _) (fun k hk=>(by cases hk));clear hown1 hg1)
  | (refine aG3 (w:=w) (xs:=xs) rfl _ _ rfl rfl rfl HR1 HPOS hb1 ?_;intro w2 HG2 hB2;have hc2:w2.cell? ⟨w.heap.size,xs.length,none⟩=some (.int .i64 0):=(cell_of_row w2 _ _ _ _ _ (dz HG2)).trans (dz HROW);have hf2:w2.frozen? ⟨w.heap.size,xs.length,none⟩=false:=frozen_of_row w2 _ _ _ _ (dz HG2))
  | fail)
 go_ret
 exact⟨rfl,by rw[heap_setCell_same _ _ _ _ _ _ (dz HG2),dz HSET],hB2.setCell (p:=⟨w.heap.size,xs.length,none⟩) (Nat.le_refl _) _⟩
def fC(xs:List Int)(k:Nat):List Value:=ints (List.replicate k 78++(xs.drop k++[77,0]))
theorem aQ2(l:List Value)(x y:Value)(t:List Value)(k:Nat)(h:l.length=k):(l++x::t).toArray.setIfInBounds k y=(l++y::t).toArray:=by subst h;simp
theorem nN(xs:List Int)(k:Nat)(h:k<xs.length):fC xs k=List.replicate k (.int .i64 78)++.int .i64 xs[k]::ints (xs.drop (k+1)++[77,0]):=by
 unfold fC
 rw[List.drop_eq_getElem_cons h]
 simp only[ints,List.map_append,List.map_cons,List.map_replicate,List.cons_append]
theorem uA(xs:List Int)(k:Nat)(h:k<xs.length):(fC xs k).toArray[k]?=some (.int .i64 xs[k]):=by
 rw[nN xs k h]
 generalize ints (xs.drop (k+1)++[77,0])=t
 simp
theorem tY(xs:List Int)(k:Nat)(h:k<xs.length):(fC xs k).toArray.setIfInBounds k (.int .i64 78)=(fC xs (k+1)).toArray:=by
 have e3:fC xs (k+1)=List.replicate k (.int .i64 78)++.int .i64 78::ints (xs.drop (k+1)++[77,0]):=by
  unfold fC
  rw[List.replicate_succ']
  simp only[ints,List.map_append,List.map_cons,List.map_replicate,List.append_assoc,List.cons_append,List.nil_append,List.map_nil]
 rw[nN xs k h,e3]
 exact aQ2 _ _ _ _ _ (by simp)
set_option maxRecDepth 100000 in
set_option maxHeartbeats 400000 in
theorem uY(g:Nat)(v:Value)(xs:List Int)(w1:World)(hl:xs.length<=10000000)(hv:Lies w1 v (ints xs))(hne:xs≠[]->v.ownBlock≠some g)(hrow:w1.heap[g]?=some (.cells (ints (xs++[77,0])).toArray 3 (0,0))):
  Calls Tryz.prog 56 #[.slice (some ⟨g,0,none⟩) (xs.length+2) (xs.length+2),v] w1 fun e w'=>e=.returned (.bool true)/\Only (·=g) w1 w':=by
 have hlen:(ints xs).length=xs.length:=by simp[ints]
 have hc1:w1.cell? ⟨g,xs.length,none⟩=some (.int .i64 77):=(cell_of_row w1 _ _ _ _ _ hrow).trans (by simp[ints])
 have hc2:w1.cell? ⟨g,xs.length+1,none⟩=some (.int .i64 0):=(cell_of_row w1 _ _ _ _ _ hrow).trans (by simp[ints])
 have HR:Hid (w1.heap[g]?=some (.cells (fC xs 0).toArray 3 (0,0))):=aq (by rw[hrow];simp[fC])
 clear hrow
 rcases hv with⟨h0,ao,cap,rfl⟩|⟨b,off,cap,hp,rfl,hbb,hc⟩
 ·have hx:xs=[]:=by simpa [ints] using h0
  subst hx
  have hc1':w1.cell? ⟨g,0,none⟩=some (.int .i64 77):=hc1
  have hc2':w1.cell? ⟨g,1,none⟩=some (.int .i64 0):=hc2
  clear hc1 hc2
  go_enter Tryz.func56,Tryz.ntmps56
  go_wp2
  refine wp_loop_rounds 1 ?_
  rw[rounds_succ]
  go_wp2
  go_ret
  exact⟨rfl,Only.refl _ _⟩
 ·rw[hlen]at hp⊢
  go_enter Tryz.func56,Tryz.ntmps56
  go_wp2
  go_loopw [6,7] (fun ok i wr=>∃k:Nat,k<=xs.length/\i=.int .i64 k/\ok=.bool true/\Hid (wr.heap[g]?=some (.cells (fC xs k).toArray 3 (0,0)))/\Only (·=g) w1 wr) (fun _ i _=>xs.length-(intOf i).toNat)
  case atStart=>exact⟨0,Nat.zero_le _,rfl,rfl,HR,Only.refl _ _⟩
  case round=>
   obtain⟨k,hk,rfl,rfl,HG,ho⟩:=hrel
   by_cases hlt:k<xs.length
   ·have hcw:wr.cell? ⟨b,off+k,none⟩=some (.int .i64 xs[k]):=by
     have h1:wr.heap[b]?=w1.heap[b]?:=ho.block b hbb (fun e=>hne (fun e=>by rw[e]at hp;simp at hp) (by rw[←e];rfl))
     exact(World.cell?_of_block (w:=w1) (a:=⟨b,off+k,none⟩) h1).trans (hc k (.int .i64 xs[k]) (by simp[ints,hlt]))
    have hcl:wr.cell? ⟨g,k,none⟩=some (.int .i64 xs[k]):=(cell_of_row wr _ _ _ _ _ (dz HG)).trans (uA xs k hlt)
    have hfl:wr.frozen? ⟨g,k,none⟩=false:=frozen_of_row wr _ _ _ _ (dz HG)
    have HST:=aq (tY xs k hlt)
    have HO:=aq ho
    generalize xs[k]=x at hcw hcl
    clear hc ho
    go_wp2
    go_quiet (fail)
    go_wp2
    go_roundw
    case rel=>
     exact⟨k+1,by omega,by go_num,by simp,aq (by rw[heap_setCell_same (wr.drewN nq) _ _ _ _ _ (show(wr.drewN nq).heap[g]?=_ from dz HG),dz HST]),((dz HO).trans (Only.of_below _ (aG (Below.refl _ _) nq))).trans (Only.setCell (F:=(·=g)) (p:=⟨g,k,none⟩) rfl _ _)⟩
    case measure=>simp[intOf];omega
   ·go_wp2
    go_ret
    exact⟨rfl,ho⟩
end Go.Proofs.YtekkkoipcghlmaaGreatDoor
namespace Go.Proofs.YtekkkoipcghlmaaGreatDoor
open Go.RowKit
theorem aO8(n:Int)(w:World):
  Calls Tryz.prog 143 #[.int .i64 n] w fun e w'=>e=.returned (.bool (oX n))/\w'=w:=by
 cases hl:oX n
 ·have hno:n=0∨n < -12∨12<n:=by
   have:¬(n≠0/\-12<=n/\n<=12):=fun h=>by rw[cJ.2 h]at hl;cases hl
   omega
  clear hl
  rcases hno with rfl|h|h
  ·go_enter Tryz.func143,Tryz.ntmps143
   go_wp2
   go_ret
   exact⟨rfl,rfl⟩
  ·have h0:¬n=0:=by omega
   go_enter Tryz.func143,Tryz.ntmps143
   go_wp2
   go_ret
   exact⟨rfl,rfl⟩
  ·have h0:¬n=0:=by omega
   go_enter Tryz.func143,Tryz.ntmps143
   go_wp2
   go_ret
   exact⟨iS (by simp;omega),rfl⟩
 ·obtain⟨h0,h1,h2⟩:=cJ.1 hl
  clear hl
  go_enter Tryz.func143,Tryz.ntmps143
  go_wp2
  go_ret
  exact⟨iS (by simp;omega),rfl⟩
set_option maxRecDepth 100000 in
set_option maxHeartbeats 400000 in
theorem rF(v:Value)(xs:List Int)(w:World)(hl:xs.length<=10000000)(hv:Lies w v (ints xs)):
  Calls Tryz.prog 98 #[v] w fun e w'=>e=.returned (.bool (bD xs))/\w'=w:=by
 rcases hv with⟨h0,ao,cap,rfl⟩|⟨b,off,cap,hp,rfl,hb,hc⟩
 ·have hx:xs=[]:=by simpa [ints] using h0
  subst hx
  go_enter Tryz.func98,Tryz.ntmps98
  go_wp2
  refine wp_loop_rounds 1 ?_
  rw[rounds_succ]
  go_wp2
  go_ret
  exact⟨rfl,rfl⟩
 ·have hlen:(ints xs).length=xs.length:=by simp[ints]
  rw[hlen]at hp⊢
  go_enter Tryz.func98,Tryz.ntmps98
  go_wp2
  go_loop [3] (fun i=>∃k:Nat,k<=xs.length/\i=.int .i64 k/\Hid (bD (xs.take k)=true)) (fun i=>xs.length-(intOf i).toNat)
  case atStart=>exact⟨0,Nat.zero_le _,rfl,rfl⟩
  case round=>
   obtain⟨k,hk,rfl,HA⟩:=hrel
   by_cases hlt:k<xs.length
   ·have hcell:=hc k (.int .i64 xs[k]) (by simp[ints,hlt])
    have HM:Hid (xs[k]∈xs):=aq (List.getElem_mem hlt)
    have HS:Hid (xs.take (k+1)=xs.take k++[xs[k]]):=aq (List.take_succ_eq_append_getElem hlt)
    generalize xs[k]=x at hcell HM HS
    clear hc
    have HL:=aq (aO8 x w)
    cases hx:oX x
    ·rw[hx]at HL
     have HX:=aq hx
     clear hx
     go_wp2_with fail
     refine(dz HL).mono ?_
     rintro e w1 ⟨rfl,rfl⟩
     go_wp2
     go_ret
     have:bD xs=false:=by
      rw[bD,List.all_eq_false]
      exact⟨x,dz HM,by rw[dz HX];decide⟩
     exact⟨by rw[this];rfl,rfl⟩
    ·rw[hx]at HL
     have HX:=aq hx
     clear hx
     go_wp2_with fail
     refine(dz HL).mono ?_
     rintro e w1 ⟨rfl,rfl⟩
     go_wp2
     go_round
     case rel=>exact⟨k+1,by omega,by go_num,aq (by rw[dz HS];have:=dz HA;simp[bD]at this⊢;exact⟨this,dz HX⟩)⟩
     case measure=>simp[intOf];omega
   ·have HT:Hid (xs.take k=xs):=aq (List.take_of_length_le (by omega))
    go_wp2
    go_ret
    exact⟨by rw[←dz HT,dz HA];rfl,rfl⟩
theorem rM{x y:Int}(hx:x≠0/\-12<=x/\x<=12)(hy:y≠0/\-12<=y/\y<=12):Sp.bitIx y=Sp.opp (Sp.bitIx x)↔y=-x:=by
 unfold Sp.bitIx Sp.opp
 split<;>split<;>split<;>omega
theorem vK{xs:List Int}(h:bD xs=true):fJ xs=aO (Sp.maskOf xs):=by
 have hbd:∀y,y∈xs->y≠0/\-12<=y/\y<=12:=fun y hy=>cJ.1 (by rw[bD,List.all_eq_true]at h;exact h y hy)
 have hm:Sp.maskOf xs<2 ^ 24:=Sp.maskOf_lt _ (fun y hy=>(hbd y hy).2)
 rw[Bool.eq_iff_iff,eP hm]
 unfold fJ
 rw[List.any_eq_true]
 constructor
 ·rintro⟨x,hx,hc⟩
  have hn:-x∈xs:=by simpa using hc
  refine⟨Sp.bitIx x,?_,?_⟩
  ·rw[Sp.maskOf_testBit,List.any_eq_true];exact⟨x,hx,by simp⟩
  ·rw[Sp.maskOf_testBit,List.any_eq_true];exact⟨-x,hn,by rw[beq_iff_eq];exact(rM (hbd x hx) (hbd _ hn)).2 rfl⟩
 ·rintro⟨i,h1,h2⟩
  rw[Sp.maskOf_testBit,List.any_eq_true]at h1 h2
  obtain⟨x,hx,ex⟩:=h1
  obtain⟨y,hy,ey⟩:=h2
  rw[beq_iff_eq]at ex ey
  subst ex
  have:=(rM (hbd x hx) (hbd y hy)).1 ey
  subst this
  exact⟨x,hx,by simpa using hy⟩
end Go.Proofs.YtekkkoipcghlmaaGreatDoor
namespace Go.Proofs.YtekkkoipcghlmaaGreatDoor
open Go.RowKit
def YF(y:Nat)(lv:Value)(k:Nat):Prop:=k=y∨lv.ownBlock=some k
def AddY(base y:Nat)(lv:Value)(vs:List Value)(ms:List Nat)(xs:List Int)(w w':World):Prop:=
 ∃lv' vs',YAt base w' y lv' vs' (addTo ms xs).2/\Only (YF y lv) w w'/\(∀g,lv'.ownBlock=some g->lv.ownBlock=some g∨w.heap.size<=g)/\∀v,v∈vs'->v∈vs∨∀g,v.ownBlock=some g->w.heap.size<=g
theorem YAt.below{base:Nat}{w w':World}{y:Nat}{lv:Value}{vs:List Value}{ms:List Nat}(h:YAt base w y lv vs ms)(hb:Below w.heap.size w w'):YAt base w' y lv vs ms:=
 ⟨(hb.block y (aA h.block)).trans h.block,h.le,aH h.row (fun g hg=>hb.block g (h.row.lt g hg).2),h.rows.below hb⟩
theorem AddY.stay{base y:Nat}{lv:Value}{vs:List Value}{ms:List Nat}{xs:List Int}{w w':World}(h:YAt base w y lv vs ms)(hb:Below w.heap.size w w')(ha:(addTo ms xs).2=ms):AddY base y lv vs ms xs w w':=
 ⟨lv,vs,by rw[ha];exact h.below hb,Only.of_below _ hb,fun g hg=>.inl hg,fun v hv=>.inl hv⟩
theorem midY{base y:Nat}{lv cv:Value}{vs:List Value}{ms:List Nat}{m:Nat}{w w1 w4:World}{g' cap':Nat}{o:Obj}(hY:YAt base w y lv vs ms)(hb1:Below w.heap.size w w1)
  (hc:w1.ownsRow w.heap.size 3 1 cv (Sp.litsOf m).length (ints (Sp.litsOf m)))
  (hown:w4.ownsRow base 25 1 (.slice (some ⟨g',0,none⟩) (ms.length+1) cap') (ms.length+1) (vs++[cv])) (hgr:(w1.alloc o).grownBy w4 lv.ownBlock) (hloc:lv.ownBlock=some g'∨g'=(w1.alloc o).heap.size):
  w4.heap[y]?=some (.cells #[lv] 93 (0,0))/\
  YAt base (w4.setCell ⟨y,0,none⟩ (.slice (some ⟨g',0,none⟩) (ms.length+1) cap')) y (.slice (some ⟨g',0,none⟩) (ms.length+1) cap') (vs++[cv]) (ms++[m])/\
  Only (YF y lv) w (w4.setCell ⟨y,0,none⟩ (.slice (some ⟨g',0,none⟩) (ms.length+1) cap'))/\(lv.ownBlock=some g'∨w.heap.size<=g'):=by
 have hlt:=aA hY.block
 have hzs:=hb1.size
 have hbase:base<=w.heap.size:=Nat.le_trans hY.le (Nat.le_of_lt hlt)
 have hne:lv.ownBlock≠some y:=aZ hY.row hY.block (by decide)
 have hy1:(w1.alloc o).heap[y]?=some (.cells #[lv] 93 (0,0)):=by
  rw[Below.heap_alloc _ _ _ (by omega),hb1.block y hlt];exact hY.block
 have hy4:w4.heap[y]?=some (.cells #[lv] 93 (0,0)):=by rw[hgr.block y (aA hy1) (fun e=>hne e.symm)];exact hy1
 have hg'y:g'≠y:=by
  rcases hloc with h|h
  ·intro e;subst e;exact hne h
  ·rw[h];simp;omega
 have hlvrow:(w1.alloc o).ownsRow base 25 1 lv ms.length vs:=(aH hY.row (fun g hg=>hb1.block g (hY.row.lt g hg).2)).alloc o
 have hrows1:RowsAt (w1.alloc o) base vs (ms.map Sp.litsOf):=by
  have h1:=hY.rows.below hb1
  exact⟨h1.1,fun i x c hx hc=>(h1.2 i x c hx hc).alloc o⟩
 have hrows4:RowsAt w4 base vs (ms.map Sp.litsOf):=hrows1.grown hlvrow hgr
 have hc4:w4.ownsRow base 3 1 cv (Sp.litsOf m).length (ints (Sp.litsOf m)):=((bC hc hbase).alloc o).kept hgr (eY (by decide) ((bC hc hbase).alloc o) hlvrow)
 have hrows5:=hrows4.snoc hc4
 refine⟨hy4,⟨by rw[heap_setCell_same w4 y 0 _ _ _ hy4];rfl,hY.le,?_,?_⟩,(Only.of_below _ hb1).trans ((Only.alloc _ w1 o).trans ((Only.grown hgr (fun k hk=>.inr hk)).trans (Only.setCell (F:=YF y lv) (p:=⟨y,0,none⟩) (.inl rfl) _ _))),?_⟩
 ·rw[List.length_append]
  exact ownsRow_setCell_other hown (a:=⟨y,0,none⟩) (by simp[Value.ownBlock];exact hg'y) _
 ·rw[List.map_append]
  refine⟨hrows5.1,fun i x c hx hc=>?_⟩
  have hr:=hrows5.2 i x c hx hc
  exact ownsRow_setCell_other hr (a:=⟨y,0,none⟩) (aZ hr hy4 (by decide)) _
 ·rcases hloc with h|h
  ·exact .inl h
  ·exact .inr (by rw[h];simp;omega)
theorem AddY.grow{base y:Nat}{lv cv lv':Value}{vs:List Value}{ms:List Nat}{m:Nat}{xs:List Int}{w w1 w':World}{g' n cap':Nat}(hc:w1.ownsRow w.heap.size 3 1 cv (Sp.litsOf m).length (ints (Sp.litsOf m)))(e:lv'=.slice (some ⟨g',0,none⟩) n cap')
  (h1:YAt base w' y lv' (vs++[cv]) (ms++[m])) (h2:Only (YF y lv) w w') (h3:lv.ownBlock=some g'∨w.heap.size<=g') (ha:(addTo ms xs).2=ms++[m]):AddY base y lv vs ms xs w w':=by
 subst e
 refine⟨_,_,by rw[ha];exact h1,h2,fun g hg=>(by simp[Value.ownBlock]at hg;subst hg;exact h3),fun v hv=>?_⟩
 rcases List.mem_append.1 hv with hv|hv
 ·exact .inl hv
 ·simp at hv;subst hv
  exact .inr (fun g hg=>(hc.lt g hg).1)
theorem YAt.pick{base:Nat}{w:World}{y:Nat}{lv:Value}{vs:List Value}{ms:List Nat}(h:YAt base w y lv vs ms){k:Nat}(hk:k<ms.length):
  ∃g cp x ao cp',lv=.slice (some ⟨g,0,none⟩) ms.length cp/\w.cell? ⟨g,k,none⟩=some x/\x=.slice ao (Sp.litsOf ms[k]).length cp'/\Lies w x (ints (Sp.litsOf ms[k])):=by
 have hvl:vs.length=ms.length:=by have:=h.rows.1;simpa using this
 have hr:=h.rows.2 k vs[k] (Sp.litsOf ms[k]) (by simp[hvl,hk]) (by simp[hk])
 obtain⟨ao,cp',hx⟩:=aC hr
 have hrow:=h.row
 rcases hrow.2 with⟨_,h0⟩|⟨g,cp,cur,rfl,_⟩
 ·omega
 ·refine⟨g,cp,vs[k],ao,cp',rfl,?_,hx,aE hr (by simp[ints])⟩
  rw[hrow.cellAt k (by omega)]
  simp[hvl,hk]
theorem xU(ms:List Nat)(k:Nat)(h:k<ms.length):aW (ms.take (k+1))=aW (ms.take k)+(Sp.litsOf ms[k]).length:=by
 rw[List.take_succ_eq_append_getElem h,gY]
theorem yG(ms:List Nat)(k:Nat):aW (ms.take k)<=aW ms:=by
 have:aW ms=aW (ms.take k)+aW (ms.drop k):=by
  unfold aW
  rw[←List.sum_append,←List.map_append,List.take_append_drop]
 omega
theorem Tryz.infoLists:(Tryz.prog.info? 25).map (fun i=>(i.zero,i.size,i.bytes))=some (some (.slice none 0 0),1,24):=by kernel_rfl
set_option maxRecDepth 100000 in
set_option maxHeartbeats 1600000 in
theorem aH3(base y:Nat)(lv v:Value)(vs:List Value)(ms:List Nat)(xs:List Int)(w:World)(hY:YAt base w y lv vs ms)(hms:ms.length<=10000000)(hl:xs.length<=10000000)(hv:Lies w v (ints xs)):
  Calls Tryz.prog 55 #[.pointer (some ⟨y,0,none⟩),v] w fun e w'=>e=.returned (.int .i64 (addTo ms xs).1)/\AddY base y lv vs ms xs w w':=by
 have HR:=aq (rF v xs w hl hv)
 have HSO:=aq (gZ v xs w hl hv)
 have HLV:=aq hv
 have hszl:=wF ms
 obtain⟨ao,cp,hsh⟩:=aC hY.row
 subst hsh
 have hc0:w.cell? ⟨y,0,none⟩=some (.slice ao ms.length cp):=by simp[World.cell?,hY.block]
 have HY:=aq hY
 clear hY hv
 cases ha:bD xs
 ·have HT:Hid (addTo ms xs=(1,ms)):=aq (by unfold addTo;rw[if_pos ha])
  rw[ha]at HR
  clear ha
  go_enter Tryz.func55,Tryz.ntmps55
  go_wp2_with fail
  refine(dz HR).mono ?_
  rintro e w1 ⟨rfl,rfl⟩
  go_wp2
  go_ret
  exact⟨by rw[dz HT];rfl,AddY.stay (dz HY) (Below.refl _ _) (by rw[dz HT])⟩
 ·have hbd:∀z,z∈xs->z≠0/\-12<=z/\z<=12:=fun z hz=>cJ.1 (by rw[bD,List.all_eq_true]at ha;exact ha z hz)
  have hm:Sp.maskOf xs<2 ^ 24:=Sp.maskOf_lt _ (fun z hz=>(hbd z hz).2)
  have HAL:=aq (oK v xs w hl (fun z hz=>(hbd z hz).2) (dz HLV))
  rw[vK ha]at HAL
  rw[←Sp.litsOf_maskOf xs (fun z hz=>(hbd z hz).1)]at HSO
  rw[ha]at HR
  have h24:=bO (Sp.maskOf xs)
  have HT0:Hid (aO (Sp.maskOf xs)=true->addTo ms xs=(0,ms)):=aq (fun h=>by unfold addTo;rw[if_neg (by rw[ha];decide),if_pos h])
  have HT2:Hid (aO (Sp.maskOf xs)=false->400<aW ms+(Sp.litsOf (Sp.maskOf xs)).length->addTo ms xs=(2,ms)):=aq (fun h h2=>by unfold addTo;rw[if_neg (by rw[ha];decide),if_neg (by rw[h];decide),if_pos h2])
  have HT3:Hid (aO (Sp.maskOf xs)=false->¬400<aW ms+(Sp.litsOf (Sp.maskOf xs)).length->addTo ms xs=(0,ms++[Sp.maskOf xs])):=aq (fun h h2=>by unfold addTo;rw[if_neg (by rw[ha];decide),if_neg (by rw[h];decide),if_neg h2])
  clear ha hbd
  generalize hmm:Sp.maskOf xs=m at *
  clear hmm
  generalize hal:aO m=al at *
  clear hal
  cases al
  ·clear HT0
   have HSP:=aq (yG ms)
   go_enter Tryz.func55,Tryz.ntmps55
   go_wp2_with fail
   refine(dz HR).mono ?_
   rintro e w1 ⟨rfl,rfl⟩
   go_wp2_with fail
   refine(dz HAL).mono ?_
   rintro e w2 ⟨rfl,rfl⟩
   go_wp2_with fail
   refine(dz HSO).mono ?_
   rintro e w3 ⟨cv,rfl,hcrow,hb3⟩
   obtain⟨co,cc,hcs⟩:=aC hcrow
   subst hcs
   have HC:=aq hcrow
   have HY3:=aq ((dz HY).below hb3)
   have hc03:w3.cell? ⟨y,0,none⟩=some (.slice ao ms.length cp):=by simp[World.cell?,(dz HY3).block]
   clear hcrow hc0
   generalize hsz:(Sp.litsOf m).length=sz at *
   have HSZ:=aq hsz
   clear hsz
   go_wp2
   go_loopw [8,9] (fun n i wr=>∃k q:Nat,k<=ms.length/\i=.int .i64 k/\n=.int .i64 ((sz+aW (ms.take k):Nat):Int)/\wr=w3.drewN q) (fun _ i _=>ms.length-(intOf i).toNat)
   case atStart=>exact⟨0,0,Nat.zero_le _,rfl,by simp[aW],rfl⟩
   case round=>
    obtain⟨k,q,hk,rfl,rfl,rfl⟩:=hrel
    have hsp:=dz HSP k
    by_cases hlt:k<ms.length
    ·obtain⟨g,cp0,x,ao',cp',e1,hcx,e2,-⟩:=(dz HY3).pick hlt
     simp only[Value.slice.injEq]at e1
     obtain⟨rfl,-,rfl⟩:=e1
     subst e2
     have HST:=aq (xU ms k hlt)
     have hl24:=bO ms[k]
     generalize (Sp.litsOf ms[k]).length=lk at *
     generalize aW (ms.take k)=sk at *
     go_wp2
     go_roundw
     case rel=>exact⟨k+1,_,by omega,by go_num,by rw[dz HST];go_num,rfl⟩
     case measure=>simp[intOf];omega
    ·have hk2:k=ms.length:=by omega
     subst hk2
     have HTK:Hid (aW (ms.take ms.length)=aW ms):=aq (by rw[List.take_length])
     rw[dz HTK]
     by_cases h4:400<aW ms+sz
     ·have HT:=aq (dz HT2 trivial h4)
      have h4':(400:Int)<((sz+aW ms:Nat):Int):=by omega
      go_wp2
      go_ret
      exact⟨by rw[dz HT];rfl,AddY.stay (dz HY) (aG hb3 _) (by rw[dz HT])⟩
     ·have HT:=aq (dz HT3 trivial h4)
      have h4':¬(400:Int)<((sz+aW ms:Nat):Int):=by omega
      have hbase:base<=w3.heap.size:=Nat.le_trans (dz HY3).le (Nat.le_of_lt (aA (dz HY3).block))
      have HC:Hid (w3.ownsRow w2.heap.size 3 1 (.slice co sz cc) (Sp.litsOf m).length (ints (Sp.litsOf m))):=aq (by rw[dz HSZ];exact dz HC)
      go_wp2_with (at_builtin;refine bY (base:=base) rfl _ _ 27 25 rfl Tryz.underlying27 Tryz.infoLists rfl (by decide) (nX (dz HY3).row _) rfl rfl rfl (by omega) hbase ?_;intro g' cap' w4 hown4 hgr4 hloc;have HMID:=aq (midY (dz HY) (aG hb3 _) (nX (dz HC) _) hown4 hgr4 hloc);clear hown4 hgr4 hloc;have hc04:w4.cell? ⟨y,0,none⟩=some (.slice ao ms.length cp):=(by simp[World.cell?,(dz HMID).1]);have hf04:w4.frozen? ⟨y,0,none⟩=false:=frozen_of_row w4 _ _ _ _ (dz HMID).1)
      go_ret
      exact⟨by rw[dz HT];rfl,AddY.grow (dz HC) rfl (dz HMID).2.1 (dz HMID).2.2.1 (dz HMID).2.2.2 (by rw[dz HT])⟩
  ·have HT:=aq (dz HT0 rfl)
   clear HT0 HT2 HT3
   go_enter Tryz.func55,Tryz.ntmps55
   go_wp2_with fail
   refine(dz HR).mono ?_
   rintro e w1 ⟨rfl,rfl⟩
   go_wp2_with fail
   refine(dz HAL).mono ?_
   rintro e w2 ⟨rfl,rfl⟩
   go_wp2
   go_ret
   exact⟨by rw[dz HT];rfl,AddY.stay (dz HY) (Below.refl _ _) (by rw[dz HT])⟩
end Go.Proofs.YtekkkoipcghlmaaGreatDoor
