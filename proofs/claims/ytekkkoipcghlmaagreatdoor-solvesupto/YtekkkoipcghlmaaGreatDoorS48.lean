import Derived.Test.YtekkkoipcghlmaaGreatDoorS47
import Derived.Deep.RegionHeld3
import Derived.Handy
import Derived.Test.YtekkkoipcghlmaaGreatDoorS35
set_option linter.all false
namespace Go.Proofs.YtekkkoipcghlmaaGreatDoor
open Go.RowKit
theorem Tryz.infoIntB:(Tryz.prog.info? 3).map (fun i=>(i.zero,i.size,i.bytes))=some (some (.int .i64 0),1,8):=by kernel_rfl
theorem Tryz.infoNumbers:(Tryz.prog.info? 101).map (fun i=>(i.zero,i.size,i.bytes))=some (some (.agg #[.slice none 0 0,.slice none 0 0,.slice none 0 0,.slice none 0 0,.int .i64 0]),5,104):=by kernel_rfl
theorem info_parts5{P:Program}{e:TypeId}{z:Value}{k bytes:Nat}(h:(P.info? e).map (fun i=>(i.zero,i.size,i.bytes))=some (some z,k,bytes)):∃i,P.info? e=some i/\i.zero=some z/\i.size=k/\i.bytes=bytes:=by
 cases hi:P.info? e with
 | none=>rw[hi]at h;cases h
 | some i=>
  rw[hi]at h
  simp at h
  exact⟨i,rfl,h.1,h.2.1,h.2.2⟩
theorem owns_setB{w:World}{base g cap n i:Nat}{xs:List Int}(h:w.ownsRow base 3 1 (.slice (some ⟨g,0,none⟩) n cap) n (ints xs))(hi:i<n)(x:Int):(w.setCell ⟨g,i,none⟩ (.int .i64 x)).ownsRow base 3 1 (.slice (some ⟨g,0,none⟩) n cap) n (ints (xs.set i x)):=by
 have hl:xs.length=n:=by have:=h.1;simpa [ints] using this
 refine⟨by simp[ints,hl],?_⟩
 rcases h.2 with⟨hv,_⟩|⟨g',cap',cur,hv,a1,a2,a3,a4,a5,a6⟩
 ·cases hv
 ·cases hv
  refine .inr ⟨g,cap,_,rfl,a1,heap_setCell_same w g i _ _ _ a2,a3,a4,by simpa using a5,?_⟩
  have e:ints (xs.set i x)=(ints xs).set i (.int .i64 x):=by simp[ints,List.map_set]
  rw[e,←a6]
  simp[List.take_set]
def markedB(xs:List Int)(k:Nat)(m:Int):List Int:=List.replicate k m++xs.drop k
theorem markedB_zero(xs:List Int)(m:Int):markedB xs 0 m=xs:=by simp[markedB]
theorem markedB_all(xs:List Int)(m:Int):markedB xs xs.length m=List.replicate xs.length m:=by simp[markedB]
theorem markedB_set(xs:List Int)(k:Nat)(m:Int)(h:k<xs.length):(markedB xs k m).set k m=markedB xs (k+1) m:=by
 unfold markedB
 rw[List.set_append_right _ _ (by simp),List.length_replicate,Nat.sub_self,List.drop_eq_getElem_cons h,List.set_cons_zero,List.replicate_succ',List.append_assoc]
 rfl
structure KS(bl:Nat)(w0 wr:World)(l:Value)(n:Nat)(m:Int)(X:Nat)(cs:List Value)(rows:List (Value×Nat)):Prop where
 box:wr.heap[X]?=some (.cells cs.toArray 101 (0,0))
 fresh:w0.heap.size<=X
 lrow:MarkRow bl wr l n m
 rows:∀r,r∈rows->MarkRow bl wr r.1 r.2 m/\∀g,r.1.ownBlock=some g->l.ownBlock=some g∨w0.heap.size<=g
 only:Only (fun k=>l.ownBlock=some k) w0 wr
section
variable {bl:Nat}{w0 wr w':World}{l v':Value}{n X:Nat}{m:Int}{cs:List Value}{rows:List (Value×Nat)}
theorem KS.below(h:KS bl w0 wr l n m X cs rows)(hb:Below wr.heap.size wr w'):KS bl w0 w' l n m X cs rows:=
 ⟨(hb.block X (lt_of_block h.box)).trans h.box,h.fresh,owns_below h.lrow hb,fun r hr=>⟨owns_below (h.rows r hr).1 hb,(h.rows r hr).2⟩,h.only.trans (Only.of_below _ hb)⟩
theorem KS.app{k:Nat}(h:KS bl w0 wr l n m X cs rows)(hk:∀r,r∈rows->r.2<=n+k)(h1:MarkRow bl w' v' (n+k) m)(h2:MarkRow bl w' l n m)(ho:Only (fun g=>l.ownBlock=some g) wr w')(hloc:∀g,v'.ownBlock=some g->l.ownBlock=some g∨wr.heap.size<=g)(hp:(∃g cap,l=.slice (some ⟨g,0,none⟩) n cap/\v'=.slice (some ⟨g,0,none⟩) (n+k) cap)∨Below wr.heap.size wr w'):KS bl w0 w' l n m X cs (rows++[(v',n+k)]):=by
 refine⟨(ho.block X (lt_of_block h.box) (row_ne h.lrow h.box (by decide))).trans h.box,h.fresh,h2,fun r hr=>?_,h.only.trans ho⟩
 rcases List.mem_append.1 hr with hr|hr
 ·exact⟨(h.rows r hr).1.behind (hk r hr) h.lrow h1 ho hp,(h.rows r hr).2⟩
 ·rw[List.mem_singleton.1 hr]
  refine⟨h1,fun g hg=>?_⟩
  rcases hloc g hg with e|e
  ·exact .inl e
  ·exact .inr (Nat.le_trans h.only.size e)
theorem KS.put(h:KS bl w0 wr l n m X cs rows)(i:Nat)(v:Value):KS bl w0 (wr.setCell ⟨X,i,none⟩ v) l n m X (cs.set i v) rows:=by
 have hx:∀k,k≠X->(wr.setCell ⟨X,i,none⟩ v).heap[k]?=wr.heap[k]?:=fun k hk=>Below.heap_setCell _ _ _ _ hk
 refine⟨by rw[heap_setCell_same wr X i _ _ v h.box];simp,h.fresh,owns_at h.lrow (fun g hg=>hx g (fun e=>row_ne h.lrow h.box (by decide) (by rw[←e];exact hg))),fun r hr=>⟨owns_at (h.rows r hr).1 (fun g hg=>hx g (fun e=>row_ne (h.rows r hr).1 h.box (by decide) (by rw[←e];exact hg))),(h.rows r hr).2⟩,?_⟩
 have h0:=h.only
 have hf:=h.fresh
 exact⟨h0.os,h0.tape,h0.output,by simpa using h0.size,fun k hk hn=>(hx k (by omega)).trans (h0.block k hk hn)⟩
theorem KS.cell(h:KS bl w0 wr l n m X cs rows){i:Nat}{v:Value}(hi:cs[i]?=some v):wr.cell? ⟨X,i,none⟩=some v:=by
 rw[World.cell?,h.box]
 simpa using hi
end
theorem flat_snoc(es:List Entry)(e:Entry):(es++[e]).flatMap Entry.cells=es.flatMap Entry.cells++e.cells:=by simp
theorem step_entry{ops:Array Oper}{o:Oper}{a:Act}{K:Act->World->Prop}{Q:Exit->Act->World->Prop}{E:Prop}{wz:World}{base Bn:Nat}{v:Value}{es:List Entry}{e:Entry}
  (hgd:o.guard=none) (s x:Operand) (ho:o.op=.call { callee:=.builtin .append,args:=#[s,x],argTypes:=#[60,60] })
  (hown:wz.ownsRow base 101 5 v es.length (es.flatMap Entry.cells)) (hs:a.eval s=v) (hx:a.eval x=.slice (some ⟨Bn,0,none⟩) 1 1) (hB:wz.heap[Bn]?=some (.cells e.cells.toArray 101 (0,0))) (hn:es.length<=20000000) (hbase:base<=wz.heap.size)
  (h:∀(g cap:Nat) (w':World),w'.ownsRow base 101 5 (.slice (some ⟨g,0,none⟩) (es.length+1) cap) (es.length+1) ((es++[e]).flatMap Entry.cells)->wz.grownBy w' v.ownBlock->(v.ownBlock=some g∨g=wz.heap.size)->K (a.put o.dst (.slice (some ⟨g,0,none⟩) (es.length+1) cap)) w'):
  if Region.wanted o (yielded ops a.tmps)=true then Oper.wp Tryz.prog o a wz K Q else E:=by
 obtain⟨i0,hi0,hz0,hz1,hz2⟩:=info_parts5 Tryz.infoNumbers
 refine step_append_lies (P:=Tryz.prog) wz hgd s x 60 ho base 101 i0 _ 5 104 Tryz.underlying60 hi0 hz0 hz1 hz2 rfl (by decide) v es.length (es.flatMap Entry.cells) hs hown ⟨Bn,0,none⟩ 1 1 e.cells hx rfl (World.news_of_block hB) ?_ (by decide) (by unfold maxLen;omega) (by omega) hbase _ rfl ?_
 ·intro u hu
  simp[Entry.cells]at hu
  rcases hu with rfl|rfl|rfl|rfl|rfl<;>rfl
 ·intro g cap w' h1 h2 h3 _
  rw[←flat_snoc]at h1
  exact h g cap w' h1 h2 h3
theorem keep_fin{base bl B g cap:Nat}{w y wz w4:World}{lv0 bk:Value}{G:Nat->Prop}{es:List Entry}{e:Entry}{X:Nat}{cs:List Value}{rows:List (Value×Nat)}(hB:w.heap[B]?=some (.cells #[lv0,bk] 64 (0,0)))(hbook:BookIs base w bk G es)(hG:∀k,G k->base<=k/\k<w.heap.size)(hGB:¬G B)(hlG:∀g,(Value.slice e.lo e.n e.lc).ownBlock=some g->¬G g/\base<=g)(hlB:(Value.slice e.lo e.n e.lc).ownBlock≠some B)(hbb:base<=w.heap.size)
  (hK:KS bl w y (.slice e.lo e.n e.lc) e.n e.m X cs rows) (ha:(Value.slice e.ao (e.n+1) e.ac,e.n+1)∈rows) (hb:(Value.slice e.bo (e.n+2) e.bc,e.n+2)∈rows) (hc:(Value.slice e.co (e.n+3) e.cc,e.n+3)∈rows) (hsm:e.n<=1000000) (hm0:0<=e.m) (hm1:e.m<=1000000000)
  (hz:Below y.heap.size y wz) (hown:w4.ownsRow base 101 5 (.slice (some ⟨g,0,none⟩) (es.length+1) cap) (es.length+1) ((es++[e]).flatMap Entry.cells)) (hgr:wz.grownBy w4 bk.ownBlock) (hloc:bk.ownBlock=some g∨g=wz.heap.size):
  w4.heap[B]?=some (.cells #[lv0,bk] 64 (0,0))/\BookIs base (w4.setCell ⟨B,1,none⟩ (.slice (some ⟨g,0,none⟩) (es.length+1) cap)) (.slice (some ⟨g,0,none⟩) (es.length+1) cap) (fun k=>(G k∨(Value.slice e.lo e.n e.lc).ownBlock=some k∨w.heap.size<=k)/\base<=k/\k<w4.heap.size) (es++[e])/\Only (fun k=>k=B∨(Value.slice e.lo e.n e.lc).ownBlock=some k∨bk.ownBlock=some k) w (w4.setCell ⟨B,1,none⟩ (.slice (some ⟨g,0,none⟩) (es.length+1) cap)):=by
 have hBl:=lt_of_block hB
 have s1:=hK.only.size
 have s2:=hz.size
 have s3:=hgr.size
 have hbkB:bk.ownBlock≠some B:=fun h=>hGB (hbook.foot B h)
 have st4:∀k,k<y.heap.size->bk.ownBlock≠some k->w4.heap[k]?=y.heap[k]?:=fun k hk hn=>(hgr.block k (by omega) (fun h=>hn h.symm)).trans (hz.block k hk)
 have stw:∀k,k<w.heap.size->bk.ownBlock≠some k->(Value.slice e.lo e.n e.lc).ownBlock≠some k->w4.heap[k]?=w.heap[k]?:=fun k hk hn hl=>(st4 k (by omega) hn).trans (hK.only.block k hk hl)
 have hset:∀k,k≠B->(w4.setCell ⟨B,1,none⟩ (.slice (some ⟨g,0,none⟩) (es.length+1) cap)).heap[k]?=w4.heap[k]?:=fun k hk=>Below.heap_setCell _ _ _ _ hk
 have hsz:(w4.setCell ⟨B,1,none⟩ (.slice (some ⟨g,0,none⟩) (es.length+1) cap)).heap.size=w4.heap.size:=by simp
 have hB4:w4.heap[B]?=some (.cells #[lv0,bk] 64 (0,0)):=(stw B hBl hbkB hlB).trans hB
 have hgl:=(hown.lt g rfl)
 have hgB:g≠B:=by
  rcases hloc with h|h
  ·intro e;subst e;exact hbkB h
  ·omega
 have hnew:∀v j,MarkRow bl y v j e.m->(∀k,v.ownBlock=some k->(Value.slice e.lo e.n e.lc).ownBlock=some k∨w.heap.size<=k)->∀k,v.ownBlock=some k->k<y.heap.size/\k≠B/\bk.ownBlock≠some k/\((G k∨(Value.slice e.lo e.n e.lc).ownBlock=some k∨w.heap.size<=k)/\base<=k/\k<w4.heap.size)/\k≠g:=fun v j hv hvl k hk=>by
  have hky:=(World.ownsRow.lt hv k hk).2
  rcases hvl k hk with h1|h1
  ·have h2:=hlG k h1
   refine⟨hky,fun e=>hlB (by rw[←e];exact h1),fun h=>h2.1 (hbook.foot k h),⟨.inr (.inl h1),h2.2,by omega⟩,fun e=>?_⟩
   subst e
   rcases hloc with h|h
   ·exact h2.1 (hbook.foot _ h)
   ·omega
  ·refine⟨hky,by omega,fun h=>by have:=(hG k (hbook.foot k h)).2;omega,⟨.inr (.inr h1),by omega,by omega⟩,fun e=>?_⟩
   subst e
   rcases hloc with h|h
   ·have:=(hG _ (hbook.foot _ h)).2;omega
   ·omega
 have hl0:=hnew _ _ hK.lrow (fun k hk=>.inl hk)
 have ha0:=hnew _ _ (hK.rows _ ha).1 (hK.rows _ ha).2
 have hb0:=hnew _ _ (hK.rows _ hb).1 (hK.rows _ hb).2
 have hc0:=hnew _ _ (hK.rows _ hc).1 (hK.rows _ hc).2
 have lies5:∀v j,MarkRow bl y v j e.m->(∀k,v.ownBlock=some k->k<y.heap.size/\k≠B/\bk.ownBlock≠some k/\((G k∨(Value.slice e.lo e.n e.lc).ownBlock=some k∨w.heap.size<=k)/\base<=k/\k<w4.heap.size)/\k≠g)->Lies (w4.setCell ⟨B,1,none⟩ (.slice (some ⟨g,0,none⟩) (es.length+1) cap)) v (ints (List.replicate j e.m)):=fun v j hv hf=>lies_blocks hv.lies (by omega) (fun k hk=>(hset k (hf k hk).2.1).trans (st4 k (hf k hk).1 (hf k hk).2.2.1))
 have feet5:∀v,v∈e.cells->∀k,v.ownBlock=some k->((G k∨(Value.slice e.lo e.n e.lc).ownBlock=some k∨w.heap.size<=k)/\base<=k/\k<w4.heap.size)/\k≠g:=fun v hv k hk=>by
  simp only[Entry.cells,List.mem_cons,List.not_mem_nil,or_false]at hv
  rcases hv with rfl|rfl|rfl|rfl|rfl
  ·exact(hl0 k hk).2.2.2
  ·exact(ha0 k hk).2.2.2
  ·exact(hb0 k hk).2.2.2
  ·exact(hc0 k hk).2.2.2
  ·cases hk
 have old:∀e',e'∈es->∀v,v∈e'.cells->∀k,v.ownBlock=some k->G k/\k<w.heap.size/\k≠B/\bk.ownBlock≠some k/\(Value.slice e.lo e.n e.lc).ownBlock≠some k/\k≠g:=fun e' he v hv k hk=>by
  have h1:=hbook.feet e' he v hv k hk
  have h2:=(hG k h1).2
  have h3:=hbook.off e' he v hv k hk
  refine⟨h1,h2,fun e=>hGB (by rw[←e];exact h1),h3,fun h=>(hlG k h).1 h1,fun e=>?_⟩
  subst e
  rcases hloc with h|h
  ·exact h3 h
  ·omega
 refine⟨hB4,⟨?_,fun e' he=>?_,fun k hk=>?_,fun e' he v hv k hk=>?_,fun e' he v hv k hk h=>?_⟩,?_⟩
 ·rw[List.length_append,List.length_singleton]
  exact owns_at hown (fun k hk=>hset k (by simp[Value.ownBlock]at hk;omega))
 ·rcases List.mem_append.1 he with he|he
  ·have h0:=hbook.ents e' he
   have kp:∀v,v∈e'.cells->∀k,v.ownBlock=some k->(w4.setCell ⟨B,1,none⟩ (.slice (some ⟨g,0,none⟩) (es.length+1) cap)).heap[k]?=w.heap[k]?:=fun v hv k hk=>by
    obtain⟨-,h2,h3,h4,h5,-⟩:=old e' he v hv k hk
    exact(hset k h3).trans (stw k h2 h4 h5)
   exact⟨lies_blocks h0.l (by omega) (kp _ (by simp[Entry.cells])),lies_blocks h0.a (by omega) (kp _ (by simp[Entry.cells])),lies_blocks h0.b (by omega) (kp _ (by simp[Entry.cells])),lies_blocks h0.c (by omega) (kp _ (by simp[Entry.cells])),h0.small,h0.lo,h0.hi⟩
  ·rw[List.mem_singleton.1 he]
   exact⟨lies5 _ _ hK.lrow hl0,lies5 _ _ (hK.rows _ ha).1 ha0,lies5 _ _ (hK.rows _ hb).1 hb0,lies5 _ _ (hK.rows _ hc).1 hc0,hsm,hm0,hm1⟩
 ·simp only[Value.ownBlock,Option.some.injEq]at hk
  subst hk
  refine⟨?_,hgl.1,hgl.2⟩
  rcases hloc with h|h
  ·exact .inl (hbook.foot _ h)
  ·exact .inr (.inr (by omega))
 ·rcases List.mem_append.1 he with he|he
  ·have h1:=(old e' he v hv k hk).1
   exact⟨.inl h1,(hG k h1).1,by have:=(hG k h1).2;omega⟩
  ·rw[List.mem_singleton.1 he]at hv
   exact(feet5 v hv k hk).1
 ·simp only[Value.ownBlock,Option.some.injEq]at h
  rcases List.mem_append.1 he with he|he
  ·exact(old e' he v hv k hk).2.2.2.2.2 h.symm
  ·rw[List.mem_singleton.1 he]at hv
   exact(feet5 v hv k hk).2 h.symm
 ·have h0:=hK.only
  refine⟨hgr.os.trans (hz.os.trans h0.os),hgr.tape.trans (hz.tape.trans h0.tape),hgr.output.trans (hz.output.trans h0.output),by omega,fun k hk hn=>?_⟩
  exact(hset k (fun e=>hn (.inl e))).trans (stw k hk (fun h=>hn (.inr (.inr h))) (fun h=>hn (.inr (.inl h))))
end Go.Proofs.YtekkkoipcghlmaaGreatDoor
namespace Go.Proofs.YtekkkoipcghlmaaGreatDoor
open Go.RowKit
theorem marks_append(n k:Nat)(m:Int):ints (List.replicate n m)++ints (List.replicate k m)=ints (List.replicate (n+k) m):=by
 unfold ints
 rw[←List.map_append,List.replicate_append_replicate]
set_option maxRecDepth 100000 in
set_option maxHeartbeats 3200000 in
theorem keepB_any(base bl B:Nat)(lv0 bk:Value)(G:Nat->Prop)(es:List Entry)(w:World)(lo:Option Addr)(n lc:Nat)(xs:List Int)(hB:w.heap[B]?=some (.cells #[lv0,bk] 64 (0,0)))(hbook:BookIs base w bk G es)(hG:∀k,G k->base<=k/\k<w.heap.size)(hGB:¬G B)(hl:w.ownsRow bl 3 1 (.slice lo n lc) n (ints xs))(hlG:∀g,(Value.slice lo n lc).ownBlock=some g->¬G g/\base<=g)(hn:n<=1000)(hes:es.length<=1000000)(hbb:base<=w.heap.size)(hbl:bl<=w.heap.size):
  Calls Tryz.prog 103 #[.pointer (some ⟨B,1,none⟩),.slice lo n lc] w fun e w'=>e=.returned (.tuple #[])/\∃bk' G' es',BookIs base w' bk' G' es'/\es'.length=es.length+1/\Only (fun k=>k=B∨(Value.slice lo n lc).ownBlock=some k∨bk.ownBlock=some k) w w'/\w'.heap[B]?=some (.cells #[lv0,bk'] 64 (0,0))/\(∀k,G' k->(G k∨(Value.slice lo n lc).ownBlock=some k∨w.heap.size<=k)/\base<=k/\k<w'.heap.size):=by
 have hxl:xs.length=n:=by have:=hl.1;simpa [ints] using this
 obtain⟨bo,bc,rfl⟩:∃bo bc,bk=.slice bo es.length bc:=by
  rcases hbook.row.2 with⟨h1,h2⟩|⟨g,cap,cur,h1,_⟩
  ·exact⟨none,0,by rw[h1,h2]⟩
  ·exact⟨_,_,h1⟩
 have hBl:=lt_of_block hB
 have hb1:w.cell? ⟨B,1,none⟩=some (.slice bo es.length bc):=cell_of_row _ _ 1 _ _ _ hB
 have HB:=aq hB
 have HBK:=aq hbook
 have HGG:=aq hG
 have HGB:=aq hGB
 have HLG:=aq hlG
 have HL0:Hid (w.ownsRow bl 3 1 (.slice lo n lc) n (ints (markedB xs 0 (1000+(es.length:Int))))):=aq (by rw[markedB_zero];exact hl)
 have HXL:=aq hxl
 have HNB:Hid ((Value.slice lo n lc).ownBlock≠some B):=aq (row_ne hl hB (by decide))
 clear hB hbook hG hGB hlG hl hxl
 go_enter Tryz.func103,Tryz.ntmps103
 go_wp2
 go_loopw [5] (fun i wr=>∃k:Nat,k<=n/\i=.int .i64 k/\Hid (wr.ownsRow bl 3 1 (.slice lo n lc) n (ints (markedB xs k (1000+(es.length:Int)))))/\Hid (Only (fun k=>(Value.slice lo n lc).ownBlock=some k) w wr)) (fun i _=>n-(intOf i).toNat)
 case atStart=>exact⟨0,Nat.zero_le _,rfl,HL0,aq (Only.refl _ _)⟩
 case round=>
  obtain⟨k,hk,rfl,HR,HO⟩:=hrel
  clear HL0
  by_cases hlt:k<n
  ·obtain⟨g,rfl⟩:∃g,lo=some ⟨g,0,none⟩:=by
    rcases (dz HR).2 with⟨h1,h2⟩|⟨g,cap,cur,h1,_⟩
    ·omega
    ·cases h1;exact⟨g,rfl⟩
   have hgl:=(dz HR).lt g rfl
   have hcap:n<=lc:=by
    rcases (dz HR).2 with⟨h1,h2⟩|⟨g,cap,cur,h1,_,_,h3,_⟩
    ·omega
    ·cases h1;exact h3
   have hfz:wr.frozen? ⟨g,k,none⟩=false:=by
    rcases (dz HR).2 with⟨h1,h2⟩|⟨g,cap,cur,h1,_,h2,_⟩
    ·omega
    ·cases h1;exact frozen_of_row wr _ _ _ _ h2
   obtain⟨y,hcell⟩:∃y,wr.cell? ⟨g,k,none⟩=some y:=by
    have hlm:k<(ints (markedB xs k (1000+(es.length:Int)))).length:=by
     have:=(dz HR).1
     omega
    have:=(dz HR).cells (g:=g) rfl k _ (List.getElem?_eq_getElem hlm)
    rw[Addr.add_lit,Nat.zero_add]at this
    exact⟨_,this⟩
   have HN:=aq (owns_setB (dz HR) hlt (1000+(es.length:Int)))
   rw[markedB_set xs k _ (by rw[dz HXL];exact hlt)]at HN
   have HO2:Hid (Only (fun k=>(Value.slice (some ⟨g,0,none⟩) n lc).ownBlock=some k) w (wr.setCell ⟨g,k,none⟩ (.int .i64 (1000+(es.length:Int))))):=aq ((dz HO).trans (Only.setCell (F:=fun k=>(Value.slice (some ⟨g,0,none⟩) n lc).ownBlock=some k) (p:=⟨g,k,none⟩) rfl _ _))
   have hdk:decide ((k:Int)<(n:Int))=true:=decide_eq_true (by omega)
   clear HR HO
   go_wp2
   go_roundw
   case rel=>exact⟨k+1,by omega,by go_num,HN,HO2⟩
   case measure=>simp[intOf];omega
  ·have hkn:n=k:=by omega
   subst hkn
   have HM:Hid (MarkRow bl wr (.slice lo n lc) n (1000+(es.length:Int))):=aq (by
    have h1:=dz HR
    have h2:=markedB_all xs (1000+(es.length:Int))
    rw[dz HXL]at h2
    rw[h2]at h1
    exact h1)
   obtain⟨w1,hw1⟩:∃w1,wr.alloc (.cells #[.slice lo n lc,.slice none 0 0,.slice none 0 0,.slice none 0 0,.int .i64 (1000+(es.length:Int))] 101)=w1:=⟨_,rfl⟩
   have hb1':Below wr.heap.size wr w1:=by rw[←hw1];exact below_alloc _ _
   have HK:Hid (KS bl w w1 (.slice lo n lc) n (1000+(es.length:Int)) wr.heap.size [.slice lo n lc,.slice none 0 0,.slice none 0 0,.slice none 0 0,.int .i64 (1000+(es.length:Int))] []):=aq ⟨by rw[←hw1];exact alloc_last _ _,(dz HO).size,owns_below (dz HM) hb1',fun r hr=>(by cases hr),(dz HO).trans (Only.of_below _ hb1')⟩
   have hXl:wr.heap.size<w1.heap.size:=lt_of_block (dz HK).box
   have hbl1:bl<=w1.heap.size:=by have:=(dz HO).size;omega
   clear HR HM
   go_wp2_with (first
    | (at_builtin;refine append_keep2 (base:=bl) (n:=n) (m:=1) (xs:=ints (List.replicate n (1000+(es.length:Int)))) (news:=ints (List.replicate 1 (1000+(es.length:Int)))) (ad:=⟨w1.heap.size,0,none⟩) rfl _ _ 25 3 rfl Tryz.underlying25 Tryz.infoIntB rfl (by decide) (owns_below (dz HK).lrow (below_alloc _ _)) rfl rfl (by simp[ints]) (by decide) (World.news_of_block (alloc_last w1 _)) (by intro u hu;simp[ints,List.replicate]at hu;subst hu;rfl) (by omega) (by simp;omega) ?_;intro v1 x1 hown hold hon hloc hp;rw[marks_append]at hown;obtain⟨o1,k1,hsh⟩:=owns_shape hown;subst hsh;have HA1:Hid (KS bl w x1 (.slice lo n lc) n (1000+(es.length:Int)) wr.heap.size [.slice lo n lc,.slice none 0 0,.slice none 0 0,.slice none 0 0,.int .i64 (1000+(es.length:Int))] [(.slice o1 (n+1) k1,n+1)]):=aq (((dz HK).below (below_alloc _ _)).app (k:=1) (fun r hr=>by simp at hr;try (rcases hr with rfl|rfl<;>simp<;>omega);try (subst hr;simp<;>omega)) hown hold hon hloc hp);have c1:=(dz HA1).cell (i:=1) rfl;have f1:=frozen_of_row _ _ 1 _ _ (dz HA1).box;have hl1:=lt_of_block (dz HA1).box;obtain⟨y1,hy1⟩:∃y,x1.setCell ⟨wr.heap.size,1,none⟩ (.slice o1 (n+1) k1)=y:=⟨_,rfl⟩;have HK1:Hid (KS bl w y1 (.slice lo n lc) n (1000+(es.length:Int)) wr.heap.size [.slice lo n lc,.slice o1 (n+1) k1,.slice none 0 0,.slice none 0 0,.int .i64 (1000+(es.length:Int))] [(.slice o1 (n+1) k1,n+1)]):=aq (by rw[←hy1];exact(dz HA1).put 1 _);have hb1y:bl<=y1.heap.size:=Nat.le_trans hbl (dz HK1).only.size;have hX1:wr.heap.size<y1.heap.size:=lt_of_block (dz HK1).box;clear hown hold hon hloc hp)
    | (at_builtin;refine append_keep2 (base:=bl) (n:=n) (m:=2) (xs:=ints (List.replicate n (1000+(es.length:Int)))) (news:=ints (List.replicate 2 (1000+(es.length:Int)))) (ad:=⟨y1.heap.size,0,none⟩) rfl _ _ 25 3 rfl Tryz.underlying25 Tryz.infoIntB rfl (by decide) (owns_below (dz HK1).lrow (below_alloc _ _)) rfl rfl (by simp[ints]) (by decide) (World.news_of_block (alloc_last y1 _)) (by intro u hu;simp[ints,List.replicate]at hu;subst hu;rfl) (by omega) (by simp;omega) ?_;intro v2 x2 hown hold hon hloc hp;rw[marks_append]at hown;obtain⟨o2,k2,hsh⟩:=owns_shape hown;subst hsh;have HA2:Hid (KS bl w x2 (.slice lo n lc) n (1000+(es.length:Int)) wr.heap.size [.slice lo n lc,.slice o1 (n+1) k1,.slice none 0 0,.slice none 0 0,.int .i64 (1000+(es.length:Int))] [(.slice o1 (n+1) k1,n+1),(.slice o2 (n+2) k2,n+2)]):=aq (((dz HK1).below (below_alloc _ _)).app (k:=2) (fun r hr=>by simp at hr;try (rcases hr with rfl|rfl<;>simp<;>omega);try (subst hr;simp<;>omega)) hown hold hon hloc hp);have c2:=(dz HA2).cell (i:=2) rfl;have f2:=frozen_of_row _ _ 2 _ _ (dz HA2).box;have hl2:=lt_of_block (dz HA2).box;obtain⟨y2,hy2⟩:∃y,x2.setCell ⟨wr.heap.size,2,none⟩ (.slice o2 (n+2) k2)=y:=⟨_,rfl⟩;have HK2:Hid (KS bl w y2 (.slice lo n lc) n (1000+(es.length:Int)) wr.heap.size [.slice lo n lc,.slice o1 (n+1) k1,.slice o2 (n+2) k2,.slice none 0 0,.int .i64 (1000+(es.length:Int))] [(.slice o1 (n+1) k1,n+1),(.slice o2 (n+2) k2,n+2)]):=aq (by rw[←hy2];exact(dz HA2).put 2 _);have hb2y:bl<=y2.heap.size:=Nat.le_trans hbl (dz HK2).only.size;have hX2:wr.heap.size<y2.heap.size:=lt_of_block (dz HK2).box;clear hown hold hon hloc hp)
    | (at_builtin;refine append_keep2 (base:=bl) (n:=n) (m:=3) (xs:=ints (List.replicate n (1000+(es.length:Int)))) (news:=ints (List.replicate 3 (1000+(es.length:Int)))) (ad:=⟨y2.heap.size,0,none⟩) rfl _ _ 25 3 rfl Tryz.underlying25 Tryz.infoIntB rfl (by decide) (owns_below (dz HK2).lrow (below_alloc _ _)) rfl rfl (by simp[ints]) (by decide) (World.news_of_block (alloc_last y2 _)) (by intro u hu;simp[ints,List.replicate]at hu;subst hu;rfl) (by omega) (by simp;omega) ?_;intro v3 x3 hown hold hon hloc hp;rw[marks_append]at hown;obtain⟨o3,k3,hsh⟩:=owns_shape hown;subst hsh;have HA3:Hid (KS bl w x3 (.slice lo n lc) n (1000+(es.length:Int)) wr.heap.size [.slice lo n lc,.slice o1 (n+1) k1,.slice o2 (n+2) k2,.slice none 0 0,.int .i64 (1000+(es.length:Int))] [(.slice o1 (n+1) k1,n+1),(.slice o2 (n+2) k2,n+2),(.slice o3 (n+3) k3,n+3)]):=aq (((dz HK2).below (below_alloc _ _)).app (k:=3) (fun r hr=>by simp at hr;try (rcases hr with rfl|rfl<;>simp<;>omega);try (subst hr;simp<;>omega)) hown hold hon hloc hp);have c3:=(dz HA3).cell (i:=3) rfl;have f3:=frozen_of_row _ _ 3 _ _ (dz HA3).box;have hl3:=lt_of_block (dz HA3).box;obtain⟨y3,hy3⟩:∃y,x3.setCell ⟨wr.heap.size,3,none⟩ (.slice o3 (n+3) k3)=y:=⟨_,rfl⟩;have HK3:Hid (KS bl w y3 (.slice lo n lc) n (1000+(es.length:Int)) wr.heap.size [.slice lo n lc,.slice o1 (n+1) k1,.slice o2 (n+2) k2,.slice o3 (n+3) k3,.int .i64 (1000+(es.length:Int))] [(.slice o1 (n+1) k1,n+1),(.slice o2 (n+2) k2,n+2),(.slice o3 (n+3) k3,n+3)]):=aq (by rw[←hy3];exact(dz HA3).put 3 _);have hb3y:bl<=y3.heap.size:=Nat.le_trans hbl (dz HK3).only.size;have hX3:wr.heap.size<y3.heap.size:=lt_of_block (dz HK3).box;clear hown hold hon hloc hp))
   have HROWB:Hid (∀wx,Below y3.heap.size y3 wx->wx.ownsRow base 101 5 (.slice bo es.length bc) es.length (es.flatMap Entry.cells)):=aq (fun wx hx=>owns_at (owns_at (dz HBK).row (fun g hg=>(dz HK3).only.block g (dz HGG g ((dz HBK).foot g hg)).2 (fun h=>(dz HLG g h).1 ((dz HBK).foot g hg)))) (fun g hg=>hx.block g (by have:=(dz HGG g ((dz HBK).foot g hg)).2;have:=(dz HK3).only.size;omega)))
   have HFIN:Hid (∀(g cap:Nat) (wz w4:World),Below y3.heap.size y3 wz->w4.ownsRow base 101 5 (.slice (some ⟨g,0,none⟩) (es.length+1) cap) (es.length+1) ((es++[(⟨n,(1000+(es.length:Int)),lo,lc,o1,k1,o2,k2,o3,k3⟩:Entry)]).flatMap Entry.cells)->wz.grownBy w4 (Value.slice bo es.length bc).ownBlock->((Value.slice bo es.length bc).ownBlock=some g∨g=wz.heap.size)->
    (w4.heap[B]?=some (.cells #[lv0,.slice bo es.length bc] 64 (0,0))/\BookIs base (w4.setCell ⟨B,1,none⟩ (.slice (some ⟨g,0,none⟩) (es.length+1) cap)) (.slice (some ⟨g,0,none⟩) (es.length+1) cap) (fun k=>(G k∨(Value.slice lo n lc).ownBlock=some k∨w.heap.size<=k)/\base<=k/\k<w4.heap.size) (es++[⟨n,(1000+(es.length:Int)),lo,lc,o1,k1,o2,k2,o3,k3⟩])/\Only (fun k=>k=B∨(Value.slice lo n lc).ownBlock=some k∨(Value.slice bo es.length bc).ownBlock=some k) w (w4.setCell ⟨B,1,none⟩ (.slice (some ⟨g,0,none⟩) (es.length+1) cap)))/\w4.heap[wr.heap.size]?=y3.heap[wr.heap.size]?):=aq (fun g cap wz w4 h1 h2 h3 h4=>⟨keep_fin (e:=⟨n,(1000+(es.length:Int)),lo,lc,o1,k1,o2,k2,o3,k3⟩) (dz HB) (dz HBK) (dz HGG) (dz HGB) (dz HLG) (dz HNB) hbb (dz HK3) (by simp) (by simp) (by simp) (by show n<=1000000;omega) (by show 0<=(1000+(es.length:Int));omega) (by show(1000+(es.length:Int))<=1000000000;omega) h1 h2 h3 h4,(h3.block _ (by have:=h1.size;omega) (fun e=>by have:=(dz HGG _ ((dz HBK).foot _ e.symm)).2;have:=(dz HK3).fresh;omega)).trans (h1.block _ hX3)⟩)
   have hB3:y3.heap[B]?=some (.cells #[lv0,.slice bo es.length bc] 64 (0,0)):=((dz HK3).only.block B hBl (dz HNB)).trans (dz HB)
   have cB:y3.cell? ⟨B,1,none⟩=some (.slice bo es.length bc):=cell_of_row _ _ 1 _ _ _ hB3
   have hBy:B<y3.heap.size:=lt_of_block hB3
   have q0:=(dz HK3).cell (i:=0) rfl
   have q1:=(dz HK3).cell (i:=1) rfl
   have q2:=(dz HK3).cell (i:=2) rfl
   have q3:=(dz HK3).cell (i:=3) rfl
   have q4:=(dz HK3).cell (i:=4) rfl
   have hby:base<=y3.heap.size:=by have:=(dz HK3).only.size;omega
   have HXC:Hid (∀(w4:World) (j:Nat) (v:Value),w4.heap[wr.heap.size]?=y3.heap[wr.heap.size]?->y3.cell? ⟨wr.heap.size,j,none⟩=some v->w4.cell? ⟨wr.heap.size,j,none⟩=some v):=aq (fun w4 j v h1 h2=>(World.cell?_of_block (a:=⟨wr.heap.size,j,none⟩) h1).trans h2)
   clear HK HK1 HK2 HA1 HA2 HA3 hy1 hy2 hy3 hw1 c1 c2 c3 f1 f2 f3 hB3 hl1 hl2 hl3
   go_region_law ((refine step_entry (base:=base) (es:=es) (e:=⟨n,(1000+(es.length:Int)),lo,lc,o1,k1,o2,k2,o3,k3⟩) (by rfl) _ _ (by rfl) (dz HROWB _ (by go_grown)) (by rfl) (by rfl) (heap_alloc_new _ _) (by omega) (by simp;omega) ?_;intro g4 cap4 w4 hown4 hgr4 hloc4;have HE:=aq (dz HFIN _ _ _ _ (by go_grown) hown4 hgr4 hloc4);clear hown4 hgr4 hloc4;have cB4:=cell_of_row _ _ 1 _ _ _ (dz HE).1.1;have fB4:=frozen_of_row _ _ 1 _ _ (dz HE).1.1;have lB4:=lt_of_block (dz HE).1.1;have x0:=dz HXC w4 0 _ (dz HE).2 q0;have x1:=dz HXC w4 1 _ (dz HE).2 q1;have x2:=dz HXC w4 2 _ (dz HE).2 q2;have x3:=dz HXC w4 3 _ (dz HE).2 q3;have x4:=dz HXC w4 4 _ (dz HE).2 q4))
   all_goals (go_wp2_with fail)
   all_goals go_end0
   all_goals exact⟨rfl,_,_,_,(dz HE).1.2.1,by simp,(dz HE).1.2.2,by rw[heap_setCell_same w4 B 1 _ _ _ (dz HE).1.1];rfl,fun k hk=>⟨hk.1,hk.2.1,by simpa using hk.2.2⟩⟩
end Go.Proofs.YtekkkoipcghlmaaGreatDoor
namespace Go.Proofs.YtekkkoipcghlmaaGreatDoor
open Go.RowKit
theorem holds_lits{b m:Nat}(hm:m<2 ^ 24):holdsOf b (Sp.litsOf m)=true↔holdsB b m:=by
 have h0:∀x,x∈Sp.litsOf m->x≠0:=fun x hx=>(litsOf_bd m x hx).1
 rw[←holdsB_mask h0,mask_lits hm]
theorem can_yes{ms:List Nat}{A:List Int}{b:Nat}(hb:b<4096)(hm:∀m,m∈ms->m<2 ^ 24)(h1:∀x,x∈A->tru b x=true)(h2:∀g,g∈ms->holdsB b g):canOf (ms.map Sp.litsOf) A=true:=by
 unfold canOf canAt
 rw[List.any_eq_true]
 refine⟨b,List.mem_range.2 hb,?_⟩
 simp only[Bool.and_eq_true,List.all_eq_true]
 refine⟨h1,fun c hc=>?_⟩
 obtain⟨m,hm',rfl⟩:=List.mem_map.1 hc
 exact(holds_lits (hm m hm')).2 (h2 m hm')
theorem can_no{ms:List Nat}{A:List Int}(hm:∀m,m∈ms->m<2 ^ 24)(h:∀b,(∀g,g∈ms->holdsB b g)->∃y,y∈A/\tru b y=false):canOf (ms.map Sp.litsOf) A=false:=by
 rw[Bool.eq_false_iff]
 intro hc
 unfold canOf canAt at hc
 rw[List.any_eq_true]at hc
 obtain⟨b,-,hb⟩:=hc
 simp only[Bool.and_eq_true,List.all_eq_true]at hb
 obtain⟨y,hy,ht⟩:=h b (fun g hg=>(holds_lits (hm g hg)).1 (hb.2 _ (List.mem_map.2 ⟨g,hg,rfl⟩)))
 rw[hb.1 y hy]at ht
 cases ht
theorem once_step(A:List Int)(i:Nat)(h:i<A.length):once (A.take (i+1))=if A[i]∈once (A.take i)then once (A.take i)else once (A.take i)++[A[i]]:=by
 rw[List.take_succ_eq_append_getElem h,once_snoc]
theorem once_head(A:List Int)(i:Nat):∀j,i+j<=A.length->∃r,once (A.take (i+j))=once (A.take i)++r
 | 0,_=>⟨[],by simp⟩
 | j+1,h=>by
  obtain⟨r,hr⟩:=once_head A i j (by omega)
  rw[←Nat.add_assoc,once_step A (i+j) (by omega)]
  split
  ·exact⟨r,hr⟩
  ·exact⟨r++[A[i+j]],by rw[hr,List.append_assoc]⟩
theorem some_core(A:List Int)(p:Int->Bool):∀i,i<=A.length->someAt ((once A).filter p) A i=((once (A.take i)).filter p).length:=by
 intro i
 induction i with
 | zero=>intro _;simp[someAt,once]
 | succ i ih=>
  intro h
  have ih:=ih (by omega)
  have hi:i<A.length:=by omega
  have hg:A.getD i 0=A[i]:=by simp[hi]
  have hf:firstAt A i i=!decide (A[i]∈once (A.take i)):=by
   unfold firstAt
   rw[hg]
   congr 1
   rw[Bool.eq_iff_iff]
   simp[once_mem]
  obtain⟨r,hr⟩:=once_head A (i+1) (A.length-(i+1)) (by omega)
  rw[show i+1+(A.length-(i+1))=A.length from by omega,List.take_length]at hr
  unfold someAt
  rw[ih,hf,hg,once_step A i hi]
  by_cases hm:A[i]∈once (A.take i)
  ·rw[if_pos hm]
   simp[hm]
  ·rw[if_neg hm]
   rw[once_step A i hi,if_neg hm]at hr
   rw[hr,List.filter_append,List.filter_append]
   by_cases hp:p A[i]=true
   ·rw[List.filter_cons_of_pos hp,List.filter_nil]
    have:(((once (A.take i)).filter p++[A[i]])++r.filter p)[((once (A.take i)).filter p).length]?=some A[i]:=by
     rw[List.append_assoc,List.getElem?_append_right (Nat.le_refl _)]
     simp
    rw[this]
    simp[hm]
   ·rw[List.filter_cons_of_neg hp,List.filter_nil,List.append_nil]
    have:¬((once (A.take i)).filter p++r.filter p)[((once (A.take i)).filter p).length]?=some A[i]:=fun h=>by
     have hmem:=List.mem_of_getElem? h
     rw[←List.filter_append]at hmem
     exact hp (List.mem_filter.1 hmem).2
    rw[if_neg (by simp[hm];simpa using this)]
theorem some_all(A:List Int)(p:Int->Bool):(someAt ((once A).filter p) A A.length==((once A).filter p).length)=true:=by
 have:=some_core A p A.length (Nat.le_refl _)
 rw[List.take_length]at this
 rw[this]
 simp
end Go.Proofs.YtekkkoipcghlmaaGreatDoor
