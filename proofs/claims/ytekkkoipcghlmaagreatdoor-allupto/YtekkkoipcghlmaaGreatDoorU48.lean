import Derived.Test.YtekkkoipcghlmaaGreatDoorU46
import Derived.Test.YtekkkoipcghlmaaGreatDoorU47
set_option linter.all false
namespace Go.Proofs.YtekkkoipcghlmaaGreatDoor
open Go.RowKit
structure Entry where
 n:Nat
 m:Int
 lo:Option Addr
 lc:Nat
 ao:Option Addr
 ac:Nat
 bo:Option Addr
 bc:Nat
 co:Option Addr
 cc:Nat
def Entry.cells(e:Entry):List Value:=[.slice e.lo e.n e.lc,.slice e.ao (e.n+1) e.ac,.slice e.bo (e.n+2) e.bc,.slice e.co (e.n+3) e.cc,.int .i64 e.m]
structure EntryAt(w:World)(e:Entry):Prop where
 l:Lies w (.slice e.lo e.n e.lc) (ints (List.replicate e.n e.m))
 a:Lies w (.slice e.ao (e.n+1) e.ac) (ints (List.replicate (e.n+1) e.m))
 b:Lies w (.slice e.bo (e.n+2) e.bc) (ints (List.replicate (e.n+2) e.m))
 c:Lies w (.slice e.co (e.n+3) e.cc) (ints (List.replicate (e.n+3) e.m))
 small:e.n<=1000000
 lo:0<=e.m
 hi:e.m<=1000000000
def qM(G:Nat->Prop)(e:Entry):Prop:=∀v,v∈e.cells->∀g,v.ownBlock=some g->G g
structure BookIs(base:Nat)(w:World)(bk:Value)(G:Nat->Prop)(es:List Entry):Prop where
 row:w.ownsRow base 101 5 bk es.length (es.flatMap Entry.cells)
 ents:∀e,e∈es->EntryAt w e
 foot:∀g,bk.ownBlock=some g->G g
 feet:∀e,e∈es->qM G e
 off:∀e,e∈es->∀v,v∈e.cells->∀g,v.ownBlock=some g->bk.ownBlock≠some g
theorem bS{w w':World}{v:Value}{vs:List Value}(h:Lies w v vs)(hs:w.heap.size<=w'.heap.size)(hb:∀g,v.ownBlock=some g->w'.heap[g]?=w.heap[g]?):Lies w' v vs:=by
 rcases h with h|⟨b,off,cap,hp,rfl,hlt,hc⟩
 ·exact .inl h
 ·exact .inr ⟨b,off,cap,hp,rfl,Nat.lt_of_lt_of_le hlt hs,fun k x hx=>(World.cell?_of_block (a:=⟨b,off+k,none⟩) (hb b rfl)).trans (hc k x hx)⟩
section
variable {base:Nat}{w w':World}{bk:Value}{G:Nat->Prop}{es:List Entry}
theorem EntryAt.keep{e:Entry}(h:EntryAt w e)(hf:qM G e)(hs:w.heap.size<=w'.heap.size)(hk:∀k,G k->w'.heap[k]?=w.heap[k]?):EntryAt w' e:=
 ⟨bS h.l hs (fun g hg=>hk g (hf _ (by simp[Entry.cells]) g hg)),bS h.a hs (fun g hg=>hk g (hf _ (by simp[Entry.cells]) g hg)),bS h.b hs (fun g hg=>hk g (hf _ (by simp[Entry.cells]) g hg)),bS h.c hs (fun g hg=>hk g (hf _ (by simp[Entry.cells]) g hg)),h.small,h.lo,h.hi⟩
theorem BookIs.keep(h:BookIs base w bk G es)(hs:w.heap.size<=w'.heap.size)(hk:∀k,G k->w'.heap[k]?=w.heap[k]?):BookIs base w' bk G es:=
 ⟨aH h.row (fun g hg=>hk g (h.foot g hg)),fun e he=>(h.ents e he).keep (h.feet e he) hs hk,h.foot,h.feet,h.off⟩
theorem BookIs.nil(base:Nat)(w:World):BookIs base w (.slice none 0 0) (fun _=>False) []:=
 ⟨World.ownsRow_nil _ _ _ _,fun e he=>(by cases he),fun g hg=>(by cases hg),fun e he=>(by cases he),fun e he=>(by cases he)⟩
end
theorem aR7{α:Type}(f:α->List Value)(hf:∀e,(f e).length=5):∀(es:List α) (i j:Nat) (h:i<es.length),j<5->(es.flatMap f)[i*5+j]?=(f es[i])[j]?
 | [],i,j,h,_=>by simp at h
 | e::es,0,j,h,hj=>by
  rw[List.flatMap_cons,List.getElem?_append_left (by rw[hf];omega)]
  simp
 | e::es,i+1,j,h,hj=>by
  rw[List.flatMap_cons,List.getElem?_append_right (by rw[hf];omega),hf,show(i+1)*5+j-5=i*5+j from by omega]
  have:=aR7 f hf es i j (by simpa using h) hj
  simpa using this
theorem BookIs.cell{base:Nat}{w:World}{bk:Value}{G:Nat->Prop}{es:List Entry}(h:BookIs base w bk G es){i:Nat}(hi:i<es.length):∃g cap,bk=.slice (some ⟨g,0,none⟩) es.length cap/\g<w.heap.size/\es.length<=cap/\∀j x,es[i].cells[j]?=some x->w.cell? ⟨g,i*5+j,none⟩=some x:=by
 rcases h.row.2 with⟨_,h0⟩|⟨g,cap,cur,hv,_,hg,hle,_⟩
 ·omega
 ·refine⟨g,cap,hv,aA hg,hle,fun j x hx=>?_⟩
  have hj:j<5:=by have:=(List.getElem?_eq_some_iff.1 hx).1;simpa [Entry.cells] using this
  have:=h.row.cells (g:=g) (by rw[hv];rfl) (i*5+j) x (by rw[aR7 Entry.cells (fun e=>rfl) es i j hi hj];exact hx)
  rw[Addr.add_lit,Nat.zero_add]at this
  exact this
set_option maxRecDepth 100000 in
set_option maxHeartbeats 1600000 in
theorem yE(base B:Nat)(bk:Value)(G:Nat->Prop)(es:List Entry)(w:World)(hB:w.cell? ⟨B,1,none⟩=some bk)(h:BookIs base w bk G es)(hG:∀k,G k->k<w.heap.size)(hn:es.length<=1000000000):
  Calls Tryz.prog 36 #[.pointer (some ⟨B,1,none⟩)] w fun e w'=>e=.returned (.bool true)/\Below w.heap.size w w':=by
 have hBl:B<w.heap.size:=World.block_lt_of_cell? w _ hB
 obtain⟨bo,bc,rfl⟩:∃bo bc,bk=.slice bo es.length bc:=by
  rcases h.row.2 with⟨h1,h2⟩|⟨g,cap,cur,h1,_⟩
  ·exact⟨none,0,by rw[h1,h2]⟩
  ·exact⟨_,_,h1⟩
 have HG:=aq hG
 clear hG
 have HH:=aq h
 clear h
 go_enter Tryz.func36,Tryz.ntmps36
 go_wp2
 go_loopw [3,4,5,6,7,8] (fun i _ _ _ _ _ wr=>∃k:Nat,k<=es.length/\i=.int .i64 k/\Hid (Below w.heap.size w wr)) (fun i _ _ _ _ _ _=>es.length-(intOf i).toNat)
 case atStart=>exact⟨0,Nat.zero_le _,rfl,aq (Below.refl _ _)⟩
 case round=>
  obtain⟨k,hk,rfl,HB⟩:=hrel
  have hb:=dz HB
  have hBr:wr.cell? ⟨B,1,none⟩=some (.slice bo es.length bc):=(hb.cell (p:=⟨B,1,none⟩) hBl).trans hB
  have hBlr:B<wr.heap.size:=Nat.lt_of_lt_of_le hBl hb.size
  by_cases hlt:k<es.length
  ·have hBk:=(dz HH).keep hb.size (fun k hk=>hb.block k (dz HG k hk))
   obtain⟨g,cap,hbk,hgl,hcap,hcell⟩:=hBk.cell hlt
   cases hbk
   have HF:Hid (∀wx,Below w.heap.size w wx->EntryAt wx es[k]):=aq (fun wx hx=>((dz HH).keep hx.size (fun k hk=>hx.block k (dz HG k hk))).ents _ (List.getElem_mem hlt))
   have hsm:=(hBk.ents _ (List.getElem_mem hlt)).small
   have hm0:=(hBk.ents _ (List.getElem_mem hlt)).lo
   have hm1:=(hBk.ents _ (List.getElem_mem hlt)).hi
   generalize es[k]=e at *
   obtain⟨n,m,lo,lc,ao,ac,bo,bc2,co,cc⟩:=e
   have c0:wr.cell? ⟨g,k*5,none⟩=some (.slice lo n lc):=hcell 0 _ rfl
   have c1:wr.cell? ⟨g,k*5+1,none⟩=some (.slice ao (n+1) ac):=hcell 1 _ rfl
   have c2:wr.cell? ⟨g,k*5+2,none⟩=some (.slice bo (n+2) bc2):=hcell 2 _ rfl
   have c3:wr.cell? ⟨g,k*5+3,none⟩=some (.slice co (n+3) cc):=hcell 3 _ rfl
   have c4:wr.cell? ⟨g,k*5+4,none⟩=some (.int .i64 m):=hcell 4 _ rfl
   have hdk:decide ((k:Int)<(es.length:Int))=true:=decide_eq_true (by omega)
   simp only at hsm hm0 hm1
   have FL:Hid (∀wx,Below w.heap.size w wx->Calls Tryz.prog 60 #[.slice lo n lc,.int .i64 m] wx fun e w'=>e=.returned (.bool true)/\w'=wx):=aq (fun wx hx=>lE _ (List.replicate n m) m wx (by rw[List.length_replicate];omega) (fun x hx=>List.eq_of_mem_replicate hx) (dz HF wx hx).l)
   have FA:Hid (∀wx,Below w.heap.size w wx->Calls Tryz.prog 60 #[.slice ao (n+1) ac,.int .i64 m] wx fun e w'=>e=.returned (.bool true)/\w'=wx):=aq (fun wx hx=>lE _ (List.replicate (n+1) m) m wx (by rw[List.length_replicate];omega) (fun x hx=>List.eq_of_mem_replicate hx) (dz HF wx hx).a)
   have FB:Hid (∀wx,Below w.heap.size w wx->Calls Tryz.prog 60 #[.slice bo (n+2) bc2,.int .i64 m] wx fun e w'=>e=.returned (.bool true)/\w'=wx):=aq (fun wx hx=>lE _ (List.replicate (n+2) m) m wx (by rw[List.length_replicate];omega) (fun x hx=>List.eq_of_mem_replicate hx) (dz HF wx hx).b)
   have FC:Hid (∀wx,Below w.heap.size w wx->Calls Tryz.prog 60 #[.slice co (n+3) cc,.int .i64 m] wx fun e w'=>e=.returned (.bool true)/\w'=wx):=aq (fun wx hx=>lE _ (List.replicate (n+3) m) m wx (by rw[List.length_replicate];omega) (fun x hx=>List.eq_of_mem_replicate hx) (dz HF wx hx).c)
   obtain⟨w1,hw1⟩:∃w1,wr.alloc (.cells #[.slice lo n lc,.slice ao (n+1) ac,.slice bo (n+2) bc2,.slice co (n+3) cc,.int .i64 m] 101)=w1:=⟨_,rfl⟩
   have hb1:Below wr.heap.size wr w1:=by rw[←hw1];exact aU _ _
   have hbox:w1.heap[wr.heap.size]?=some (.cells #[.slice lo n lc,.slice ao (n+1) ac,.slice bo (n+2) bc2,.slice co (n+3) cc,.int .i64 m] 101):=by rw[←hw1];exact bU _ _
   have hlt1:wr.heap.size<w1.heap.size:=aA hbox
   have b0:w1.cell? ⟨wr.heap.size,0,none⟩=some (.slice lo n lc):=by simp[World.cell?,hbox]
   have b1:w1.cell? ⟨wr.heap.size,1,none⟩=some (.slice ao (n+1) ac):=by simp[World.cell?,hbox]
   have b2:w1.cell? ⟨wr.heap.size,2,none⟩=some (.slice bo (n+2) bc2):=by simp[World.cell?,hbox]
   have b3:w1.cell? ⟨wr.heap.size,3,none⟩=some (.slice co (n+3) cc):=by simp[World.cell?,hbox]
   have b4:w1.cell? ⟨wr.heap.size,4,none⟩=some (.int .i64 m):=by simp[World.cell?,hbox]
   have hb01:Below w.heap.size w w1:=hb.trans (hb1.mono hb.size)
   have HB1:=aq hb01
   clear hcell HF hBk hbox HH
   go_wp2_with fail
   refine(dz FL w1 hb01).mono ?_
   rintro e wa ⟨rfl,rfl⟩
   go_wp2_with fail
   refine(dz FA wa hb01).mono ?_
   rintro e wb ⟨rfl,rfl⟩
   go_wp2_with fail
   refine(dz FB wb hb01).mono ?_
   rintro e wc ⟨rfl,rfl⟩
   go_wp2_with fail
   refine(dz FC wc hb01).mono ?_
   rintro e wd ⟨rfl,rfl⟩
   go_wp2
   go_roundw
   case rel=>exact⟨k+1,by omega,by go_num,HB1⟩
   case measure=>simp[intOf];omega
  ·go_wp2
   go_ret
   exact⟨rfl,hb⟩
end Go.Proofs.YtekkkoipcghlmaaGreatDoor
namespace Go.Proofs.YtekkkoipcghlmaaGreatDoor
open Go.RowKit
theorem iF{P:Program}{ops:Array Oper}{rest:List Oper}{o:Oper}{a:Act}{Q:Exit->Act->World->Prop}{w:World}{base n m bytes:Nat}{v z:Value}{xs news:List Value}{ad:Addr}
  (hgd:o.guard=none) (s x:Operand) (t e:TypeId) (ho:o.op=.call { callee:=.builtin .append,args:=#[s,x],argTypes:=#[t,t] })
  (ht:P.underlying t=some (.slice e)) (hinfo:(P.info? e).map (fun i=>(i.zero,i.size,i.bytes))=some (some z,1,bytes)) (hzs:z.cells.size=1) (hby:bytes<=24)
  (hown:w.ownsRow base e 1 v n xs) (hs:a.eval s=v) (hx:a.eval x=.slice (some ad) m m) (hnl:news.length=m) (hm:0<m) (hnews:∀j u,news[j]?=some u->w.cell? (ad.add j)=some u) (h1:∀u∈news,u.oneCell'=true)
  (hn:n+m<=20000000) (hbase:base<=w.heap.size)
  (h:∀(v':Value) (w':World),w'.ownsRow base e 1 v' (n+m) (xs++news)->w'.ownsRow base e 1 v n xs->Only (fun k=>v.ownBlock=some k) w w'->(∀g,v'.ownBlock=some g->v.ownBlock=some g∨w.heap.size<=g)->((∃g cap,v=.slice (some ⟨g,0,none⟩) n cap/\v'=.slice (some ⟨g,0,none⟩) (n+m) cap)∨Below w.heap.size w w')->wpList P ops Q rest (a.put o.dst v') w'):
  wpList P ops Q (o::rest) a w:=by
 obtain⟨i0,hi0,hz0,hz1,hz2⟩:=info_parts hinfo
 have hnb:(n+m)*bytes<=140737488355328:=Nat.le_trans (Nat.mul_le_mul hn hby) (by omega)
 have hmx:n+m<=maxLen:=by unfold maxLen;omega
 have hnl1:news.length=m*1:=by omega
 rcases hown.2 with⟨rfl,h0⟩|⟨g,cap,cur,rfl,hbg,hg,hnc,hcm,hsz,htk⟩
 ·subst h0
  have hx0:xs=[]:=List.eq_nil_of_length_eq_zero (by rw[hown.1])
  subst hx0
  refine wpList_append_grows w hgd s x t ho e i0 z 1 bytes ht hi0 hz0 hz1 hz2 hzs (by decide) none 0 0 [] hs (fun _=>⟨rfl,rfl⟩) rfl (fun b hb=>by cases hb) ad m m news hx hnl1 hnews h1 (by omega) hmx hnb ?_
  intro v' w' h2 h3
  exact h v' w' (bC h2 hbase) (World.ownsRow_nil _ _ _ _) (Only.grown h3 (fun k hk=>by cases hk)) (fun k hk=>.inr (h2.lt k hk).1) (.inr ((Below.refl _ _).grown h3 (Nat.le_refl _) (fun k hk=>by cases hk)))
 ·by_cases hr:n+m<=cap
  ·refine wpList_append_fits w hgd s x t ho base e i0 1 ht hi0 hz1 g n cap xs hs hown ad m m news hx hnl1 hnews h1 hr ?_
   intro w' h2 h3
   refine h _ w' h2 ?_ (Only.grown h3 (fun k hk=>by simp at hk;subst hk;rfl)) (fun k hk=>.inl hk) (.inl ⟨g,cap,rfl,rfl⟩)
   rcases h2.2 with⟨hv,_⟩|⟨g2,cap2,cur2,hv,hb2,hg2,_,hcm2,hsz2,htk2⟩
   ·cases hv
   ·simp only[Value.slice.injEq,Option.some.injEq,Addr.mk.injEq]at hv
    obtain⟨⟨rfl,-,-⟩,-,rfl⟩:=hv
    refine⟨hown.1,.inr ⟨g,cap,cur2,rfl,hbg,hg2,hnc,hcm,hsz2,?_⟩⟩
    have:=congrArg (List.take (n*1)) htk2
    rw[List.take_take,Nat.min_eq_left (by omega)]at this
    rw[this,List.take_append_of_le_length (by rw[hown.1];omega),List.take_of_length_le (by rw[hown.1];omega)]
  ·refine wpList_append_grows w hgd s x t ho e i0 z 1 bytes ht hi0 hz0 hz1 hz2 hzs (by decide) (some ⟨g,0,none⟩) n cap xs hs (fun e=>by cases e) hown.1 (fun b hb j u hu=>?_) ad m m news hx hnl1 hnews h1 (by omega) hmx hnb ?_
   ·cases hb
    have hj:j<n:=by
     have:=(List.getElem?_eq_some_iff.1 hu).1
     rw[hown.1]at this;omega
    have hadd:(⟨g,0,none⟩:Addr).add j=⟨g,j,none⟩:=by
     simp[Addr.add];intro e;exact e.symm
    rw[hadd,hown.cellAt j (by omega)]
    exact hu
   ·intro v' w' h2 h3
    exact h v' w' (bC h2 hbase) (aH hown (fun k hk=>h3.block k (hown.lt k hk).2 (fun e=>by cases e))) (Only.grown h3 (fun k hk=>by cases hk)) (fun k hk=>.inr (h2.lt k hk).1) (.inr ((Below.refl _ _).grown h3 (Nat.le_refl _) (fun k hk=>by cases hk)))
def MarkRow(base:Nat)(w:World)(v:Value)(j:Nat)(m:Int):Prop:=w.ownsRow base 3 1 v j (ints (List.replicate j m))
theorem MarkRow.lies{base:Nat}{w:World}{v:Value}{j:Nat}{m:Int}(h:MarkRow base w v j m):Lies w v (ints (List.replicate j m)):=aE h (by simp[ints])
theorem xP{cur:List Value}{j n:Nat}{m:Int}(h:cur.take n=ints (List.replicate n m))(hj:j<=n):cur.take j=ints (List.replicate j m):=by
 have:cur.take j=(cur.take n).take j:=by rw[List.take_take,Nat.min_eq_left hj]
 rw[this,h]
 simp[ints,List.take_replicate,Nat.min_eq_left hj]
theorem MarkRow.behind{base b1 n k j:Nat}{w w':World}{v v' v1:Value}{m:Int}(h1:MarkRow b1 w v1 j m)(hj:j<=n+k)(hv:MarkRow base w v n m)(hv':MarkRow base w' v' (n+k) m)(ho:Only (fun g=>v.ownBlock=some g) w w')(hp:(∃g cap,v=.slice (some ⟨g,0,none⟩) n cap/\v'=.slice (some ⟨g,0,none⟩) (n+k) cap)∨Below w.heap.size w w'):MarkRow b1 w' v1 j m:=by
 have hlt:=fun g hg=>(World.ownsRow.lt h1 g hg).2
 rcases hp with⟨g,cap,rfl,rfl⟩|hb
 ·refine⟨h1.1,?_⟩
  rcases h1.2 with h0|⟨g1,cap1,cur1,rfl,a1,a2,a3,a4,a5,a6⟩
  ·exact .inl h0
  ·by_cases e:g1=g
   ·subst e
    rcases hv.2 with⟨hv0,_⟩|⟨g2,cap2,cur2,hv2,c1,c2,c3,c4,c5,c6⟩
    ·cases hv0
    ·cases hv2
     rw[a2]at c2
     cases c2
     rcases hv'.2 with⟨hv0,_⟩|⟨g3,cap3,cur3,hv3,d1,d2,d3,d4,d5,d6⟩
     ·cases hv0
     ·cases hv3
      refine .inr ⟨g1,cap1,cur3,rfl,a1,d2,a3,a4,by omega,?_⟩
      rw[Nat.mul_one]at d6⊢
      exact xP d6 hj
   ·exact .inr ⟨g1,cap1,cur1,rfl,a1,(ho.block g1 (aA a2) (fun h=>e (by simpa [Value.ownBlock] using h.symm))).trans a2,a3,a4,a5,a6⟩
 ·exact aH h1 (fun g hg=>hb.block g (hlt g hg))
end Go.Proofs.YtekkkoipcghlmaaGreatDoor
namespace Go.Proofs.YtekkkoipcghlmaaGreatDoor
open Go.RowKit
theorem Tryz.infoIntB:(Tryz.prog.info? 3).map (fun i=>(i.zero,i.size,i.bytes))=some (some (.int .i64 0),1,8):=by kernel_rfl
theorem Tryz.infoNumbers:(Tryz.prog.info? 101).map (fun i=>(i.zero,i.size,i.bytes))=some (some (.agg #[.slice none 0 0,.slice none 0 0,.slice none 0 0,.slice none 0 0,.int .i64 0]),5,104):=by kernel_rfl
theorem uG{P:Program}{e:TypeId}{z:Value}{k bytes:Nat}(h:(P.info? e).map (fun i=>(i.zero,i.size,i.bytes))=some (some z,k,bytes)):∃i,P.info? e=some i/\i.zero=some z/\i.size=k/\i.bytes=bytes:=by
 cases hi:P.info? e with
 | none=>rw[hi]at h;cases h
 | some i=>
  rw[hi]at h
  simp at h
  exact⟨i,rfl,h.1,h.2.1,h.2.2⟩
theorem aD6{w:World}{base g cap n i:Nat}{xs:List Int}(h:w.ownsRow base 3 1 (.slice (some ⟨g,0,none⟩) n cap) n (ints xs))(hi:i<n)(x:Int):(w.setCell ⟨g,i,none⟩ (.int .i64 x)).ownsRow base 3 1 (.slice (some ⟨g,0,none⟩) n cap) n (ints (xs.set i x)):=by
 have hl:xs.length=n:=by have:=h.1;simpa [ints] using this
 refine⟨by simp[ints,hl],?_⟩
 rcases h.2 with⟨hv,_⟩|⟨g',cap',cur,hv,a1,a2,a3,a4,a5,a6⟩
 ·cases hv
 ·cases hv
  refine .inr ⟨g,cap,_,rfl,a1,heap_setCell_same w g i _ _ _ a2,a3,a4,by simpa using a5,?_⟩
  have e:ints (xs.set i x)=(ints xs).set i (.int .i64 x):=by simp[ints,List.map_set]
  rw[e,←a6]
  simp[List.take_set]
def fG(xs:List Int)(k:Nat)(m:Int):List Int:=List.replicate k m++xs.drop k
theorem rR(xs:List Int)(m:Int):fG xs 0 m=xs:=by simp[fG]
theorem uQ(xs:List Int)(m:Int):fG xs xs.length m=List.replicate xs.length m:=by simp[fG]
theorem vA(xs:List Int)(k:Nat)(m:Int)(h:k<xs.length):(fG xs k m).set k m=fG xs (k+1) m:=by
 unfold fG
 rw[List.set_append_right _ _ (by simp),List.length_replicate,Nat.sub_self,List.drop_eq_getElem_cons h,List.set_cons_zero,List.replicate_succ',List.append_assoc]
 rfl
structure KS(bl:Nat)(w0 wr:World)(l:Value)(n:Nat)(m:Int)(X:Nat)(cs:List Value)(rows:List (Value×Nat)):Prop where
 box:wr.heap[X]?=some (.cells cs.toArray 101 (0,0))
 fresh:w0.heap.size<=X
 lrow:MarkRow bl wr l n m
 rows:∀r,r∈rows->MarkRow bl wr r.1 r.2 m/\∀g,r.1.ownBlock=some g->l.ownBlock=some g∨w0.heap.size<=g
 only:Only (fun k=>l.ownBlock=some k) w0 wr
section
variable {bl:Nat}{w0 wr w':World}{l v':Value}{n X:Nat}{m:Int}{cs:List Value}{rows:List (Value×Nat)}
theorem KS.below(h:KS bl w0 wr l n m X cs rows)(hb:Below wr.heap.size wr w'):KS bl w0 w' l n m X cs rows:=
 ⟨(hb.block X (aA h.box)).trans h.box,h.fresh,aR h.lrow hb,fun r hr=>⟨aR (h.rows r hr).1 hb,(h.rows r hr).2⟩,h.only.trans (Only.of_below _ hb)⟩
theorem KS.app{k:Nat}(h:KS bl w0 wr l n m X cs rows)(hk:∀r,r∈rows->r.2<=n+k)(h1:MarkRow bl w' v' (n+k) m)(h2:MarkRow bl w' l n m)(ho:Only (fun g=>l.ownBlock=some g) wr w')(hloc:∀g,v'.ownBlock=some g->l.ownBlock=some g∨wr.heap.size<=g)(hp:(∃g cap,l=.slice (some ⟨g,0,none⟩) n cap/\v'=.slice (some ⟨g,0,none⟩) (n+k) cap)∨Below wr.heap.size wr w'):KS bl w0 w' l n m X cs (rows++[(v',n+k)]):=by
 refine⟨(ho.block X (aA h.box) (aZ h.lrow h.box (by decide))).trans h.box,h.fresh,h2,fun r hr=>?_,h.only.trans ho⟩
 rcases List.mem_append.1 hr with hr|hr
 ·exact⟨(h.rows r hr).1.behind (hk r hr) h.lrow h1 ho hp,(h.rows r hr).2⟩
 ·rw[List.mem_singleton.1 hr]
  refine⟨h1,fun g hg=>?_⟩
  rcases hloc g hg with e|e
  ·exact .inl e
  ·exact .inr (Nat.le_trans h.only.size e)
theorem KS.put(h:KS bl w0 wr l n m X cs rows)(i:Nat)(v:Value):KS bl w0 (wr.setCell ⟨X,i,none⟩ v) l n m X (cs.set i v) rows:=by
 have hx:∀k,k≠X->(wr.setCell ⟨X,i,none⟩ v).heap[k]?=wr.heap[k]?:=fun k hk=>Below.heap_setCell _ _ _ _ hk
 refine⟨by rw[heap_setCell_same wr X i _ _ v h.box];simp,h.fresh,aH h.lrow (fun g hg=>hx g (fun e=>aZ h.lrow h.box (by decide) (by rw[←e];exact hg))),fun r hr=>⟨aH (h.rows r hr).1 (fun g hg=>hx g (fun e=>aZ (h.rows r hr).1 h.box (by decide) (by rw[←e];exact hg))),(h.rows r hr).2⟩,?_⟩
 have h0:=h.only
 have hf:=h.fresh
 exact⟨h0.os,h0.tape,h0.output,by simpa using h0.size,fun k hk hn=>(hx k (by omega)).trans (h0.block k hk hn)⟩
theorem KS.cell(h:KS bl w0 wr l n m X cs rows){i:Nat}{v:Value}(hi:cs[i]?=some v):wr.cell? ⟨X,i,none⟩=some v:=by
 rw[World.cell?,h.box]
 simpa using hi
end
theorem aE9(es:List Entry)(e:Entry):(es++[e]).flatMap Entry.cells=es.flatMap Entry.cells++e.cells:=by simp
theorem wW{ops:Array Oper}{o:Oper}{a:Act}{K:Act->World->Prop}{Q:Exit->Act->World->Prop}{E:Prop}{wz:World}{base Bn:Nat}{v:Value}{es:List Entry}{e:Entry}
  (hgd:o.guard=none) (s x:Operand) (ho:o.op=.call { callee:=.builtin .append,args:=#[s,x],argTypes:=#[60,60] })
  (hown:wz.ownsRow base 101 5 v es.length (es.flatMap Entry.cells)) (hs:a.eval s=v) (hx:a.eval x=.slice (some ⟨Bn,0,none⟩) 1 1) (hB:wz.heap[Bn]?=some (.cells e.cells.toArray 101 (0,0))) (hn:es.length<=20000000) (hbase:base<=wz.heap.size)
  (h:∀(g cap:Nat) (w':World),w'.ownsRow base 101 5 (.slice (some ⟨g,0,none⟩) (es.length+1) cap) (es.length+1) ((es++[e]).flatMap Entry.cells)->wz.grownBy w' v.ownBlock->(v.ownBlock=some g∨g=wz.heap.size)->K (a.put o.dst (.slice (some ⟨g,0,none⟩) (es.length+1) cap)) w'):
  if Region.wanted o (yielded ops a.tmps)=true then Oper.wp Tryz.prog o a wz K Q else E:=by
 obtain⟨i0,hi0,hz0,hz1,hz2⟩:=uG Tryz.infoNumbers
 refine step_append_lies (P:=Tryz.prog) wz hgd s x 60 ho base 101 i0 _ 5 104 Tryz.underlying60 hi0 hz0 hz1 hz2 rfl (by decide) v es.length (es.flatMap Entry.cells) hs hown ⟨Bn,0,none⟩ 1 1 e.cells hx rfl (World.news_of_block hB) ?_ (by decide) (by unfold maxLen;omega) (by omega) hbase _ rfl ?_
 ·intro u hu
  simp[Entry.cells]at hu
  rcases hu with rfl|rfl|rfl|rfl|rfl<;>rfl
 ·intro g cap w' h1 h2 h3 _
  rw[←aE9]at h1
  exact h g cap w' h1 h2 h3
theorem aI1{base bl B g cap:Nat}{w y wz w4:World}{lv0 bk:Value}{G:Nat->Prop}{es:List Entry}{e:Entry}{X:Nat}{cs:List Value}{rows:List (Value×Nat)}(hB:w.heap[B]?=some (.cells #[lv0,bk] 64 (0,0)))(hbook:BookIs base w bk G es)(hG:∀k,G k->base<=k/\k<w.heap.size)(hGB:¬G B)(hlG:∀g,(Value.slice e.lo e.n e.lc).ownBlock=some g->¬G g/\base<=g)(hlB:(Value.slice e.lo e.n e.lc).ownBlock≠some B)(hbb:base<=w.heap.size)
  (hK:KS bl w y (.slice e.lo e.n e.lc) e.n e.m X cs rows) (ha:(Value.slice e.ao (e.n+1) e.ac,e.n+1)∈rows) (hb:(Value.slice e.bo (e.n+2) e.bc,e.n+2)∈rows) (hc:(Value.slice e.co (e.n+3) e.cc,e.n+3)∈rows) (hsm:e.n<=1000000) (hm0:0<=e.m) (hm1:e.m<=1000000000)
  (hz:Below y.heap.size y wz) (hown:w4.ownsRow base 101 5 (.slice (some ⟨g,0,none⟩) (es.length+1) cap) (es.length+1) ((es++[e]).flatMap Entry.cells)) (hgr:wz.grownBy w4 bk.ownBlock) (hloc:bk.ownBlock=some g∨g=wz.heap.size):
  w4.heap[B]?=some (.cells #[lv0,bk] 64 (0,0))/\BookIs base (w4.setCell ⟨B,1,none⟩ (.slice (some ⟨g,0,none⟩) (es.length+1) cap)) (.slice (some ⟨g,0,none⟩) (es.length+1) cap) (fun k=>(G k∨(Value.slice e.lo e.n e.lc).ownBlock=some k∨w.heap.size<=k)/\base<=k/\k<w4.heap.size) (es++[e])/\Only (fun k=>k=B∨(Value.slice e.lo e.n e.lc).ownBlock=some k∨bk.ownBlock=some k) w (w4.setCell ⟨B,1,none⟩ (.slice (some ⟨g,0,none⟩) (es.length+1) cap)):=by
 have hBl:=aA hB
 have s1:=hK.only.size
 have s2:=hz.size
 have s3:=hgr.size
 have hbkB:bk.ownBlock≠some B:=fun h=>hGB (hbook.foot B h)
 have st4:∀k,k<y.heap.size->bk.ownBlock≠some k->w4.heap[k]?=y.heap[k]?:=fun k hk hn=>(hgr.block k (by omega) (fun h=>hn h.symm)).trans (hz.block k hk)
 have stw:∀k,k<w.heap.size->bk.ownBlock≠some k->(Value.slice e.lo e.n e.lc).ownBlock≠some k->w4.heap[k]?=w.heap[k]?:=fun k hk hn hl=>(st4 k (by omega) hn).trans (hK.only.block k hk hl)
 have hset:∀k,k≠B->(w4.setCell ⟨B,1,none⟩ (.slice (some ⟨g,0,none⟩) (es.length+1) cap)).heap[k]?=w4.heap[k]?:=fun k hk=>Below.heap_setCell _ _ _ _ hk
 have hsz:(w4.setCell ⟨B,1,none⟩ (.slice (some ⟨g,0,none⟩) (es.length+1) cap)).heap.size=w4.heap.size:=by simp
 have hB4:w4.heap[B]?=some (.cells #[lv0,bk] 64 (0,0)):=(stw B hBl hbkB hlB).trans hB
 have hgl:=(hown.lt g rfl)
 have hgB:g≠B:=by
  rcases hloc with h|h
  ·intro e;subst e;exact hbkB h
  ·omega
 have hnew:∀v j,MarkRow bl y v j e.m->(∀k,v.ownBlock=some k->(Value.slice e.lo e.n e.lc).ownBlock=some k∨w.heap.size<=k)->∀k,v.ownBlock=some k->k<y.heap.size/\k≠B/\bk.ownBlock≠some k/\((G k∨(Value.slice e.lo e.n e.lc).ownBlock=some k∨w.heap.size<=k)/\base<=k/\k<w4.heap.size)/\k≠g:=fun v j hv hvl k hk=>by
  have hky:=(World.ownsRow.lt hv k hk).2
  rcases hvl k hk with h1|h1
  ·have h2:=hlG k h1
   refine⟨hky,fun e=>hlB (by rw[←e];exact h1),fun h=>h2.1 (hbook.foot k h),⟨.inr (.inl h1),h2.2,by omega⟩,fun e=>?_⟩
   subst e
   rcases hloc with h|h
   ·exact h2.1 (hbook.foot _ h)
   ·omega
  ·refine⟨hky,by omega,fun h=>by have:=(hG k (hbook.foot k h)).2;omega,⟨.inr (.inr h1),by omega,by omega⟩,fun e=>?_⟩
   subst e
   rcases hloc with h|h
   ·have:=(hG _ (hbook.foot _ h)).2;omega
   ·omega
 have hl0:=hnew _ _ hK.lrow (fun k hk=>.inl hk)
 have ha0:=hnew _ _ (hK.rows _ ha).1 (hK.rows _ ha).2
 have hb0:=hnew _ _ (hK.rows _ hb).1 (hK.rows _ hb).2
 have hc0:=hnew _ _ (hK.rows _ hc).1 (hK.rows _ hc).2
 have lies5:∀v j,MarkRow bl y v j e.m->(∀k,v.ownBlock=some k->k<y.heap.size/\k≠B/\bk.ownBlock≠some k/\((G k∨(Value.slice e.lo e.n e.lc).ownBlock=some k∨w.heap.size<=k)/\base<=k/\k<w4.heap.size)/\k≠g)->Lies (w4.setCell ⟨B,1,none⟩ (.slice (some ⟨g,0,none⟩) (es.length+1) cap)) v (ints (List.replicate j e.m)):=fun v j hv hf=>bS hv.lies (by omega) (fun k hk=>(hset k (hf k hk).2.1).trans (st4 k (hf k hk).1 (hf k hk).2.2.1))
 have feet5:∀v,v∈e.cells->∀k,v.ownBlock=some k->((G k∨(Value.slice e.lo e.n e.lc).ownBlock=some k∨w.heap.size<=k)/\base<=k/\k<w4.heap.size)/\k≠g:=fun v hv k hk=>by
  simp only[Entry.cells,List.mem_cons,List.not_mem_nil,or_false]at hv
  rcases hv with rfl|rfl|rfl|rfl|rfl
  ·exact(hl0 k hk).2.2.2
  ·exact(ha0 k hk).2.2.2
  ·exact(hb0 k hk).2.2.2
  ·exact(hc0 k hk).2.2.2
  ·cases hk
 have old:∀e',e'∈es->∀v,v∈e'.cells->∀k,v.ownBlock=some k->G k/\k<w.heap.size/\k≠B/\bk.ownBlock≠some k/\(Value.slice e.lo e.n e.lc).ownBlock≠some k/\k≠g:=fun e' he v hv k hk=>by
  have h1:=hbook.feet e' he v hv k hk
  have h2:=(hG k h1).2
  have h3:=hbook.off e' he v hv k hk
  refine⟨h1,h2,fun e=>hGB (by rw[←e];exact h1),h3,fun h=>(hlG k h).1 h1,fun e=>?_⟩
  subst e
  rcases hloc with h|h
  ·exact h3 h
  ·omega
 refine⟨hB4,⟨?_,fun e' he=>?_,fun k hk=>?_,fun e' he v hv k hk=>?_,fun e' he v hv k hk h=>?_⟩,?_⟩
 ·rw[List.length_append,List.length_singleton]
  exact aH hown (fun k hk=>hset k (by simp[Value.ownBlock]at hk;omega))
 ·rcases List.mem_append.1 he with he|he
  ·have h0:=hbook.ents e' he
   have kp:∀v,v∈e'.cells->∀k,v.ownBlock=some k->(w4.setCell ⟨B,1,none⟩ (.slice (some ⟨g,0,none⟩) (es.length+1) cap)).heap[k]?=w.heap[k]?:=fun v hv k hk=>by
    obtain⟨-,h2,h3,h4,h5,-⟩:=old e' he v hv k hk
    exact(hset k h3).trans (stw k h2 h4 h5)
   exact⟨bS h0.l (by omega) (kp _ (by simp[Entry.cells])),bS h0.a (by omega) (kp _ (by simp[Entry.cells])),bS h0.b (by omega) (kp _ (by simp[Entry.cells])),bS h0.c (by omega) (kp _ (by simp[Entry.cells])),h0.small,h0.lo,h0.hi⟩
  ·rw[List.mem_singleton.1 he]
   exact⟨lies5 _ _ hK.lrow hl0,lies5 _ _ (hK.rows _ ha).1 ha0,lies5 _ _ (hK.rows _ hb).1 hb0,lies5 _ _ (hK.rows _ hc).1 hc0,hsm,hm0,hm1⟩
 ·simp only[Value.ownBlock,Option.some.injEq]at hk
  subst hk
  refine⟨?_,hgl.1,hgl.2⟩
  rcases hloc with h|h
  ·exact .inl (hbook.foot _ h)
  ·exact .inr (.inr (by omega))
 ·rcases List.mem_append.1 he with he|he
  ·have h1:=(old e' he v hv k hk).1
   exact⟨.inl h1,(hG k h1).1,by have:=(hG k h1).2;omega⟩
  ·rw[List.mem_singleton.1 he]at hv
   exact(feet5 v hv k hk).1
 ·simp only[Value.ownBlock,Option.some.injEq]at h
  rcases List.mem_append.1 he with he|he
  ·exact(old e' he v hv k hk).2.2.2.2.2 h.symm
  ·rw[List.mem_singleton.1 he]at hv
   exact(feet5 v hv k hk).2 h.symm
 ·have h0:=hK.only
  refine⟨hgr.os.trans (hz.os.trans h0.os),hgr.tape.trans (hz.tape.trans h0.tape),hgr.output.trans (hz.output.trans h0.output),by omega,fun k hk hn=>?_⟩
  exact(hset k (fun e=>hn (.inl e))).trans (stw k hk (fun h=>hn (.inr (.inr h))) (fun h=>hn (.inr (.inl h))))
end Go.Proofs.YtekkkoipcghlmaaGreatDoor
