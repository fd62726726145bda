import Derived.Test.YtekkkoipcghlmaaGreatDoorU38
import Derived.Test.YtekkkoipcghlmaaGreatDoorU32
set_option linter.all false
namespace Go.Proofs.YtekkkoipcghlmaaGreatDoor
open Go.RowKit Go.Shelf
attribute [local go_sem] Oper.semAt_some
theorem mM(s:ByteArray)(w:World):
  Calls Tryz.prog 93 #[.string s] w fun e w'=>e=.returned (.func (.func 137) #[] #[.pointer (some ⟨w.heap.size,0,none⟩)])/\w'=w.alloc (.cells #[.string s] 9):=by
 go_enter Tryz.func93,Tryz.ntmps93
 go_wp2
 go_ret
 exact⟨rfl,rfl⟩
def bI(x:List UInt8×Bool):Nat:=Sp.maskOf ((Sp.words x.1).map Sp.lit)
def cN(x:List UInt8×Bool):Prop:=Sp.okLine x.1=true/\x.2=true
structure RInv(w:World)(L:List (List UInt8×Bool))(n:Nat)(W:World):Prop where
 r0:Boxed W w.heap.size 74 (.slice none 0 0)
 r1:Boxed W (w.heap.size+1) 35 (.int .i64 0)
 r2:Boxed W (w.heap.size+2) 3 (.int .i64 0)
 all:∃v,Boxed W (w.heap.size+3) 74 v/\W.ownsRow w.heap.size 69 1 v L.length (us (L.map bI))
 num:Boxed W (w.heap.size+4) 3 (.int .i64 n)
 box:∃u,Boxed W (w.heap.size+5) 9 u
 bel:Below w.heap.size w W
 ok:∀x,x∈L->cN x
theorem RInv.move{w W W':World}{L:List (List UInt8×Bool)}{n m:Nat}(h:RInv w L n W)(hk:∀k o,k≠w.heap.size+5->k≠w.heap.size+4->W.heap[k]?=some o->o.isCells=true->W'.heap[k]?=some o)
  (hn:Boxed W' (w.heap.size+4) 3 (.int .i64 m)) (hb:∃u,Boxed W' (w.heap.size+5) 9 u) (hbel:Below w.heap.size w W'):RInv w L m W':=by
 obtain⟨v,hv,hrow⟩:=h.all
 obtain⟨u,hu⟩:=h.box
 have hnum:=h.num
 refine⟨hk _ _ (by omega) (by omega) h.r0 rfl,hk _ _ (by omega) (by omega) h.r1 rfl,hk _ _ (by omega) (by omega) h.r2 rfl,⟨v,hk _ _ (by omega) (by omega) hv rfl,hrow.1,?_⟩,hn,hb,hbel,h.ok⟩
 rcases hrow.2 with h'|⟨g,cap,cur,rfl,hg,hh,hr⟩
 ·exact .inl h'
 ·refine .inr ⟨g,cap,cur,rfl,hg,hk _ _ ?_ ?_ hh rfl,hr⟩
  ·rintro rfl
   have:=(show W.heap[w.heap.size+5]?=_ from hu).symm.trans hh
   simp at this
  ·rintro rfl
   have:=(show W.heap[w.heap.size+4]?=_ from hnum).symm.trans hh
   simp at this
theorem aM4(w:World):OwnFrom (w.heap.size+6) (fun L=>RInv w L L.length):=by
 intro L W W' row h hg hr
 obtain⟨u,hu⟩:=h.box
 have hne:∀k o,W.heap[k]?=some o->o.isCells=true->some k≠row:=by
  intro k o hk ho e
  obtain⟨_,o',ho',hc⟩:=hr k e.symm
  rw[hk]at ho';cases ho';rw[ho]at hc;cases hc
 exact h.move (fun k o _ _ hk ho=>(hg.block k (Array.getElem?_eq_some_iff.1 hk).1 (hne k o hk ho)).trans hk) (h.num.kept hg (hne _ _ h.num rfl)) ⟨u,hu.kept hg (hne _ _ hu rfl)⟩
  (h.bel.grown hg h.bel.size (fun k e=>by have:=(hr k e).1;omega))
theorem aJ2{w:World}{L:List (List UInt8×Bool)}{n:Nat}{A:World}(v:Value)(h:RInv w L n A):RInv w L n (A.setCell ⟨w.heap.size+5,0,none⟩ v):=by
 obtain⟨u,hu⟩:=h.box
 exact h.move (fun k o hne _ hk _=>(Below.heap_setCell A _ _ _ hne).trans hk) ((Below.heap_setCell A _ _ _ (by simp)).trans h.num) ⟨v,hu.set v⟩ (h.bel.setCell (p:=⟨w.heap.size+5,0,none⟩) (by simp) v)
theorem aG4{w:World}{L:List (List UInt8×Bool)}{n:Nat}{A:World}(m:Nat)(h:RInv w L n A):RInv w L m (A.setCell ⟨w.heap.size+4,0,none⟩ (.int .i64 m)):=by
 obtain⟨u,hu⟩:=h.box
 exact h.move (fun k o _ hne hk _=>(Below.heap_setCell A _ _ _ hne).trans hk) (h.num.set _) ⟨u,(Below.heap_setCell A _ _ _ (by simp)).trans hu⟩ (h.bel.setCell (p:=⟨w.heap.size+4,0,none⟩) (by simp) _)
theorem aD1{w:World}{L:List (List UInt8×Bool)}{n:Nat}{A:World}(h:RInv w L n A):RInv w L n A.drew:=
 h.move (fun _ _ _ _ hk _=>hk) h.num h.box h.bel.drew
theorem yK{w:World}{L:List (List UInt8×Bool)}{n:Nat}{A A':World}(h:RInv w L n A)(hb:Below A.heap.size A A'):RInv w L n A':=by
 have hk:∀k o,A.heap[k]?=some o->A'.heap[k]?=some o:=fun k o hk=>(hb.block k (Array.getElem?_eq_some_iff.1 hk).1).trans hk
 obtain⟨u,hu⟩:=h.box
 exact h.move (fun k o _ _ ho _=>hk k o ho) (hk _ _ h.num) ⟨u,hk _ _ hu⟩ (h.bel.trans (hb.mono h.bel.size))
structure RStop(w:World)(s:List UInt8)(L:List (List UInt8×Bool))(W:World):Prop where
 r0:Boxed W w.heap.size 74 (.slice none 0 0)
 r1:Boxed W (w.heap.size+1) 35 (.int .i64 5)
 r2:Boxed W (w.heap.size+2) 3 (.int .i64 L.length)
 bel:Below w.heap.size w W
 why:∃pre x,L=pre++[x]/\(∀y,y∈pre->cN y)/\¬cN x/\L <+: Sp.segs s
theorem aB6(w:World)(s:List UInt8):OwnFrom (w.heap.size+6) (RStop w s):=by
 intro L W W' row h hg hr
 have hne:∀k o,W.heap[k]?=some o->o.isCells=true->some k≠row:=by
  intro k o hk ho e
  obtain⟨_,o',ho',hc⟩:=hr k e.symm
  rw[hk]at ho';cases ho';rw[ho]at hc;cases hc
 exact⟨h.r0.kept hg (hne _ _ h.r0 rfl),h.r1.kept hg (hne _ _ h.r1 rfl),h.r2.kept hg (hne _ _ h.r2 rfl),
  h.bel.grown hg h.bel.size (fun k e=>by have:=(hr k e).1;omega),h.why⟩
theorem rK(L:List (List UInt8×Bool)):∀n,(∀x,x∈L->cN x)->Sp.scanSegs n L=none:=by
 induction L with
 | nil=>intro n _;rfl
 | cons a r ih=>
  intro n h
  have ha:=h a (by simp)
  unfold Sp.scanSegs
  rw[ha.1,ha.2]
  exact ih (n+1) (fun x hx=>h x (by simp[hx]))
theorem aO0(L:List (List UInt8×Bool))(x:List UInt8×Bool)(r:List (List UInt8×Bool)):∀n,(∀y,y∈L->cN y)->¬cN x->Sp.scanSegs n (L++x::r)=some (n+L.length+1):=by
 induction L with
 | nil=>
  intro n _ hx
  have:(!Sp.okLine x.1||!x.2)=true:=by
   cases h1:Sp.okLine x.1<;>cases h2:x.2<;>simp
   exact hx ⟨h1,h2⟩
  simp[Sp.scanSegs,this]
 | cons a l ih=>
  intro n h hx
  have ha:=h a (by simp)
  rw[List.cons_append]
  unfold Sp.scanSegs
  rw[ha.1,ha.2]
  show Sp.scanSegs (n+1) (l++x::r)=_
  rw[ih (n+1) (fun y hy=>h y (by simp[hy])) hx]
  simp;omega
theorem Tryz.infoClause:(Tryz.prog.info? 69).map (fun i=>(i.zero,i.size,i.bytes))=some (some (.int .u32 0),1,4):=by kernel_rfl
def aP0(w W:World)(s:List UInt8)(e:Ending):Prop:=
 Below w.heap.size w W/\
  ((∃k,Sp.scanSegs 0 (Sp.segs s)=some k/\e=.returned (.tuple #[.slice none 0 0,.int .i64 5,.int .i64 k]))∨
  (Sp.scanSegs 0 (Sp.segs s)=none/\∃v,e=.returned (.tuple #[v,.int .i64 0,.int .i64 0])/\Lies W v (us ((Sp.segs s).map bI))))
theorem tO{w W w4:World}{L:List (List UInt8×Bool)}{n g' cap':Nat}{v:Value}{mk:Nat}{y:List UInt8}{f:Bool}{t:TypeId}(h:RInv w L n W)(hv:Boxed W (w.heap.size+3) 74 v)
  (hrow:W.ownsRow w.heap.size 69 1 v L.length (us (L.map bI)))
  (hown':w4.ownsRow w.heap.size 69 1 (.slice (some ⟨g',0,none⟩) (L.length+1) cap') (L.length+1) (us (L.map bI)++[.int .u32 (mk:Int)]))
  (hgrow:(W.alloc (.cells #[.int .u32 (mk:Int)] t)).grownBy w4 v.ownBlock) (hmk:bI (y,f)=mk) (hg:cN (y,f)):
  RInv w (L++[(y,f)]) n (w4.setCell ⟨w.heap.size+3,0,none⟩ (.slice (some ⟨g',0,none⟩) (L.length+1) cap'))/\
  (w4.setCell ⟨w.heap.size+3,0,none⟩ (.slice (some ⟨g',0,none⟩) (L.length+1) cap')).heap[w.heap.size+5]?=W.heap[w.heap.size+5]?:=by
 obtain⟨hv1,hv2,hr2,hk2,hb2⟩:=hv.appended (by decide) hrow h.bel.size (by omega) hown' hgrow
 obtain⟨u,hu⟩:=h.box
 have keep:∀b t' x,b≠w.heap.size+3->t'≠69->Boxed W b t' x->Boxed (w4.setCell ⟨w.heap.size+3,0,none⟩ (.slice (some ⟨g',0,none⟩) (L.length+1) cap')) b t' x:=by
  intro b t' x hne ht hx
  have h1:Boxed w4 b t' x:=(hx.alloc _).kept hgrow (hx.not_row ht hrow)
  exact(Below.heap_setCell _ _ _ _ hne).trans h1
 have hbx:=keep _ _ _ (by omega) (by decide) hu
 refine⟨⟨keep _ _ _ (by omega) (by decide) h.r0,keep _ _ _ (by omega) (by decide) h.r1,keep _ _ _ (by omega) (by decide) h.r2,⟨_,hv2,?_⟩,keep _ _ _ (by omega) (by decide) h.num,⟨u,hbx⟩,h.bel.trans hb2,?_⟩,?_⟩
 ·rw[List.length_append,List.map_append]
  have:us (L.map bI++[(y,f)].map bI)=us (L.map bI)++[.int .u32 (mk:Int)]:=by simp[us,hmk]
  rw[this]
  exact hr2
 ·intro x hx
  rcases List.mem_append.1 hx with h'|h'
  ·exact h.ok x h'
  ·simp at h';subst h';exact hg
 ·exact(show _=_ from hbx).trans (show _=_ from hu).symm
theorem nO{W X A:World}(h:KeepsOthers W X)(hA:A.heap=X.heap):KeepsOthers W A:=⟨by rw[hA];exact h.size,fun k o hk ho=>by rw[hA];exact h.same k o hk ho⟩
theorem aL9{w W A:World}{s:List UInt8}{L:List (List UInt8×Bool)}{n:Nat}{x:List UInt8×Bool}(h:RInv w L n W)(hb:¬cN x)(hG:L++[x] <+: Sp.segs s)
  (hA:A.heap=(((W.setCell ⟨w.heap.size,0,none⟩ (.slice none 0 0)).setCell ⟨w.heap.size+1,0,none⟩ (.int .i64 5)).setCell ⟨w.heap.size+1+1,0,none⟩ (.int .i64 ((L.length:Int)+1))).heap) (hbel:Below w.heap.size w A):
  RStop w s (L++[x]) A:=by
 have k0:Boxed A w.heap.size 74 (.slice none 0 0):=by
  show A.heap[_]?=_
  rw[hA]
  exact(Below.heap_setCell _ _ _ _ (by simp;try omega)).trans ((Below.heap_setCell _ _ _ _ (by simp;try omega)).trans (h.r0.set _))
 have k1:Boxed A (w.heap.size+1) 35 (.int .i64 5):=by
  show A.heap[_]?=_
  rw[hA]
  refine(Below.heap_setCell _ _ _ _ (by simp;try omega)).trans ?_
  exact Boxed.set _ (show Boxed _ _ _ _ from(Below.heap_setCell W _ _ _ (by simp;try omega)).trans h.r1)
 have k2:Boxed A (w.heap.size+2) 3 (.int .i64 ((L.length:Int)+1)):=by
  show A.heap[_]?=_
  rw[hA]
  exact Boxed.set _ (show Boxed _ _ _ _ from(Below.heap_setCell _ _ _ _ (by simp;try omega)).trans ((Below.heap_setCell W _ _ _ (by simp;try omega)).trans h.r2))
 exact⟨k0,k1,by rw[List.length_append];exact k2,hbel,L,x,rfl,h.ok,hb,hG⟩
theorem aE2{w W:World}{L:List (List UInt8×Bool)}{n D:Nat}{v:Value}(h:RInv w L n W)(hrow:W.ownsRow w.heap.size 69 1 v L.length (us (L.map bI)))(hD:w.heap.size+6<=D)
  (hK:(((W.setCell ⟨w.heap.size,0,none⟩ v).setCell ⟨w.heap.size+1,0,none⟩ (.int .i64 0)).setCell ⟨w.heap.size+1+1,0,none⟩ (.int .i64 0)).heap[D]?=some (.deferred (some []))):
  ((((W.setCell ⟨w.heap.size,0,none⟩ v).setCell ⟨w.heap.size+1,0,none⟩ (.int .i64 0)).setCell ⟨w.heap.size+1+1,0,none⟩ (.int .i64 0)).putObj D (.deferred none)).cell? ⟨w.heap.size,0,none⟩=some v/\((((W.setCell ⟨w.heap.size,0,none⟩ v).setCell ⟨w.heap.size+1,0,none⟩ (.int .i64 0)).setCell ⟨w.heap.size+1+1,0,none⟩ (.int .i64 0)).putObj D (.deferred none)).cell? ⟨w.heap.size+1,0,none⟩=some (.int .i64 0)/\((((W.setCell ⟨w.heap.size,0,none⟩ v).setCell ⟨w.heap.size+1,0,none⟩ (.int .i64 0)).setCell ⟨w.heap.size+1+1,0,none⟩ (.int .i64 0)).putObj D (.deferred none)).cell? ⟨w.heap.size+1+1,0,none⟩=some (.int .i64 0)/\Below w.heap.size w ((((W.setCell ⟨w.heap.size,0,none⟩ v).setCell ⟨w.heap.size+1,0,none⟩ (.int .i64 0)).setCell ⟨w.heap.size+1+1,0,none⟩ (.int .i64 0)).putObj D (.deferred none))/\Lies ((((W.setCell ⟨w.heap.size,0,none⟩ v).setCell ⟨w.heap.size+1,0,none⟩ (.int .i64 0)).setCell ⟨w.heap.size+1+1,0,none⟩ (.int .i64 0)).putObj D (.deferred none)) v (us (L.map bI)):=by
 have a0:Boxed (W.setCell ⟨w.heap.size,0,none⟩ v) w.heap.size 74 v:=h.r0.set v
 have a1:Boxed (W.setCell ⟨w.heap.size,0,none⟩ v) (w.heap.size+1) 35 (.int .i64 0):=(Below.heap_setCell W _ _ _ (by simp)).trans h.r1
 have a2:Boxed (W.setCell ⟨w.heap.size,0,none⟩ v) (w.heap.size+1+1) 3 (.int .i64 0):=(Below.heap_setCell W _ _ _ (by simp;omega)).trans h.r2
 have o0:=ownsRow_setCell_other hrow (a:=⟨w.heap.size,0,none⟩) (h.r0.not_row (by decide) hrow).symm v
 have p0:Below w.heap.size w (W.setCell ⟨w.heap.size,0,none⟩ v):=h.bel.setCell (p:=⟨w.heap.size,0,none⟩) (by simp) v
 generalize W.setCell ⟨w.heap.size,0,none⟩ v=W1 at *
 have b0:Boxed (W1.setCell ⟨w.heap.size+1,0,none⟩ (.int .i64 0)) w.heap.size 74 v:=(Below.heap_setCell W1 _ _ _ (by simp)).trans a0
 have b1:Boxed (W1.setCell ⟨w.heap.size+1,0,none⟩ (.int .i64 0)) (w.heap.size+1) 35 (.int .i64 0):=a1.set _
 have b2:Boxed (W1.setCell ⟨w.heap.size+1,0,none⟩ (.int .i64 0)) (w.heap.size+1+1) 3 (.int .i64 0):=(Below.heap_setCell W1 _ _ _ (by simp)).trans a2
 have o1:=ownsRow_setCell_other o0 (a:=⟨w.heap.size+1,0,none⟩) (a1.not_row (by decide) o0).symm (.int .i64 0)
 have p1:Below w.heap.size w (W1.setCell ⟨w.heap.size+1,0,none⟩ (.int .i64 0)):=p0.setCell (p:=⟨w.heap.size+1,0,none⟩) (by simp) _
 generalize W1.setCell ⟨w.heap.size+1,0,none⟩ (.int .i64 0)=W2 at *
 have c0:Boxed (W2.setCell ⟨w.heap.size+1+1,0,none⟩ (.int .i64 0)) w.heap.size 74 v:=(Below.heap_setCell W2 _ _ _ (by simp;omega)).trans b0
 have c1:Boxed (W2.setCell ⟨w.heap.size+1+1,0,none⟩ (.int .i64 0)) (w.heap.size+1) 35 (.int .i64 0):=(Below.heap_setCell W2 _ _ _ (by simp)).trans b1
 have c2:Boxed (W2.setCell ⟨w.heap.size+1+1,0,none⟩ (.int .i64 0)) (w.heap.size+1+1) 3 (.int .i64 0):=b2.set _
 have o2:=ownsRow_setCell_other o1 (a:=⟨w.heap.size+1+1,0,none⟩) (b2.not_row (by decide) o1).symm (.int .i64 0)
 have p2:Below w.heap.size w (W2.setCell ⟨w.heap.size+1+1,0,none⟩ (.int .i64 0)):=p1.setCell (p:=⟨w.heap.size+1+1,0,none⟩) (by simp;omega) _
 generalize W2.setCell ⟨w.heap.size+1+1,0,none⟩ (.int .i64 0)=W3 at *
 exact⟨(c0.kept (grownBy_putObj' W3 D _) (by simp;omega)).cell,(c1.kept (grownBy_putObj' W3 D _) (by simp;omega)).cell,(c2.kept (grownBy_putObj' W3 D _) (by simp;omega)).cell,
  p2.grown (grownBy_putObj' W3 D _) p2.size (fun k e=>by cases e;omega),aE (ownsRow_putObj o2 _ hK rfl) (by simp[us])⟩
set_option maxRecDepth 100000 in
set_option maxHeartbeats 10000000 in
theorem lC(s:List UInt8)(w:World)(hs:s.length<=6000)(he:Env w):
  Calls Tryz.prog 91 #[.string (bs s)] w fun e W=>aP0 w W s e:=by
 have hsz:=aN s
 refine(callsIn_wide (n:=6)).1 ?_
 refine callsIn_of_wp_marks Tryz.func91 rfl trivial ?_ rfl
 simp only[Tryz.ntmps91,List.size_toArray,List.length_cons,List.length_nil,Nat.reduceAdd,Nat.reduceSub,Array.replicate_succ,Array.replicate_zero,List.push_toArray,List.append_toArray,List.nil_append,List.cons_append]
 gi_wp2_with fail
 refine⟨trivial,?_⟩
 refine(callsIn_wide.2 (mM _ _)).mono ?_
 rintro e w' ⟨rfl,rfl⟩
 gi_wp2_with fail
 obtain⟨W0,hW0⟩:∃W0,((((((w.alloc (.cells #[.slice none 0 0] 74)).alloc (.cells #[.int .i64 0] 35)).alloc (.cells #[.int .i64 0] 3)).alloc (.cells #[.slice none 0 0] 74)).alloc (.cells #[.int .i64 0] 3)).alloc (.cells #[.string (bs s)] 9))=W0:=⟨_,rfl⟩
 have hz0:W0.heap.size=w.heap.size+6:=by rw[←hW0];simp
 have hbx:Boxed W0 (w.heap.size+5) 9 (.string (bs s)):=by
  have e5:=Boxed.new (((((w.alloc (.cells #[.slice none 0 0] 74)).alloc (.cells #[.int .i64 0] 35)).alloc (.cells #[.int .i64 0] 3)).alloc (.cells #[.slice none 0 0] 74)).alloc (.cells #[.int .i64 0] 3)) 9 (.string (bs s))
  simp only[World.size_alloc]at e5
  rw[←hW0];exact e5
 have hinv0:RInv w [] 0 W0:=by
  have hbx':=hbx
  rw[←hW0]at hbx'⊢
  have e0:=Boxed.new w 74 (.slice none 0 0)
  have e1:=Boxed.new (w.alloc (.cells #[.slice none 0 0] 74)) 35 (.int .i64 0)
  have e2:=Boxed.new ((w.alloc (.cells #[.slice none 0 0] 74)).alloc (.cells #[.int .i64 0] 35)) 3 (.int .i64 0)
  have e3:=Boxed.new (((w.alloc (.cells #[.slice none 0 0] 74)).alloc (.cells #[.int .i64 0] 35)).alloc (.cells #[.int .i64 0] 3)) 74 (.slice none 0 0)
  have e4:=Boxed.new ((((w.alloc (.cells #[.slice none 0 0] 74)).alloc (.cells #[.int .i64 0] 35)).alloc (.cells #[.int .i64 0] 3)).alloc (.cells #[.slice none 0 0] 74)) 3 (.int .i64 0)
  simp only[World.size_alloc]at e1 e2 e3 e4
  refine⟨((((e0.alloc _).alloc _).alloc _).alloc _).alloc _,(((e1.alloc _).alloc _).alloc _).alloc _,((e2.alloc _).alloc _).alloc _,⟨_,(e3.alloc _).alloc _,World.ownsRow_nil _ _ _ _⟩,e4.alloc _,⟨_,hbx'⟩,?_,fun x hx=>by cases hx⟩
  exact((((((Below.refl _ w).alloc (Nat.le_refl _) _).alloc (by simp) _).alloc (by simp;omega) _).alloc (by simp;omega) _).alloc (by simp;omega) _).alloc (by simp;omega) _
 rw[hW0]
 clear hW0
 refine mZ (α:=List UInt8×Bool) rfl (by omega) (gf:=137) (lb:=#[.pointer (some ⟨w.heap.size+5,0,none⟩)]) rfl trivial (enters_of Tryz.func137 (by kernel_rfl) rfl)
  (encs:=fun x=>#[.string (bs (bF x.1 x.2))]) (w.heap.size+5) (by omega) (S:=fun xs=>xs=Sp.segs s) (G:=fun pre x=>pre++[x] <+: Sp.segs s)
  (fun l J Jx W hWB hJs hJd hY h0=>(qY 5 l (w.heap.size+5) s hs J Jx hJs hJd hY W (Boxed.cell (t:=9) (hWB.trans hbx)) (Boxed.frozen (t:=9) (v:=.string (bs s)) (hWB.trans hbx)) h0).mono ?conv)
  (fun _=>rfl) (fun L=>RInv w L L.length) (RStop w s) (by rw[hz0];exact aM4 w) (by rw[hz0];exact aB6 w s) (fun _ _ v h=>aJ2 v h) (fun _ _ h=>aD1 h) hinv0
  (fun x=>{ tmps:=#[.string (bs s),undef,.pointer (some ⟨w.heap.size,0,none⟩),.pointer (some ⟨w.heap.size+1,0,none⟩),.pointer (some ⟨w.heap.size+1+1,0,none⟩),.pointer (some ⟨w.heap.size+1+1+1,0,none⟩),.pointer (some ⟨w.heap.size+1+1+1+1,0,none⟩),.string (bs (bF x.1 x.2)),undef,undef,undef,undef,
   .string (bs s),.int .i64 s.length,.bool (decide ((6000:Int)<s.length)),.string (bs s),.func (.func 137) #[] #[.pointer (some ⟨w.heap.size+5,0,none⟩)],.string (bs (bF x.1 x.2)),undef,undef,undef,undef,undef,undef,undef,undef,undef,undef,undef,undef,undef,undef,undef,undef,undef,undef,undef,undef,undef,undef,undef,undef],defers:=[] }) ?assign ?body ?done ?stop
 case conv=>
  rintro e W' ⟨hv,h|h⟩
  ·exact⟨hv,.inl ⟨_,rfl,h⟩⟩
  ·exact⟨hv,.inr h⟩
 case assign=>
  intro l x W K hK
  gi_wp2
  exact hK
 case body=>
  rintro l pre ⟨y,f⟩ W hinv hG
  have hmem:(y,f)∈Sp.segs s:=hG.subset (by simp)
  have hyl:y.length<=6000:=by have:=Sp.segsAux_len s [] (y,f) hmem;simp at this;omega
  have hyn:=Sp.segsAux_no s [] (by simp) (y,f) hmem
  have hpl:pre.length<=6001:=by
   have h1:=hG.length_le
   have h2:=Sp.segsAux_count s []
   unfold Sp.segs at h1
   simp at h1;omega
  have hlast:f=false->y.getLast?≠some 10:=fun _ h=>hyn (List.mem_of_getLast? h)
  have HG:=aq hG
  have HI:=aq hinv
  have hcn:W.cell? ⟨w.heap.size+1+1+1+1,0,none⟩=some (.int .i64 pre.length):=hinv.num.cell
  have hfn:W.frozen? ⟨w.heap.size+1+1+1+1,0,none⟩=false:=hinv.num.frozen
  have h1:RInv w pre (pre.length+1) (W.setCell ⟨w.heap.size+1+1+1+1,0,none⟩ (.int .i64 ((pre.length:Int)+1))):=aG4 (pre.length+1) hinv
  have hk1:KeepsOthers W (W.setCell ⟨w.heap.size+1+1+1+1,0,none⟩ (.int .i64 ((pre.length:Int)+1))):=KeepsOthers.setCell _ _ _
  have hB1:(W.setCell ⟨w.heap.size+1+1+1+1,0,none⟩ (.int .i64 ((pre.length:Int)+1))).heap[w.heap.size+5]?=W.heap[w.heap.size+5]?:=Below.heap_setCell _ _ _ _ (by simp)
  have hb0:Below w.heap.size w W:=hinv.bel
  clear hG hinv hmem hyn
  have HE1:=aq (he.below h1.bel)
  have H1:=aq h1
  have HK1:=aq hk1
  have HB1:=aq hB1
  clear h1 hk1 hB1
  gi_wp2_with fail
  generalize W.setCell ⟨w.heap.size+1+1+1+1,0,none⟩ (.int .i64 ((pre.length:Int)+1))=W1 at H1 HE1 HK1 HB1⊢
  refine⟨trivial,?_⟩
  refine(CallsIn.inRound l (callsIn_wide.2 (uT y f W1 hyl hlast (dz HE1)))).mono ?_
  rintro e W2 ⟨v2,rfl,hlies,hb2⟩
  have HE2:=aq ((dz HE1).below hb2)
  have HL:=aq hlies
  clear hlies
  have hwl:=Sp.words_len' y
  gi_wp2_with fail
  refine⟨trivial,?_⟩
  refine(CallsIn.inRound l (callsIn_wide.2 (fB v2 (Sp.words y) W2 (by omega) (fun x hx=>Nat.le_trans (jO y x hx) hyl) (dz HL) (dz HE2)))).mono ?_
  rintro e W3 ⟨hb3,hor⟩
  have hb13:Below W1.heap.size W1 W3:=hb2.trans (hb3.mono hb2.size)
  have h3:=yK (dz H1) hb13
  have HK3:Hid (KeepsOthers W W3):=aq ((dz HK1).trans (KeepsOthers.of_grownBy (eQ hb13) (fun _ _ h=>by cases h)))
  have HB3:Hid (W3.heap[w.heap.size+5]?=W.heap[w.heap.size+5]?):=by
   obtain⟨u,hu⟩:=(dz H1).box
   exact(hb13.block _ hu.lt).trans (dz HB1)
  have HOR:=aq hor
  clear hor hb2 hb3 hb13 HL HE1 HE2 H1 HK1 HB1
  have hc4:W3.cell? ⟨w.heap.size+1+1+1+1,0,none⟩=some (.int .i64 ((pre.length:Int)+1)):=h3.num.cell
  by_cases hgood:cN (y,f)
  ·obtain⟨hok,hft⟩:=hgood
   simp only at hok hft
   subst hft
   have hmask:((Sp.maskOf ((Sp.words y).map Sp.lit):Nat):Int)=(bI (y,true):Int):=rfl
   obtain⟨v,hv,hrow⟩:=h3.all
   have hc3:W3.cell? ⟨w.heap.size+1+1+1,0,none⟩=some v:=hv.cell
   obtain⟨i0,hi,hz0',hz1,hz2⟩:=info_parts Tryz.infoClause
   rcases dz HOR with⟨h,rfl⟩|⟨_,rfl⟩
   ·exfalso;rw[show bZ (Sp.words y)=true from hok]at h;cases h
   ·rw[hmask]
    generalize hmk:bI (y,true)=mk at *
    have HMK:=aq hmk
    clear hmk
    have H3:=aq h3
    clear h3 HOR hmask hcn hfn
    have hsz3:=(dz H3).bel.size
    gi_wp2_with (gi_at_builtin;refine wpListIn_append_own _ rfl _ _ 74 rfl w.heap.size 69 i0 (.int .u32 0) 1 4 Tryz.underlying74 hi hz0' hz1 hz2 rfl (by decide) _ _ _ rfl (hrow.alloc _) ⟨W3.heap.size,0,none⟩ 1 1 [.int .u32 (mk:Int)] rfl rfl (cell_one_new _ _ _) (by simp[Value.oneCell']) (by unfold maxLen;omega) (by omega) (by simp;omega) ?_;intro v' w4 hown' hgrow _;obtain⟨g',cap',rfl⟩:=ownsRow_succ hown';obtain⟨hv1,hv2,hr2,hk2,hb2⟩:=hv.appended (by decide) hrow hsz3 (by omega) hown' hgrow;have hc1:=hv1.cell;have hf1:=hv1.frozen)
    have hfin:=tO (dz H3) hv hrow hown' hgrow (dz HMK) ⟨hok,rfl⟩
    refine⟨((dz HK3).trans hk2).from _,?_,?_⟩
    ·exact hfin.2.trans (dz HB3)
    ·show RInv w (pre++[(y,true)]) (pre++[(y,true)]).length _
     rw[List.length_append];exact hfin.1
  ·have hb1c:W3.cell? ⟨w.heap.size,0,none⟩=some (.slice none 0 0):=h3.r0.cell
   have hb1f:W3.frozen? ⟨w.heap.size,0,none⟩=false:=h3.r0.frozen
   have hb2c:W3.cell? ⟨w.heap.size+1,0,none⟩=some (.int .i64 0):=h3.r1.cell
   have hb2f:W3.frozen? ⟨w.heap.size+1,0,none⟩=false:=h3.r1.frozen
   have hb3c:W3.cell? ⟨w.heap.size+1+1,0,none⟩=some (.int .i64 0):=h3.r2.cell
   have hb3f:W3.frozen? ⟨w.heap.size+1+1,0,none⟩=false:=h3.r2.frozen
   have H3:=aq h3
   have HBad:=aq hgood
   clear h3 hgood hcn hfn
   have hcase:(∃m:Int,∃o:Bool,e=.returned (.tuple #[.int .u32 m,.bool o])/\(f=false∨o=false)):=by
    rcases dz HOR with⟨h,he'⟩|⟨h,he'⟩
    ·exact⟨_,_,he',.inr rfl⟩
    ·refine⟨_,_,he',.inl ?_⟩
     cases hf:f
     ·rfl
     ·exact absurd ⟨h,hf⟩ (dz HBad)
   obtain⟨m,o,rfl,hfo⟩:=hcase
   clear HOR
   have HBF:Hid (Below w.heap.size w (((W3.setCell ⟨w.heap.size,0,none⟩ (.slice none 0 0)).setCell ⟨w.heap.size+1,0,none⟩ (.int .i64 5)).setCell ⟨w.heap.size+1+1,0,none⟩ (.int .i64 ((pre.length:Int)+1))).drew):=aq (((((dz H3).bel.setCell (p:=⟨w.heap.size,0,none⟩) (by simp) _).setCell (p:=⟨w.heap.size+1,0,none⟩) (by simp) _).setCell (p:=⟨w.heap.size+1+1,0,none⟩) (by simp;omega) _).drew)
   have HKF:Hid (KeepsOthers W (((W3.setCell ⟨w.heap.size,0,none⟩ (.slice none 0 0)).setCell ⟨w.heap.size+1,0,none⟩ (.int .i64 5)).setCell ⟨w.heap.size+1+1,0,none⟩ (.int .i64 ((pre.length:Int)+1))).drew):=aq (nO ((((dz HK3).trans (KeepsOthers.setCell _ _ _)).trans (KeepsOthers.setCell _ _ _)).trans (KeepsOthers.setCell _ _ _)) rfl)
   have HFIN:=aq (aL9 (A:=(((W3.setCell ⟨w.heap.size,0,none⟩ (.slice none 0 0)).setCell ⟨w.heap.size+1,0,none⟩ (.int .i64 5)).setCell ⟨w.heap.size+1+1,0,none⟩ (.int .i64 ((pre.length:Int)+1))).drew) (dz H3) (dz HBad) (dz HG) rfl (dz HBF))
   cases f
   ·gi_wp2
    gi_region
    all_goals gi_wp2
    all_goals exact⟨(dz HKF).from _,rfl,dz HFIN⟩
   ·have ho:o=false:=by
     rcases hfo with h|h
     ·cases h
     ·exact h
    subst ho
    gi_wp2
    gi_region
    all_goals gi_wp2
    all_goals exact⟨(dz HKF).from _,rfl,dz HFIN⟩
 case done=>
  rintro D ys W hD rfl hinv hK
  obtain⟨v,hv,hrow⟩:=hinv.all
  have hc3:W.cell? ⟨w.heap.size+1+1+1,0,none⟩=some v:=hv.cell
  have hb1c:W.cell? ⟨w.heap.size,0,none⟩=some (.slice none 0 0):=hinv.r0.cell
  have hb1f:W.frozen? ⟨w.heap.size,0,none⟩=false:=hinv.r0.frozen
  have hb2c:W.cell? ⟨w.heap.size+1,0,none⟩=some (.int .i64 0):=hinv.r1.cell
  have hb2f:W.frozen? ⟨w.heap.size+1,0,none⟩=false:=hinv.r1.frozen
  have hb3c:W.cell? ⟨w.heap.size+1+1,0,none⟩=some (.int .i64 0):=hinv.r2.cell
  have hb3f:W.frozen? ⟨w.heap.size+1+1,0,none⟩=false:=hinv.r2.frozen
  obtain⟨ao,cp,hsh⟩:=aC hrow
  subst hsh
  have HI:=aq hinv
  have HR:=aq hrow
  clear hinv hrow
  have hK2:(((W.setCell ⟨w.heap.size,0,none⟩ (.slice ao (Sp.segs s).length cp)).setCell ⟨w.heap.size+1,0,none⟩ (.int .i64 0)).setCell ⟨w.heap.size+1+1,0,none⟩ (.int .i64 0)).heap[D]?=some (.deferred (some [])):=
   (Below.heap_setCell _ _ _ _ (by simp;omega)).trans ((Below.heap_setCell _ _ _ _ (by simp;omega)).trans ((Below.heap_setCell _ _ _ _ (by simp;omega)).trans hK))
  have HK2:=aq hK2
  clear hK2
  gi_wp2
  refine⟨by simp,.inl ⟨_,_,rfl,run_takeDeferred (dz HK2),?_⟩⟩
  obtain⟨k0,k1,k2,hbe,hli⟩:=aE2 (D:=D) (dz HI) (dz HR) (by omega) (dz HK2)
  refine⟨.tuple #[.slice ao (Sp.segs s).length cp,.int .i64 0,.int .i64 0],by simp[results,Tryz.results91,go_sem,k0,k1,k2],?_⟩
  exact⟨hbe,.inr ⟨rK _ 0 (dz HI).ok,_,rfl,hli⟩⟩
 case stop=>
  rintro D pre W hD hst hK
  have hb1c:W.cell? ⟨w.heap.size,0,none⟩=some (.slice none 0 0):=hst.r0.cell
  have hb2c:W.cell? ⟨w.heap.size+1,0,none⟩=some (.int .i64 5):=hst.r1.cell
  have hb3c:W.cell? ⟨w.heap.size+1+1,0,none⟩=some (.int .i64 pre.length):=hst.r2.cell
  have HI:=aq hst
  clear hst
  gi_wp2
  refine⟨by simp,.inl ⟨_,_,rfl,run_takeDeferred hK,?_⟩⟩
  have hI:=dz HI
  have k0:=(hI.r0.kept (grownBy_putObj' W D (.deferred none)) (by simp;omega)).cell
  have k1:=(hI.r1.kept (grownBy_putObj' W D (.deferred none)) (by simp;omega)).cell
  have k2:(W.putObj D (.deferred none)).cell? ⟨w.heap.size+1+1,0,none⟩=some (.int .i64 pre.length):=(hI.r2.kept (grownBy_putObj' W D (.deferred none)) (by simp;omega)).cell
  refine⟨.tuple #[.slice none 0 0,.int .i64 5,.int .i64 pre.length],by simp[results,Tryz.results91,go_sem,k0,k1,k2],?_⟩
  obtain⟨p',x,rfl,hp,hx,t,ht⟩:=hI.why
  refine⟨hI.bel.grown (grownBy_putObj' W D _) hI.bel.size (fun k e=>by cases e;omega),.inl ⟨(p'++[x]).length,?_,rfl⟩⟩
  rw[←ht,List.append_assoc,List.singleton_append,aO0 p' x t 0 hp hx]
  simp
set_option maxRecDepth 100000 in
set_option maxHeartbeats 10000000 in
theorem qT(s:List UInt8)(w:World)(hs:6000<s.length)(hs2:s.length<=9223372036854775807):
  Calls Tryz.prog 91 #[.string (bs s)] w fun e W=>Below w.heap.size w W/\e=.returned (.tuple #[.slice none 0 0,.int .i64 4,.int .i64 0]):=by
 have hsz:=aN s
 go_enter Tryz.func91,Tryz.ntmps91
 go_wp2
 refine bodyPost_ret (v:=.tuple #[.slice none 0 0,.int .i64 4,.int .i64 0]) (by simp[results,Tryz.results91,go_sem]) rfl ⟨?_,rfl⟩
 exact((((Below.refl _ w).alloc (Nat.le_refl _) _).alloc (by simp) _).alloc (by simp;omega) _)
end Go.Proofs.YtekkkoipcghlmaaGreatDoor
namespace Go.Proofs.YtekkkoipcghlmaaGreatDoor
open Go.RowKit
def eD(cs:List (List Int)):List UInt8:=cs.flatMap Sp.told
theorem rS(cs:List (List Int))(c:List Int):eD (cs++[c])=eD cs++Sp.told c:=by
 unfold eD;rw[List.flatMap_append];simp
theorem tM(l:List Int):(Sp.told l).length<=4*l.length+1:=by
 have:=dA l;simp[Sp.told];omega
theorem pC(l:List Int):(Sp.sorted l).length<=24:=Sp.sortedTo_len l 12
theorem vC(L:List (List UInt8)):(eD (L.map Sp.clauseOf)).length<=97*L.length:=by
 induction L with
 | nil=>simp[eD]
 | cons a r ih=>
  have h1:=tM (Sp.clauseOf a)
  have h2:=pC ((Sp.words a).map Sp.lit)
  have h3:(Sp.clauseOf a).length<=24:=h2
  simp only[eD,List.map_cons,List.flatMap_cons,List.length_append,List.length_cons]at ih⊢
  omega
def bN(s:List UInt8):List UInt8×Int×Int:=
 if 6000<s.length then([],4,0)else
 match Sp.scan (Sp.ended s) 0 (Sp.lines s)with
 | some n=>([],5,n)
 | none=>(eD ((Sp.lines s).map Sp.clauseOf),0,0)
set_option maxRecDepth 100000 in
set_option maxHeartbeats 800000 in
theorem kU(s:List UInt8)(w:World)(hs2:s.length<=9223372036854775807):
  Calls Tryz.prog 96 #[.string (bs s)] w fun e w'=>e=.returned (.tuple #[.string (bs (bN s).1),.int .i64 (bN s).2.1,.int .i64 (bN s).2.2])/\Below w.heap.size w w':=by
 by_cases hs:6000<s.length
 ·have HP:=aq (nL s w hs hs2)
  have HO:Hid (bN s=([],4,0)):=aq (by unfold bN;rw[if_pos hs])
  go_enter Tryz.func96,Tryz.ntmps96
  go_wp2_with fail
  refine(dz HP).mono ?_
  rintro e w1 ⟨rfl,rfl⟩
  go_wp2
  refine wp_loop_rounds 1 ?_
  rw[rounds_succ]
  go_wp2
  go_ret3
  exact⟨by rw[dz HO];rfl,Below.refl _ _⟩
 ·have HP:=aq (rL s w (by omega))
  have hLl:=Sp.lines_len s []
  have HE0:Hid (Sp.linesAux [] s=Sp.lines s):=rfl
  rw[dz HE0]at hLl
  go_enter Tryz.func96,Tryz.ntmps96
  go_wp2_with fail
  refine(dz HP).mono ?_
  rintro e w1 ⟨v,hb1,⟨n,hn,rfl⟩|⟨hn,rfl,vs,hown,hrows⟩⟩
  ·have HO:Hid (bN s=([],5,(n:Int))):=aq (by unfold bN;rw[if_neg hs,hn])
   clear hn
   go_wp2
   refine wp_loop_rounds 1 ?_
   rw[rounds_succ]
   go_wp2
   go_ret3
   exact⟨by rw[dz HO];rfl,hb1⟩
  ·have HO:Hid (bN s=(eD ((Sp.lines s).map Sp.clauseOf),0,0)):=aq (by unfold bN;rw[if_neg hs,hn])
   have hvl:vs.length=(Sp.lines s).length:=by rw[hrows.1];simp
   have hlies:Lies w1 v vs:=aE hown hvl
   clear hn hown HE0
   have HR:=aq hrows
   clear hrows
   generalize Sp.lines s=L at *
   rcases hlies with⟨h0,ao,cap,rfl⟩|⟨b,off,cap,hp,rfl,hb,hc⟩
   ·have HX:Hid (L=[]):=aq (by rw[h0]at hvl;exact List.length_eq_zero_iff.1 hvl.symm)
    clear h0 hvl
    go_wp2
    refine wp_loop_rounds 1 ?_
    rw[rounds_succ]
    go_wp2
    go_ret3
    exact⟨by rw[dz HO,dz HX];rfl,hb1⟩
   ·rw[hvl]at hp⊢
    have HVL:=aq hvl
    clear hvl
    go_wp2
    go_loopw [8,9] (fun o i wr=>∃(k:Nat),k<=L.length/\i=.int .i64 k/\o=.string (bs (eD ((L.take k).map Sp.clauseOf)))/\Below w1.heap.size w1 wr) (fun _ i _=>L.length-(intOf i).toNat)
    case atStart=>exact⟨0,Nat.zero_le _,rfl,rfl,Below.refl _ _⟩
    case round=>
     obtain⟨k,hk,rfl,rfl,hbel⟩:=hrel
     have hpl:=vC (L.take k)
     have hpl2:(L.take k).length<=k:=List.length_take_le _ _
     by_cases hlt:k<L.length
     ·have hkv:k<vs.length:=by rw[dz HVL];exact hlt
      have hcell:wr.cell? ⟨b,off+k,none⟩=some vs[k]:=(hbel.cell (p:=⟨b,off+k,none⟩) hb).trans (hc k vs[k] (List.getElem?_eq_getElem hkv))
      have hrow:=(dz HR).2 k vs[k] (Sp.clauseOf L[k]) (List.getElem?_eq_getElem hkv) (by simp[hlt])
      have HT:Hid ((L.take (k+1)).map Sp.clauseOf=(L.take k).map Sp.clauseOf++[Sp.clauseOf L[k]]):=aq (by rw[List.take_succ_eq_append_getElem hlt,List.map_append];rfl)
      have hln:(Sp.clauseOf L[k]).length<=24:=pC _
      have HBD:=aq (Sp.sortedTo_bd ((Sp.words L[k]).map Sp.lit) 12)
      have HLI:=aq ((aE hrow (by simp[ints])).below hbel)
      obtain⟨ao3,c3,hsh⟩:=aC hrow
      clear hrow hc
      have htl:=tM (Sp.clauseOf L[k])
      have hbd:∀x,x∈Sp.clauseOf L[k]->x≠0/\-12<=x/\x<=12:=fun x hx=>by have:=dz HBD x hx;omega
      have HBD2:=aq hbd
      clear hbd HBD
      generalize Sp.clauseOf L[k]=c at *
      rw[hsh]at hcell HLI
      generalize vs[k]=vk at *
      subst hsh
      generalize hac:eD ((L.take k).map Sp.clauseOf)=acc at *
      have HAC:=aq hac.symm
      clear hac
      have hadd:=fun wx=>dK (P:=Tryz.prog) acc (Sp.told c) (by omega) wx
      go_wp2_with fail
      refine(pD _ c wr (by omega) (dz HBD2) (dz HLI)).mono ?_
      rintro e w2 ⟨rfl,hb2⟩
      go_wp2
      go_roundw
      case rel=>exact⟨k+1,by omega,by go_num,by rw[dz HT,rS,←dz HAC],hbel.trans (hb2.mono hbel.size)⟩
      case measure=>simp[intOf];omega
     ·have HT:Hid (L.take k=L):=aq (List.take_of_length_le (by omega))
      go_wp2
      go_ret3
      exact⟨by rw[dz HO,dz HT];rfl,hb1.trans (hbel.mono hb1.size)⟩
end Go.Proofs.YtekkkoipcghlmaaGreatDoor
