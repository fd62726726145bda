import Derived.RangeFuncNested
import Derived.RangeFuncWrites
import Derived.Test.YtekkkoipcghlmaaGreatDoorU37
import Derived.Test.YtekkkoipcghlmaaGreatDoorU36
import Derived.RangeFuncBound
import Derived.RangeFuncCalls
import Derived.RangeFuncLeaves
import Derived.Shelf.Abstract
import Derived.Shelf.RegionOpen
import Derived.OwnWalkIn
import Derived.TacticsInMore
import Derived.LoopNIn
import Derived.LoopIn
import Derived.RangeFuncBox
import Derived.Test.YtekkkoipcghlmaaGreatDoorU30
set_option linter.all false
namespace Go.Proofs.YtekkkoipcghlmaaGreatDoor
open Go.RowKit
variable {F:Fence}{n:Nat}{P:Program}
theorem mZ{α:Type}{g:Operand}{ps:Array Tmp}{assign body:Code}{Q:Exit->Act->World->Prop}{a:Act}{w:World}
  (hro:F.round=none) (h1:1<=n) {gf:Nat} {lb:Array Value} (hg:a.eval g=.func (.func gf) #[] lb) (hFg:F.fn gf) (eg:∀args w,(callFunc gf args).run P w=.ok (.enter gf args) w)
  {encs:α->Array Value} (Bs:Nat) (hBs:Bs<w.heap.size) {S:List α->Prop} {G:List α->α->Prop}
  (hseq:∀(l:Nat) (J Jx:List α->World->Prop) (W:World),W.heap[Bs]?=w.heap[Bs]?->(∀s A v,J s A->J s (A.setCell ⟨Bs,0,none⟩ v))->(∀s A,J s A->J s A.drew)->
   (∀pre x W1,J pre W1->G pre x->YieldAt F (n-1-1) P l (encs x) W1 fun e W'=>
    (e=.returned (.bool true)/\J (pre++[x]) W'/\W'.heap[Bs]?=W1.heap[Bs]?)∨(e=.returned (.bool false)/\Jx (pre++[x]) W'))->
   J [] W->
   CallsIn F (n-1) P gf (#[.func (.yield l) #[] #[]]++lb) W fun e W'=>(∃v,e=.returned v)/\((∃xs,S xs/\J xs W')∨(∃pre,Jx pre W')))
  (hps:∀x,(encs x).size=ps.size)
  (I:List α->World->Prop) (Ix:List α->World->Prop) (hI:OwnFrom w.heap.size I) (hIx:OwnFrom w.heap.size Ix)
  (hIs:∀s A v,I s A->I s (A.setCell ⟨Bs,0,none⟩ v)) (hId:∀s A,I s A->I s A.drew) (h0:I [] w) (a₁:α->Act)
  (hassign:∀(l:Nat) (x:α) (W:World) (K:Act->World->Prop),K (a₁ x) W->
   assign.wpIn (F.inRound l) (n-1-1) P (Exit.then K (fun _ _ _=>False)) { tmps:=(ps.zip (encs x)).foldl (fun t (p,v)=>t.setIfInBounds p v) a.tmps,defers:=[] } W)
  (hbody:∀(l:Nat) (pre:List α) (x:α) (W:World),I pre W->G pre x->
   body.wpIn (F.inRound l) (n-1-1) P (ownPostG w.heap.size (fun A B=>B.heap[Bs]?=A.heap[Bs]?) I (fun c xs W'=>c=.ret/\Ix xs W') (pre++[x]) W) (a₁ x) W)
  (hdone:∀(D:Nat) (xs:List α) (W:World),w.heap.size<=D->S xs->I xs W->W.heap[D]?=some (.deferred (some []))->Q .normal { a with defers:={ target:=.collected D,args:=#[] }::a.defers } W)
  (hstop:∀(D:Nat) (pre:List α) (W:World),w.heap.size<=D->Ix pre W->W.heap[D]?=some (.deferred (some []))->Code.ret.wpIn F n P Q { a with defers:={ target:=.collected D,args:=#[] }::a.defers } W):
  (Code.rangeFunc g ps assign body).wpIn F n P Q a w:=by
 refine wpIn_rangeFunc fun fn hfn=>?_
 rw[hro]
 obtain⟨R,hR⟩:∃R:LoopState->Option Code->Loop,R=fun st pe=>{ state:=st,pending:=pe,fn,tmps:=a.tmps,params:=ps,assign,body,defers:=w.heap.size }:=⟨_,rfl⟩
 obtain⟨V,hV⟩:∃V,(w.alloc (.deferred (some []))).alloc (.loop (R .ready none))=V:=⟨_,rfl⟩
 have vL:V.heap[w.heap.size+1]?=some (.loop (R .ready none)):=by
  rw[←hV];have:=World.alloc_heap_new (w.alloc (.deferred (some []))) (.loop (R .ready none));rwa [World.size_alloc]at this
 have vD:V.heap[w.heap.size]?=some (.deferred (some [])):=by
  rw[←hV];exact(Below.heap_alloc _ _ _ (by simp)).trans (World.alloc_heap_new w _)
 have vB:V.heap[Bs]?=w.heap[Bs]?:=by
  rw[←hV];exact(Below.heap_alloc _ _ _ (by simp;omega)).trans (Below.heap_alloc _ _ _ hBs)
 have vI:I [] V:=by rw[←hV];exact hI.alloc _ (hI.alloc _ h0)
 refine⟨w.heap.size+1,[{ target:=.collected w.heap.size,args:=#[] }],V,{ target:=.fn (.func gf) lb,args:=#[.func (.yield (w.heap.size+1)) #[] #[]] },V,gf,
  #[.func (.yield (w.heap.size+1)) #[] #[]]++lb,V,?_,?_,?_,?_,fun _=>h1,?_⟩
 ·rw[←hV,hR];exact run_enterLoop_outer _ _ _ _ _
 ·simp only[resolve,hg]
  simp[go_sem]
 ·intro f' hf';simp[Target.leads]at hf';subst hf';exact hFg
 ·simp[invoke,go_sem,eg]
 ·refine(hseq (w.heap.size+1)
   (fun pre W=>I pre W/\W.heap[w.heap.size+1]?=some (.loop (R .ready none))/\W.heap[w.heap.size]?=some (.deferred (some [])))
   (fun pre W=>Ix pre W/\W.heap[w.heap.size+1]?=some (.loop (R .done (some .ret)))/\W.heap[w.heap.size]?=some (.deferred (some [])))
   V vB
   (fun s A v hs=>⟨hIs s A v hs.1,(Below.heap_setCell A _ _ _ (by simp;omega)).trans hs.2.1,(Below.heap_setCell A _ _ _ (by simp;omega)).trans hs.2.2⟩)
   (fun s A hs=>⟨hId s A hs.1,hs.2.1,hs.2.2⟩)
   ?_ ⟨vI,vL,vD⟩).mono ?_
  ·rintro pre x W ⟨hi,hl,hk⟩ hgx
   have hlt:w.heap.size+1<W.heap.size:=(Array.getElem?_eq_some_iff.1 hl).1
   have hy:=run_yield (P:=P) (args:=encs x) hl (by rw[hR];exact hps x)
   rw[hR]at hy
   refine⟨fn,_,assign,body,hy,roundIn_of_wpIn hfn (hassign _ x W _ ⟨_,run_beginRound hl (by rw[hR]),?_⟩)⟩
   obtain⟨X,hX⟩:∃X,W.putObj (w.heap.size+1) (.loop { R .ready none with state:=.busy })=X:=⟨_,rfl⟩
   have xL:X.heap[w.heap.size+1]?=some (.loop { R .ready none with state:=.busy }):=by rw[←hX];exact World.putObj_heap_same hlt
   have xD:X.heap[w.heap.size]?=some (.deferred (some [])):=by rw[←hX];exact(World.putObj_heap_other (by omega)).trans hk
   have xB:X.heap[Bs]?=W.heap[Bs]?:=by rw[←hX];exact World.putObj_heap_other (by omega)
   have xI:I pre X:=by rw[←hX];exact hI.putObj _ hi (by omega) hl rfl
   rw[hX]
   refine wpIn_mono (hbody _ pre x X xI hgx) ?_
   have fin:∀(jump:Option Code) (Y:World),KeepsFrom w.heap.size X Y->
     (Instr.endRound (w.heap.size+1) jump).run P Y=.ok (.bool jump.isNone) (Y.putObj (w.heap.size+1) (.loop (R (if jump.isNone then .ready else .done) jump)))/\
     Y.heap[w.heap.size+1]?=some (.loop { R .ready none with state:=.busy })/\
     (Y.putObj (w.heap.size+1) (.loop (R (if jump.isNone then .ready else .done) jump))).heap[w.heap.size+1]?=some (.loop (R (if jump.isNone then .ready else .done) jump))/\
     (Y.putObj (w.heap.size+1) (.loop (R (if jump.isNone then .ready else .done) jump))).heap[w.heap.size]?=some (.deferred (some [])):=fun jump Y hkY=>by
    have yL:=hkY.same _ _ (by omega) xL rfl
    have:=run_endRound (P:=P) jump yL
    rw[hR]at this⊢
    exact⟨this,by rw[hR]at yL;exact yL,World.putObj_heap_same (Array.getElem?_eq_some_iff.1 yL).1,(World.putObj_heap_other (by omega)).trans (hkY.same _ _ (Nat.le_refl _) xD rfl)⟩
   rintro e a3 Y hp
   cases e with
   | normal=>
    obtain⟨k3,b3,i3⟩:=hp
    obtain⟨hr,l3,l4,k4⟩:=fin none Y k3
    exact⟨_,_,hr,.inl ⟨rfl,⟨hI.putObj _ i3 (by omega) l3 rfl,l4,k4⟩,((World.putObj_heap_other (by omega)).trans b3).trans xB⟩⟩
   | ret=>
    obtain⟨k3,_,i3⟩:=hp
    obtain⟨hr,l3,l4,k4⟩:=fin (some .ret) Y k3
    exact⟨_,_,hr,.inr ⟨rfl,hIx.putObj _ i3 (by omega) l3 rfl,l4,k4⟩⟩
   | exit id=>obtain⟨_,hc,_⟩:=hp;cases hc
   | goto t=>obtain⟨_,hc,_⟩:=hp;cases hc
   | panic ch=>exact hp.elim
   | outgrown=>exact hp.elim
  ·rintro e Y ⟨⟨v,rfl⟩,(⟨xs,hS,hi,hl,hk⟩|⟨pre,hi,hl,hk⟩)⟩
   ·exact⟨none,_,by have:=run_endLoop (P:=P) hl (by rw[hR];simp);rw[hR]at this;exact this,hdone _ xs _ (Nat.le_refl _) hS (hI.putObj _ hi (by omega) hl rfl) ((World.putObj_heap_other (by omega)).trans hk)⟩
   ·exact⟨some .ret,_,by have:=run_endLoop (P:=P) hl (by rw[hR];simp);rw[hR]at this;exact this,hstop _ pre _ (Nat.le_refl _) (hIx.putObj _ hi (by omega) hl rfl) ((World.putObj_heap_other (by omega)).trans hk)⟩
end Go.Proofs.YtekkkoipcghlmaaGreatDoor
namespace Go.Proofs.YtekkkoipcghlmaaGreatDoor
open Go.RowKit Go.Shelf
attribute [local go_sem] Oper.semAt_some
def xJ(w:World)(B:Nat):Nat:=
 match w.cell? ⟨B,0,none⟩with
 | some (.string b)=>b.size
 | _=>0
theorem jR{w:World}{B:Nat}{b:ByteArray}(h:w.cell? ⟨B,0,none⟩=some (.string b)):xJ w B=b.size:=by
 unfold xJ;rw[h]
theorem mT{P:Program}(t:TypeId)(hu:P.underlying t=some .string)(l:List UInt8)(j:Int)(b:Nat)(hj:j=b)(h2:b<=l.length)(wx:World):
  (Instr.slice t (.string (bs l)) none (some (.int .i64 j)) none).run P wx=.ok (.string (bs (l.take b))) wx:=by
 subst hj
 rw[run_slice_string_to_if wx t (bs l) .i64 b hu,if_pos (by rw[aN];omega)]
 simp only[Int.toNat_natCast,fP]
 simp
set_option maxRecDepth 100000 in
set_option maxHeartbeats 10000000 in
theorem qY(n l Bs:Nat)(s:List UInt8)(hs:s.length<=6000)(J Jx:List (List UInt8×Bool)->World->Prop)
  (hJs:∀p A v,J p A->J p (A.setCell ⟨Bs,0,none⟩ v)) (hJd:∀p A,J p A->J p A.drew)
  (hY:∀pre x W,J pre W->pre++[x] <+: Sp.segs s->YieldAt Fence.wide (n-1) Tryz.prog l #[.string (bs (bF x.1 x.2))] W fun e W'=>
   (e=.returned (.bool true)/\J (pre++[x]) W'/\W'.heap[Bs]?=W.heap[Bs]?)∨(e=.returned (.bool false)/\Jx (pre++[x]) W'))
  (W:World) (hc:W.cell? ⟨Bs,0,none⟩=some (.string (bs s))) (hf:W.frozen? ⟨Bs,0,none⟩=false) (h0:J [] W):
  CallsIn Fence.wide n Tryz.prog 137 #[.func (.yield l) #[] #[],.pointer (some ⟨Bs,0,none⟩)] W fun e W'=>(∃v,e=.returned v)/\
   (J (Sp.segs s) W'∨(∃pre,Jx pre W')):=by
 refine callsIn_of_wp Tryz.func137 rfl trivial ?_ rfl
 simp only[Tryz.ntmps137,List.size_toArray,List.length_cons,List.length_nil,Nat.reduceAdd,Nat.reduceSub,Array.replicate_succ,Array.replicate_zero,List.push_toArray,List.append_toArray,List.nil_append,List.cons_append]
 gi_wp2
 gi_loopw [3] (fun _ wr=>∃(pre:List (List UInt8×Bool)) (rest:List UInt8),Hid (pre++Sp.segs rest=Sp.segs s)/\rest.length<=s.length/\wr.cell? ⟨Bs,0,none⟩=some (.string (bs rest))/\wr.frozen? ⟨Bs,0,none⟩=false/\Hid (J pre wr))
  (fun _ wr=>xJ wr Bs)
 case atStart=>
  exact⟨[],s,rfl,Nat.le_refl _,hc,hf,h0⟩
 case round=>
  obtain⟨pre,rest,HX,hrl,hcell,hfr,HJ⟩:=hrel
  have hsz:=aN rest
  by_cases hne:rest=[]
  ·have hz:¬(0:Int)<(rest.length:Int):=by rw[hne];simp
   have HN:=aq hne
   clear hne
   gi_wp2
   go_end0
   refine⟨⟨_,rfl⟩,.inl ?_⟩
   have hx:=dz HX
   rw[dz HN]at hx
   rw[←hx]
   simpa [Sp.segs,Sp.segsAux] using dz HJ
  ·have hz:(0:Int)<(rest.length:Int):=by have:=List.length_pos_iff.2 hne;omega
   have HIB:=aq (Tryz.strings_IndexByte (bs rest) 10 wr)
   rw[jV]at HIB
   rcases Sp.segs_index rest with⟨hi,hseg⟩|⟨i,hi,hil,htk,hseg⟩
   ·rw[show(10:Int).toNat.toUInt8=10 from rfl,hi]at HIB
    have HSEG:=aq (hseg [] (by simpa using hne))
    have HNE:=aq hne
    clear hi hseg hne
    have hJ2:=aq (hJs _ _ (.string ⟨#[]⟩) (dz HJ))
    have hY1:=hY pre (rest,false) _ (dz hJ2) (by rw[←dz HX];show _ <+: pre++Sp.segsAux [] rest;rw[dz HSEG];exact⟨[],by simp⟩)
    obtain⟨fn,tmps,assign,body,hy,hR⟩:=hY1
    have HR:=aq hR
    clear hR hJ2
    simp only[bF,Bool.false_eq_true,if_false]at hy
    gi_wp2_with fail
    refine⟨trivial,fun h=>(by cases h),?_⟩
    refine(callsIn_wide.2 (dz HIB)).mono ?_
    rintro e w' ⟨rfl,rfl⟩
    gi_wp2
    refine⟨fun h=>(by cases h),?_⟩
    refine(dz HR).mono ?_
    rintro e W3 (⟨rfl,hJ3,hk3⟩|⟨rfl,hJx3⟩)
    ·have hc1:(w'.setCell ⟨Bs,0,none⟩ (.string ⟨#[]⟩)).cell? ⟨Bs,0,none⟩=some (.string (bs [])):=World.cell?_setCell_same' _ _ _ (by rw[hcell];rfl)
     have hc3:W3.cell? ⟨Bs,0,none⟩=some (.string (bs [])):=(World.cell?_of_block (a:=⟨Bs,0,none⟩) hk3).trans hc1
     have hf3:W3.frozen? ⟨Bs,0,none⟩=false:=(World.frozen?_of_block (a:=⟨Bs,0,none⟩) hk3).trans ((World.frozen?_setCell _ _ _ _).trans hfr)
     have HJ3:=aq hJ3
     clear hJ3 hk3 hc1
     gi_wp2
     go_roundw
     case rel=>exact⟨pre++[(rest,false)],[],aq (by rw[←dz HX];show _=pre++Sp.segsAux [] rest;rw[dz HSEG];simp[Sp.segs,Sp.segsAux]),by simp,hc3,hf3,HJ3⟩
     case measure=>rw[jR hc3,jR hcell,aN,aN];simp;omega
    ·have HJ3:=aq hJx3
     clear hJx3
     gi_wp2
     refine bodyPost_ret (results_none rfl _ _ _) rfl ?_
     exact⟨⟨_,rfl⟩,.inr ⟨_,dz HJ3⟩⟩
   ·rw[show(10:Int).toNat.toUInt8=10 from rfl,hi]at HIB
    have HSEG:=aq (hseg [])
    clear hi hseg hne
    have hsl1:=fun wx=>mT (P:=Tryz.prog) 9 Tryz.underlying9 rest ((i:Int)+1) (i+1) (by omega) (by omega) wx
    have hsl2:=fun wx=>dG (P:=Tryz.prog) 9 Tryz.underlying9 rest ((i:Int)+1) (i+1) (by omega) (by omega) wx
    rw[htk]at hsl1
    have hJ2:=aq (hJd _ _ (hJs _ _ (.string (bs (rest.drop (i+1)))) (dz HJ)))
    have hY1:=hY pre (rest.take i,true) _ (dz hJ2) (by rw[←dz HX];show _ <+: pre++Sp.segsAux [] rest;rw[dz HSEG];exact⟨Sp.segsAux [] (rest.drop (i+1)),by simp⟩)
    obtain⟨fn,tmps,assign,body,hy,hR⟩:=hY1
    have HR:=aq hR
    clear hR hJ2
    simp only[bF,if_true]at hy
    gi_wp2_with fail
    refine⟨trivial,fun h=>(by cases h),?_⟩
    refine(callsIn_wide.2 (dz HIB)).mono ?_
    rintro e w' ⟨rfl,rfl⟩
    gi_wp2
    gi_region
    gi_wp2
    refine⟨fun h=>(by cases h),?_⟩
    refine(dz HR).mono ?_
    rintro e W3 (⟨rfl,hJ3,hk3⟩|⟨rfl,hJx3⟩)
    ·have hc1:(w'.setCell ⟨Bs,0,none⟩ (.string (bs (rest.drop (i+1))))).cell? ⟨Bs,0,none⟩=some (.string (bs (rest.drop (i+1)))):=World.cell?_setCell_same' _ _ _ (by rw[hcell];rfl)
     have hc3:W3.cell? ⟨Bs,0,none⟩=some (.string (bs (rest.drop (i+1)))):=(World.cell?_of_block (a:=⟨Bs,0,none⟩) hk3).trans hc1
     have hf3:W3.frozen? ⟨Bs,0,none⟩=false:=(World.frozen?_of_block (a:=⟨Bs,0,none⟩) hk3).trans ((World.frozen?_setCell _ _ _ _).trans hfr)
     have HJ3:=aq hJ3
     clear hJ3 hk3 hc1
     gi_wp2
     go_roundw
     case rel=>exact⟨pre++[(rest.take i,true)],(rest.drop (i+1)),aq (by rw[←dz HX];show _=pre++Sp.segsAux [] rest;rw[dz HSEG];simp[Sp.segs]),by simp;omega,hc3,hf3,HJ3⟩
     case measure=>rw[jR hc3,jR hcell,aN,aN];simp;omega
    ·have HJ3:=aq hJx3
     clear hJx3
     gi_wp2
     refine bodyPost_ret (results_none rfl _ _ _) rfl ?_
     exact⟨⟨_,rfl⟩,.inr ⟨_,dz HJ3⟩⟩
end Go.Proofs.YtekkkoipcghlmaaGreatDoor
namespace Go.Proofs.YtekkkoipcghlmaaGreatDoor
open Go.RowKit
theorem Tryz.laysWS:Lays.n166 Tryz.prog Tryz.lays156_ren:={
 mixed:=Tryz.lays156.mixed
 f166:=Tryz.lays156.f166
 f240:=Tryz.lays156.f240
 f276:=Tryz.lays156.f276
 t0:=Tryz.lays156.t0
 a0:=Tryz.lays156.a0
 z0:=Tryz.lays156.z0
 v0:=Tryz.lays156.v0
 t3:=Tryz.lays156.t3
 a3:=Tryz.lays156.a3
 z3:=Tryz.lays156.z3
 v3:=Tryz.lays156.v3
 t4:=Tryz.lays156.t4
 a4:=Tryz.lays156.a4
 z4:=Tryz.lays156.z4
 v4:=Tryz.lays156.v4
 t9:=Tryz.lays156.t9
 a9:=Tryz.lays156.a9
 z9:=Tryz.lays156.z9
 v9:=Tryz.lays156.v9
 t20:=Tryz.lays156.t20
 a20:=Tryz.lays156.a20
 z20:=Tryz.lays156.z20
 v20:=Tryz.lays156.v20
 t37:=Tryz.lays156.t37
 a37:=Tryz.lays156.a37
 z37:=Tryz.lays156.z37
 v37:=Tryz.lays156.v37
 t70:=Tryz.lays156.t70
 a70:=Tryz.lays156.a70
 z70:=Tryz.lays156.z70
 v70:=Tryz.lays156.v70
 t72:=Tryz.lays156.t72
 a72:=Tryz.lays156.a72
 z72:=Tryz.lays156.z72
 v72:=Tryz.lays156.v72
 t75:=Tryz.lays156.t75
 a75:=Tryz.lays156.a75
 z75:=Tryz.lays156.z75
 v75:=Tryz.lays156.v75
 t164:=Tryz.lays156.t164
 a164:=Tryz.lays156.a164
 z164:=Tryz.lays156.z164
 v164:=Tryz.lays156.v164 }
theorem Tryz.laysST:Lays.n169 Tryz.prog Tryz.lays156_ren:={
 mixed:=Tryz.lays156.mixed
 f169:=Tryz.lays156.f169
 t0:=Tryz.lays156.t0
 a0:=Tryz.lays156.a0
 z0:=Tryz.lays156.z0
 v0:=Tryz.lays156.v0
 t3:=Tryz.lays156.t3
 a3:=Tryz.lays156.a3
 z3:=Tryz.lays156.z3
 v3:=Tryz.lays156.v3
 t9:=Tryz.lays156.t9
 a9:=Tryz.lays156.a9
 z9:=Tryz.lays156.z9
 v9:=Tryz.lays156.v9
 t37:=Tryz.lays156.t37
 a37:=Tryz.lays156.a37
 z37:=Tryz.lays156.z37
 v37:=Tryz.lays156.v37
 t70:=Tryz.lays156.t70
 a70:=Tryz.lays156.a70
 z70:=Tryz.lays156.z70
 v70:=Tryz.lays156.v70
 t72:=Tryz.lays156.t72
 a72:=Tryz.lays156.a72
 z72:=Tryz.lays156.z72
 v72:=Tryz.lays156.v72
 t127:=Tryz.lays156.t127
 a127:=Tryz.lays156.a127
 z127:=Tryz.lays156.z127
 v127:=Tryz.lays156.v127 }
theorem IsBuilder.below{T e:TypeId}{B b:Nat}{cs:List Value}{w w':World}(h:Lib.IsBuilder T e B b cs w)(hb:Below w.heap.size w w'):Lib.IsBuilder T e B b cs w':=by
 have key:∀p,Lib.BuilderAt T e B b p cs w->Lib.BuilderAt T e B b p cs w':=by
  rintro p ⟨h1,v,h2,h3,h4⟩
  have hlt:=(Array.getElem?_eq_some_iff.1 h2).1
  exact⟨h1,v,(hb.block b hlt).trans h2,aR h3 hb,h4⟩
 rcases h with h|h
 ·exact .inl (key _ h)
 ·exact .inr (key _ h)
def aV(ms:List Nat):List UInt8:=ms.flatMap (fun m=>Sp.told (Sp.litsOf m))
theorem kE(ms:List Nat)(m:Nat):aV (ms++[m])=aV ms++Sp.told (Sp.litsOf m):=by
 unfold aV;rw[List.flatMap_append];simp
theorem dE(m:Nat):(Sp.told (Sp.litsOf m)).length<=97:=by
 have h1:=dA (Sp.litsOf m);have h2:=eG m
 simp[Sp.told];omega
theorem lD(ms:List Nat):(aV ms).length<=97*ms.length:=by
 induction ms with
 | nil=>simp[aV]
 | cons a r ih=>
  have h1:=dE a
  simp only[aV,List.flatMap_cons,List.length_append,List.length_cons]at ih⊢
  omega
theorem nE(B b:Nat)(l t:List UInt8)(w:World)(h:Lib.IsBuilder 138 5 B b (Lib.byteCells l) w)(hlen:l.length+t.length<=140737488355328)(hBw:B<=w.heap.size):
  Calls Tryz.prog 88 #[.pointer (some ⟨b,0,none⟩),.string (bs t)] w fun e w'=>∃n:Int,e=.returned (.tuple #[.int .i64 n,.nilIface])/\Lib.IsBuilder 138 5 B b (Lib.byteCells (l++t)) w'/\Below B w w':=by
 refine(Any.Builder_WriteString Tryz.laysWS Tryz.Builder_Extra_156 B b (Lib.byteCells l) (bs t) w h (by rw[Lib.byteCells_length,aN];exact hlen) hBw).mono ?_
 rintro e w' ⟨rfl,hb,hbel⟩
 refine⟨_,rfl,.inr ?_,hbel⟩
 have e1:Lib.byteCells l++Lib.strCells (bs t)=Lib.byteCells (l++t):=by
  rw[Lib.strCells_eq,jV];simp[Lib.byteCells]
 rw[e1]at hb
 exact hb
theorem fW(B b:Nat)(l:List UInt8)(w:World)(h:Lib.IsBuilder 138 5 B b (Lib.byteCells l) w)(hBw:B<=w.heap.size):
  Calls Tryz.prog 89 #[.pointer (some ⟨b,0,none⟩)] w fun e w'=>e=.returned (.string (bs l))/\Below B w w':=
 Any.Builder_String_any Tryz.laysST Tryz.Builder_Extra_156 B b l w h hBw
set_option maxRecDepth 100000 in
set_option maxHeartbeats 800000 in
theorem iK(v:Value)(ms:List Nat)(w:World)(hl:ms.length<=10000000)(hm:∀m,m∈ms->m<2 ^ 24)(hv:Lies w v (us ms))(he:EnvT w):
  Calls Tryz.prog 48 #[v] w fun e w'=>e=.returned (.string (bs (aV ms)))/\Below w.heap.size w w':=by
 have hfresh:=aq (Lib.fresh_isBuilder 138 5 w)
 have hb0:Below w.heap.size w (w.alloc (.cells #[.pointer none,.slice none 0 0] 138)):=(Below.refl _ _).alloc (Nat.le_refl _) _
 rcases hv with⟨h0,ao,cap,rfl⟩|⟨b,off,cap,hp,rfl,hb,hc⟩
 ·have hx:ms=[]:=by simpa [us] using h0
  subst hx
  go_enter Tryz.func48,Tryz.ntmps48
  go_wp2
  refine wp_loop_rounds 1 ?_
  rw[rounds_succ]
  go_wp2_with fail
  refine(fW w.heap.size w.heap.size [] _ (dz hfresh) (by simp)).mono ?_
  rintro e w1 ⟨rfl,hb1⟩
  go_wp2
  go_ret
  exact⟨rfl,hb0.trans hb1⟩
 ·have hlen:(us ms).length=ms.length:=by simp[us]
  rw[hlen]at hp⊢
  go_enter Tryz.func48,Tryz.ntmps48
  go_wp2
  go_loopw [8] (fun i wr=>∃k:Nat,k<=ms.length/\i=.int .i64 k/\Lib.IsBuilder 138 5 w.heap.size w.heap.size (Lib.byteCells (aV (ms.take k))) wr/\Below w.heap.size w wr) (fun i _=>ms.length-(intOf i).toNat)
  case atStart=>exact⟨0,Nat.zero_le _,rfl,dz hfresh,hb0⟩
  case round=>
   obtain⟨k,hk,rfl,hbu,hbel⟩:=hrel
   have HB:=aq hbu
   clear hbu
   have hml:=lD (ms.take k)
   have hml2:(ms.take k).length<=k:=List.length_take_le _ _
   by_cases hlt:k<ms.length
   ·have hcell:wr.cell? ⟨b,off+k,none⟩=some (.int .u32 (ms[k]:Int)):=(hbel.cell (p:=⟨b,off+k,none⟩) hb).trans (hc k (.int .u32 (ms[k]:Int)) (by simp[us,hlt]))
    have hmm:=hm ms[k] (List.getElem_mem hlt)
    have HS:Hid (ms.take (k+1)=ms.take k++[ms[k]]):=aq (List.take_succ_eq_append_getElem hlt)
    generalize ms[k]=m at hcell HS hmm
    clear hc hm
    have htl:=dE m
    have HL:=aq (nQ m wr hmm (he.below hbel))
    have HSN:=aq (kE (ms.take k) m)
    go_wp2_with fail
    refine(dz HL).mono ?_
    rintro e w1 ⟨rfl,hb1⟩
    have hsz:=hbel.size
    have hsz1:=hb1.size
    have HW:=aq (nE w.heap.size w.heap.size (aV (ms.take k)) (Sp.told (Sp.litsOf m)) w1 (IsBuilder.below (dz HB) hb1) (by omega) (by omega))
    go_wp2_with fail
    refine(dz HW).mono ?_
    rintro e w2 ⟨n,rfl,hbu2,hb2⟩
    have HB2:=aq hbu2
    clear hbu2
    go_wp2
    go_roundw
    case rel=>exact⟨k+1,by omega,by go_num,by rw[dz HS,dz HSN];exact dz HB2,(hbel.trans (hb1.mono hbel.size)).trans hb2⟩
    case measure=>simp[intOf];omega
   ·have HT:Hid (ms.take k=ms):=aq (List.take_of_length_le (by omega))
    have hsz:=hbel.size
    have HSt:=aq (fW w.heap.size w.heap.size (aV (ms.take k)) wr (dz HB) (by omega))
    go_wp2_with fail
    refine(dz HSt).mono ?_
    rintro e w1 ⟨rfl,hb1⟩
    go_wp2
    go_ret
    exact⟨by rw[dz HT];rfl,hbel.trans hb1⟩
end Go.Proofs.YtekkkoipcghlmaaGreatDoor
