import Derived.Test.YtekkkoipcghlmaaGreatDoorS49
import Derived.Deep.QuietTactic
import Derived.Deep.DeepCutAuto
import Derived.BigQuiet
set_option linter.all false
namespace Go.Proofs.YtekkkoipcghlmaaGreatDoor
open Go.RowKit
theorem SolveRes.since{base x:Nat}{kv pv vm vc:Value}{ms:List Nat}{pb:List UInt8}{A:List Int}{B kind cf:Int}{w w1 w':World}(hb:Below w.heap.size w w1)(h:SolveRes base x kv ms pv pb A B w1 kind vm vc cf w'):SolveRes base x kv ms pv pb A B w kind vm vc cf w':=by
 obtain⟨S,D,pv',core,hW,h1,h2,h3,h4,h5,h6⟩:=h
 refine⟨S,D,pv',core,hW.from hb,h1,h2,h3,h4,h5,?_⟩
 rcases h6 with⟨a1,a2,b,a3,a4,a5,a6⟩|⟨a1,a2,a3,a4,a5⟩|h6
 ·exact .inl ⟨a1,a2,b,a3,a4,a5,owns_mono a6 hb.size⟩
 ·exact .inr (.inl ⟨a1,a2,a3,owns_mono a4 hb.size,a5⟩)
 ·exact .inr (.inr h6)
theorem SolveRes.shape{base x:Nat}{kv pv vm vc:Value}{ms:List Nat}{pb:List UInt8}{A:List Int}{B kind cf:Int}{w w':World}(h:SolveRes base x kv ms pv pb A B w kind vm vc cf w'):∃mo mk mc co ck cc,vm=.slice mo mk mc/\vc=.slice co ck cc:=by
 obtain⟨S,D,pv',core,hW,h1,h2,h3,h4,h5,h6⟩:=h
 rcases h6 with⟨_,rfl,b,_,_,_,hm⟩|⟨_,rfl,_,hr,_⟩|⟨_,rfl,rfl,_⟩
 ·obtain⟨a,c,rfl⟩:=owns_shape hm
  exact⟨_,_,_,_,_,_,rfl,rfl⟩
 ·obtain⟨a,c,rfl⟩:=owns_shape hr
  exact⟨_,_,_,_,_,_,rfl,rfl⟩
 ·exact⟨_,_,_,_,_,_,rfl,rfl⟩
def Sol(base x:Nat)(kv:Value)(ms:List Nat)(pv:Value)(pb:List UInt8)(A:List Int)(b:Int)(F:Nat->Prop)(kind:Int)(mo:Option Addr)(mk mc:Nat)(co:Option Addr)(ck cc:Nat)(cf er:Int)(wL w2:World):Prop:=
 Only F wL w2/\(((allInt A=false/\er=1∨allInt A=true/\b<0/\er=3)/\(kind=0/\mo=none/\mk=0/\mc=0/\co=none/\ck=0/\cc=0/\cf=0)/\Below wL.heap.size wL w2)∨
  allInt A=true/\0<=b/\er=0/\SolveRes base x kv ms pv pb (once A) b wL kind (.slice mo mk mc) (.slice co ck cc) cf w2)
theorem allInt_lits{A:List Int}(h:allInt A=true):Lits A:=fun y hy=>isLit_iff.1 (by rw[allInt,List.all_eq_true]at h;exact h y hy)
section
variable {R:Rule}{base:Nat}{w wL w2 wx w4:World}{F G:Nat->Prop}{p x y:Nat}{kv lv:Value}{vs:List Value}{ms:List Nat}{pv:Value}{pb:List UInt8}{bk:Value}{es:List Entry}{q:Nat}{A:List Int}{b kind cf:Int}{mo co:Option Addr}{mk mc ck cc:Nat}
theorem sol_any{g0 cap:Nat}(hs:SideIs base w F p x kv y lv vs ms pv pb (playOf R base bk G es q))(hA:Below w.heap.size w wL)(hrow:wL.heap[g0]?=some (.cells (ints (A++[77,0])).toArray 3 (0,0)))(he:EnvFrom base w)(hml:ms.length<=3000000)(hq:q<=199000)(hl:A.length<=10000000)(hb0:-9223372036854775808<=b)(hb1:b<=9223372036854775807):
  ∀wx,Below wL.heap.size wL wx->Calls Tryz.prog 18 #[.pointer (some ⟨x,0,none⟩),.slice (some ⟨g0,0,none⟩) A.length cap,.int .i64 b] wx fun e w'=>∃kind mo mk mc co ck cc cf er,e=.returned (.tuple #[.agg #[.int .i64 kind,.slice mo mk mc,.slice co ck cc,.int .i64 cf],.int .i64 er])/\Hid (Sol base x kv ms pv pb A b F kind mo mk mc co ck cc cf er wL w')/\Hid (wx.heap.size<=w'.heap.size/\∀k,(k=p∨w.heap.size<=k)->k<wx.heap.size->w'.heap[k]?=wx.heap[k]?):=by
 intro wx ha
 obtain⟨pr,gr,la,en,hblk,hZ⟩:=hs.block
 obtain⟨⟨k1,k2⟩,k3⟩:=R.ok _ _ _ _ _ _ _ hZ
 have hbase:base<=w.heap.size:=Nat.le_trans hs.le (Nat.le_of_lt (hs.inn p hs.fp).2)
 have hax:Below w.heap.size w wx:=hA.trans (ha.mono hA.size)
 have hpb:pb.length<=140000000000000:=Nat.le_trans k3 (Nat.le_trans (Nat.mul_le_mul_right _ hq) (by decide))
 have hXx:=hs.prog.below hax
 refine(solve_any base x kv pv _ ms pb A b wx hXx ⟨k1,k2,hml⟩ (he.below (hax.mono hbase)) ((cut_lies hrow).below ha) hl hb0 hb1 hpb).mono ?_
 rintro e w' (⟨h1,rfl,h2⟩|⟨h1,h2,rfl,h3⟩|⟨h1,h2,kind,vm,vc,cf,rfl,h3⟩)
 ·have hb:Below wL.heap.size wL w':=ha.trans (h2.mono ha.size)
  exact⟨0,none,0,0,none,0,0,0,1,rfl,aq ⟨Only.of_below _ hb,.inl ⟨.inl ⟨h1,rfl⟩,⟨rfl,rfl,rfl,rfl,rfl,rfl,rfl,rfl⟩,hb⟩⟩,aq ⟨h2.size,fun k _ hk=>h2.block k hk⟩⟩
 ·have hb:Below wL.heap.size wL w':=ha.trans (h3.mono ha.size)
  exact⟨0,none,0,0,none,0,0,0,3,rfl,aq ⟨Only.of_below _ hb,.inl ⟨.inr ⟨h1,h2,rfl⟩,⟨rfl,rfl,rfl,rfl,rfl,rfl,rfl,rfl⟩,hb⟩⟩,aq ⟨h3.size,fun k _ hk=>h3.block k hk⟩⟩
 ·obtain⟨mo,mk,mc,co,ck,cc,rfl,rfl⟩:=h3.shape
  have h4:=h3.since ha
  obtain⟨S,D,pv',core,hW,-⟩:=h3
  have ho:Only F wL w':=(Only.of_below _ ha).trans (hs.overP hax hW.2.1).2.1
  refine⟨kind,mo,mk,mc,co,ck,cc,cf,0,rfl,aq ⟨ho,.inr ⟨h1,h2,rfl,h4⟩⟩,aq ⟨hW.2.1.size,fun k hk hlt=>hW.2.1.block k hlt (fun hf=>?_)⟩⟩
  rcases hk with rfl|hk
  ·have hpw:=(hax.block _ (lt_of_block hblk)).trans hblk
   rcases hf with e|e
   ·subst e;have:=hpw.symm.trans hXx.block;simp at this
   ·exact row_ne hXx.prow hpw (by decide) e
  ·rcases hf with e|e
   ·have:=(hs.inn x hs.fx.1).2;omega
   ·have:=(hs.prog.prow.lt k e).2;omega
def RBox(wL w2 wz:World)(rb:Nat)(ro:Array Value):Prop:=Only (·=rb) w2 wz/\wz.heap[rb]?=some (.cells ro 34 (0,0))/\wL.heap.size<=rb/\(w2.heap.size<=rb∨∃cs,w2.heap[rb]?=some (.cells cs 34 (0,0)))
theorem RBox.row{wz:World}{rb:Nat}{ro:Array Value}(h:RBox wL w2 wz rb ro){e:TypeId}{b n:Nat}{u:Value}{l:List Value}(hr:w2.ownsRow b e 1 u n l)(he:34≠e):∀g,u.ownBlock=some g->wz.heap[g]?=w2.heap[g]?:=fun g hg=>h.1.block g (hr.lt g hg).2 (fun e=>by
 subst e
 rcases h.2.2.2 with h1|⟨cs,h1⟩
 ·have:=(hr.lt _ hg).2;omega
 ·exact row_ne hr h1 he hg)
theorem sol_after{g0 rb:Nat}{ob:Obj}{ro:Array Value}(hs:SideIs base w F p x kv y lv vs ms pv pb (playOf R base bk G es q))(hA:Below w.heap.size w wL)(hob:wL.heap[w.heap.size]?=some ob)(hg0:w.heap.size<g0)(hgL:g0<wL.heap.size)(hr:SolveRes base x kv ms pv pb (once A) b wL kind (.slice mo mk mc) (.slice co ck cc) cf w2)(hAL:Lits A)(hR:RBox wL w2 wx rb ro)(ho:Only (·=g0) wx w4)(hb0:0<=b):
  ∃pv' pb' xs ys pr gr la en,SMid base w F p x y kv lv vs ms pv' pb' wL.heap.size (.slice mo mk mc) (.slice co ck cc) mk ck xs ys ob rb ro pr gr la en w4/\mk<=24/\ck<=24/\ys.length=ck/\(mo=none∨co=none)/\(∀z,z∈ys->z≠0/\-12<=z/\z<=12)/\(∀la',la'=bs (Sp.told (Sp.sorted (ys.map (fun x=>-x))))->R.I (q+1) ms pb' pr true la' (decide (kind=2)))/\0<=cf/\(0<b->cf<=b)/\
   ((kind=1/\co=none/\ck=0/\cc=0/\∃bb,bb<4096/\(∀x,x∈A->tru bb x=true)/\(∀g,g∈ms->holdsB bb g)/\Lies w4 (.slice mo mk mc) (ints (modelOf bb)))∨
   (kind=2/\mo=none/\mk=0/\mc=0/\∃p:Int->Bool,Lies w4 (.slice co ck cc) (ints ((once A).filter p))/\ck<=cc/\∀bb,(∀g,g∈ms->holdsB bb g)->∃x,x∈(once A).filter p/\tru bb x=false)∨
   (kind=3/\mo=none/\mk=0/\mc=0/\co=none/\ck=0/\cc=0/\0<b/\cf=b)):=by
 obtain⟨hc0,hc1,hans⟩:=hr.answer hAL hb0
 obtain⟨S,D,pv',core,hW,hch,hwf,hlen,-,-,h6⟩:=hr
 obtain⟨hY,oF,pr,gr,la,en,hblk,hZ⟩:=hs.overP hA hW.2.1
 have s1:=hA.size
 have s2:=oF.size
 have s3:=hR.1.size
 have hrn:=hR.2.2.1
 have s4:=ho.size
 have h24:=once_24 hAL
 obtain⟨xs,ys,hm,hc,hmk,hck,hyl,hone,hyb,hk2⟩:∃xs ys,w2.ownsRow wL.heap.size 3 1 (.slice mo mk mc) mk (ints xs)/\w2.ownsRow wL.heap.size 3 1 (.slice co ck cc) ck (ints ys)/\mk<=24/\ck<=24/\ys.length=ck/\(mo=none∨co=none)/\(∀z,z∈ys->z≠0/\-12<=z/\z<=12)/\(kind=2->ys=core/\Sp.Fol (ms++D) (Sp.maskOf (core.map (fun x=>-x)))):=by
  rcases h6 with⟨k1,h2,b,_,_,_,h3⟩|⟨_,h2,⟨p,hp⟩,h3,hf⟩|⟨k1,h2,h3,_,_⟩
  ·cases h2
   have e:mk=12:=by
    obtain⟨a,c',hs⟩:=owns_shape h3
    simp only[Value.slice.injEq]at hs
    exact hs.2.1
   subst e
   exact⟨modelOf b,[],h3,World.ownsRow_nil _ _ _ _,by omega,by omega,rfl,.inr rfl,fun z hz=>(by cases hz),fun h=>by omega⟩
  ·cases h2
   have e:ck=core.length:=by
    obtain⟨a,c',hs⟩:=owns_shape h3
    simp only[Value.slice.injEq]at hs
    exact hs.2.1
   subst e
   have hl:core.length<=(once A).length:=by rw[hp];exact List.length_filter_le _ _
   exact⟨[],core,World.ownsRow_nil _ _ _ _,h3,by omega,by omega,rfl,.inl rfl,fun z hz=>by rw[hp]at hz;exact hAL z ((once_mem A z).1 (List.mem_filter.1 hz).1),fun _=>⟨rfl,hf⟩⟩
  ·cases h2
   cases h3
   exact⟨[],[],World.ownsRow_nil _ _ _ _,World.ownsRow_nil _ _ _ _,by omega,by omega,rfl,.inl rfl,fun z hz=>(by cases hz),fun h=>by omega⟩
 have pvl:∀g,pv'.ownBlock=some g->F g∨wL.heap.size<=g:=fun g hg=>by
  rcases hW.2.2 g hg with e|e
  ·exact .inl (hs.fx.2.2 g e)
  ·exact .inr e
 have hnF:¬F w.heap.size:=fun hf=>by have:=(hs.inn _ hf).2;omega
 have lowz:∀k,k<wL.heap.size->wx.heap[k]?=w2.heap[k]?:=fun k hk=>hR.1.block k (by omega) (by omega)
 have lowF:∀k,F k->wx.heap[k]?=w2.heap[k]?:=fun k hk=>lowz k (by have:=(hs.inn k hk).2;omega)
 have o2:Only F w w2:=(Only.of_below _ hA).trans oF
 have hmid:SMid base w F p x y kv lv vs ms pv' _ wL.heap.size (.slice mo mk mc) (.slice co ck cc) mk ck xs ys ob rb ro pr gr la en wx:=
  ⟨⟨hR.1.os.trans o2.os,hR.1.tape.trans o2.tape,hR.1.output.trans o2.output,by omega,fun k hk hn=>(lowz k (by omega)).trans (o2.block k hk hn)⟩,⟨(lowF x hs.fx.1).trans hW.1.block,hW.1.le,owns_at hW.1.row (fun g hg=>lowF g (hs.fx.2.1 g hg)),owns_at hW.1.prow (hR.row hW.1.prow (by decide))⟩,hY.keep hs.fy lowF,(lowF p hs.fp).trans hblk,fun g hg=>(pvl g hg).imp id (fun e=>by omega),owns_at hm (hR.row hm (by decide)),owns_at hc (hR.row hc (by decide)),(lowz _ (by omega)).trans ((oF.block _ (by omega) hnF).trans hob),hR.2.1⟩
 have stm:∀g,(Value.slice mo mk mc).ownBlock=some g->w4.heap[g]?=w2.heap[g]?:=fun g hg=>(ho.block g (by have:=(hm.lt g hg).2;omega) (by have:=(hm.lt g hg).1;omega)).trans (hR.row hm (by decide) g hg)
 have stc:∀g,(Value.slice co ck cc).ownBlock=some g->w4.heap[g]?=w2.heap[g]?:=fun g hg=>(ho.block g (by have:=(hc.lt g hg).2;omega) (by have:=(hc.lt g hg).1;omega)).trans (hR.row hc (by decide) g hg)
 refine⟨pv',_,xs,ys,pr,gr,la,en,hmid.step hs ho (fun k hk=>?_),hmk,hck,hyl,hone,hyb,fun la' hla=>R.solve q ms pb pr gr la en S D core kind la' hZ hch hwf hlen (fun hk=>?_),hc0,hc1,?_⟩
 ·subst hk
  refine⟨hg0,fun e=>?_,fun e=>by have:=(hm.lt _ e).1;omega,fun e=>by have:=(hc.lt _ e).1;omega,by omega⟩
  rcases pvl _ e with e|e
  ·have:=(hs.inn _ e).2;omega
  ·omega
 ·obtain⟨e1,e2⟩:=hk2 hk
  subst e1
  exact⟨hyb,e2,hla⟩
 ·rcases hans with⟨a1,a2,a3,a4,bb,a5,a6,a7,a8⟩|⟨a1,a2,a3,a4,pp,a5,a6,a7⟩|a
  ·exact .inl ⟨a1,a2,a3,a4,bb,a5,a6,a7,lies_blocks a8 (by omega) stm⟩
  ·exact .inr (.inl ⟨a1,a2,a3,a4,pp,lies_blocks a5 (by omega) stc,a6,a7⟩)
  ·exact .inr (.inr a)
end
end Go.Proofs.YtekkkoipcghlmaaGreatDoor
