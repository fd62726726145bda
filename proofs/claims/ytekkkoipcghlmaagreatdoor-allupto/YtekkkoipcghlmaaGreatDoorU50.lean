import Derived.Test.YtekkkoipcghlmaaGreatDoorU49
import Derived.Deep.QuietTactic
import Derived.Deep.DeepCutAuto
import Derived.BigQuiet
set_option linter.all false
namespace Go.Proofs.YtekkkoipcghlmaaGreatDoor
open Go.RowKit
structure Rule where
 I:Nat->List Nat->List UInt8->ByteArray->Bool->ByteArray->Bool->Prop
 new:∀q,I q [] [] ⟨#[]⟩ false ⟨#[]⟩ false
 add:∀q ms pb pr gr la en xs,I q ms pb pr gr la en->I q (addTo ms xs).2 pb pr gr la en
 reset:∀q la,I q [] [] ⟨#[]⟩ false la false
 more:∀q ms pb pr gr la en,I q ms pb pr gr la en->I (q+1) ms pb pr gr la en
 ok:∀q ms pb pr gr la en,I q ms pb pr gr la en->((∀m,m∈ms->m<2 ^ 24/\aO m=false)/\aW ms<=400)/\pb.length<=q*700000097
 solve:∀q ms pb pr gr la en S D core (kind:Int) la',I q ms pb pr gr la en->Chain ms (bH S) D->(∀s,s∈S->aM s.2)->S.length<=7000000->(kind=2->Lits core/\Sp.Fol (ms++D) (Sp.maskOf (core.map (fun x=>-x)))/\la'=bs (Sp.told (Sp.sorted (core.map (fun x=>-x)))))->
  I (q+1) ms (pb++(aP S++if kind=2 then Sp.told (Sp.litsOf (aK (Sp.maskOf core)))else [])) pr true la' (decide (kind=2))
def eI(R:Rule)(base:Nat)(bk:Value)(G:Nat->Prop)(es:List Entry)(q:Nat):Play where
 bk:=bk
 G:=G
 J:=fun w=>BookIs base w bk G es/\es.length<=2*q
 I:=R.I q
 keep:=fun _ _ h hs hk=>⟨h.1.keep hs hk,h.2⟩
 new:=R.new q
 add:=R.add q
 reset:=R.reset q
structure SMid(base:Nat)(w:World)(F:Nat->Prop)(p x y:Nat)(kv lv:Value)(vs:List Value)(ms:List Nat)(pv':Value)(pb':List UInt8)(b1:Nat)(mv cv:Value)(mk ck:Nat)(xs ys:List Int)(ob:Obj)(rb:Nat)(ro:Array Value)(pr:ByteArray)(gr:Bool)(la:ByteArray)(en:Bool)(wz:World):Prop where
 only:Only F w wz
 prog:XAt base wz x kv ms pv' pb'
 doc:YAt base wz y lv vs ms
 blk:wz.heap[p]?=some (.cells #[.pointer (some ⟨x,0,none⟩),.pointer (some ⟨y,0,none⟩),.string pr,.bool gr,.string la,.bool en] 95 (0,0))
 pvf:∀g,pv'.ownBlock=some g->F g∨w.heap.size<=g
 mrow:wz.ownsRow b1 3 1 mv mk (ints xs)
 crow:wz.ownsRow b1 3 1 cv ck (ints ys)
 obox:wz.heap[w.heap.size]?=some ob
 rbox:wz.heap[rb]?=some (.cells ro 34 (0,0))
section
variable {base:Nat}{w wz wz':World}{F:Nat->Prop}{p x y:Nat}{kv lv:Value}{vs:List Value}{ms:List Nat}{pv pv':Value}{pb pb':List UInt8}{b1:Nat}{mv cv:Value}{mk ck:Nat}{xs ys:List Int}{ob:Obj}{rb:Nat}{ro:Array Value}{pr:ByteArray}{gr:Bool}{la:ByteArray}{en:Bool}{Z:Play}
theorem SMid.step{P:Nat->Prop}(h:SMid base w F p x y kv lv vs ms pv' pb' b1 mv cv mk ck xs ys ob rb ro pr gr la en wz)(hs:SideIs base w F p x kv y lv vs ms pv pb Z)(ho:Only P wz wz')(hP:∀k,P k->w.heap.size<k/\pv'.ownBlock≠some k/\mv.ownBlock≠some k/\cv.ownBlock≠some k/\k≠rb):SMid base w F p x y kv lv vs ms pv' pb' b1 mv cv mk ck xs ys ob rb ro pr gr la en wz':=by
 have hn:∀k,F k->¬P k:=fun k hk hp=>by have:=(hs.inn k hk).2;have:=(hP k hp).1;omega
 have low:∀k,F k->wz'.heap[k]?=wz.heap[k]?:=fun k hk=>ho.block k (by have:=(hs.inn k hk).2;have:=h.only.size;omega) (hn k hk)
 refine⟨⟨ho.os.trans h.only.os,ho.tape.trans h.only.tape,ho.output.trans h.only.output,Nat.le_trans h.only.size ho.size,fun k hk hf=>(ho.block k (Nat.lt_of_lt_of_le hk h.only.size) (fun hp=>by have:=(hP k hp).1;omega)).trans (h.only.block k hk hf)⟩,⟨(low x hs.fx.1).trans h.prog.block,h.prog.le,aH h.prog.row (fun g hg=>low g (hs.fx.2.1 g hg)),aH h.prog.prow (fun g hg=>ho.block g (h.prog.prow.lt g hg).2 (fun hp=>(hP g hp).2.1 hg))⟩,h.doc.keep hs.fy low,(low p hs.fp).trans h.blk,h.pvf,aH h.mrow (fun g hg=>ho.block g (h.mrow.lt g hg).2 (fun hp=>(hP g hp).2.2.1 hg)),aH h.crow (fun g hg=>ho.block g (h.crow.lt g hg).2 (fun hp=>(hP g hp).2.2.2.1 hg)),(ho.block _ (aA h.obox) (fun hp=>by have:=(hP _ hp).1;omega)).trans h.obox,(ho.block _ (aA h.rbox) (fun hp=>(hP _ hp).2.2.2.2 rfl)).trans h.rbox⟩
theorem SMid.below(h:SMid base w F p x y kv lv vs ms pv' pb' b1 mv cv mk ck xs ys ob rb ro pr gr la en wz)(hs:SideIs base w F p x kv y lv vs ms pv pb Z)(hb:Below wz.heap.size wz wz'):SMid base w F p x y kv lv vs ms pv' pb' b1 mv cv mk ck xs ys ob rb ro pr gr la en wz':=
 h.step hs (Only.of_below (fun _=>False) hb) (fun k hk=>hk.elim)
theorem SMid.put(h:SMid base w F p x y kv lv vs ms pv' pb' b1 mv cv mk ck xs ys ob rb ro pr gr la en wz)(hs:SideIs base w F p x kv y lv vs ms pv pb Z)(i:Nat)(v:Value){pr':ByteArray}{gr':Bool}{la':ByteArray}{en':Bool}(e:([.pointer (some ⟨x,0,none⟩),.pointer (some ⟨y,0,none⟩),.string pr,.bool gr,.string la,.bool en]:List Value).set i v=[.pointer (some ⟨x,0,none⟩),.pointer (some ⟨y,0,none⟩),.string pr',.bool gr',.string la',.bool en']):
  SMid base w F p x y kv lv vs ms pv' pb' b1 mv cv mk ck xs ys ob rb ro pr' gr' la' en' (wz.setCell ⟨p,i,none⟩ v):=by
 have hx:∀k,k≠p->(wz.setCell ⟨p,i,none⟩ v).heap[k]?=wz.heap[k]?:=fun k hk=>Below.heap_setCell _ _ _ _ hk
 have hpl:=(hs.inn p hs.fp).2
 have ne:∀{e:TypeId} {b n:Nat} {u:Value} {l:List Value},wz.ownsRow b e 1 u n l->95≠e->∀g,u.ownBlock=some g->(wz.setCell ⟨p,i,none⟩ v).heap[g]?=wz.heap[g]?:=fun hr he g hg=>hx g (fun e=>aZ hr h.blk he (by rw[←e];exact hg))
 have hpx:x≠p:=by intro e;subst e;have:=h.blk.symm.trans h.prog.block;simp at this
 have hrb:p≠rb:=by intro e;subst e;have:=h.blk.symm.trans h.rbox;simp at this
 have hpy:y≠p:=by intro e;subst e;have:=h.blk.symm.trans h.doc.block;simp at this
 refine⟨h.only.trans (Only.setCell (p:=⟨p,i,none⟩) hs.fp _ _),⟨(hx x hpx).trans h.prog.block,h.prog.le,aH h.prog.row (ne h.prog.row (by decide)),aH h.prog.prow (ne h.prog.prow (by decide))⟩,⟨(hx y hpy).trans h.doc.block,h.doc.le,aH h.doc.row (ne h.doc.row (by decide)),h.doc.rows.1,fun j r c hr hc=>aH (h.doc.rows.2 j r c hr hc) (ne (h.doc.rows.2 j r c hr hc) (by decide))⟩,?_,h.pvf,aH h.mrow (ne h.mrow (by decide)),aH h.crow (ne h.crow (by decide)),(hx _ (by omega)).trans h.obox,(hx _ (Ne.symm hrb)).trans h.rbox⟩
 rw[heap_setCell_same wz p i _ _ v h.blk]
 simp only[List.setIfInBounds_toArray,e]
end
def zM(R:Rule)(base:Nat)(w w':World)(B:Nat)(lv0 bk:Value)(F G:Nat->Prop)(p:Nat)(ms:List Nat)(q:Nat):Prop:=
 ∃bk' G' es' F',Only (fun k=>F k∨G k∨k=B) w w'/\SideAt base w' F' p ms (eI R base bk' G' es' (q+1))/\BookIs base w' bk' G' es'/\es'.length<=2*(q+1)/\w'.heap[B]?=some (.cells #[lv0,bk'] 64 (0,0))/\(∀k,F' k->F k∨w.heap.size<=k)/\(∀k,G' k->(G k∨w.heap.size<=k)/\base<=k/\k<w'.heap.size)/\∀k,F' k->¬G' k
theorem xV{R:Rule}{base:Nat}{w wz:World}{F G:Nat->Prop}{p x y:Nat}{kv lv:Value}{vs:List Value}{ms:List Nat}{pv pv':Value}{pb pb':List UInt8}{b1:Nat}{mo co:Option Addr}{mk mc ck cc:Nat}{xs ys:List Int}{ob:Obj}{rb:Nat}{ro:Array Value}{pr:ByteArray}{gr:Bool}{la:ByteArray}{en:Bool}{B q:Nat}{lv0 bk:Value}{es:List Entry}{Z:Play}
  (h:SMid base w F p x y kv lv vs ms pv' pb' b1 (.slice mo mk mc) (.slice co ck cc) mk ck xs ys ob rb ro pr gr la en wz) (hs:SideIs base w F p x kv y lv vs ms pv pb Z) (hBw:w.heap[B]?=some (.cells #[lv0,bk] 64 (0,0))) (hbook:BookIs base w bk G es) (hes:es.length<=2*q) (hq:q<=400000) (hG:∀k,G k->base<=k/\k<w.heap.size) (hFG:∀k,F k->¬G k) (hFB:¬F B) (hGB:¬G B) (hone:mo=none∨co=none) (hmk:mk<=24) (hck:ck<=24) (hb1:w.heap.size<b1) (hbz:b1<=wz.heap.size) (hI:R.I (q+1) ms pb' pr gr la en):
  ∀wx,Alike wz wx->Calls Tryz.prog 103 #[.pointer (some ⟨B,1,none⟩),.slice mo mk mc] wx fun e w1=>e=.returned (.tuple #[])/\w1.heap[rb]?=some (.cells ro 34 (0,0))/\B<w1.heap.size/\
   ∀wy,Alike w1 wy->Calls Tryz.prog 103 #[.pointer (some ⟨B,1,none⟩),.slice co ck cc] wy fun e w2=>e=.returned (.tuple #[])/\w2.heap[rb]?=some (.cells ro 34 (0,0))/\∀wf,Alike w2 wf->zM R base w wf B lv0 bk F G p ms q:=by
 intro wx hax
 have hX:=h.below hs hax.below
 have hsx:=hax.size
 have hBl:=aA hBw
 have hsz:=hX.only.size
 have hbase:base<=w.heap.size:=Nat.le_trans hs.le (Nat.le_of_lt (hs.inn p hs.fp).2)
 have hBx:wx.heap[B]?=some (.cells #[lv0,bk] 64 (0,0)):=(hX.only.block B hBl hFB).trans hBw
 have hbkx:BookIs base wx bk G es:=hbook.keep hsz (fun k hk=>hX.only.block k (hG k hk).2 (fun hf=>hFG k hf hk))
 have mlt:∀g,(Value.slice mo mk mc).ownBlock=some g->b1<=g/\g<wx.heap.size:=fun g hg=>hX.mrow.lt g hg
 have clt:∀g,(Value.slice co ck cc).ownBlock=some g->b1<=g/\g<wx.heap.size:=fun g hg=>hX.crow.lt g hg
 have mB:(Value.slice mo mk mc).ownBlock≠some B:=aZ hX.mrow hBx (by decide)
 have cB:(Value.slice co ck cc).ownBlock≠some B:=aZ hX.crow hBx (by decide)
 have mr:(Value.slice mo mk mc).ownBlock≠some rb:=aZ hX.mrow hX.rbox (by decide)
 have bkr:bk.ownBlock≠some rb:=aZ hbkx.row hX.rbox (by decide)
 have hBr:rb≠B:=by intro e;subst e;have:=hBx.symm.trans hX.rbox;simp at this
 have bkG:∀g,bk.ownBlock=some g->G g:=hbook.foot
 have pvm:∀g,pv'.ownBlock=some g->(Value.slice mo mk mc).ownBlock≠some g:=fun g hg e=>cZ (by decide) hX.prog.prow hX.mrow hg e
 have pvc:∀g,pv'.ownBlock=some g->(Value.slice co ck cc).ownBlock≠some g:=fun g hg e=>cZ (by decide) hX.prog.prow hX.crow hg e
 have mc0:∀g,(Value.slice co ck cc).ownBlock=some g->(Value.slice mo mk mc).ownBlock≠some g:=fun g hg e=>by
  rcases hone with e1|e1
  ·subst e1;cases e
  ·subst e1;cases hg
 refine(qO base b1 B lv0 bk G es wx mo mk mc xs hBx hbkx (fun k hk=>⟨(hG k hk).1,by have:=(hG k hk).2;omega⟩) hGB hX.mrow (fun g hg=>⟨fun hg2=>by have:=(hG g hg2).2;have:=(mlt g hg).1;omega,by have:=(mlt g hg).1;omega⟩) (by omega) (by omega) (by omega) (by omega)).mono ?_
 rintro e w1 ⟨rfl,bk1,G1,es1,hbk1,hes1,ho1,hB1,hG1⟩
 have hs1:=ho1.size
 have hrb1:w1.heap[rb]?=some (.cells ro 34 (0,0)):=(ho1.block rb (aA hX.rbox) (fun hf=>by
  rcases hf with e|e|e
  ·exact hBr e
  ·exact mr e
  ·exact bkr e)).trans hX.rbox
 refine⟨rfl,hrb1,aA hB1,fun wy hay=>?_⟩
 have hsy:=hay.size
 have al:∀k,k<w1.heap.size->wy.heap[k]?=w1.heap[k]?:=fun k hk=>hay.below.block k hk
 have hBy:wy.heap[B]?=some (.cells #[lv0,bk1] 64 (0,0)):=(al B (aA hB1)).trans hB1
 have hbky:BookIs base wy bk1 G1 es1:=hbk1.keep (by omega) (fun k hk=>al k (hG1 k hk).2.2)
 have cG1:∀g,(Value.slice co ck cc).ownBlock=some g->¬G1 g:=fun g hg hf=>by
  have:=clt g hg
  rcases (hG1 g hf).1 with e|e|e
  ·have:=(hG g e).2;omega
  ·exact mc0 g hg e
  ·omega
 have hcy:wy.ownsRow b1 3 1 (.slice co ck cc) ck (ints ys):=aH hX.crow (fun g hg=>(al g (by have:=clt g hg;omega)).trans (ho1.block g (clt g hg).2 (fun hf=>by
  rcases hf with e|e|e
  ·exact cB (by rw[←e];exact hg)
  ·exact mc0 g hg e
  ·have:=(hG g (bkG g e)).2;have:=clt g hg;omega)))
 have hGB1:¬G1 B:=fun hf=>by
  rcases (hG1 B hf).1 with e|e|e
  ·exact hGB e
  ·exact mB e
  ·omega
 refine(qO base b1 B lv0 bk1 G1 es1 wy co ck cc ys hBy hbky (fun k hk=>⟨(hG1 k hk).2.1,by have:=(hG1 k hk).2.2;omega⟩) hGB1 hcy (fun g hg=>⟨cG1 g hg,by have:=(clt g hg).1;omega⟩) (by omega) (by omega) (by omega) (by omega)).mono ?_
 rintro e w2 ⟨rfl,bk2,G2,es2,hbk2,hes2,ho2,hB2,hG2⟩
 have hrby:wy.heap[rb]?=some (.cells ro 34 (0,0)):=(al rb (aA hrb1)).trans hrb1
 refine⟨rfl,(ho2.block rb (aA hrby) (fun hf=>?_)).trans hrby,fun wf haf=>?_⟩
 ·rcases hf with e|e|e
  ·exact hBr e
  ·exact aZ hcy hrby (by decide) e
  ·exact aZ hbky.row hrby (by decide) e
 have hs2:=ho2.size
 have hsf:=haf.size
 have alf:∀k,k<w2.heap.size->wf.heap[k]?=w2.heap[k]?:=fun k hk=>haf.below.block k hk
 have st:∀k,k<wx.heap.size->k≠B->(Value.slice mo mk mc).ownBlock≠some k->(Value.slice co ck cc).ownBlock≠some k->¬G k->wf.heap[k]?=wx.heap[k]?:=fun k hk hb hm hc hg=>by
  have g1:bk1.ownBlock≠some k:=fun e=>by
   rcases (hG1 k (hbk1.foot k e)).1 with e|e|e
   ·exact hg e
   ·exact hm e
   ·omega
  rw[alf k (by omega),ho2.block k (by omega) (fun hf=>by
   rcases hf with e|e|e
   ·exact hb e
   ·exact hc e
   ·exact g1 e),al k (by omega)]
  exact ho1.block k hk (fun hf=>by
   rcases hf with e|e|e
   ·exact hb e
   ·exact hm e
   ·exact hg (bkG k e))
 have low:∀k,k<w.heap.size->k≠B->¬G k->wf.heap[k]?=wx.heap[k]?:=fun k hk hb hg=>st k (by omega) hb (fun e=>by have:=(mlt k e).1;omega) (fun e=>by have:=(clt k e).1;omega) hg
 have lowF:∀k,F k->wf.heap[k]?=wx.heap[k]?:=fun k hk=>low k (hs.inn k hk).2 (fun e=>hFB (by rw[←e];exact hk)) (hFG k hk)
 have pvB:pv'.ownBlock≠some B:=aZ hX.prog.prow hBx (by decide)
 have pvG:∀g,pv'.ownBlock=some g->¬G g:=fun g hg hf=>by
  rcases hX.pvf g hg with e|e
  ·exact hFG g e hf
  ·have:=(hG g hf).2;omega
 have pvk:∀g,pv'.ownBlock=some g->wf.heap[g]?=wx.heap[g]?:=fun g hg=>st g (hX.prog.prow.lt g hg).2 (fun e=>pvB (by rw[←e];exact hg)) (pvm g hg) (pvc g hg) (pvG g hg)
 have hG2':∀k,G2 k->(G k∨(Value.slice mo mk mc).ownBlock=some k∨(Value.slice co ck cc).ownBlock=some k∨wx.heap.size<=k)/\base<=k/\k<wf.heap.size:=fun k hk=>by
  obtain⟨h1,h2,h3⟩:=hG2 k hk
  refine⟨?_,h2,by omega⟩
  rcases h1 with e|e|e
  ·rcases (hG1 k e).1 with e|e|e
   ·exact .inl e
   ·exact .inr (.inl e)
   ·exact .inr (.inr (.inr e))
  ·exact .inr (.inr (.inl e))
  ·exact .inr (.inr (.inr (by omega)))
 have hbkf:BookIs base wf bk2 G2 es2:=hbk2.keep (by omega) (fun k hk=>alf k (hG2 k hk).2.2)
 have hx2:XAt base wf x kv ms pv' pb':=⟨(lowF x hs.fx.1).trans hX.prog.block,hX.prog.le,aH hX.prog.row (fun g hg=>lowF g (hs.fx.2.1 g hg)),aH hX.prog.prow pvk⟩
 refine⟨bk2,G2,es2,fun k=>F k∨pv'.ownBlock=some k,⟨haf.below.os.trans (ho2.os.trans (hay.below.os.trans (ho1.os.trans hX.only.os))),haf.below.tape.trans (ho2.tape.trans (hay.below.tape.trans (ho1.tape.trans hX.only.tape))),haf.below.output.trans (ho2.output.trans (hay.below.output.trans (ho1.output.trans hX.only.output))),by omega,fun k hk hn=>?_⟩,⟨x,kv,y,lv,vs,pv',pb',⟨_,_,_,_,(lowF p hs.fp).trans hX.blk,hI⟩,hs.le,hx2,hX.doc.keep hs.fy lowF,.inl hs.fp,⟨.inl hs.fx.1,fun g hg=>.inl (hs.fx.2.1 g hg),fun g hg=>.inr hg⟩,⟨.inl hs.fy.1,fun g hg=>.inl (hs.fy.2.1 g hg),fun v hv g hg=>.inl (hs.fy.2.2 v hv g hg)⟩,fun k hk=>?_,hs.small⟩,hbkf,by omega,(alf B (aA hB2)).trans hB2,fun k hk=>?_,fun k hk=>?_,fun k hk hg=>?_⟩
 ·have hn1:¬F k:=fun e=>hn (.inl e)
  have hn2:¬G k:=fun e=>hn (.inr (.inl e))
  exact(low k hk (fun e=>hn (.inr (.inr e))) hn2).trans (hX.only.block k hk hn1)
 ·rcases hk with hk|hk
  ·exact⟨(hs.inn k hk).1,by have:=(hs.inn k hk).2;omega⟩
  ·exact hx2.prow.lt k hk
 ·rcases hk with hk|hk
  ·exact .inl hk
  ·exact hX.pvf k hk
 ·obtain⟨h1,h2,h3⟩:=hG2' k hk
  refine⟨?_,h2,h3⟩
  rcases h1 with e|e|e|e
  ·exact .inl e
  ·exact .inr (by have:=(mlt k e).1;omega)
  ·exact .inr (by have:=(clt k e).1;omega)
  ·exact .inr (by omega)
 ·obtain⟨h1,-,-⟩:=hG2' k hg
  rcases hk with hk|hk
  ·have:=(hs.inn k hk).2
   rcases h1 with e|e|e|e
   ·exact hFG k hk e
   ·have:=(mlt k e).1;omega
   ·have:=(clt k e).1;omega
   ·omega
  ·rcases h1 with e|e|e|e
   ·exact pvG k hk e
   ·exact pvm k hk e
   ·exact pvc k hk e
   ·have:=(hX.prog.prow.lt k hk).2;omega
theorem WIs.asked{R:Rule}{base:Nat}{w w':World}{B n:Nat}{lv:Value}{p:Nat->Nat}{F:Nat->Nat->Prop}{ms:Nat->List Nat}{bk:Value}{G:Nat->Prop}{es:List Entry}{q:Nat}(h:WIs base w B n lv p F ms (eI R base bk G es q)){d:Nat}(hd:d<n)(ha:zM R base w w' B lv bk (F d) G (p d) (ms d) q):
  ∃bk' G' es' F',WIs base w' B n lv p F' ms (eI R base bk' G' es' (q+1))/\Below base w w':=by
 obtain⟨bk',G',es',F',ho,hs,hbk,hes,hB,hF,hG,hFG⟩:=ha
 have hlt:∀i,i<n->∀k,F i k->k<w.heap.size:=fun i hi k hk=>by
  obtain⟨x,kv,y,lv',vs,pv,pb,hh⟩:=h.sides i hi
  exact(hh.inn k hk).2
 have hle:∀i,i<n->∀k,F i k->base<=k:=fun i hi k hk=>by
  obtain⟨x,kv,y,lv',vs,pv,pb,hh⟩:=h.sides i hi
  exact(hh.inn k hk).1
 have hBlt:=aA h.block
 have hrow:∀g,lv.ownBlock=some g->g<w.heap.size:=fun g hg=>(h.row.lt g hg).2
 have hrB:lv.ownBlock≠some B:=aZ h.row h.block (by decide)
 have off:∀k,k<w.heap.size->¬F d k->¬F' k:=fun k hk hn hf=>by
  rcases hF k hf with h1|h1
  ·exact hn h1
  ·omega
 have offG:∀k,k<w.heap.size->¬G k->¬G' k:=fun k hk hn hf=>by
  rcases (hG k hf).1 with h1|h1
  ·exact hn h1
  ·omega
 have key:∀i,i<n->i≠d->∀k,F i k->w'.heap[k]?=w.heap[k]?:=fun i hi hid k hk=>ho.block k (hlt i hi k hk) (fun hf=>by
  rcases hf with e|e|e
  ·exact h.apart i d hi hd hid k hk e
  ·exact h.apartG i hi k hk e
  ·subst e;exact h.notB i hi hk)
 refine⟨bk',G',es',fun i=>if i=d then F' else F i,⟨hB,h.le,aH h.row (fun g hg=>ho.block g (hrow g hg) (fun hf=>?_)),fun i hi=>?_,fun i j hi hj hij k hk=>?_,fun i hi=>?_,fun i hi g hg=>?_,h.four,⟨hbk,hes⟩,fun k hk=>(hG k hk).2,fun i hi k hk hg=>?_,offG B hBlt h.notBG,fun g hg=>offG g (hrow g hg) (h.notRowG g hg)⟩,ho.below (fun k hk=>?_) (Nat.le_trans h.le (Nat.le_of_lt hBlt))⟩
 ·rcases hf with e|e|e
  ·exact h.notRow d hd g hg e
  ·exact h.notRowG g hg e
  ·exact hrB (by rw[←e];exact hg)
 ·by_cases e:i=d
  ·subst e;simp only[if_true];exact hs
  ·simp only[if_neg e]
   obtain⟨x,kv,y,lv',vs,pv,pb,hh⟩:=(h.sides i hi).keep ho.size (key i hi e)
   obtain⟨pr,gr,la,en,hb,hZ⟩:=hh.block
   exact⟨x,kv,y,lv',vs,pv,pb,⟨pr,gr,la,en,hb,R.more _ _ _ _ _ _ _ hZ⟩,hh.le,hh.prog,hh.doc,hh.fp,hh.fx,hh.fy,hh.inn,hh.small⟩
 ·by_cases e:i=d
  ·subst e
   simp only[if_true,if_neg (Ne.symm hij)]at hk⊢
   intro hj'
   exact off k (hlt j hj k hj') (fun hf=>h.apart i j hi hj hij k hf hj') hk
  ·simp only[if_neg e]at hk
   by_cases e2:j=d
   ·subst e2
    simp only[if_true]
    exact off k (hlt i hi k hk) (h.apart i j hi hj hij k hk)
   ·simp only[if_neg e2];exact h.apart i j hi hj hij k hk
 ·by_cases e:i=d
  ·subst e;simp only[if_true];exact off B hBlt (h.notB i hi)
  ·simp only[if_neg e];exact h.notB i hi
 ·by_cases e:i=d
  ·subst e;simp only[if_true];exact off g (hrow g hg) (h.notRow i hi g hg)
  ·simp only[if_neg e];exact h.notRow i hi g hg
 ·by_cases e:i=d
  ·subst e
   simp only[if_true]at hk
   exact hFG k hk hg
  ·simp only[if_neg e]at hk
   exact offG k (hlt i hi k hk) (h.apartG i hi k hk) hg
 ·rcases hk with e|e|e
  ·exact hle d hd k e
  ·exact(h.inG k e).1
  ·rw[e];exact h.le
theorem WIs.later{R:Rule}{base:Nat}{w:World}{B n:Nat}{lv:Value}{p:Nat->Nat}{F:Nat->Nat->Prop}{ms:Nat->List Nat}{bk:Value}{G:Nat->Prop}{es:List Entry}{q:Nat}(h:WIs base w B n lv p F ms (eI R base bk G es q)):WIs base w B n lv p F ms (eI R base bk G es (q+1)):=by
 refine⟨h.block,h.le,h.row,fun i hi=>?_,h.apart,h.notB,h.notRow,h.four,⟨h.book.1,by have:=h.book.2;omega⟩,h.inG,h.apartG,h.notBG,h.notRowG⟩
 obtain⟨x,kv,y,lv',vs,pv,pb,hh⟩:=h.sides i hi
 obtain⟨pr,gr,la,en,hb,hZ⟩:=hh.block
 exact⟨x,kv,y,lv',vs,pv,pb,⟨pr,gr,la,en,hb,R.more _ _ _ _ _ _ _ hZ⟩,hh.le,hh.prog,hh.doc,hh.fp,hh.fx,hh.fy,hh.inn,hh.small⟩
end Go.Proofs.YtekkkoipcghlmaaGreatDoor
namespace Go.Proofs.YtekkkoipcghlmaaGreatDoor
open Go.RowKit
theorem SolveRes.since{base x:Nat}{kv pv vm vc:Value}{ms:List Nat}{pb:List UInt8}{A:List Int}{B kind cf:Int}{w w1 w':World}(hb:Below w.heap.size w w1)(h:SolveRes base x kv ms pv pb A B w1 kind vm vc cf w'):SolveRes base x kv ms pv pb A B w kind vm vc cf w':=by
 obtain⟨S,D,pv',core,hW,h1,h2,h3,h4,h5,h6⟩:=h
 refine⟨S,D,pv',core,hW.from hb,h1,h2,h3,h4,h5,?_⟩
 rcases h6 with⟨a1,a2,b,a3,a4,a5,a6⟩|⟨a1,a2,a3,a4,a5⟩|h6
 ·exact .inl ⟨a1,a2,b,a3,a4,a5,bC a6 hb.size⟩
 ·exact .inr (.inl ⟨a1,a2,a3,bC a4 hb.size,a5⟩)
 ·exact .inr (.inr h6)
theorem SolveRes.shape{base x:Nat}{kv pv vm vc:Value}{ms:List Nat}{pb:List UInt8}{A:List Int}{B kind cf:Int}{w w':World}(h:SolveRes base x kv ms pv pb A B w kind vm vc cf w'):∃mo mk mc co ck cc,vm=.slice mo mk mc/\vc=.slice co ck cc:=by
 obtain⟨S,D,pv',core,hW,h1,h2,h3,h4,h5,h6⟩:=h
 rcases h6 with⟨_,rfl,b,_,_,_,hm⟩|⟨_,rfl,_,hr,_⟩|⟨_,rfl,rfl,_⟩
 ·obtain⟨a,c,rfl⟩:=aC hm
  exact⟨_,_,_,_,_,_,rfl,rfl⟩
 ·obtain⟨a,c,rfl⟩:=aC hr
  exact⟨_,_,_,_,_,_,rfl,rfl⟩
 ·exact⟨_,_,_,_,_,_,rfl,rfl⟩
def Sol(base x:Nat)(kv:Value)(ms:List Nat)(pv:Value)(pb:List UInt8)(A:List Int)(b:Int)(F:Nat->Prop)(kind:Int)(mo:Option Addr)(mk mc:Nat)(co:Option Addr)(ck cc:Nat)(cf er:Int)(wL w2:World):Prop:=
 Only F wL w2/\(((bD A=false/\er=1∨bD A=true/\b<0/\er=3)/\(kind=0/\mo=none/\mk=0/\mc=0/\co=none/\ck=0/\cc=0/\cf=0)/\Below wL.heap.size wL w2)∨
  bD A=true/\0<=b/\er=0/\SolveRes base x kv ms pv pb (once A) b wL kind (.slice mo mk mc) (.slice co ck cc) cf w2)
theorem iU{A:List Int}(h:bD A=true):Lits A:=fun y hy=>cJ.1 (by rw[bD,List.all_eq_true]at h;exact h y hy)
section
variable {R:Rule}{base:Nat}{w wL w2 wx w4:World}{F G:Nat->Prop}{p x y:Nat}{kv lv:Value}{vs:List Value}{ms:List Nat}{pv:Value}{pb:List UInt8}{bk:Value}{es:List Entry}{q:Nat}{A:List Int}{b kind cf:Int}{mo co:Option Addr}{mk mc ck cc:Nat}
theorem aQ5{g0 cap:Nat}(hs:SideIs base w F p x kv y lv vs ms pv pb (eI R base bk G es q))(hA:Below w.heap.size w wL)(hrow:wL.heap[g0]?=some (.cells (ints (A++[77,0])).toArray 3 (0,0)))(he:EnvFrom base w)(hml:ms.length<=3000000)(hq:q<=199000)(hl:A.length<=10000000)(hb0:-9223372036854775808<=b)(hb1:b<=9223372036854775807):
  ∀wx,Below wL.heap.size wL wx->Calls Tryz.prog 18 #[.pointer (some ⟨x,0,none⟩),.slice (some ⟨g0,0,none⟩) A.length cap,.int .i64 b] wx fun e w'=>∃kind mo mk mc co ck cc cf er,e=.returned (.tuple #[.agg #[.int .i64 kind,.slice mo mk mc,.slice co ck cc,.int .i64 cf],.int .i64 er])/\Hid (Sol base x kv ms pv pb A b F kind mo mk mc co ck cc cf er wL w')/\Hid (wx.heap.size<=w'.heap.size/\∀k,(k=p∨w.heap.size<=k)->k<wx.heap.size->w'.heap[k]?=wx.heap[k]?):=by
 intro wx ha
 obtain⟨pr,gr,la,en,hblk,hZ⟩:=hs.block
 obtain⟨⟨k1,k2⟩,k3⟩:=R.ok _ _ _ _ _ _ _ hZ
 have hbase:base<=w.heap.size:=Nat.le_trans hs.le (Nat.le_of_lt (hs.inn p hs.fp).2)
 have hax:Below w.heap.size w wx:=hA.trans (ha.mono hA.size)
 have hpb:pb.length<=140000000000000:=Nat.le_trans k3 (Nat.le_trans (Nat.mul_le_mul_right _ hq) (by decide))
 have hXx:=hs.prog.below hax
 refine(aA2 base x kv pv _ ms pb A b wx hXx ⟨k1,k2,hml⟩ (he.below (hax.mono hbase)) ((vQ hrow).below ha) hl hb0 hb1 hpb).mono ?_
 rintro e w' (⟨h1,rfl,h2⟩|⟨h1,h2,rfl,h3⟩|⟨h1,h2,kind,vm,vc,cf,rfl,h3⟩)
 ·have hb:Below wL.heap.size wL w':=ha.trans (h2.mono ha.size)
  exact⟨0,none,0,0,none,0,0,0,1,rfl,aq ⟨Only.of_below _ hb,.inl ⟨.inl ⟨h1,rfl⟩,⟨rfl,rfl,rfl,rfl,rfl,rfl,rfl,rfl⟩,hb⟩⟩,aq ⟨h2.size,fun k _ hk=>h2.block k hk⟩⟩
 ·have hb:Below wL.heap.size wL w':=ha.trans (h3.mono ha.size)
  exact⟨0,none,0,0,none,0,0,0,3,rfl,aq ⟨Only.of_below _ hb,.inl ⟨.inr ⟨h1,h2,rfl⟩,⟨rfl,rfl,rfl,rfl,rfl,rfl,rfl,rfl⟩,hb⟩⟩,aq ⟨h3.size,fun k _ hk=>h3.block k hk⟩⟩
 ·obtain⟨mo,mk,mc,co,ck,cc,rfl,rfl⟩:=h3.shape
  have h4:=h3.since ha
  obtain⟨S,D,pv',core,hW,-⟩:=h3
  have ho:Only F wL w':=(Only.of_below _ ha).trans (hs.overP hax hW.2.1).2.1
  refine⟨kind,mo,mk,mc,co,ck,cc,cf,0,rfl,aq ⟨ho,.inr ⟨h1,h2,rfl,h4⟩⟩,aq ⟨hW.2.1.size,fun k hk hlt=>hW.2.1.block k hlt (fun hf=>?_)⟩⟩
  rcases hk with rfl|hk
  ·have hpw:=(hax.block _ (aA hblk)).trans hblk
   rcases hf with e|e
   ·subst e;have:=hpw.symm.trans hXx.block;simp at this
   ·exact aZ hXx.prow hpw (by decide) e
  ·rcases hf with e|e
   ·have:=(hs.inn x hs.fx.1).2;omega
   ·have:=(hs.prog.prow.lt k e).2;omega
def RBox(wL w2 wz:World)(rb:Nat)(ro:Array Value):Prop:=Only (·=rb) w2 wz/\wz.heap[rb]?=some (.cells ro 34 (0,0))/\wL.heap.size<=rb/\(w2.heap.size<=rb∨∃cs,w2.heap[rb]?=some (.cells cs 34 (0,0)))
theorem RBox.row{wz:World}{rb:Nat}{ro:Array Value}(h:RBox wL w2 wz rb ro){e:TypeId}{b n:Nat}{u:Value}{l:List Value}(hr:w2.ownsRow b e 1 u n l)(he:34≠e):∀g,u.ownBlock=some g->wz.heap[g]?=w2.heap[g]?:=fun g hg=>h.1.block g (hr.lt g hg).2 (fun e=>by
 subst e
 rcases h.2.2.2 with h1|⟨cs,h1⟩
 ·have:=(hr.lt _ hg).2;omega
 ·exact aZ hr h1 he hg)
theorem aA9{g0 rb:Nat}{ob:Obj}{ro:Array Value}(hs:SideIs base w F p x kv y lv vs ms pv pb (eI R base bk G es q))(hA:Below w.heap.size w wL)(hob:wL.heap[w.heap.size]?=some ob)(hg0:w.heap.size<g0)(hgL:g0<wL.heap.size)(hr:SolveRes base x kv ms pv pb (once A) b wL kind (.slice mo mk mc) (.slice co ck cc) cf w2)(hAL:Lits A)(hR:RBox wL w2 wx rb ro)(ho:Only (·=g0) wx w4)(hb0:0<=b):
  ∃pv' pb' xs ys pr gr la en,SMid base w F p x y kv lv vs ms pv' pb' wL.heap.size (.slice mo mk mc) (.slice co ck cc) mk ck xs ys ob rb ro pr gr la en w4/\mk<=24/\ck<=24/\ys.length=ck/\(mo=none∨co=none)/\(∀z,z∈ys->z≠0/\-12<=z/\z<=12)/\(∀la',la'=bs (Sp.told (Sp.sorted (ys.map (fun x=>-x))))->R.I (q+1) ms pb' pr true la' (decide (kind=2)))/\0<=cf/\(0<b->cf<=b)/\
   ((kind=1/\co=none/\ck=0/\cc=0/\∃bb,bb<4096/\(∀x,x∈A->tru bb x=true)/\(∀g,g∈ms->cU bb g)/\Lies w4 (.slice mo mk mc) (ints (dF bb)))∨
   (kind=2/\mo=none/\mk=0/\mc=0/\∃p:Int->Bool,Lies w4 (.slice co ck cc) (ints ((once A).filter p))/\ck<=cc/\∀bb,(∀g,g∈ms->cU bb g)->∃x,x∈(once A).filter p/\tru bb x=false)∨
   (kind=3/\mo=none/\mk=0/\mc=0/\co=none/\ck=0/\cc=0/\0<b/\cf=b)):=by
 obtain⟨hc0,hc1,hans⟩:=hr.answer hAL hb0
 obtain⟨S,D,pv',core,hW,hch,hwf,hlen,-,-,h6⟩:=hr
 obtain⟨hY,oF,pr,gr,la,en,hblk,hZ⟩:=hs.overP hA hW.2.1
 have s1:=hA.size
 have s2:=oF.size
 have s3:=hR.1.size
 have hrn:=hR.2.2.1
 have s4:=ho.size
 have h24:=aQ7 hAL
 obtain⟨xs,ys,hm,hc,hmk,hck,hyl,hone,hyb,hk2⟩:∃xs ys,w2.ownsRow wL.heap.size 3 1 (.slice mo mk mc) mk (ints xs)/\w2.ownsRow wL.heap.size 3 1 (.slice co ck cc) ck (ints ys)/\mk<=24/\ck<=24/\ys.length=ck/\(mo=none∨co=none)/\(∀z,z∈ys->z≠0/\-12<=z/\z<=12)/\(kind=2->ys=core/\Sp.Fol (ms++D) (Sp.maskOf (core.map (fun x=>-x)))):=by
  rcases h6 with⟨k1,h2,b,_,_,_,h3⟩|⟨_,h2,⟨p,hp⟩,h3,hf⟩|⟨k1,h2,h3,_,_⟩
  ·cases h2
   have e:mk=12:=by
    obtain⟨a,c',hs⟩:=aC h3
    simp only[Value.slice.injEq]at hs
    exact hs.2.1
   subst e
   exact⟨dF b,[],h3,World.ownsRow_nil _ _ _ _,by omega,by omega,rfl,.inr rfl,fun z hz=>(by cases hz),fun h=>by omega⟩
  ·cases h2
   have e:ck=core.length:=by
    obtain⟨a,c',hs⟩:=aC h3
    simp only[Value.slice.injEq]at hs
    exact hs.2.1
   subst e
   have hl:core.length<=(once A).length:=by rw[hp];exact List.length_filter_le _ _
   exact⟨[],core,World.ownsRow_nil _ _ _ _,h3,by omega,by omega,rfl,.inl rfl,fun z hz=>by rw[hp]at hz;exact hAL z ((fH A z).1 (List.mem_filter.1 hz).1),fun _=>⟨rfl,hf⟩⟩
  ·cases h2
   cases h3
   exact⟨[],[],World.ownsRow_nil _ _ _ _,World.ownsRow_nil _ _ _ _,by omega,by omega,rfl,.inl rfl,fun z hz=>(by cases hz),fun h=>by omega⟩
 have pvl:∀g,pv'.ownBlock=some g->F g∨wL.heap.size<=g:=fun g hg=>by
  rcases hW.2.2 g hg with e|e
  ·exact .inl (hs.fx.2.2 g e)
  ·exact .inr e
 have hnF:¬F w.heap.size:=fun hf=>by have:=(hs.inn _ hf).2;omega
 have lowz:∀k,k<wL.heap.size->wx.heap[k]?=w2.heap[k]?:=fun k hk=>hR.1.block k (by omega) (by omega)
 have lowF:∀k,F k->wx.heap[k]?=w2.heap[k]?:=fun k hk=>lowz k (by have:=(hs.inn k hk).2;omega)
 have o2:Only F w w2:=(Only.of_below _ hA).trans oF
 have hmid:SMid base w F p x y kv lv vs ms pv' _ wL.heap.size (.slice mo mk mc) (.slice co ck cc) mk ck xs ys ob rb ro pr gr la en wx:=
  ⟨⟨hR.1.os.trans o2.os,hR.1.tape.trans o2.tape,hR.1.output.trans o2.output,by omega,fun k hk hn=>(lowz k (by omega)).trans (o2.block k hk hn)⟩,⟨(lowF x hs.fx.1).trans hW.1.block,hW.1.le,aH hW.1.row (fun g hg=>lowF g (hs.fx.2.1 g hg)),aH hW.1.prow (hR.row hW.1.prow (by decide))⟩,hY.keep hs.fy lowF,(lowF p hs.fp).trans hblk,fun g hg=>(pvl g hg).imp id (fun e=>by omega),aH hm (hR.row hm (by decide)),aH hc (hR.row hc (by decide)),(lowz _ (by omega)).trans ((oF.block _ (by omega) hnF).trans hob),hR.2.1⟩
 have stm:∀g,(Value.slice mo mk mc).ownBlock=some g->w4.heap[g]?=w2.heap[g]?:=fun g hg=>(ho.block g (by have:=(hm.lt g hg).2;omega) (by have:=(hm.lt g hg).1;omega)).trans (hR.row hm (by decide) g hg)
 have stc:∀g,(Value.slice co ck cc).ownBlock=some g->w4.heap[g]?=w2.heap[g]?:=fun g hg=>(ho.block g (by have:=(hc.lt g hg).2;omega) (by have:=(hc.lt g hg).1;omega)).trans (hR.row hc (by decide) g hg)
 refine⟨pv',_,xs,ys,pr,gr,la,en,hmid.step hs ho (fun k hk=>?_),hmk,hck,hyl,hone,hyb,fun la' hla=>R.solve q ms pb pr gr la en S D core kind la' hZ hch hwf hlen (fun hk=>?_),hc0,hc1,?_⟩
 ·subst hk
  refine⟨hg0,fun e=>?_,fun e=>by have:=(hm.lt _ e).1;omega,fun e=>by have:=(hc.lt _ e).1;omega,by omega⟩
  rcases pvl _ e with e|e
  ·have:=(hs.inn _ e).2;omega
  ·omega
 ·obtain⟨e1,e2⟩:=hk2 hk
  subst e1
  exact⟨hyb,e2,hla⟩
 ·rcases hans with⟨a1,a2,a3,a4,bb,a5,a6,a7,a8⟩|⟨a1,a2,a3,a4,pp,a5,a6,a7⟩|a
  ·exact .inl ⟨a1,a2,a3,a4,bb,a5,a6,a7,bS a8 (by omega) stm⟩
  ·exact .inr (.inl ⟨a1,a2,a3,a4,pp,bS a5 (by omega) stc,a6,a7⟩)
  ·exact .inr (.inr a)
end
end Go.Proofs.YtekkkoipcghlmaaGreatDoor
