import Derived.Test.YtekkkoipcghlmaaGreatDoorU33
import Derived.Test.YtekkkoipcghlmaaGreatDoorU38
import Derived.Test.YtekkkoipcghlmaaGreatDoorU41
import Derived.Test.YtekkkoipcghlmaaGreatDoorU31
import Derived.Test.YtekkkoipcghlmaaGreatDoorU40
import Derived.Maps.OwnSet
import Derived.OneCell
set_option linter.all false
namespace Go.Proofs.YtekkkoipcghlmaaGreatDoor
open Go.RowKit
set_option maxRecDepth 100000 in
theorem sJ(base x:Nat)(kv:Value)(ms:List Nat)(w:World)(pv:Value)(pb:List UInt8)(hX:XAt base w x kv ms pv pb)(hms:ms.length<=10000000)(hsm:∀m,m∈ms->m<2 ^ 24)(he:EnvT w):
  Calls Tryz.prog 27 #[.pointer (some ⟨x,0,none⟩)] w fun e w'=>e=.returned (.string (bs (aV ms)))/\Below w.heap.size w w':=by
 have HP:=aq (iK kv ms w hms hsm (aE hX.row (by simp[us])) he)
 have hc0:w.cell? ⟨x,0,none⟩=some kv:=by simp[World.cell?,hX.block]
 obtain⟨ao,cp,hsh⟩:=aC hX.row
 subst hsh
 clear hX
 go_enter Tryz.func27,Tryz.ntmps27
 go_wp2_with fail
 refine(dz HP).mono ?_
 rintro e w1 ⟨rfl,hb1⟩
 go_wp2
 go_ret
 exact⟨rfl,hb1⟩
set_option maxRecDepth 100000 in
theorem yX(base x:Nat)(kv:Value)(ms:List Nat)(w:World)(pv:Value)(pb:List UInt8)(hX:XAt base w x kv ms pv pb):
  Calls Tryz.prog 26 #[.pointer (some ⟨x,0,none⟩)] w fun e w'=>e=.returned (.tuple #[])/\XAt base w' x (.slice none 0 0) [] (.slice none 0 0) []/\Only (·=x) w w':=by
 have hc0:w.cell? ⟨x,0,none⟩=some kv:=by simp[World.cell?,hX.block]
 have hc1:w.cell? ⟨x,1,none⟩=some (.int .i64 (aW ms:Int)):=by simp[World.cell?,hX.block]
 have hf0:w.frozen? ⟨x,0,none⟩=false:=frozen_of_row w _ _ _ _ hX.block
 have hf1:w.frozen? ⟨x,1,none⟩=false:=frozen_of_row w _ _ _ _ hX.block
 have hc2:w.cell? ⟨x,2,none⟩=some pv:=by simp[World.cell?,hX.block]
 have hf2:w.frozen? ⟨x,2,none⟩=false:=frozen_of_row w _ _ _ _ hX.block
 have HX:=aq hX
 clear hX
 go_enter Tryz.func26,Tryz.ntmps26
 go_wp2
 go_end0
 have h0:=heap_setCell_same w x 0 _ _ (.slice none 0 0) (dz HX).block
 have h1:=heap_setCell_same _ x 1 _ _ (.int .i64 0) h0
 have h2:=heap_setCell_same _ x 2 _ _ (.slice none 0 0) h1
 exact⟨rfl,⟨by rw[h2];rfl,(dz HX).le,World.ownsRow_nil _ _ _ _,World.ownsRow_nil _ _ _ _⟩,(Only.setCell (F:=(·=x)) (p:=⟨x,0,none⟩) rfl _ _).trans ((Only.setCell (F:=(·=x)) (p:=⟨x,1,none⟩) rfl _ _).trans (Only.setCell (F:=(·=x)) (p:=⟨x,2,none⟩) rfl _ _))⟩
end Go.Proofs.YtekkkoipcghlmaaGreatDoor
namespace Go.Proofs.YtekkkoipcghlmaaGreatDoor
open Go.RowKit
theorem pY(ms:List Nat)(k:Nat)(h:k<ms.length):aV (ms.take (k+1))=aV (ms.take k)++Sp.told (Sp.litsOf ms[k]):=by
 rw[List.take_succ_eq_append_getElem h,kE]
set_option maxRecDepth 100000 in
set_option maxHeartbeats 800000 in
theorem sG(base y:Nat)(lv:Value)(vs:List Value)(ms:List Nat)(w:World)(hY:YAt base w y lv vs ms)(hms:ms.length<=10000000):
  Calls Tryz.prog 57 #[.pointer (some ⟨y,0,none⟩)] w fun e w'=>e=.returned (.string (bs (aV ms)))/\Below w.heap.size w w':=by
 have hc0:w.cell? ⟨y,0,none⟩=some lv:=by simp[World.cell?,hY.block]
 have hylt:=aA hY.block
 obtain⟨ao,cp,hsh⟩:=aC hY.row
 subst hsh
 have HY:=aq hY
 clear hY
 go_enter Tryz.func57,Tryz.ntmps57
 go_wp2
 go_loopw [3,4] (fun o i wr=>∃k:Nat,k<=ms.length/\i=.int .i64 k/\o=.string (bs (aV (ms.take k)))/\Below w.heap.size w wr) (fun _ i _=>ms.length-(intOf i).toNat)
 case atStart=>exact⟨0,Nat.zero_le _,rfl,rfl,Below.refl _ _⟩
 case round=>
  obtain⟨k,hk,rfl,rfl,hbel⟩:=hrel
  have hcw:wr.cell? ⟨y,0,none⟩=some (.slice ao ms.length cp):=(hbel.cell (p:=⟨y,0,none⟩) hylt).trans hc0
  by_cases hlt:k<ms.length
  ·obtain⟨g,cp0,x,ao',cp',e1,hcx,e2,hlx⟩:=((dz HY).below hbel).pick hlt
   simp only[Value.slice.injEq]at e1
   obtain⟨rfl,-,rfl⟩:=e1
   have hml:=lD (ms.take k)
   have hml2:(ms.take k).length<=k:=List.length_take_le _ _
   have HS:=aq (pY ms k hlt)
   have htl:=dE ms[k]
   have HTO:=aq (pD x (Sp.litsOf ms[k]) wr (Nat.le_trans (bO _) (by decide)) (eW ms[k]) hlx)
   have hadd:∀wx,(Op.stringOp .add (bs (aV (ms.take k))) (bs (Sp.told (Sp.litsOf ms[k])))).run Tryz.prog wx=.ok (.string (bs (aV (ms.take k)++Sp.told (Sp.litsOf ms[k])))) wx:=fun wx=>dK _ _ (by omega) wx
   subst e2
   clear hlx
   generalize Sp.told (Sp.litsOf ms[k])=tl at *
   generalize (Sp.litsOf ms[k]).length=lk at *
   generalize aV (ms.take k)=mt at *
   go_wp2_with fail
   refine(dz HTO).mono ?_
   rintro e w1 ⟨rfl,hb1⟩
   go_wp2
   go_roundw
   case rel=>exact⟨k+1,by omega,by go_num,by rw[dz HS],hbel.trans (hb1.mono hbel.size)⟩
   case measure=>simp[intOf];omega
  ·have HT:Hid (ms.take k=ms):=aq (List.take_of_length_le (by omega))
   go_wp2
   go_ret
   exact⟨by rw[dz HT];rfl,hbel⟩
end Go.Proofs.YtekkkoipcghlmaaGreatDoor
namespace Go.Proofs.YtekkkoipcghlmaaGreatDoor
open Go.RowKit
theorem cZ{w:World}{b1 b2 n m s1 s2:Nat}{e1 e2:TypeId}{x y:Value}{xs ys:List Value}(he:e1≠e2)(hx:w.ownsRow b1 e1 s1 x n xs)(hy:w.ownsRow b2 e2 s2 y m ys){g:Nat}(h1:x.ownBlock=some g)(h2:y.ownBlock=some g):False:=by
 rcases hy.2 with⟨hv,_⟩|⟨g',cap,cur,hv,_,hg,_⟩
 ·rw[hv]at h2;cases h2
 ·rw[hv]at h2
  simp[Value.ownBlock]at h2
  subst h2
  exact aZ hx hg (Ne.symm he) h1
theorem YAt.overX{pv:Value}{pb:List UInt8}{base:Nat}{w w':World}{x y:Nat}{kv lv:Value}{vs:List Value}{ms ms':List Nat}(hY:YAt base w y lv vs ms')(hX:XAt base w x kv ms pv pb)(ho:Only (XF x kv) w w'):YAt base w' y lv vs ms':=by
 have hyx:y≠x:=by intro e;subst e;have:=hX.block.symm.trans hY.block;simp at this
 refine⟨(ho.block y (aA hY.block) (fun h=>h.elim hyx (aZ hX.row hY.block (by decide)))).trans hY.block,hY.le,aH hY.row (fun g hg=>ho.block g (hY.row.lt g hg).2 (fun h=>h.elim (fun e=>aZ hY.row hX.block (by decide) (by rw[←e];exact hg)) (fun e=>cZ (by decide) hX.row hY.row e hg))),hY.rows.1,fun i r c hr hc=>?_⟩
 have hrow:=hY.rows.2 i r c hr hc
 exact aH hrow (fun g hg=>ho.block g (hrow.lt g hg).2 (fun h=>h.elim (fun e=>aZ hrow hX.block (by decide) (by rw[←e];exact hg)) (fun e=>cZ (by decide) hX.row hrow e hg)))
theorem XAt.overY{pv:Value}{pb:List UInt8}{base:Nat}{w w':World}{x y:Nat}{kv lv:Value}{vs:List Value}{ms ms':List Nat}(hX:XAt base w x kv ms pv pb)(hY:YAt base w y lv vs ms')(ho:Only (YF y lv) w w'):XAt base w' x kv ms pv pb:=by
 have hyx:x≠y:=by intro e;subst e;have:=hX.block.symm.trans hY.block;simp at this
 exact⟨(ho.block x (aA hX.block) (fun h=>h.elim hyx (aZ hY.row hX.block (by decide)))).trans hX.block,hX.le,aH hX.row (fun g hg=>ho.block g (hX.row.lt g hg).2 (fun h=>h.elim (fun e=>aZ hX.row hY.block (by decide) (by rw[←e];exact hg)) (fun e=>cZ (by decide) hX.row hY.row hg e))),aH hX.prow (fun g hg=>ho.block g (hX.prow.lt g hg).2 (fun h=>h.elim (fun e=>aZ hX.prow hY.block (by decide) (by rw[←e];exact hg)) (fun e=>cZ (by decide) hX.prow hY.row hg e)))⟩
theorem XAt.overG{pv:Value}{pb:List UInt8}{base:Nat}{w w':World}{x g:Nat}{kv:Value}{ms:List Nat}(hX:XAt base w x kv ms pv pb)(ho:Only (·=g) w w')(h1:x≠g)(h2:kv.ownBlock≠some g)(h3:pv.ownBlock≠some g):XAt base w' x kv ms pv pb:=
 ⟨(ho.block x (aA hX.block) h1).trans hX.block,hX.le,aH hX.row (fun k hk=>ho.block k (hX.row.lt k hk).2 (fun e=>h2 (by rw[←e];exact hk))),aH hX.prow (fun k hk=>ho.block k (hX.prow.lt k hk).2 (fun e=>h3 (by rw[←e];exact hk)))⟩
theorem YAt.overG{base:Nat}{w w':World}{y g:Nat}{lv:Value}{vs:List Value}{ms:List Nat}(hY:YAt base w y lv vs ms)(ho:Only (·=g) w w')(h1:y≠g)(h2:lv.ownBlock≠some g)(h3:∀v,v∈vs->v.ownBlock≠some g):YAt base w' y lv vs ms:=
 ⟨(ho.block y (aA hY.block) h1).trans hY.block,hY.le,aH hY.row (fun k hk=>ho.block k (hY.row.lt k hk).2 (fun e=>h2 (by rw[←e];exact hk))),hY.rows.1,fun i r c hr hc=>
  aH (hY.rows.2 i r c hr hc) (fun k hk=>ho.block k ((hY.rows.2 i r c hr hc).lt k hk).2 (fun e=>h3 r (List.mem_of_getElem? hr) (by rw[←e];exact hk)))⟩
theorem lX{F:Nat->Prop}{w w':World}{v:Value}{vs:List Value}(h:Lies w v vs)(ho:Only F w w')(hn:vs≠[]->∀g,v.ownBlock=some g->g<w.heap.size->¬F g):Lies w' v vs:=by
 rcases h with h|⟨b,off,cap,hp,rfl,hb,hc⟩
 ·exact .inl h
 ·exact .inr ⟨b,off,cap,hp,rfl,Nat.lt_of_lt_of_le hb ho.size,fun k x hx=>(World.cell?_of_block (w:=w) (a:=⟨b,off+k,none⟩) (ho.block b hb (hn (List.length_pos_iff.1 hp) b rfl hb))).trans (hc k x hx)⟩
def dO(kind a b:Int)(s t:List UInt8)(v:Value):Value:=.agg #[.int .i64 kind,.int .i64 a,.int .i64 b,.string (bs s),.string (bs t),v]
end Go.Proofs.YtekkkoipcghlmaaGreatDoor
namespace Go.Proofs.YtekkkoipcghlmaaGreatDoor.Sp
structure Untrue(L:List Nat)(m u:Nat):Prop where
 lt:u<2 ^ 24
 has:∀i,m.testBit i=true->u.testBit i=true
 least:∀U:Nat->Prop,(∀i,m.testBit i=true->U i)->mJ L U->∀i,u.testBit i=true->U i
def Quiet(u c:Nat):Prop:=aS c u≠0/\(eZ (aS c u)=true->u ||| aK (aS c u)=u)
theorem Untrue.start{L:List Nat}{m:Nat}(hm:m<2 ^ 24):Untrue L m m:=⟨hm,fun _ h=>h,fun _ h _=>h⟩
section
variable {L:List Nat}{m u c:Nat}
theorem aI7(hc:c<2 ^ 24)(h1:eZ (aS c u)=true):∃k,k<24/\aS c u=2 ^ k/\aK (aS c u)=2 ^ opp k:=by
 have:dY (aS c u)=1:=by unfold eZ at h1;simpa using h1
 obtain⟨k,hk,he⟩:=(wK (iO u hc)).1 this
 exact⟨k,hk,he,by rw[he];exact nT hk⟩
theorem aF1{k:Nat}(he:aS c u=2 ^ k):c.testBit k=true/\u.testBit k=false/\∀j,c.testBit j=true->j≠k->u.testBit j=true:=by
 have hb:=fun i=>eS c u i
 rw[he]at hb
 have hk:=hb k
 rw[Nat.testBit_two_pow_self]at hk
 have hk':=hk.symm
 rw[Bool.and_eq_true]at hk'
 refine⟨hk'.1,by simpa using hk'.2,fun j hj hne=>?_⟩
 have:=hb j
 rw[Nat.testBit_two_pow_of_ne (fun e=>hne e.symm),hj]at this
 simpa using this
theorem Untrue.more(h:Untrue L m u)(hcL:c∈L)(hc:c<2 ^ 24)(h1:eZ (aS c u)=true):Untrue L m (u ||| aK (aS c u)):=by
 obtain⟨k,hk,he,ho⟩:=aI7 hc h1
 obtain⟨hck,huk,hoth⟩:=aF1 he
 refine⟨Nat.or_lt_two_pow h.lt (kR (iO u hc)),fun i hi=>?_,fun U hU hs i hi=>?_⟩
 ·rw[Nat.testBit_or,h.has i hi];rfl
 ·rw[Nat.testBit_or,Bool.or_eq_true]at hi
  rcases hi with hi|hi
  ·exact h.least U hU hs i hi
  ·rw[ho]at hi
   have hik:i=opp k:=by
    by_cases e:opp k=i
    ·exact e.symm
    ·rw[Nat.testBit_two_pow_of_ne e]at hi;cases hi
   subst hik
   obtain⟨⟨j,hj,hjn⟩,hun⟩:=hs c hcL
   have hoth':∀j,c.testBit j=true->j≠k->U j:=fun j hj hne=>h.least U hU hs j (hoth j hj hne)
   have hjk:j=k:=by
    by_cases e:j=k
    ·exact e
    ·exact absurd (hoth' j hj e) hjn
   subst hjk
   exact hun j hj hjn hoth'
theorem Untrue.conflict(h:Untrue L m u)(hcL:c∈L)(h0:aS c u=0):Fol L m:=by
 refine .inr fun U hU hs=>?_
 obtain⟨⟨j,hj,hjn⟩,_⟩:=hs c hcL
 have:=eS c u j
 rw[h0,hj]at this
 simp at this
 exact hjn (h.least U hU hs j this)
theorem Untrue.fixed(h:Untrue L m u)(hm:m<2 ^ 24)(hL:∀c,c∈L->c<2 ^ 24)(hno:aO m=false)(hq:∀c,c∈L->Quiet u c):¬Fol L m:=by
 rintro(hx|hx)
 ·rw[(eP hm).2 hx]at hno;cases hno
 ·refine hx (fun i=>u.testBit i=true) h.has fun c hc=>?_
  obtain⟨h0,h1⟩:=hq c hc
  obtain⟨i,hi⟩:=Nat.exists_testBit_of_ne_zero h0
  rw[eS,Bool.and_eq_true]at hi
  refine⟨⟨i,hi.1,by simpa using hi.2⟩,fun k hk hkn hoth=>?_⟩
  have hk24:k<24:=by
   rcases Nat.lt_or_ge k 24 with h|h
   ·exact h
   ·rw[Nat.testBit_lt_two_pow (Nat.lt_of_lt_of_le (hL c hc) (Nat.pow_le_pow_right (by decide) h))]at hk;cases hk
  have hkf:u.testBit k=false:=by simpa using hkn
  have he:aS c u=2 ^ k:=by
   apply Nat.eq_of_testBit_eq
   intro j
   rw[eS]
   by_cases e:j=k
   ·subst e;rw[hk,hkf,Nat.testBit_two_pow_self];rfl
   ·rw[Nat.testBit_two_pow_of_ne (fun e'=>e e'.symm)]
    by_cases hcj:c.testBit j=true
    ·rw[hoth j hcj e];simp
    ·rw[show c.testBit j=false from by simpa using hcj];rfl
  have hone:eZ (aS c u)=true:=by
   unfold eZ;rw[he,(wK (Nat.pow_lt_pow_right (by decide) hk24)).2 ⟨k,hk24,rfl⟩];rfl
  have:=h1 hone
  rw[he,nT hk24]at this
  show u.testBit (opp k)=true
  rw[←this,Nat.testBit_or,Nat.testBit_two_pow_self];simp
theorem or_grows{a b c:Nat}(h:a ||| b=b):a ||| (b ||| c)=b ||| c:=by rw[←Nat.or_assoc,h]
theorem or_le{a b:Nat}(h:a ||| b=b):a<=b:=by rw[←h];exact Nat.left_le_or
theorem or_back{a b c:Nat}(h:a ||| b=b)(he:b ||| c=a):b=a:=by
 have h1:b<=a:=by rw[←he];exact Nat.left_le_or
 have h2:=or_le h
 omega
end
end Go.Proofs.YtekkkoipcghlmaaGreatDoor.Sp
namespace Go.Proofs.YtekkkoipcghlmaaGreatDoor
open Go.RowKit
def EntsLie(w:World)(v:Value)(E:List (Nat×Nat)):Prop:=
 (E=[]/\∃ao cap,v=.slice ao 0 cap)∨
 (∃b cap,0<E.length/\v=.slice (some ⟨b,0,none⟩) E.length cap/\b<w.heap.size/\∀k x,E[k]?=some x->w.cell? ⟨b,k*2,none⟩=some (.int .u32 (x.1:Int))/\w.cell? ⟨b,k*2+1,none⟩=some (.int .i64 (x.2:Int)))
theorem nU{w:World}{v:Value}{E:List (Nat×Nat)}(h:EntsLie w v E):∃ao cap,v=.slice ao E.length cap:=by
 rcases h with⟨h0,ao,cap,rfl⟩|⟨b,cap,hp,rfl,hb,hc⟩
 ·subst h0;exact⟨_,_,rfl⟩
 ·exact⟨_,_,rfl⟩
def Live(E:List (Nat×Nat))(L:List Nat):Prop:=∀c,c∈L↔∃t,(c,t)∈E/\0<t
def aR1(L:List Nat)(m u u':Nat)(cf:Bool):Prop:=Sp.Untrue L m u'/\(cf=true->Sp.Fol L m)/\(cf=false->u ||| u'=u'/\(u'=u->∀c,c∈L->Sp.Quiet u c))
def zD(L:List Nat)(m u:Nat)(w:World)(e:Ending)(w':World):Prop:=∃(u':Nat) (cf:Bool),e=.returned (.tuple #[.int .u32 (u':Int),.bool cf])/\aR1 L m u u' cf/\Below w.heap.size w w'
set_option maxRecDepth 100000 in
set_option maxHeartbeats 1600000 in
theorem aL3(p:Nat)(ev:Value)(E:List (Nat×Nat))(L:List Nat)(m u:Nat)(w:World)(hcell:w.cell? ⟨p,0,none⟩=some ev)(hE:EntsLie w ev E)(hl:E.length<=10000000)(hlive:Live E L)
  (hsm:∀x,x∈E->x.2<=10000000/\(0<x.2->x.1<2 ^ 24)) (hu:Sp.Untrue L m u):
  Calls Tryz.prog 179 #[.pointer (some ⟨p,0,none⟩),.int .u32 u] w fun e w'=>zD L m u w e w':=by
 obtain⟨ao,cap,rfl⟩:=nU hE
 have HE:=aq hE
 have HU:=aq hu
 have HLV:=aq hlive
 have HSM:=aq hsm
 have hult:=hu.lt
 clear hE hu hlive hsm
 go_enter Tryz.func179,Tryz.ntmps179
 go_wp2
 go_loopw [1,14] (fun uu i wr=>∃(k u':Nat),k<=E.length/\i=.int .i64 k/\uu=.int .u32 u'/\u'<2 ^ 24/\Hid (Sp.Untrue L m u')/\Hid (u ||| u'=u')/\Hid (u'=u->∀x,x∈E.take k->0<x.2->Sp.Quiet u x.1)/\Below w.heap.size w wr) (fun _ i _=>E.length-(intOf i).toNat)
 case atStart=>exact⟨0,u,Nat.zero_le _,rfl,rfl,hult,HU,aq (Nat.or_self u),aq (fun _ x hx=>by simp at hx),Below.refl _ _⟩
 case round=>
  clear hult HU
  obtain⟨k,u',hk,rfl,rfl,hult,HU,HG,HQ,hbel⟩:=hrel
  by_cases hlt:k<E.length
  ·rcases dz HE with⟨h0,_⟩|⟨b,cap',hp,hsl,hb,hc⟩
   ·exfalso;rw[h0]at hlt;simp at hlt
   ·simp only[Value.slice.injEq]at hsl
    obtain⟨rfl,-,rfl⟩:=hsl
    obtain⟨hc0,hc1⟩:=hc k E[k] (List.getElem?_eq_getElem hlt)
    have hc0:=(hbel.cell (p:=⟨b,k*2,none⟩) hb).trans hc0
    have hc1:=(hbel.cell (p:=⟨b,k*2+1,none⟩) hb).trans hc1
    have hx:=dz HSM E[k] (List.getElem_mem hlt)
    have HXM:Hid (E[k]∈E):=aq (List.getElem_mem hlt)
    have HS:Hid (E.take (k+1)=E.take k++[E[k]]):=aq (List.take_succ_eq_append_getElem hlt)
    generalize E[k]=x at *
    obtain⟨c,t⟩:=x
    simp only at hc0 hc1 hx
    obtain⟨ht,hc24'⟩:=hx
    have HC24:=aq hc24'
    clear hc24'
    clear hc
    rcases Nat.eq_zero_or_pos t with ht0|ht0
    ·subst ht0
     have hbel1:=fun o=>hbel.alloc hbel.size o
     go_wp2
     go_roundw
     case rel=>exact⟨k+1,u',by omega,by go_num,rfl,hult,HU,HG,aq (fun he x hx=>by
      rw[dz HS]at hx
      rcases List.mem_append.1 hx with hx|hx
      ·exact dz HQ he x hx
      ·simp at hx;subst hx;intro h;simp at h),hbel1 _⟩
     case measure=>simp[intOf];omega
    ·have hq:((t:Int)==0)=false:=by rw[beq_eq_false_iff_ne];omega
     have hc24:=dz HC24 ht0
     have HCL:Hid (c∈L):=aq ((dz HLV c).2 ⟨t,dz HXM,ht0⟩)
     have hll:=iO u' hc24
     have el:=aA8 c u' (by omega) (by omega)
     have HLZ:Hid (aS c u'=0->Sp.Fol L m):=aq (fun h=>(dz HU).conflict (dz HCL) h)
     have HMO:Hid (eZ (aS c u')=true->Sp.Untrue L m (u' ||| aK (aS c u'))):=aq (fun h=>(dz HU).more (dz HCL) hc24 h)
     have hol:=kR hll
     have eo:=fV u' (aK (aS c u')) (by omega) (by omega)
     have HSI:=aq (fun wx=>yO (aS c u') wx hll)
     have HOP:=aq (fun wx=>gD (aS c u') wx hll)
     have HQN:Hid (aS c u'≠0->(eZ (aS c u')=true->u' ||| aK (aS c u')=u')->Sp.Quiet u' c):=aq (fun h1 h2=>⟨h1,h2⟩)
     generalize aS c u'=lm at *
     generalize aK lm=om at *
     generalize hob:eZ lm=ob at *
     clear hob
     have hbel1:=fun o=>hbel.alloc hbel.size o
     rcases Nat.eq_zero_or_pos lm with hl0|hl0
     ·subst hl0
      have HF:=aq (dz HLZ rfl)
      clear HLZ HMO eo
      go_wp2
      go_ret2
      exact⟨u',true,rfl,⟨dz HU,fun _=>dz HF,fun h=>(by cases h)⟩,hbel1 _⟩
     ·have hlq:((lm:Int)==0)=false:=by rw[beq_eq_false_iff_ne];omega
      have HL0:Hid (lm≠0):=aq (by omega)
      cases ob
      ·go_wp2_with fail
       refine(dz HSI _).mono ?_
       rintro e w1 ⟨rfl,q,rfl⟩
       go_wp2
       go_roundw
       case rel=>exact⟨k+1,u',by omega,by go_num,rfl,hult,HU,HG,aq (fun he x hx=>by
        rw[dz HS]at hx
        rcases List.mem_append.1 hx with hx|hx
        ·exact dz HQ he x hx
        ·simp at hx;subst hx;intro _;rw[←he];exact dz HQN (dz HL0) (fun h=>(by cases h))),below_drewN (hbel1 _) _⟩
       case measure=>simp[intOf];omega
      ·have HUN:=aq (dz HMO rfl)
       go_wp2_with fail
       refine(dz HSI _).mono ?_
       rintro e w1 ⟨rfl,q,rfl⟩
       go_wp2_with fail
       refine(dz HOP _).mono ?_
       rintro e w2 ⟨rfl,rfl⟩
       go_wp2
       go_roundw
       case rel=>exact⟨k+1,u' ||| om,by omega,by go_num,rfl,(dz HUN).lt,HUN,aq (Sp.or_grows (dz HG)),aq (fun he x hx=>by
        have hback:=Sp.or_back (dz HG) he
        rw[dz HS]at hx
        rcases List.mem_append.1 hx with hx|hx
        ·exact dz HQ hback x hx
        ·simp at hx;subst hx;intro _;rw[←hback];exact dz HQN (dz HL0) (fun _=>by rw[he,hback])),below_drewN (hbel1 _) _⟩
       case measure=>simp[intOf];omega
  ·have HT:Hid (E.take k=E):=aq (List.take_of_length_le (by omega))
   go_wp2
   go_ret2
   refine⟨u',false,rfl,⟨dz HU,fun h=>(by cases h),fun _=>⟨dz HG,fun he c hc=>?_⟩⟩,hbel⟩
   obtain⟨t,ht,ht0⟩:=(dz HLV c).1 hc
   exact dz HQ he (c,t) (by rw[dz HT];exact ht) ht0
end Go.Proofs.YtekkkoipcghlmaaGreatDoor
namespace Go.Proofs.YtekkkoipcghlmaaGreatDoor
open Go.RowKit
theorem EntsLie.below{w w':World}{v:Value}{E:List (Nat×Nat)}(h:EntsLie w v E)(hb:Below w.heap.size w w'):EntsLie w' v E:=by
 rcases h with h|⟨b,cap,hp,hv,hlt,hc⟩
 ·exact .inl h
 ·exact .inr ⟨b,cap,hp,hv,Nat.lt_of_lt_of_le hlt hb.size,fun k x hx=>⟨(hb.cell (p:=⟨b,k*2,none⟩) hlt).trans (hc k x hx).1,(hb.cell (p:=⟨b,k*2+1,none⟩) hlt).trans (hc k x hx).2⟩⟩
set_option maxRecDepth 100000 in
set_option maxHeartbeats 1600000 in
theorem pP(p:Nat)(ev:Value)(E:List (Nat×Nat))(L:List Nat)(m:Nat)(w:World)(hp:p<w.heap.size)(hcell:w.cell? ⟨p,0,none⟩=some ev)(hE:EntsLie w ev E)(hl:E.length<=10000000)(hlive:Live E L)
  (hsm:∀x,x∈E->x.2<=10000000/\(0<x.2->x.1<2 ^ 24)) (hL:Small L) (hm:m<2 ^ 24):
  Calls Tryz.prog 141 #[.pointer (some ⟨p,0,none⟩),.int .u32 m] w fun e w'=>yF L m w e w':=by
 have HA:=aq (fun wx=>iQ m wx hm)
 have HAI:=aq (eP hm)
 have HP:Hid (∀(u:Nat) (wx:World),Below w.heap.size w wx->Sp.Untrue L m u->Calls Tryz.prog 179 #[.pointer (some ⟨p,0,none⟩),.int .u32 u] wx fun e w'=>zD L m u wx e w'):=
  aq (fun u wx hb hu=>aL3 p ev E L m u wx ((hb.cell (p:=⟨p,0,none⟩) hp).trans hcell) (hE.below hb) hl hlive hsm hu)
 have HFX:Hid (∀u,Sp.Untrue L m u->aO m=false->(∀c,c∈L->Sp.Quiet u c)->¬Sp.Fol L m):=aq (fun u hu ha hq=>hu.fixed hm hL ha hq)
 have HST:Hid (Sp.Untrue L m m):=aq (Sp.Untrue.start hm)
 clear hcell hE hlive hsm hL
 cases ham:aO m
 ·rw[ham]at HA
  have HAM:=aq ham
  clear ham
  go_enter Tryz.func141,Tryz.ntmps141
  go_wp2_with fail
  refine(dz HA _).mono ?_
  rintro e w1 ⟨rfl,q,rfl⟩
  go_wp2
  go_loopw [5] (fun uu wr=>∃(u:Nat),uu=.int .u32 u/\Hid (Sp.Untrue L m u)/\Below w.heap.size w wr) (fun uu _=>16777216-(intOf uu).toNat)
  case atStart=>exact⟨m,rfl,HST,below_drewN (Below.refl _ _) _⟩
  case round=>
   obtain⟨u,rfl,HU,hbel⟩:=hrel
   go_wp2_with fail
   refine(dz HP u _ hbel (dz HU)).mono ?_
   rintro e w2 ⟨u',cf,rfl,ho,hb2⟩
   have hult':=ho.1.lt
   have hult:=(dz HU).lt
   have HO:=aq ho
   clear ho
   have hbel2:=hbel.trans (hb2.mono hbel.size)
   cases cf
   ·by_cases he:u'=u
    ·subst he
     have HF:Hid (¬Sp.Fol L m):=aq (dz HFX u' (dz HU) (dz HAM) (((dz HO).2.2 rfl).2 rfl))
     go_wp2
     go_ret
     exact⟨false,rfl,by simp[dz HF],hbel2⟩
    ·have hq:((u':Int)==(u:Int))=false:=by rw[beq_eq_false_iff_ne];omega
     have hle:=Sp.or_le ((dz HO).2.2 rfl).1
     go_wp2
     go_roundw
     case rel=>exact⟨u',rfl,aq (dz HO).1,hbel2⟩
     case measure=>simp[intOf];omega
   ·have HF:Hid (Sp.Fol L m):=aq ((dz HO).2.1 rfl)
    go_wp2
    go_ret
    exact⟨true,rfl,by simp[dz HF],hbel2⟩
 ·rw[ham]at HA
  have HF:Hid (Sp.Fol L m):=aq (.inl ((dz HAI).1 ham))
  clear ham
  go_enter Tryz.func141,Tryz.ntmps141
  go_wp2_with fail
  refine(dz HA _).mono ?_
  rintro e w1 ⟨rfl,q,rfl⟩
  go_wp2
  go_ret
  exact⟨true,rfl,by simp[dz HF],below_drewN (Below.refl _ _) _⟩
end Go.Proofs.YtekkkoipcghlmaaGreatDoor
namespace Go.Proofs.YtekkkoipcghlmaaGreatDoor
open Go.RowKit Go.Maps
def ents(E:List (Nat×Nat)):List Value:=E.flatMap fun x=>[.int .u32 (x.1:Int),.int .i64 (x.2:Int)]
theorem kZ(E:List (Nat×Nat)):∀(i:Nat) (x:Nat×Nat),E[i]?=some x->(ents E)[i*2]?=some (.int .u32 (x.1:Int))/\(ents E)[i*2+1]?=some (.int .i64 (x.2:Int)):=by
 induction E with
 | nil=>intro i x h;simp at h
 | cons a r ih=>
  intro i x h
  cases i with
  | zero=>simp at h;subst h;exact⟨rfl,rfl⟩
  | succ i=>
   have:=ih i x (by simpa using h)
   rw[show(i+1)*2=i*2+1+1 from by omega]
   exact this
theorem aK5(E:List (Nat×Nat))(t':Nat):∀(i c t:Nat),E[i]?=some (c,t)->(ents E).set (i*2+1) (.int .i64 (t':Int))=ents (E.set i (c,t')):=by
 induction E with
 | nil=>intro i c t h;simp at h
 | cons a r ih=>
  intro i c t h
  cases i with
  | zero=>simp at h;subst h;rfl
  | succ i=>
   have:=ih i c t (by simpa using h)
   rw[show(i+1)*2+1=i*2+1+1+1 from by omega]
   simp only[ents,List.flatMap_cons,List.cons_append,List.nil_append,List.set_cons_succ]at this⊢
   rw[this]
theorem aB8(E:List (Nat×Nat))(c t:Nat):ents (E++[(c,t)])=ents E++[.int .u32 (c:Int),.int .i64 (t:Int)]:=by
 unfold ents;rw[List.flatMap_append];rfl
structure Bag(E:List (Nat×Nat))(L:List Nat):Prop where
 count:∀x,x∈E->L.count x.1=x.2
 none:∀c,(∀x,x∈E->x.1≠c)->L.count c=0
 once:∀(i j:Nat) (x y:Nat×Nat),E[i]?=some x->E[j]?=some y->x.1=y.1->i=j
theorem Bag.live{E:List (Nat×Nat)}{L:List Nat}(h:Bag E L):Live E L:=by
 intro c
 constructor
 ·intro hc
  have hp:0<L.count c:=List.count_pos_iff.2 hc
  by_cases hx:∃x,x∈E/\x.1=c
  ·obtain⟨x,hx,rfl⟩:=hx
   exact⟨x.2,hx,by rw[←h.count x hx];exact hp⟩
  ·have:=h.none c (fun x hx' e=>hx ⟨x,hx',e⟩);omega
 ·rintro⟨t,ht,h0⟩
  have:=h.count (c,t) ht
  exact List.count_pos_iff.1 (by simp only at this;omega)
theorem aP8{E:List (Nat×Nat)}{i:Nat}{z x:Nat×Nat}(h:x∈E.set i z):x=z∨∃j,j≠i/\E[j]?=some x:=by
 obtain⟨j,hj⟩:=List.getElem?_of_mem h
 by_cases e:j=i
 ·subst e
  rw[List.getElem?_set_self']at hj
  cases hE:E[j]? with
  | none=>rw[hE]at hj;cases hj
  | some y=>rw[hE]at hj;simp at hj;exact .inl hj.symm
 ·rw[List.getElem?_set_ne (fun h=>e h.symm)]at hj
  exact .inr ⟨j,e,hj⟩
theorem Bag.set{E:List (Nat×Nat)}{L L':List Nat}(h:Bag E L){i c t t':Nat}(hi:E[i]?=some (c,t))(h1:L'.count c=t')(h2:∀d,d≠c->L'.count d=L.count d):Bag (E.set i (c,t')) L':=by
 have hmem:∀d,(∀x,x∈E.set i (c,t')->x.1≠d)->(∀x,x∈E->x.1≠d)/\d≠c:=by
  intro d hd
  have hil:i<E.length:=(List.getElem?_eq_some_iff.1 hi).1
  have hc:(c,t')∈E.set i (c,t'):=List.mem_set hil _
  have hdc:d≠c:=fun e=>hd _ hc e.symm
  refine⟨fun x hx e=>?_,hdc⟩
  obtain⟨j,hj⟩:=List.getElem?_of_mem hx
  by_cases hji:j=i
  ·subst hji;rw[hi]at hj;cases hj;exact hdc e.symm
  ·exact hd x (List.mem_of_getElem? (i:=j) (by rw[List.getElem?_set_ne (fun h=>hji h.symm)];exact hj)) e
 refine⟨fun x hx=>?_,fun d hd=>?_,fun a b x y hx hy hxy=>?_⟩
 ·rcases aP8 hx with rfl|⟨j,hj,hjx⟩
  ·exact h1
  ·have hne:x.1≠c:=fun e=>hj (h.once j i x (c,t) hjx hi e)
   rw[h2 _ hne];exact h.count x (List.mem_of_getElem? hjx)
 ·obtain⟨ha,hb⟩:=hmem d hd
  rw[h2 d hb];exact h.none d ha
 ·have hval:∀(a:Nat) (x:Nat×Nat),(E.set i (c,t'))[a]?=some x->∃x',E[a]?=some x'/\x'.1=x.1:=by
   intro a x hx
   by_cases e:a=i
   ·subst e
    rw[List.getElem?_set_self',hi]at hx
    simp at hx
    exact⟨(c,t),hi,by rw[←hx]⟩
   ·rw[List.getElem?_set_ne (fun h=>e h.symm)]at hx
    exact⟨x,hx,rfl⟩
  obtain⟨x',hx',e1⟩:=hval a x hx
  obtain⟨y',hy',e2⟩:=hval b y hy
  exact h.once a b x' y' hx' hy' (by rw[e1,e2,hxy])
theorem Bag.add{E:List (Nat×Nat)}{L:List Nat}(h:Bag E L){i c t:Nat}(hi:E[i]?=some (c,t)):Bag (E.set i (c,t+1)) (L++[c]):=
 h.set hi (by have:=h.count (c,t) (List.mem_of_getElem? hi);rw[List.count_append];simp only at this;rw[this];simp) (fun d hd=>by
  rw[List.count_append,List.count_eq_zero_of_not_mem (l:=[c]) (by simpa using hd)];rfl)
theorem Bag.drop{E:List (Nat×Nat)}{L:List Nat}(h:Bag E L){i c t:Nat}(hi:E[i]?=some (c,t)):Bag (E.set i (c,t-1)) (L.erase c):=
 h.set hi (by have:=h.count (c,t) (List.mem_of_getElem? hi);rw[List.count_erase_self];simp only at this;rw[this]) (fun d hd=>List.count_erase_of_ne hd)
theorem Bag.new{E:List (Nat×Nat)}{L:List Nat}(h:Bag E L){c:Nat}(hc:∀x,x∈E->x.1≠c):Bag (E++[(c,1)]) (L++[c]):=by
 refine⟨fun x hx=>?_,fun d hd=>?_,fun a b x y hx hy hxy=>?_⟩
 ·rcases List.mem_append.1 hx with hx|hx
  ·rw[List.count_append,h.count x hx,List.count_eq_zero_of_not_mem (l:=[c]) (by simpa using hc x hx)];rfl
  ·simp at hx;subst hx
   rw[List.count_append,h.none c hc];simp
 ·have hdc:d≠c:=fun e=>hd (c,1) (by simp) e.symm
  rw[List.count_append,h.none d (fun x hx=>hd x (by simp[hx])),List.count_eq_zero_of_not_mem (l:=[c]) (by simpa using hdc)]
 ·have hlt:∀(a:Nat) (x:Nat×Nat),(E++[(c,1)])[a]?=some x->(E[a]?=some x/\a<E.length)∨(a=E.length/\x=(c,1)):=by
   intro a x hx
   rcases Nat.lt_trichotomy a E.length with h|h|h
   ·rw[List.getElem?_append_left h]at hx;exact .inl ⟨hx,h⟩
   ·subst h;simp at hx;exact .inr ⟨rfl,hx.symm⟩
   ·rw[List.getElem?_eq_none (by simp;omega)]at hx;cases hx
  rcases hlt a x hx with⟨h1,h1'⟩|⟨h1,rfl⟩<;>rcases hlt b y hy with⟨h2,h2'⟩|⟨h2,rfl⟩
  ·exact h.once a b x y h1 h2 hxy
  ·exact absurd hxy (hc x (List.mem_of_getElem? h1))
  ·exact absurd hxy.symm (hc y (List.mem_of_getElem? h2))
  ·omega
theorem Bag.start:Bag [] []:=⟨fun x hx=>(by cases hx),fun c _=>rfl,fun i j x y hx=>(by simp at hx)⟩
def Key(c:Nat):Lit:=.int .u32 (c:Int)
def Z0:DataW Unit:=.lit (.int .i64 0)
structure Places(D:DataW Unit)(E:List (Nat×Nat)):Prop where
 there:∀(i:Nat) (x:Nat×Nat),E[i]?=some x->Maps.has D (Key x.1)=true/\D.atKey (Key x.1) Z0=.lit (.int .i64 (i:Int))
 not:∀c,(∀x,x∈E->x.1≠c)->Maps.has D (Key c)=false
structure ListAt(base:Nat)(w:World)(p bm:Nat)(ev:Value)(D:DataW Unit)(E:List (Nat×Nat)):Prop where
 block:w.heap[p]?=some (.cells #[ev,.map (some bm)] 186 (0,0))
 lep:base<=p
 lem:base<=bm
 row:w.ownsRow base 221 2 ev E.length (ents E)
 map:w.ownsMap Tryz.prog 69 (plainElem Tryz.prog 3) bm E.length D
 places:Places D E
def St(base:Nat)(w:World)(p bm n:Nat)(L:List Nat):Prop:=∃ev D E,ListAt base w p bm ev D E/\Bag E L/\E.length<=n
theorem Tryz.keyLaw:Keyed Tryz.prog 69:=int_keyed Tryz.underlying69
theorem Tryz.zeroInt(w:World):(zeroValue 3).run Tryz.prog w=.ok (.int .i64 0) w:=by kernel_rfl
theorem key_wf{c:Nat}(h:c<2 ^ 24):(Lit.int .u32 (c:Int)).wf=true:=WalkArith.wf_u32 (by omega)
theorem dU{c:Nat}(h:c<2 ^ 24):keyOf Tryz.prog 69 (.int .u32 (c:Int))=some (Key c):=keyOf_int_mk Tryz.underlying69 (key_wf h)
end Go.Proofs.YtekkkoipcghlmaaGreatDoor
