import Derived.Test.YtekkkoipcghlmaaGreatDoorS31
import Derived.Test.YtekkkoipcghlmaaGreatDoorS41
import Derived.Maps.OwnSet
import Derived.OneCell
set_option linter.all false
namespace Go.Proofs.YtekkkoipcghlmaaGreatDoor.Sp
structure Untrue(L:List Nat)(m u:Nat):Prop where
 lt:u<2 ^ 24
 has:∀i,m.testBit i=true->u.testBit i=true
 least:∀U:Nat->Prop,(∀i,m.testBit i=true->U i)->Stable L U->∀i,u.testBit i=true->U i
def Quiet(u c:Nat):Prop:=leftMask c u≠0/\(oneBit (leftMask c u)=true->u ||| oppMask (leftMask c u)=u)
theorem Untrue.start{L:List Nat}{m:Nat}(hm:m<2 ^ 24):Untrue L m m:=⟨hm,fun _ h=>h,fun _ h _=>h⟩
section
variable {L:List Nat}{m u c:Nat}
theorem one_left(hc:c<2 ^ 24)(h1:oneBit (leftMask c u)=true):∃k,k<24/\leftMask c u=2 ^ k/\oppMask (leftMask c u)=2 ^ opp k:=by
 have:onesOf (leftMask c u)=1:=by unfold oneBit at h1;simpa using h1
 obtain⟨k,hk,he⟩:=(ones_one (leftMask_lt u hc)).1 this
 exact⟨k,hk,he,by rw[he];exact opp_single hk⟩
theorem left_bits{k:Nat}(he:leftMask c u=2 ^ k):c.testBit k=true/\u.testBit k=false/\∀j,c.testBit j=true->j≠k->u.testBit j=true:=by
 have hb:=fun i=>leftMask_bit c u i
 rw[he]at hb
 have hk:=hb k
 rw[Nat.testBit_two_pow_self]at hk
 have hk':=hk.symm
 rw[Bool.and_eq_true]at hk'
 refine⟨hk'.1,by simpa using hk'.2,fun j hj hne=>?_⟩
 have:=hb j
 rw[Nat.testBit_two_pow_of_ne (fun e=>hne e.symm),hj]at this
 simpa using this
theorem Untrue.more(h:Untrue L m u)(hcL:c∈L)(hc:c<2 ^ 24)(h1:oneBit (leftMask c u)=true):Untrue L m (u ||| oppMask (leftMask c u)):=by
 obtain⟨k,hk,he,ho⟩:=one_left hc h1
 obtain⟨hck,huk,hoth⟩:=left_bits he
 refine⟨Nat.or_lt_two_pow h.lt (oppMask_lt (leftMask_lt u hc)),fun i hi=>?_,fun U hU hs i hi=>?_⟩
 ·rw[Nat.testBit_or,h.has i hi];rfl
 ·rw[Nat.testBit_or,Bool.or_eq_true]at hi
  rcases hi with hi|hi
  ·exact h.least U hU hs i hi
  ·rw[ho]at hi
   have hik:i=opp k:=by
    by_cases e:opp k=i
    ·exact e.symm
    ·rw[Nat.testBit_two_pow_of_ne e]at hi;cases hi
   subst hik
   obtain⟨⟨j,hj,hjn⟩,hun⟩:=hs c hcL
   have hoth':∀j,c.testBit j=true->j≠k->U j:=fun j hj hne=>h.least U hU hs j (hoth j hj hne)
   have hjk:j=k:=by
    by_cases e:j=k
    ·exact e
    ·exact absurd (hoth' j hj e) hjn
   subst hjk
   exact hun j hj hjn hoth'
theorem Untrue.conflict(h:Untrue L m u)(hcL:c∈L)(h0:leftMask c u=0):Fol L m:=by
 refine .inr fun U hU hs=>?_
 obtain⟨⟨j,hj,hjn⟩,_⟩:=hs c hcL
 have:=leftMask_bit c u j
 rw[h0,hj]at this
 simp at this
 exact hjn (h.least U hU hs j this)
theorem Untrue.fixed(h:Untrue L m u)(hm:m<2 ^ 24)(hL:∀c,c∈L->c<2 ^ 24)(hno:alwaysMask m=false)(hq:∀c,c∈L->Quiet u c):¬Fol L m:=by
 rintro(hx|hx)
 ·rw[(alwaysMask_iff hm).2 hx]at hno;cases hno
 ·refine hx (fun i=>u.testBit i=true) h.has fun c hc=>?_
  obtain⟨h0,h1⟩:=hq c hc
  obtain⟨i,hi⟩:=Nat.exists_testBit_of_ne_zero h0
  rw[leftMask_bit,Bool.and_eq_true]at hi
  refine⟨⟨i,hi.1,by simpa using hi.2⟩,fun k hk hkn hoth=>?_⟩
  have hk24:k<24:=by
   rcases Nat.lt_or_ge k 24 with h|h
   ·exact h
   ·rw[Nat.testBit_lt_two_pow (Nat.lt_of_lt_of_le (hL c hc) (Nat.pow_le_pow_right (by decide) h))]at hk;cases hk
  have hkf:u.testBit k=false:=by simpa using hkn
  have he:leftMask c u=2 ^ k:=by
   apply Nat.eq_of_testBit_eq
   intro j
   rw[leftMask_bit]
   by_cases e:j=k
   ·subst e;rw[hk,hkf,Nat.testBit_two_pow_self];rfl
   ·rw[Nat.testBit_two_pow_of_ne (fun e'=>e e'.symm)]
    by_cases hcj:c.testBit j=true
    ·rw[hoth j hcj e];simp
    ·rw[show c.testBit j=false from by simpa using hcj];rfl
  have hone:oneBit (leftMask c u)=true:=by
   unfold oneBit;rw[he,(ones_one (Nat.pow_lt_pow_right (by decide) hk24)).2 ⟨k,hk24,rfl⟩];rfl
  have:=h1 hone
  rw[he,opp_single hk24]at this
  show u.testBit (opp k)=true
  rw[←this,Nat.testBit_or,Nat.testBit_two_pow_self];simp
theorem or_grows{a b c:Nat}(h:a ||| b=b):a ||| (b ||| c)=b ||| c:=by rw[←Nat.or_assoc,h]
theorem or_le{a b:Nat}(h:a ||| b=b):a<=b:=by rw[←h];exact Nat.left_le_or
theorem or_back{a b c:Nat}(h:a ||| b=b)(he:b ||| c=a):b=a:=by
 have h1:b<=a:=by rw[←he];exact Nat.left_le_or
 have h2:=or_le h
 omega
end
end Go.Proofs.YtekkkoipcghlmaaGreatDoor.Sp
namespace Go.Proofs.YtekkkoipcghlmaaGreatDoor
open Go.RowKit
def EntsLie(w:World)(v:Value)(E:List (Nat×Nat)):Prop:=
 (E=[]/\∃ao cap,v=.slice ao 0 cap)∨
 (∃b cap,0<E.length/\v=.slice (some ⟨b,0,none⟩) E.length cap/\b<w.heap.size/\∀k x,E[k]?=some x->w.cell? ⟨b,k*2,none⟩=some (.int .u32 (x.1:Int))/\w.cell? ⟨b,k*2+1,none⟩=some (.int .i64 (x.2:Int)))
theorem ents_shape{w:World}{v:Value}{E:List (Nat×Nat)}(h:EntsLie w v E):∃ao cap,v=.slice ao E.length cap:=by
 rcases h with⟨h0,ao,cap,rfl⟩|⟨b,cap,hp,rfl,hb,hc⟩
 ·subst h0;exact⟨_,_,rfl⟩
 ·exact⟨_,_,rfl⟩
def Live(E:List (Nat×Nat))(L:List Nat):Prop:=∀c,c∈L↔∃t,(c,t)∈E/\0<t
def PassOut(L:List Nat)(m u u':Nat)(cf:Bool):Prop:=Sp.Untrue L m u'/\(cf=true->Sp.Fol L m)/\(cf=false->u ||| u'=u'/\(u'=u->∀c,c∈L->Sp.Quiet u c))
def PassRes(L:List Nat)(m u:Nat)(w:World)(e:Ending)(w':World):Prop:=∃(u':Nat) (cf:Bool),e=.returned (.tuple #[.int .u32 (u':Int),.bool cf])/\PassOut L m u u' cf/\Below w.heap.size w w'
set_option maxRecDepth 100000 in
set_option maxHeartbeats 1600000 in
theorem pass_any(p:Nat)(ev:Value)(E:List (Nat×Nat))(L:List Nat)(m u:Nat)(w:World)(hcell:w.cell? ⟨p,0,none⟩=some ev)(hE:EntsLie w ev E)(hl:E.length<=10000000)(hlive:Live E L)
  (hsm:∀x,x∈E->x.2<=10000000/\(0<x.2->x.1<2 ^ 24)) (hu:Sp.Untrue L m u):
  Calls Tryz.prog 179 #[.pointer (some ⟨p,0,none⟩),.int .u32 u] w fun e w'=>PassRes L m u w e w':=by
 obtain⟨ao,cap,rfl⟩:=ents_shape hE
 have HE:=aq hE
 have HU:=aq hu
 have HLV:=aq hlive
 have HSM:=aq hsm
 have hult:=hu.lt
 clear hE hu hlive hsm
 go_enter Tryz.func179,Tryz.ntmps179
 go_wp2
 go_loopw [1,14] (fun uu i wr=>∃(k u':Nat),k<=E.length/\i=.int .i64 k/\uu=.int .u32 u'/\u'<2 ^ 24/\Hid (Sp.Untrue L m u')/\Hid (u ||| u'=u')/\Hid (u'=u->∀x,x∈E.take k->0<x.2->Sp.Quiet u x.1)/\Below w.heap.size w wr) (fun _ i _=>E.length-(intOf i).toNat)
 case atStart=>exact⟨0,u,Nat.zero_le _,rfl,rfl,hult,HU,aq (Nat.or_self u),aq (fun _ x hx=>by simp at hx),Below.refl _ _⟩
 case round=>
  clear hult HU
  obtain⟨k,u',hk,rfl,rfl,hult,HU,HG,HQ,hbel⟩:=hrel
  by_cases hlt:k<E.length
  ·rcases dz HE with⟨h0,_⟩|⟨b,cap',hp,hsl,hb,hc⟩
   ·exfalso;rw[h0]at hlt;simp at hlt
   ·simp only[Value.slice.injEq]at hsl
    obtain⟨rfl,-,rfl⟩:=hsl
    obtain⟨hc0,hc1⟩:=hc k E[k] (List.getElem?_eq_getElem hlt)
    have hc0:=(hbel.cell (p:=⟨b,k*2,none⟩) hb).trans hc0
    have hc1:=(hbel.cell (p:=⟨b,k*2+1,none⟩) hb).trans hc1
    have hx:=dz HSM E[k] (List.getElem_mem hlt)
    have HXM:Hid (E[k]∈E):=aq (List.getElem_mem hlt)
    have HS:Hid (E.take (k+1)=E.take k++[E[k]]):=aq (List.take_succ_eq_append_getElem hlt)
    generalize E[k]=x at *
    obtain⟨c,t⟩:=x
    simp only at hc0 hc1 hx
    obtain⟨ht,hc24'⟩:=hx
    have HC24:=aq hc24'
    clear hc24'
    clear hc
    rcases Nat.eq_zero_or_pos t with ht0|ht0
    ·subst ht0
     have hbel1:=fun o=>hbel.alloc hbel.size o
     go_wp2
     go_roundw
     case rel=>exact⟨k+1,u',by omega,by go_num,rfl,hult,HU,HG,aq (fun he x hx=>by
      rw[dz HS]at hx
      rcases List.mem_append.1 hx with hx|hx
      ·exact dz HQ he x hx
      ·simp at hx;subst hx;intro h;simp at h),hbel1 _⟩
     case measure=>simp[intOf];omega
    ·have hq:((t:Int)==0)=false:=by rw[beq_eq_false_iff_ne];omega
     have hc24:=dz HC24 ht0
     have HCL:Hid (c∈L):=aq ((dz HLV c).2 ⟨t,dz HXM,ht0⟩)
     have hll:=leftMask_lt u' hc24
     have el:=bits_left c u' (by omega) (by omega)
     have HLZ:Hid (leftMask c u'=0->Sp.Fol L m):=aq (fun h=>(dz HU).conflict (dz HCL) h)
     have HMO:Hid (oneBit (leftMask c u')=true->Sp.Untrue L m (u' ||| oppMask (leftMask c u'))):=aq (fun h=>(dz HU).more (dz HCL) hc24 h)
     have hol:=oppMask_lt hll
     have eo:=bits_or_u32 u' (oppMask (leftMask c u')) (by omega) (by omega)
     have HSI:=aq (fun wx=>single_any (leftMask c u') wx hll)
     have HOP:=aq (fun wx=>opposites_any (leftMask c u') wx hll)
     have HQN:Hid (leftMask c u'≠0->(oneBit (leftMask c u')=true->u' ||| oppMask (leftMask c u')=u')->Sp.Quiet u' c):=aq (fun h1 h2=>⟨h1,h2⟩)
     generalize leftMask c u'=lm at *
     generalize oppMask lm=om at *
     generalize hob:oneBit lm=ob at *
     clear hob
     have hbel1:=fun o=>hbel.alloc hbel.size o
     rcases Nat.eq_zero_or_pos lm with hl0|hl0
     ·subst hl0
      have HF:=aq (dz HLZ rfl)
      clear HLZ HMO eo
      go_wp2
      go_ret2
      exact⟨u',true,rfl,⟨dz HU,fun _=>dz HF,fun h=>(by cases h)⟩,hbel1 _⟩
     ·have hlq:((lm:Int)==0)=false:=by rw[beq_eq_false_iff_ne];omega
      have HL0:Hid (lm≠0):=aq (by omega)
      cases ob
      ·go_wp2_with fail
       refine(dz HSI _).mono ?_
       rintro e w1 ⟨rfl,q,rfl⟩
       go_wp2
       go_roundw
       case rel=>exact⟨k+1,u',by omega,by go_num,rfl,hult,HU,HG,aq (fun he x hx=>by
        rw[dz HS]at hx
        rcases List.mem_append.1 hx with hx|hx
        ·exact dz HQ he x hx
        ·simp at hx;subst hx;intro _;rw[←he];exact dz HQN (dz HL0) (fun h=>(by cases h))),below_drewN (hbel1 _) _⟩
       case measure=>simp[intOf];omega
      ·have HUN:=aq (dz HMO rfl)
       go_wp2_with fail
       refine(dz HSI _).mono ?_
       rintro e w1 ⟨rfl,q,rfl⟩
       go_wp2_with fail
       refine(dz HOP _).mono ?_
       rintro e w2 ⟨rfl,rfl⟩
       go_wp2
       go_roundw
       case rel=>exact⟨k+1,u' ||| om,by omega,by go_num,rfl,(dz HUN).lt,HUN,aq (Sp.or_grows (dz HG)),aq (fun he x hx=>by
        have hback:=Sp.or_back (dz HG) he
        rw[dz HS]at hx
        rcases List.mem_append.1 hx with hx|hx
        ·exact dz HQ hback x hx
        ·simp at hx;subst hx;intro _;rw[←hback];exact dz HQN (dz HL0) (fun _=>by rw[he,hback])),below_drewN (hbel1 _) _⟩
       case measure=>simp[intOf];omega
  ·have HT:Hid (E.take k=E):=aq (List.take_of_length_le (by omega))
   go_wp2
   go_ret2
   refine⟨u',false,rfl,⟨dz HU,fun h=>(by cases h),fun _=>⟨dz HG,fun he c hc=>?_⟩⟩,hbel⟩
   obtain⟨t,ht,ht0⟩:=(dz HLV c).1 hc
   exact dz HQ he (c,t) (by rw[dz HT];exact ht) ht0
end Go.Proofs.YtekkkoipcghlmaaGreatDoor
namespace Go.Proofs.YtekkkoipcghlmaaGreatDoor
open Go.RowKit
theorem EntsLie.below{w w':World}{v:Value}{E:List (Nat×Nat)}(h:EntsLie w v E)(hb:Below w.heap.size w w'):EntsLie w' v E:=by
 rcases h with h|⟨b,cap,hp,hv,hlt,hc⟩
 ·exact .inl h
 ·exact .inr ⟨b,cap,hp,hv,Nat.lt_of_lt_of_le hlt hb.size,fun k x hx=>⟨(hb.cell (p:=⟨b,k*2,none⟩) hlt).trans (hc k x hx).1,(hb.cell (p:=⟨b,k*2+1,none⟩) hlt).trans (hc k x hx).2⟩⟩
set_option maxRecDepth 100000 in
set_option maxHeartbeats 1600000 in
theorem followsGo_any(p:Nat)(ev:Value)(E:List (Nat×Nat))(L:List Nat)(m:Nat)(w:World)(hp:p<w.heap.size)(hcell:w.cell? ⟨p,0,none⟩=some ev)(hE:EntsLie w ev E)(hl:E.length<=10000000)(hlive:Live E L)
  (hsm:∀x,x∈E->x.2<=10000000/\(0<x.2->x.1<2 ^ 24)) (hL:Small L) (hm:m<2 ^ 24):
  Calls Tryz.prog 141 #[.pointer (some ⟨p,0,none⟩),.int .u32 m] w fun e w'=>FolRes L m w e w':=by
 have HA:=aq (fun wx=>alwaysTrue_any m wx hm)
 have HAI:=aq (alwaysMask_iff hm)
 have HP:Hid (∀(u:Nat) (wx:World),Below w.heap.size w wx->Sp.Untrue L m u->Calls Tryz.prog 179 #[.pointer (some ⟨p,0,none⟩),.int .u32 u] wx fun e w'=>PassRes L m u wx e w'):=
  aq (fun u wx hb hu=>pass_any p ev E L m u wx ((hb.cell (p:=⟨p,0,none⟩) hp).trans hcell) (hE.below hb) hl hlive hsm hu)
 have HFX:Hid (∀u,Sp.Untrue L m u->alwaysMask m=false->(∀c,c∈L->Sp.Quiet u c)->¬Sp.Fol L m):=aq (fun u hu ha hq=>hu.fixed hm hL ha hq)
 have HST:Hid (Sp.Untrue L m m):=aq (Sp.Untrue.start hm)
 clear hcell hE hlive hsm hL
 cases ham:alwaysMask m
 ·rw[ham]at HA
  have HAM:=aq ham
  clear ham
  go_enter Tryz.func141,Tryz.ntmps141
  go_wp2_with fail
  refine(dz HA _).mono ?_
  rintro e w1 ⟨rfl,q,rfl⟩
  go_wp2
  go_loopw [5] (fun uu wr=>∃(u:Nat),uu=.int .u32 u/\Hid (Sp.Untrue L m u)/\Below w.heap.size w wr) (fun uu _=>16777216-(intOf uu).toNat)
  case atStart=>exact⟨m,rfl,HST,below_drewN (Below.refl _ _) _⟩
  case round=>
   obtain⟨u,rfl,HU,hbel⟩:=hrel
   go_wp2_with fail
   refine(dz HP u _ hbel (dz HU)).mono ?_
   rintro e w2 ⟨u',cf,rfl,ho,hb2⟩
   have hult':=ho.1.lt
   have hult:=(dz HU).lt
   have HO:=aq ho
   clear ho
   have hbel2:=hbel.trans (hb2.mono hbel.size)
   cases cf
   ·by_cases he:u'=u
    ·subst he
     have HF:Hid (¬Sp.Fol L m):=aq (dz HFX u' (dz HU) (dz HAM) (((dz HO).2.2 rfl).2 rfl))
     go_wp2
     go_ret
     exact⟨false,rfl,by simp[dz HF],hbel2⟩
    ·have hq:((u':Int)==(u:Int))=false:=by rw[beq_eq_false_iff_ne];omega
     have hle:=Sp.or_le ((dz HO).2.2 rfl).1
     go_wp2
     go_roundw
     case rel=>exact⟨u',rfl,aq (dz HO).1,hbel2⟩
     case measure=>simp[intOf];omega
   ·have HF:Hid (Sp.Fol L m):=aq ((dz HO).2.1 rfl)
    go_wp2
    go_ret
    exact⟨true,rfl,by simp[dz HF],hbel2⟩
 ·rw[ham]at HA
  have HF:Hid (Sp.Fol L m):=aq (.inl ((dz HAI).1 ham))
  clear ham
  go_enter Tryz.func141,Tryz.ntmps141
  go_wp2_with fail
  refine(dz HA _).mono ?_
  rintro e w1 ⟨rfl,q,rfl⟩
  go_wp2
  go_ret
  exact⟨true,rfl,by simp[dz HF],below_drewN (Below.refl _ _) _⟩
end Go.Proofs.YtekkkoipcghlmaaGreatDoor
namespace Go.Proofs.YtekkkoipcghlmaaGreatDoor
open Go.RowKit Go.Maps
def ents(E:List (Nat×Nat)):List Value:=E.flatMap fun x=>[.int .u32 (x.1:Int),.int .i64 (x.2:Int)]
theorem ents_get(E:List (Nat×Nat)):∀(i:Nat) (x:Nat×Nat),E[i]?=some x->(ents E)[i*2]?=some (.int .u32 (x.1:Int))/\(ents E)[i*2+1]?=some (.int .i64 (x.2:Int)):=by
 induction E with
 | nil=>intro i x h;simp at h
 | cons a r ih=>
  intro i x h
  cases i with
  | zero=>simp at h;subst h;exact⟨rfl,rfl⟩
  | succ i=>
   have:=ih i x (by simpa using h)
   rw[show(i+1)*2=i*2+1+1 from by omega]
   exact this
theorem ents_set(E:List (Nat×Nat))(t':Nat):∀(i c t:Nat),E[i]?=some (c,t)->(ents E).set (i*2+1) (.int .i64 (t':Int))=ents (E.set i (c,t')):=by
 induction E with
 | nil=>intro i c t h;simp at h
 | cons a r ih=>
  intro i c t h
  cases i with
  | zero=>simp at h;subst h;rfl
  | succ i=>
   have:=ih i c t (by simpa using h)
   rw[show(i+1)*2+1=i*2+1+1+1 from by omega]
   simp only[ents,List.flatMap_cons,List.cons_append,List.nil_append,List.set_cons_succ]at this⊢
   rw[this]
theorem ents_snoc(E:List (Nat×Nat))(c t:Nat):ents (E++[(c,t)])=ents E++[.int .u32 (c:Int),.int .i64 (t:Int)]:=by
 unfold ents;rw[List.flatMap_append];rfl
structure Bag(E:List (Nat×Nat))(L:List Nat):Prop where
 count:∀x,x∈E->L.count x.1=x.2
 none:∀c,(∀x,x∈E->x.1≠c)->L.count c=0
 once:∀(i j:Nat) (x y:Nat×Nat),E[i]?=some x->E[j]?=some y->x.1=y.1->i=j
theorem Bag.live{E:List (Nat×Nat)}{L:List Nat}(h:Bag E L):Live E L:=by
 intro c
 constructor
 ·intro hc
  have hp:0<L.count c:=List.count_pos_iff.2 hc
  by_cases hx:∃x,x∈E/\x.1=c
  ·obtain⟨x,hx,rfl⟩:=hx
   exact⟨x.2,hx,by rw[←h.count x hx];exact hp⟩
  ·have:=h.none c (fun x hx' e=>hx ⟨x,hx',e⟩);omega
 ·rintro⟨t,ht,h0⟩
  have:=h.count (c,t) ht
  exact List.count_pos_iff.1 (by simp only at this;omega)
theorem set_mem{E:List (Nat×Nat)}{i:Nat}{z x:Nat×Nat}(h:x∈E.set i z):x=z∨∃j,j≠i/\E[j]?=some x:=by
 obtain⟨j,hj⟩:=List.getElem?_of_mem h
 by_cases e:j=i
 ·subst e
  rw[List.getElem?_set_self']at hj
  cases hE:E[j]? with
  | none=>rw[hE]at hj;cases hj
  | some y=>rw[hE]at hj;simp at hj;exact .inl hj.symm
 ·rw[List.getElem?_set_ne (fun h=>e h.symm)]at hj
  exact .inr ⟨j,e,hj⟩
theorem Bag.set{E:List (Nat×Nat)}{L L':List Nat}(h:Bag E L){i c t t':Nat}(hi:E[i]?=some (c,t))(h1:L'.count c=t')(h2:∀d,d≠c->L'.count d=L.count d):Bag (E.set i (c,t')) L':=by
 have hmem:∀d,(∀x,x∈E.set i (c,t')->x.1≠d)->(∀x,x∈E->x.1≠d)/\d≠c:=by
  intro d hd
  have hil:i<E.length:=(List.getElem?_eq_some_iff.1 hi).1
  have hc:(c,t')∈E.set i (c,t'):=List.mem_set hil _
  have hdc:d≠c:=fun e=>hd _ hc e.symm
  refine⟨fun x hx e=>?_,hdc⟩
  obtain⟨j,hj⟩:=List.getElem?_of_mem hx
  by_cases hji:j=i
  ·subst hji;rw[hi]at hj;cases hj;exact hdc e.symm
  ·exact hd x (List.mem_of_getElem? (i:=j) (by rw[List.getElem?_set_ne (fun h=>hji h.symm)];exact hj)) e
 refine⟨fun x hx=>?_,fun d hd=>?_,fun a b x y hx hy hxy=>?_⟩
 ·rcases set_mem hx with rfl|⟨j,hj,hjx⟩
  ·exact h1
  ·have hne:x.1≠c:=fun e=>hj (h.once j i x (c,t) hjx hi e)
   rw[h2 _ hne];exact h.count x (List.mem_of_getElem? hjx)
 ·obtain⟨ha,hb⟩:=hmem d hd
  rw[h2 d hb];exact h.none d ha
 ·have hval:∀(a:Nat) (x:Nat×Nat),(E.set i (c,t'))[a]?=some x->∃x',E[a]?=some x'/\x'.1=x.1:=by
   intro a x hx
   by_cases e:a=i
   ·subst e
    rw[List.getElem?_set_self',hi]at hx
    simp at hx
    exact⟨(c,t),hi,by rw[←hx]⟩
   ·rw[List.getElem?_set_ne (fun h=>e h.symm)]at hx
    exact⟨x,hx,rfl⟩
  obtain⟨x',hx',e1⟩:=hval a x hx
  obtain⟨y',hy',e2⟩:=hval b y hy
  exact h.once a b x' y' hx' hy' (by rw[e1,e2,hxy])
theorem Bag.add{E:List (Nat×Nat)}{L:List Nat}(h:Bag E L){i c t:Nat}(hi:E[i]?=some (c,t)):Bag (E.set i (c,t+1)) (L++[c]):=
 h.set hi (by have:=h.count (c,t) (List.mem_of_getElem? hi);rw[List.count_append];simp only at this;rw[this];simp) (fun d hd=>by
  rw[List.count_append,List.count_eq_zero_of_not_mem (l:=[c]) (by simpa using hd)];rfl)
theorem Bag.drop{E:List (Nat×Nat)}{L:List Nat}(h:Bag E L){i c t:Nat}(hi:E[i]?=some (c,t)):Bag (E.set i (c,t-1)) (L.erase c):=
 h.set hi (by have:=h.count (c,t) (List.mem_of_getElem? hi);rw[List.count_erase_self];simp only at this;rw[this]) (fun d hd=>List.count_erase_of_ne hd)
theorem Bag.new{E:List (Nat×Nat)}{L:List Nat}(h:Bag E L){c:Nat}(hc:∀x,x∈E->x.1≠c):Bag (E++[(c,1)]) (L++[c]):=by
 refine⟨fun x hx=>?_,fun d hd=>?_,fun a b x y hx hy hxy=>?_⟩
 ·rcases List.mem_append.1 hx with hx|hx
  ·rw[List.count_append,h.count x hx,List.count_eq_zero_of_not_mem (l:=[c]) (by simpa using hc x hx)];rfl
  ·simp at hx;subst hx
   rw[List.count_append,h.none c hc];simp
 ·have hdc:d≠c:=fun e=>hd (c,1) (by simp) e.symm
  rw[List.count_append,h.none d (fun x hx=>hd x (by simp[hx])),List.count_eq_zero_of_not_mem (l:=[c]) (by simpa using hdc)]
 ·have hlt:∀(a:Nat) (x:Nat×Nat),(E++[(c,1)])[a]?=some x->(E[a]?=some x/\a<E.length)∨(a=E.length/\x=(c,1)):=by
   intro a x hx
   rcases Nat.lt_trichotomy a E.length with h|h|h
   ·rw[List.getElem?_append_left h]at hx;exact .inl ⟨hx,h⟩
   ·subst h;simp at hx;exact .inr ⟨rfl,hx.symm⟩
   ·rw[List.getElem?_eq_none (by simp;omega)]at hx;cases hx
  rcases hlt a x hx with⟨h1,h1'⟩|⟨h1,rfl⟩<;>rcases hlt b y hy with⟨h2,h2'⟩|⟨h2,rfl⟩
  ·exact h.once a b x y h1 h2 hxy
  ·exact absurd hxy (hc x (List.mem_of_getElem? h1))
  ·exact absurd hxy.symm (hc y (List.mem_of_getElem? h2))
  ·omega
theorem Bag.start:Bag [] []:=⟨fun x hx=>(by cases hx),fun c _=>rfl,fun i j x y hx=>(by simp at hx)⟩
def Key(c:Nat):Lit:=.int .u32 (c:Int)
def Z0:DataW Unit:=.lit (.int .i64 0)
structure Places(D:DataW Unit)(E:List (Nat×Nat)):Prop where
 there:∀(i:Nat) (x:Nat×Nat),E[i]?=some x->Maps.has D (Key x.1)=true/\D.atKey (Key x.1) Z0=.lit (.int .i64 (i:Int))
 not:∀c,(∀x,x∈E->x.1≠c)->Maps.has D (Key c)=false
structure ListAt(base:Nat)(w:World)(p bm:Nat)(ev:Value)(D:DataW Unit)(E:List (Nat×Nat)):Prop where
 block:w.heap[p]?=some (.cells #[ev,.map (some bm)] 186 (0,0))
 lep:base<=p
 lem:base<=bm
 row:w.ownsRow base 221 2 ev E.length (ents E)
 map:w.ownsMap Tryz.prog 69 (plainElem Tryz.prog 3) bm E.length D
 places:Places D E
def St(base:Nat)(w:World)(p bm n:Nat)(L:List Nat):Prop:=∃ev D E,ListAt base w p bm ev D E/\Bag E L/\E.length<=n
theorem Tryz.keyLaw:Keyed Tryz.prog 69:=int_keyed Tryz.underlying69
theorem Tryz.zeroInt(w:World):(zeroValue 3).run Tryz.prog w=.ok (.int .i64 0) w:=by kernel_rfl
theorem key_wf{c:Nat}(h:c<2 ^ 24):(Lit.int .u32 (c:Int)).wf=true:=WalkArith.wf_u32 (by omega)
theorem keyOf_clause{c:Nat}(h:c<2 ^ 24):keyOf Tryz.prog 69 (.int .u32 (c:Int))=some (Key c):=keyOf_int_mk Tryz.underlying69 (key_wf h)
end Go.Proofs.YtekkkoipcghlmaaGreatDoor
namespace Go.Proofs.YtekkkoipcghlmaaGreatDoor
open Go.RowKit Go.Maps
theorem row_below{w w':World}{base:Nat}{e:TypeId}{s:Nat}{v:Value}{n:Nat}{xs:List Value}(h:w.ownsRow base e s v n xs)(hb:Below w.heap.size w w'):w'.ownsRow base e s v n xs:=by
 refine h.kept (grown_of_below hb) ?_
 cases hv:v.ownBlock with
 | none=>exact .inl rfl
 | some g=>exact .inr (by simp)
theorem block_lt{w:World}{p:Nat}{o:Obj}(h:w.heap[p]?=some o):p<w.heap.size:=(Array.getElem?_eq_some_iff.1 h).1
theorem ListAt.below{base:Nat}{w w':World}{p bm:Nat}{ev:Value}{D:DataW Unit}{E:List (Nat×Nat)}(h:ListAt base w p bm ev D E)(hb:Below w.heap.size w w'):ListAt base w' p bm ev D E:=
 ⟨by rw[hb.block p (block_lt h.block)];exact h.block,h.lep,h.lem,row_below h.row hb,h.map.kept (grown_of_below hb) (by simp),h.places⟩
theorem St.below{base:Nat}{w w':World}{p bm n:Nat}{L:List Nat}(h:St base w p bm n L)(hb:Below w.heap.size w w'):St base w' p bm n L:=by
 obtain⟨ev,D,E,h1,h2,h3⟩:=h
 exact⟨ev,D,E,h1.below hb,h2,h3⟩
def Foreign(o:Obj):Prop:=∀cs fz,o≠.cells cs 186 fz/\o≠.cells cs 221 fz
structure Frame(bm:Nat)(w w':World):Prop where
 size:w.heap.size<=w'.heap.size
 same:∀k o,w.heap[k]?=some o->Foreign o->k≠bm->w'.heap[k]?=some o
theorem Frame.refl(bm:Nat)(w:World):Frame bm w w:=⟨Nat.le_refl _,fun _ _ h _ _=>h⟩
theorem Frame.trans{bm:Nat}{a b c:World}(h:Frame bm a b)(h':Frame bm b c):Frame bm a c:=⟨Nat.le_trans h.size h'.size,fun k o hk hf hn=>h'.same k o (h.same k o hk hf hn) hf hn⟩
theorem Frame.below{bm:Nat}{a b:World}(h:Below a.heap.size a b):Frame bm a b:=⟨h.size,fun k _ hk _ _=>(h.block k (block_lt hk)).trans hk⟩
theorem Frame.set{bm:Nat}{a:World}{g j:Nat}{cs:Array Value}{t:TypeId}{fz:Nat×Nat}(hg:a.heap[g]?=some (.cells cs t fz))(ht:t=186∨t=221)(u:Value):Frame bm a (a.setCell ⟨g,j,none⟩ u):=
 ⟨by simp,fun k o hk hf _=>(Below.heap_setCell a _ _ _ (fun e=>by
  simp only at e
  subst e
  rw[hg]at hk
  cases hk
  rcases ht with rfl|rfl
  ·exact(hf cs fz).1 rfl
  ·exact(hf cs fz).2 rfl)).trans hk⟩
theorem Frame.grown{bm:Nat}{a b:World}{row:Option Nat}(h:a.grownBy b row)(hr:∀k o,row=some k->a.heap[k]?=some o->k=bm∨¬Foreign o):Frame bm a b:=
 ⟨h.size,fun k o hk hf hn=>(h.block k (block_lt hk) (fun e=>by rcases hr k o e.symm hk with h'|h';exact hn h';exact h' hf)).trans hk⟩
theorem row_frame{w:World}{base:Nat}{v:Value}{n:Nat}{xs:List Value}(h:w.ownsRow base 221 2 v n xs):∀k o,v.ownBlock=some k->w.heap[k]?=some o->¬Foreign o:=by
 intro k o hk ho hf
 rcases h.2 with⟨hv,_⟩|⟨g,cap,cur,hv,_,hg,_⟩
 ·rw[hv]at hk;cases hk
 ·rw[hv]at hk
  simp[Value.ownBlock]at hk
  subst hk
  rw[hg]at ho
  cases ho
  exact(hf cur (0,0)).2 rfl
section
theorem ListAt.cell0{base:Nat}{w:World}{p bm:Nat}{ev:Value}{D:DataW Unit}{E:List (Nat×Nat)}(h:ListAt base w p bm ev D E):w.cell? ⟨p,0,none⟩=some ev:=by simp[World.cell?,h.block]
theorem ListAt.cell1{base:Nat}{w:World}{p bm:Nat}{ev:Value}{D:DataW Unit}{E:List (Nat×Nat)}(h:ListAt base w p bm ev D E):w.cell? ⟨p,1,none⟩=some (.map (some bm)):=by simp[World.cell?,h.block]
theorem ListAt.lies{base:Nat}{w:World}{p bm:Nat}{ev:Value}{D:DataW Unit}{E:List (Nat×Nat)}(h:ListAt base w p bm ev D E):EntsLie w ev E:=by
 by_cases h0:E=[]
 ·subst h0
  refine .inl ⟨rfl,?_⟩
  rcases h.row.2 with⟨hv,_⟩|⟨g,cap,cur,hv,_⟩
  ·exact⟨_,_,hv⟩
  ·exact⟨_,_,hv⟩
 ·have hp:=List.length_pos_iff.2 h0
  rcases h.row.2 with⟨hv,hn⟩|⟨g,cap,cur,rfl,_⟩
  ·omega
  ·refine .inr ⟨g,cap,hp,rfl,(h.row.lt g rfl).2,fun k x hx=>?_⟩
   have hk:k<E.length:=(List.getElem?_eq_some_iff.1 hx).1
   obtain⟨h1,h2⟩:=ents_get E k x hx
   exact⟨by rw[h.row.cellAt (k*2) (by omega)];exact h1,by rw[h.row.cellAt (k*2+1) (by omega)];exact h2⟩
theorem ListAt.row_not_p{base:Nat}{w:World}{p bm:Nat}{ev:Value}{D:DataW Unit}{E:List (Nat×Nat)}(h:ListAt base w p bm ev D E):ev.ownBlock≠some p:=by
 intro he
 rcases h.row.2 with⟨hv,_⟩|⟨g,cap,cur,hv,_,hg,_⟩
 ·rw[hv]at he;cases he
 ·rw[hv]at he
  simp[Value.ownBlock]at he
  subst he
  rw[h.block]at hg
  simp at hg
theorem ListAt.row_not_map{base:Nat}{w:World}{p bm:Nat}{ev:Value}{D:DataW Unit}{E:List (Nat×Nat)}(h:ListAt base w p bm ev D E):some bm≠ev.ownBlock:=by
 intro he
 obtain⟨es,clock,hm,_⟩:=h.map
 rcases h.row.2 with⟨hv,_⟩|⟨g,cap,cur,hv,_,hg,_⟩
 ·rw[hv]at he;cases he
 ·rw[hv]at he
  simp[Value.ownBlock]at he
  subst he
  rw[hm]at hg
  simp at hg
theorem ListAt.map_not_p{base:Nat}{w:World}{p bm:Nat}{ev:Value}{D:DataW Unit}{E:List (Nat×Nat)}(h:ListAt base w p bm ev D E):bm≠p:=by
 intro he
 obtain⟨es,clock,hm,_⟩:=h.map
 subst he
 rw[h.block]at hm
 simp at hm
theorem ListAt.times{base:Nat}{w:World}{p bm:Nat}{ev:Value}{D:DataW Unit}{E:List (Nat×Nat)}(h:ListAt base w p bm ev D E){g cap i c t t':Nat}(hv:ev=.slice (some ⟨g,0,none⟩) E.length cap)(hi:E[i]?=some (c,t)):
  ListAt base (w.setCell ⟨g,i*2+1,none⟩ (.int .i64 (t':Int))) p bm ev D (E.set i (c,t'))/\Below base w (w.setCell ⟨g,i*2+1,none⟩ (.int .i64 (t':Int)))/\Frame bm w (w.setCell ⟨g,i*2+1,none⟩ (.int .i64 (t':Int))):=by
 subst hv
 have hs:=h.row.stored (i*2+1) (.int .i64 (t':Int))
 have hgp:p≠g:=fun e=>h.row_not_p (by simp[Value.ownBlock,e])
 have hgm:some bm≠some g:=fun e=>h.row_not_map (by simp[Value.ownBlock];simpa using e)
 obtain⟨cur,hgc⟩:∃cur,w.heap[g]?=some (.cells cur 221 (0,0)):=by
  rcases h.row.2 with⟨hv,_⟩|⟨g',cap',cur,hv,_,hg,_⟩
  ·cases hv
  ·simp at hv
   obtain⟨rfl,-⟩:=hv
   exact⟨cur,hg⟩
 refine⟨⟨?_,h.lep,h.lem,?_,?_,?_⟩,(Below.refl _ _).setCell (p:=⟨g,i*2+1,none⟩) (h.row.lt g rfl).1 _,Frame.set hgc (.inr rfl) _⟩
 ·rw[Below.heap_setCell _ _ _ _ hgp];exact h.block
 ·rw[ents_set E t' i c t hi]at hs
  rw[List.length_set];exact hs.1
 ·rw[List.length_set];exact h.map.kept hs.2 hgm
 ·have hval:∀(a:Nat) (x:Nat×Nat),(E.set i (c,t'))[a]?=some x->∃x',E[a]?=some x'/\x'.1=x.1:=by
   intro a x hx
   by_cases e:a=i
   ·subst e
    rw[List.getElem?_set_self',hi]at hx
    simp at hx
    exact⟨(c,t),hi,by rw[←hx]⟩
   ·rw[List.getElem?_set_ne (fun h=>e h.symm)]at hx
    exact⟨x,hx,rfl⟩
  refine⟨fun a x hx=>?_,fun d hd=>?_⟩
  ·obtain⟨x',h1,h2⟩:=hval a x hx
   rw[←h2];exact h.places.there a x' h1
  ·refine h.places.not d (fun x hx e=>?_)
   obtain⟨j,hj⟩:=List.getElem?_of_mem hx
   by_cases hji:j=i
   ·subst hji
    rw[hi]at hj;cases hj
    exact hd (c,t') (List.mem_set (List.getElem?_eq_some_iff.1 hi).1 _) e
   ·exact hd x (List.mem_of_getElem? (i:=j) (by rw[List.getElem?_set_ne (fun h=>hji h.symm)];exact hj)) e
end
def QDropRes(base p bm n m:Nat)(L:List Nat)(w:World)(e:Ending)(w':World):Prop:=∃r:Bool,e=.returned (.bool r)/\(r=true↔m∈L)/\St base w' p bm n (L.erase m)/\Below base w w'/\Frame bm w w'
theorem at_inj{D:DataW Unit}{k:Lit}{c i:Int}(h1:D.atKey k (.lit (.int .i64 0))=.lit (.int .i64 c))(h2:D.atKey k Z0=.lit (.int .i64 i)):c=i:=by
 have:=h1.symm.trans h2
 simpa using this
theorem find_entry(E:List (Nat×Nat))(m:Nat):(∀x,x∈E->x.1≠m)∨∃(i t:Nat),E[i]?=some (m,t):=by
 by_cases h:∃x,x∈E/\x.1=m
 ·obtain⟨x,hx,rfl⟩:=h
  obtain⟨i,hi⟩:=List.getElem?_of_mem hx
  exact .inr ⟨i,x.2,hi⟩
 ·exact .inl (fun x hx e=>h ⟨x,hx,e⟩)
set_option maxRecDepth 100000 in
set_option maxHeartbeats 1600000 in
theorem drop_any(base p bm n m:Nat)(L:List Nat)(w:World)(hst:St base w p bm n L)(_hn:n<=10000000)(hl:L.length<=10000000)(hm:m<2 ^ 24):
  Calls Tryz.prog 140 #[.pointer (some ⟨p,0,none⟩),.int .u32 m] w fun e w'=>QDropRes base p bm n m L w e w':=by
 obtain⟨ev,D,E,hla,hbag,hEn⟩:=hst
 have HST:Hid (St base w p bm n L):=aq ⟨ev,D,E,hla,hbag,hEn⟩
 have hc0:=hla.cell0
 have hc1:=hla.cell1
 have HMAP:=aq hla.map
 have HLA:=aq hla
 have HBAG:=aq hbag
 rcases find_entry E m with hno|⟨i,t,hi⟩
 ·have HNM:Hid (m∉L):=aq (List.count_eq_zero.1 (hbag.none m hno))
  have HHAS:=aq (hla.places.not m hno)
  clear hla hbag hno
  go_enter Tryz.func140,Tryz.ntmps140
  go_wp2_with (first|(at_lookup;refine wpList_lookup_own_ok_int _ rfl _ _ 183 rfl 69 3 .i64 Tryz.keyLaw Tryz.underlying183 Tryz.underlying3 (Tryz.zeroInt _) bm _ D rfl (dz HMAP) _ _ rfl (keyOf_clause hm) ?_;rw[dz HHAS];intro c hat hwc)|go_in)
  go_ret
  exact⟨false,rfl,by simp[dz HNM],by rw[List.erase_of_not_mem (dz HNM)];exact dz HST,Below.refl _ _,Frame.refl _ _⟩
 ·have hil:i<E.length:=(List.getElem?_eq_some_iff.1 hi).1
  have hcnt:=hbag.count (m,t) (List.mem_of_getElem? hi)
  simp only at hcnt
  have htl:t<=10000000:=by rw[←hcnt];exact Nat.le_trans List.count_le_length hl
  obtain⟨hhas,hat0⟩:=hla.places.there i (m,t) hi
  have HHAS:=aq hhas
  have HAT:=aq hat0
  have HI:=aq hi
  have HCNT:=aq hcnt
  obtain⟨g,cap,hsh⟩:∃g cap,ev=.slice (some ⟨g,0,none⟩) E.length cap:=by
   rcases hla.row.2 with⟨_,hn0⟩|⟨g,cap,cur,hv,_⟩
   ·omega
   ·exact⟨g,cap,hv⟩
  subst hsh
  have hct:w.cell? ⟨g,i*2+1,none⟩=some (.int .i64 (t:Int)):=by rw[hla.row.cellAt (i*2+1) (by omega)];exact(ents_get E i (m,t) hi).2
  have hfr:=hla.row.frozenAt (i*2+1)
  clear hla hbag hhas hat0 hi hcnt
  rcases Nat.eq_zero_or_pos t with ht0|ht0
  ·subst ht0
   have HNM:Hid (m∉L):=aq (List.count_eq_zero.1 (dz HCNT))
   go_enter Tryz.func140,Tryz.ntmps140
   go_wp2_with (first|(at_lookup;refine wpList_lookup_own_ok_int _ rfl _ _ 183 rfl 69 3 .i64 Tryz.keyLaw Tryz.underlying183 Tryz.underlying3 (Tryz.zeroInt _) bm _ D rfl (dz HMAP) _ _ rfl (keyOf_clause hm) ?_;rw[dz HHAS];intro c hat hwc;obtain rfl:c=(i:Int):=at_inj hat (dz HAT);clear hat hwc)|go_in)
   go_ret
   exact⟨false,rfl,by simp[dz HNM],by rw[List.erase_of_not_mem (dz HNM)];exact dz HST,Below.refl _ _,Frame.refl _ _⟩
  ·have HIM:Hid (m∈L):=aq (List.count_pos_iff.1 (by rw[dz HCNT];exact ht0))
   have hq:((t:Int)==0)=false:=by rw[beq_eq_false_iff_ne];omega
   have HFIN:=aq (ListAt.times (dz HLA) (t':=t-1) rfl (dz HI))
   go_enter Tryz.func140,Tryz.ntmps140
   go_wp2_with (first|(at_lookup;refine wpList_lookup_own_ok_int _ rfl _ _ 183 rfl 69 3 .i64 Tryz.keyLaw Tryz.underlying183 Tryz.underlying3 (Tryz.zeroInt _) bm _ D rfl (dz HMAP) _ _ rfl (keyOf_clause hm) ?_;rw[dz HHAS];intro c hat hwc;obtain rfl:c=(i:Int):=at_inj hat (dz HAT);clear hat hwc)|go_in)
   go_ret
   have e1:((t:Int)-1)=((t-1:Nat):Int):=by omega
   obtain⟨f1,f2⟩:=dz HFIN
   rw[←e1]at f1 f2
   exact⟨true,rfl,by simp[dz HIM],⟨_,D,_,f1,(dz HBAG).drop (dz HI),by rw[List.length_set];exact hEn⟩,f2.1,f2.2⟩
end Go.Proofs.YtekkkoipcghlmaaGreatDoor
