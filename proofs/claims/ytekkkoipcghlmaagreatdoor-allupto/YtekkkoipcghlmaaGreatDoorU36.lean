import Derived.Test.YtekkkoipcghlmaaGreatDoorU01
import Derived.Test.YtekkkoipcghlmaaGreatDoorU33
import Derived.Lib.Bytealg
set_option linter.all false
namespace Go.Proofs.YtekkkoipcghlmaaGreatDoor.Sp
def UOf(T:List Int)(i:Nat):Prop:=- litAt i∈T
def Cons(T:List Int):Prop:=∀x,x∈T->-x∉T
def openOf(T:List Int)(c:List Int):List Int:=c.filter fun x=>!T.contains (-x)&&!T.contains x
def doneOf(T:List Int)(c:List Int):Bool:=c.any fun x=>T.contains x
def leftOf(T:List Int)(c:List Int):Int:=((openOf T c).getLast?).getD 0
theorem openOf_snoc(T c:List Int)(x:Int):openOf T (c++[x])=openOf T c++(if !T.contains (-x)&&!T.contains x then [x]else []):=by
 unfold openOf;rw[List.filter_append];simp[List.filter_cons]
theorem doneOf_snoc(T c:List Int)(x:Int):doneOf T (c++[x])=(doneOf T c||T.contains x):=by
 unfold doneOf;rw[List.any_append];simp
section
variable {L:List Nat}{T:List Int}{U:Nat->Prop}
theorem uU(i:Nat):- litAt (opp i)=litAt i:=by rw[litAt_opp,Int.neg_neg]
theorem pO(hU:∀i,i<24->UOf T i->U i){c:Nat}(hcL:c∈L)(hc:c<2 ^ 24)(hd:doneOf T (litsOf c)=false)(ho:openOf T (litsOf c)=[]):¬mJ L U:=by
 intro hs
 obtain⟨⟨i,hi,hn⟩,_⟩:=hs c hcL
 have hi24:i<24:=by
  rcases Nat.lt_or_ge i 24 with h|h
  ·exact h
  ·rw[Nat.testBit_lt_two_pow (Nat.lt_of_lt_of_le hc (Nat.pow_le_pow_right (by decide) h))]at hi;cases hi
 have hm:=(mem_litsOf c i hi24).2 hi
 have h1:=List.filter_eq_nil_iff.1 ho _ hm
 have h2:=List.any_eq_false.1 hd _ hm
 apply hn
 apply hU i hi24
 unfold UOf
 simp at h1 h2
 by_cases h3:- litAt i∈T
 ·exact h3
 ·exact absurd (h1 h3) h2
theorem aE5(hU:∀i,i<24->UOf T i->U i)(hs:mJ L U){c:Nat}(hcL:c∈L)(hc:c<2 ^ 24)(hd:doneOf T (litsOf c)=false){x:Int}(ho:openOf T (litsOf c)=[x]):
  ∃i,i<24/\x=litAt i/\U (opp i):=by
 have hx:x∈openOf T (litsOf c):=by rw[ho];simp
 have hxm:x∈litsOf c:=(List.mem_filter.1 hx).1
 obtain⟨i,hi24,rfl,hi⟩:=litsOf_mem hxm
 refine⟨i,hi24,rfl,?_⟩
 have others:∀j,c.testBit j=true->j≠i->U j:=by
  intro j hj hne
  have hj24:j<24:=by
   rcases Nat.lt_or_ge j 24 with h|h
   ·exact h
   ·rw[Nat.testBit_lt_two_pow (Nat.lt_of_lt_of_le hc (Nat.pow_le_pow_right (by decide) h))]at hj;cases hj
  have hm:=(mem_litsOf c j hj24).2 hj
  have h2:=List.any_eq_false.1 hd _ hm
  apply hU j hj24
  unfold UOf
  by_cases h3:- litAt j∈T
  ·exact h3
  ·exfalso
   have:litAt j∈openOf T (litsOf c):=by
    unfold openOf
    refine List.mem_filter.2 ⟨hm,?_⟩
    simp at h2⊢
    exact⟨h3,h2⟩
   rw[ho]at this
   simp at this
   exact hne (litAt_inj this)
 obtain⟨⟨k,hk,hkn⟩,hun⟩:=hs c hcL
 by_cases hki:k=i
 ·subst hki
  exact hun k hk hkn others
 ·exact absurd (others k hk hki) hkn
theorem sH(hcons:Cons T)(hL:∀c,c∈L->c<2 ^ 24)(h:∀c,c∈L->doneOf T (litsOf c)=true∨2<=(openOf T (litsOf c)).length):mJ L (fun i=>UOf T i):=by
 intro c hc
 have h24:∀j,c.testBit j=true->j<24:=fun j hj=>by
  rcases Nat.lt_or_ge j 24 with h|h
  ·exact h
  ·rw[Nat.testBit_lt_two_pow (Nat.lt_of_lt_of_le (hL c hc) (Nat.pow_le_pow_right (by decide) h))]at hj;cases hj
 rcases h c hc with hd|ho
 ·obtain⟨x,hx,hxT⟩:=List.any_eq_true.1 hd
  obtain⟨i,hi24,rfl,hi⟩:=litsOf_mem hx
  have hxT':litAt i∈T:=by simpa using hxT
  have hni:¬UOf T i:=fun h'=>hcons _ hxT' h'
  refine⟨⟨i,hi,hni⟩,fun j hj hnj hoth=>?_⟩
  have:j=i:=by
   by_cases e:j=i
   ·exact e
   ·exact absurd (hoth i hi (fun e'=>e e'.symm)) hni
  subst this
  show-litAt (opp j)∈T
  rw[uU]
  exact hxT'
 ·match hl:openOf T (litsOf c),ho with
  | a::b::r,_=>
   have ha:a∈openOf T (litsOf c):=by rw[hl];simp
   have hb:b∈openOf T (litsOf c):=by rw[hl];simp
   have hab:a≠b:=by
    have hnd:(openOf T (litsOf c)).Nodup:=by
     unfold openOf litsOf
     refine List.Nodup.sublist List.filter_sublist ?_
     refine List.Pairwise.map litAt (R:=(·≠·)) (fun a b h e=>h (litAt_inj e)) ?_
     exact List.Nodup.sublist List.filter_sublist List.nodup_range
    rw[hl]at hnd
    intro e
    subst e
    simp at hnd
   obtain⟨i,_,rfl,hi⟩:=litsOf_mem (List.mem_filter.1 ha).1
   obtain⟨j,_,rfl,hj⟩:=litsOf_mem (List.mem_filter.1 hb).1
   have hni:¬UOf T i:=by have:=(List.mem_filter.1 ha).2;simp at this;exact this.1
   have hnj:¬UOf T j:=by have:=(List.mem_filter.1 hb).2;simp at this;exact this.1
   refine⟨⟨i,hi,hni⟩,fun k _ _ hoth=>?_⟩
   exfalso
   by_cases e:k=i
   ·subst e;exact hnj (hoth j hj (fun e'=>hab (by rw[e'])))
   ·exact hni (hoth i hi (fun e'=>e e'.symm))
end
def rY(T:List Int):Nat:=((List.range 24).filter fun i=>!T.contains (litAt i)).length
theorem vE(p:Nat->Bool)(k:Nat):∀l:List Nat,l.Nodup->k∈l->p k=true->(l.filter fun i=>p i&&i != k).length+1=(l.filter p).length:=by
 intro l
 induction l with
 | nil=>intro _ h;cases h
 | cons a r ih=>
  intro hn hm hp
  have hn':=List.nodup_cons.1 hn
  rcases List.mem_cons.1 hm with rfl|hm
  ·have:(r.filter fun i=>p i&&i != k)=r.filter p:=by
    apply List.filter_congr
    intro x hx
    have:x≠k:=fun e=>hn'.1 (e▸hx)
    simp[this]
   simp[hp,this]
  ·have hak:a≠k:=fun e=>hn'.1 (e▸hm)
   have:=ih hn'.2 hm hp
   by_cases hpa:p a=true
   ·simp[hpa,hak];omega
   ·simp[hpa];omega
theorem aH2(T:List Int):T.Nodup->(∀x,x∈T->∃i,i<24/\x=litAt i)->T.length+rY T=24:=by
 induction T with
 | nil=>intro _ _;decide
 | cons x T ih=>
  intro hn hx
  have hn':=List.nodup_cons.1 hn
  have h1:=ih hn'.2 (fun y hy=>hx y (by simp[hy]))
  obtain⟨i,hi,rfl⟩:=hx x (by simp)
  have h2:=vE (fun j=>!T.contains (litAt j)) i (List.range 24) List.nodup_range (List.mem_range.2 hi) (by simpa using hn'.1)
  have h3:rY (litAt i::T)+1=rY T:=by
   unfold rY
   rw[←h2]
   congr 2
   apply List.filter_congr
   intro j _
   rw[Bool.eq_iff_iff]
   simp
   constructor
   ·rintro⟨ha,hb⟩
    exact⟨hb,fun e=>ha (by rw[e])⟩
   ·rintro⟨ha,hb⟩
    exact⟨fun e=>hb (litAt_inj e),ha⟩
  simp only[List.length_cons]
  omega
structure Taken(L:List Nat)(m:Nat)(T:List Int):Prop where
 nodup:T.Nodup
 lits:∀x,x∈T->∃i,i<24/\x=litAt i
 cons:Cons T
 has:∀i,i<24->m.testBit i=true->UOf T i
 least:∀U:Nat->Prop,(∀i,m.testBit i=true->U i)->mJ L U->∀i,i<24->UOf T i->U i
theorem Taken.len{L:List Nat}{m:Nat}{T:List Int}(h:Taken L m T):T.length<=24:=by have:=aH2 T h.nodup h.lits;omega
theorem taken_start{L:List Nat}{m:Nat}(h:¬∃i,m.testBit i=true/\m.testBit (opp i)=true):Taken L m ((litsOf m).map fun x=>-x):=by
 refine⟨?_,?_,?_,?_,?_⟩
 ·refine List.Pairwise.map _ (R:=(·≠·)) (fun a b hab e=>hab (by omega)) ?_
  unfold litsOf
  refine List.Pairwise.map litAt (R:=(·≠·)) (fun a b h e=>h (litAt_inj e)) ?_
  exact List.Nodup.sublist List.filter_sublist List.nodup_range
 ·intro x hx
  obtain⟨y,hy,rfl⟩:=List.mem_map.1 hx
  obtain⟨i,hi,rfl,_⟩:=litsOf_mem hy
  exact⟨opp i,opp_lt hi,(litAt_opp i).symm⟩
 ·intro x hx hx'
  obtain⟨y,hy,rfl⟩:=List.mem_map.1 hx
  obtain⟨z,hz,hzz⟩:=List.mem_map.1 hx'
  obtain⟨i,hi,rfl,hbi⟩:=litsOf_mem hy
  obtain⟨j,hj,rfl,hbj⟩:=litsOf_mem hz
  have e:litAt j=litAt (opp i):=by rw[litAt_opp];omega
  have:=litAt_inj e
  subst this
  exact h ⟨i,hbi,hbj⟩
 ·intro i hi hb
  exact List.mem_map.2 ⟨litAt i,(mem_litsOf m i hi).2 hb,rfl⟩
 ·intro U hU _ i hi hu
  obtain⟨y,hy,he⟩:=List.mem_map.1 hu
  obtain⟨j,_,rfl,hbj⟩:=litsOf_mem hy
  have:j=i:=litAt_inj (by omega)
  subst this
  exact hU j hbj
theorem Taken.more{L:List Nat}{m:Nat}{T:List Int}(h:Taken L m T){c:Nat}(hcL:c∈L)(hc:c<2 ^ 24)(hd:doneOf T (litsOf c)=false){x:Int}(ho:openOf T (litsOf c)=[x]):Taken L m (T++[x]):=by
 have hxo:x∈openOf T (litsOf c):=by rw[ho];simp
 have hxp:=(List.mem_filter.1 hxo).2
 simp at hxp
 obtain⟨i,hi,rfl,_⟩:=litsOf_mem (List.mem_filter.1 hxo).1
 refine⟨?_,?_,?_,?_,?_⟩
 ·rw[List.nodup_append]
  refine⟨h.nodup,by simp,fun a ha b hb e=>?_⟩
  simp at hb;subst hb;subst e;exact hxp.2 ha
 ·intro y hy
  rcases List.mem_append.1 hy with hy|hy
  ·exact h.lits y hy
  ·simp at hy;exact⟨i,hi,hy⟩
 ·intro y hy hy'
  rcases List.mem_append.1 hy with hy|hy<;>rcases List.mem_append.1 hy' with hy'|hy'
  ·exact h.cons y hy hy'
  ·simp at hy'
   have:y=- litAt i:=by omega
   subst this;exact hxp.1 hy
  ·simp at hy;subst hy;exact hxp.1 hy'
  ·simp at hy hy'
   have:litAt i≠0:=by unfold litAt;split<;>omega
   omega
 ·intro j hj hb
  exact List.mem_append_left _ (h.has j hj hb)
 ·intro U hU hs j hj hu
  rcases List.mem_append.1 hu with hu|hu
  ·exact h.least U hU hs j hj hu
  ·simp at hu
   obtain⟨k,hk,hxk,hUk⟩:=aE5 (T:=T) (fun i hi' hu'=>h.least U hU hs i hi' hu') hs hcL hc hd ho
   have:k=i:=litAt_inj hxk.symm
   subst this
   have e:litAt j=litAt (opp k):=by rw[litAt_opp];omega
   rw[litAt_inj e]
   exact hUk
theorem Taken.conflict{L:List Nat}{m:Nat}{T:List Int}(h:Taken L m T){c:Nat}(hcL:c∈L)(hc:c<2 ^ 24)(hd:doneOf T (litsOf c)=false)(ho:openOf T (litsOf c)=[]):Fol L m:=
 .inr fun U hU hs=>pO (U:=U) (fun i hi hu=>h.least U hU hs i hi hu) hcL hc hd ho hs
theorem Taken.fixed{L:List Nat}{m:Nat}{T:List Int}(h:Taken L m T)(hm:m<2 ^ 24)(hL:∀c,c∈L->c<2 ^ 24)(hno:¬∃i,m.testBit i=true/\m.testBit (opp i)=true)
  (hf:∀c,c∈L->doneOf T (litsOf c)=true∨2<=(openOf T (litsOf c)).length):¬Fol L m:=by
 rintro(hx|hx)
 ·exact hno hx
 ·refine hx (fun i=>UOf T i) (fun i hb=>?_) (sH h.cons hL hf)
  have hi:i<24:=by
   rcases Nat.lt_or_ge i 24 with h'|h'
   ·exact h'
   ·rw[Nat.testBit_lt_two_pow (Nat.lt_of_lt_of_le hm (Nat.pow_le_pow_right (by decide) h'))]at hb;cases hb
  exact h.has i hi hb
end Go.Proofs.YtekkkoipcghlmaaGreatDoor.Sp
namespace Go.Proofs.YtekkkoipcghlmaaGreatDoor
open Go.RowKit
def negs(xs:List Int):List Int:=xs.map fun x=>-x
def lenOf:Value->Nat|.slice _ n _=>n|_=>0
def xN:Value->Nat|.bool true=>1|_=>0
def yF(L:List Nat)(m:Nat)(w:World)(e:Ending)(w':World):Prop:=∃r:Bool,e=.returned (.bool r)/\(r=true↔Sp.Fol L m)/\Below w.heap.size w w'
def nF(T:List Int)(L:List Nat):Prop:=∀c,c∈L->Sp.doneOf T (Sp.litsOf c)=true∨2<=(Sp.openOf T (Sp.litsOf c)).length
def gM(T c:List Int):Nat:=(Sp.openOf T c).length
def lOf(T c:List Int):Int:=Sp.leftOf T c
def dOf(T c:List Int):Bool:=Sp.doneOf T c
theorem uN{m:Nat}(hm:m<2 ^ 24):fJ (negs (Sp.litsOf m))=true↔∃i,m.testBit i=true/\m.testBit (Sp.opp i)=true:=by
 unfold fJ negs
 rw[List.any_eq_true]
 constructor
 ·rintro⟨x,hx,hc⟩
  obtain⟨y,hy,rfl⟩:=List.mem_map.1 hx
  have hc':- -y∈(Sp.litsOf m).map fun x=>-x:=by simpa using hc
  obtain⟨z,hz,hzz⟩:=List.mem_map.1 hc'
  obtain⟨i,hi,rfl,hbi⟩:=Sp.litsOf_mem hy
  obtain⟨j,hj,rfl,hbj⟩:=Sp.litsOf_mem hz
  have e:Sp.litAt j=Sp.litAt (Sp.opp i):=by rw[Sp.litAt_opp];omega
  have:=Sp.litAt_inj e
  subst this
  exact⟨i,hbi,hbj⟩
 ·rintro⟨i,h1,h2⟩
  have hi:i<24:=by
   rcases Nat.lt_or_ge i 24 with h|h
   ·exact h
   ·rw[Nat.testBit_lt_two_pow (Nat.lt_of_lt_of_le hm (Nat.pow_le_pow_right (by decide) h))]at h1;cases h1
  refine⟨- Sp.litAt i,List.mem_map.2 ⟨_,(Sp.mem_litsOf m i hi).2 h1,rfl⟩,?_⟩
  have:- - Sp.litAt i∈(Sp.litsOf m).map fun x=>-x:=List.mem_map.2 ⟨_,(Sp.mem_litsOf m _ (Sp.opp_lt hi)).2 h2,by rw[Sp.litAt_opp]⟩
  simpa using this
theorem wZ(T c:List Int)(x:Int):gM T (c++[x])=gM T c+(if !T.contains (-x)&&!T.contains x then 1 else 0):=by
 unfold gM;rw[Sp.openOf_snoc];split<;>simp
theorem aK9(T c:List Int)(x:Int):dOf T (c++[x])=(dOf T c||T.contains x):=Sp.doneOf_snoc T c x
theorem aM9(T c:List Int)(x:Int):lOf T (c++[x])=if !T.contains (-x)&&!T.contains x then x else lOf T c:=by
 unfold lOf Sp.leftOf;rw[Sp.openOf_snoc];split<;>simp
theorem uH(T c:List Int):gM T c<=c.length:=List.length_filter_le _ _
theorem aR3{T c:List Int}(h:gM T c=1):Sp.openOf T c=[lOf T c]:=by
 unfold gM at h
 obtain⟨x,hx⟩:=List.length_eq_one_iff.1 h
 unfold lOf Sp.leftOf;rw[hx];rfl
set_option maxRecDepth 100000 in
set_option maxHeartbeats 1600000 in
theorem uB(v u:Value)(L:List Nat)(m:Nat)(w:World)(hl:L.length<=4000000000000)(hL:∀c,c∈L->c<2 ^ 24)(hm:m<2 ^ 24)(hv:RowsOf w v L)(hu:Lies w u (ints (Sp.litsOf m))):
  Calls Tryz.prog 153 #[v,u] w fun e w'=>yF L m w e w':=by
 have hml:=bO m
 have hmb:∀x,x∈Sp.litsOf m->x≠0/\-12<=x/\x<=12:=fun x hx=>by
  obtain⟨i,hi,rfl,_⟩:=Sp.litsOf_mem hx
  unfold Sp.litAt;split<;>omega
 have hlenu:(ints (Sp.litsOf m)).length=(Sp.litsOf m).length:=by simp[ints]
 obtain⟨vs,hvs,hrows⟩:=hv
 have hlenv:=hrows.1
 obtain⟨ao2,cap2,rfl⟩:=aY hvs
 rw[hlenv]at hvs⊢
 have HV:=aq hvs
 have HR:=aq hrows
 have HLV:=aq hlenv
 have HLm:=aq hL
 have HAN:=aq (uN hm)
 have HTS:=aq (fun h=>Sp.taken_start (L:=L) (m:=m) h)
 clear hvs hrows hlenv hL
 obtain⟨ao,cap,rfl⟩:=aY hu
 rw[hlenu]at hu⊢
 have HU:=aq hu
 clear hu hlenu
 generalize hxs:Sp.litsOf m=xs at *
 have HX:=aq hxs
 clear hxs
 go_enter Tryz.func153,Tryz.ntmps153
 go_wp2
 go_loopw [5,6] (fun t i wr=>∃k:Nat,k<=xs.length/\i=.int .i64 k/\wr.ownsRow w.heap.size 3 1 t k (ints (negs (xs.take k)))/\Below w.heap.size w wr) (fun _ i _=>xs.length-(intOf i).toNat)
 case atStart=>exact⟨0,Nat.zero_le _,rfl,World.ownsRow_nil _ _ _ _,Below.refl _ _⟩
 case round=>
  obtain⟨k,hk,rfl,hown,hbel⟩:=hrel
  by_cases hlt:k<xs.length
  ·rcases dz HU with⟨h0,_⟩|⟨b,off,cap',hp,hsl,hb,hc⟩
   ·exfalso;have h0':xs=[]:=by simpa [ints] using h0
    rw[h0']at hlt;simp at hlt
   ·simp only[Value.slice.injEq]at hsl
    obtain⟨rfl,-,rfl⟩:=hsl
    have hcell:wr.cell? ⟨b,off+k,none⟩=some (.int .i64 xs[k]):=(hbel.cell (p:=⟨b,off+k,none⟩) hb).trans (hc k (.int .i64 xs[k]) (by simp[ints,hlt]))
    have hxb:=hmb xs[k] (List.getElem_mem hlt)
    have HS:Hid (xs.take (k+1)=xs.take k++[xs[k]]):=aq (List.take_succ_eq_append_getElem hlt)
    generalize xs[k]=x at hcell HS hxb
    clear hc hmb
    go_wp2_with (at_builtin;refine bR rfl _ _ 25 3 rfl Tryz.underlying25 Tryz.infoIntW rfl (by decide) hown rfl rfl rfl (by omega) (Nat.le_refl _) hbel ?_;intro v' w1 hown' hbel' _)
    go_roundw
    case rel=>exact⟨k+1,by omega,by go_num,by rw[dz HS];simpa [ints,negs] using hown',hbel'⟩
    case measure=>simp[intOf];omega
  ·have HT:Hid (xs.take k=xs):=aq (List.take_of_length_le (by omega))
   have HTB:Hid (∀x,x∈negs xs->-12<=x/\x<=12):=aq (fun x hx=>by
    obtain⟨z,hz,rfl⟩:=List.mem_map.1 hx
    have:=hmb z hz;omega)
   have hk':k=xs.length:=by omega
   rw[dz HT]at hown
   have HO:=aq hown
   have HLT:=aq (aE hown (by simp[ints,negs];omega))
   clear hown
   have HAL:=aq (oK _ (negs xs) wr (by simp[negs];omega) (dz HTB) (dz HLT))
   cases hal:fJ (negs xs)
   ·have HNO:Hid (¬∃i,m.testBit i=true/\m.testBit (Sp.opp i)=true):=aq (fun h=>by
     have:=(dz HAN).2 h
     rw[hal]at this;cases this)
    have HT0:Hid (Sp.Taken L m (negs xs)):=aq (dz HTS (dz HNO))
    rw[hal]at HAL
    clear hal HAN HTS
    go_wp2_with fail
    refine(dz HAL).mono ?_
    rintro e w1 ⟨rfl,rfl⟩
    go_wp2
    have hkl:k=(negs xs).length:=by simp[negs];omega
    rw[hkl]at HO
    generalize negs xs=T0 at *
    clear hmb hlt hk' HT HTB HLT HAL hkl HX HU hk
    go_loopw [5,7] (fun t g wr=>∃(T:List Int) (mb:Bool),g=.bool mb/\wr.ownsRow w.heap.size 3 1 t T.length (ints T)/\Hid (Sp.Taken L m T)/\Hid (mb=false->nF T L)/\Below w.heap.size w wr) (fun t g _=>2*(24-lenOf t)+xN g)
    case atStart=>exact⟨T0,true,rfl,dz HO,HT0,aq (by intro h;cases h),hbel⟩
    case round=>
     clear hbel HO HT0 hml
     obtain⟨T,mb,rfl,hown,HTK,HSE,hbel⟩:=hrel
     cases mb
     ·have HFX:Hid (¬Sp.Fol L m):=aq ((dz HTK).fixed hm (dz HLm) (dz HNO) (dz HSE rfl))
      clear hown
      go_wp2
      go_ret
      exact⟨false,rfl,by simp[dz HFX],hbel⟩
     ·have HO:=aq hown
      obtain⟨tao,tc,rfl⟩:=aC hown
      clear hown HSE
      go_wp2
      go_loopw [5,7,8] (fun t g i wr=>∃(T':List Int) (mb:Bool) (k:Nat),k<=L.length/\g=.bool mb/\i=.int .i64 k/\Hid (wr.ownsRow w.heap.size 3 1 t T'.length (ints T'))/\Hid (Sp.Taken L m T')/\Hid (mb=false->T'=T/\nF T (L.take k))/\Hid (mb=true->T.length<T'.length)/\Below w.heap.size w wr) (fun _ _ i _=>L.length-(intOf i).toNat)
      case atStart=>exact⟨T,false,0,Nat.zero_le _,rfl,rfl,HO,HTK,aq (fun _=>⟨rfl,fun c hc=>by simp at hc⟩),aq (fun h=>(by cases h)),hbel⟩
      case round=>
       clear hbel
       obtain⟨T',mb,k,hk,rfl,rfl,HO',HTK',HSE,HGR,hbel⟩:=hrel
       have hown':=dz HO'
       obtain⟨tao',tc',rfl⟩:=aC hown'
       have hTl:=(dz HTK').len
       have HLT:=aq (aE hown' (by simp[ints]))
       clear hown'
       by_cases hlt:k<L.length
       ·rcases dz HV with⟨h0,_⟩|⟨b,off,cap',hp,hsl,hb,hc⟩
        ·exfalso;have:=dz HLV;rw[h0]at this;simp at this;omega
        ·simp only[Value.slice.injEq]at hsl
         obtain⟨rfl,-,rfl⟩:=hsl
         have hkv:k<vs.length:=by rw[dz HLV];exact hlt
         have hcell:wr.cell? ⟨b,off+k,none⟩=some vs[k]:=(hbel.cell (p:=⟨b,off+k,none⟩) hb).trans (hc k vs[k] (List.getElem?_eq_getElem hkv))
         have hli:=((dz HR).2 k vs[k] L[k] (List.getElem?_eq_getElem hkv) (List.getElem?_eq_getElem hlt)).below hbel
         have HCM:Hid (L[k]∈L/\L[k]<2 ^ 24):=aq ⟨List.getElem_mem hlt,dz HLm _ (List.getElem_mem hlt)⟩
         have HS:Hid (L.take (k+1)=L.take k++[L[k]]):=aq (List.take_succ_eq_append_getElem hlt)
         obtain⟨ao3,c3,hsh⟩:=aY hli
         generalize L[k]=c at *
         generalize vs[k]=x at *
         subst hsh
         rw[show(ints (Sp.litsOf c)).length=(Sp.litsOf c).length from by simp[ints]]at hcell hli
         have hl24:=bO c
         have hcb:∀x,x∈Sp.litsOf c->-12<=x/\x<=12:=fun x hx=>by
          obtain⟨i,hi,rfl,_⟩:=Sp.litsOf_mem hx
          unfold Sp.litAt;split<;>omega
         generalize hcs:Sp.litsOf c=cs at *
         have HCS:=aq hcs
         have HLI:=aq hli
         clear hc hp hli hcs
         go_wp2
         go_loop [9,10,11,12] (fun o l d j=>∃q:Nat,q<=cs.length/\o=.int .i64 (gM T' (cs.take q):Nat)/\l=.int .i64 (lOf T' (cs.take q))/\d=.bool (dOf T' (cs.take q))/\j=.int .i64 q) (fun _ _ _ j=>cs.length-(intOf j).toNat)
         case atStart=>exact⟨0,Nat.zero_le _,rfl,rfl,rfl,rfl⟩
         case round=>
          obtain⟨q,hq,rfl,rfl,rfl,rfl⟩:=hrel
          by_cases hqlt:q<cs.length
          ·rcases dz HLI with⟨h0,_⟩|⟨b4,off4,cap4,hp4,hsl4,hb4,hc4⟩
           ·exfalso;have h0':cs=[]:=by simpa [ints] using h0
            rw[h0']at hqlt;simp at hqlt
           ·simp only[Value.slice.injEq]at hsl4
            obtain⟨rfl,-,rfl⟩:=hsl4
            have hcell4:wr.cell? ⟨b4,off4+q,none⟩=some (.int .i64 cs[q]):=hc4 q (.int .i64 cs[q]) (by simp[ints,hqlt])
            have hxb:=hcb cs[q] (List.getElem_mem hqlt)
            have HS4:Hid (cs.take (q+1)=cs.take q++[cs[q]]):=aq (List.take_succ_eq_append_getElem hqlt)
            have hno:=uH T' (cs.take q)
            have hql:(cs.take q).length<=q:=List.length_take_le _ _
            generalize cs[q]=x at hcell4 HS4 hxb
            have HN:=aq (wZ T' (cs.take q) x)
            have HD:=aq (aK9 T' (cs.take q) x)
            have HL4:=aq (aM9 T' (cs.take q) x)
            rw[←dz HS4]at HN HD HL4
            clear hc4 hp4 hcb HS4
            have HI1:=aq (nW _ T' (-x) wr (by omega) (dz HLT))
            have HI2:=aq (nW _ T' x wr (by omega) (dz HLT))
            generalize hno':gM T' (cs.take q)=no at *
            generalize lOf T' (cs.take q)=lo at *
            generalize dOf T' (cs.take q)=dn at *
            generalize T'.contains (-x)=f1 at *
            generalize T'.contains x=f2 at *
            clear hno'
            cases f1<;>cases f2<;>cases dn
            all_goals
             go_wp2_with fail
             refine(dz HI1).mono ?_
             rintro e w1 ⟨rfl,rfl⟩
             go_wp2_with fail
             refine(dz HI2).mono ?_
             rintro e w2 ⟨rfl,rfl⟩
             go_wp2
             go_round
             case rel=>exact⟨q+1,by omega,by rw[dz HN];go_num,by rw[dz HL4];rfl,by rw[dz HD];rfl,by go_num⟩
             case measure=>simp[intOf];omega
          ·have hqe:cs.take q=cs:=List.take_of_length_le (by omega)
           rw[hqe]
           have hno:=uH T' cs
           clear hqe hcb hq HLI
           cases hd:dOf T' cs
           ·rcases Nat.lt_or_ge 1 (gM T' cs)with h2|h2
            ·have HSX:Hid (mb=false->T'=T/\nF T (L.take (k+1))):=aq (fun hmb=>by
              obtain⟨e1,e2⟩:=dz HSE hmb
              refine⟨e1,fun c' hc'=>?_⟩
              rw[dz HS]at hc'
              rcases List.mem_append.1 hc' with h|h
              ·exact e2 c' h
              ·simp at h;subst h;right;rw[←e1,dz HCS];exact h2)
             generalize gM T' cs=no at *
             generalize lOf T' cs=lo at *
             have q0:((no:Int)==0)=false:=by rw[beq_eq_false_iff_ne];omega
             have q1:((no:Int)==1)=false:=by rw[beq_eq_false_iff_ne];omega
             clear hd
             go_wp2
             go_roundw
             case rel=>exact⟨T',mb,k+1,by omega,rfl,by go_num,HO',HTK',HSX,HGR,hbel⟩
             case measure=>simp[intOf];omega
            ·rcases Nat.eq_zero_or_pos (gM T' cs)with h0|h1
             ·have HF:Hid (Sp.Fol L m):=aq (by
               have e:=dz HCS
               subst e
               exact(dz HTK').conflict (dz HCM).1 (dz HCM).2 hd (List.length_eq_zero_iff.1 h0))
              rw[h0]
              generalize lOf T' cs=lo at *
              clear hd h0 h2 hno
              go_wp2
              go_ret
              exact⟨true,rfl,by simp[dz HF],hbel⟩
             ·have h11:gM T' cs=1:=by omega
              have HMO:Hid (Sp.Taken L m (T'++[lOf T' cs])):=aq (by
               have e:=dz HCS
               subst e
               exact(dz HTK').more (dz HCM).1 (dz HCM).2 hd (aR3 h11))
              rw[h11]
              generalize lOf T' cs=lo at *
              have hown':=dz HO'
              clear hd h2 h1 h11 hno
              go_wp2_with (at_builtin;refine bR rfl _ _ 25 3 rfl Tryz.underlying25 Tryz.infoIntW rfl (by decide) hown' rfl rfl rfl (by omega) (Nat.le_refl _) hbel ?_;intro v' w1 hown2 hbel' _)
              go_roundw
              case rel=>exact⟨T'++[lo],true,k+1,by omega,rfl,by go_num,aq (by simpa [ints] using hown2),HMO,aq (fun h=>(by cases h)),aq (fun _=>by
               have:T.length<=T'.length:=by
                cases mb
                ·rw[(dz HSE rfl).1];exact Nat.le_refl _
                ·exact Nat.le_of_lt (dz HGR rfl)
               simp;omega),hbel'⟩
              case measure=>simp[intOf];omega
           ·have HSX:Hid (mb=false->T'=T/\nF T (L.take (k+1))):=aq (fun hmb=>by
              obtain⟨e1,e2⟩:=dz HSE hmb
              refine⟨e1,fun c' hc'=>?_⟩
              rw[dz HS]at hc'
              rcases List.mem_append.1 hc' with h|h
              ·exact e2 c' h
              ·simp at h;subst h;left;rw[←e1,dz HCS];exact hd)
            generalize gM T' cs=no at *
            generalize lOf T' cs=lo at *
            clear hd
            go_wp2
            go_roundw
            case rel=>exact⟨T',mb,k+1,by omega,rfl,by go_num,HO',HTK',HSX,HGR,hbel⟩
            case measure=>simp[intOf];omega
       ·have HT:Hid (L.take k=L):=aq (List.take_of_length_le (by omega))
        have hTl0:=(dz HTK).len
        cases mb
        ·obtain⟨e1,e2⟩:=dz HSE rfl
         subst e1
         rw[dz HT]at e2
         have HE:=aq e2
         clear e2 HSE
         go_wp2
         go_roundw
         case rel=>exact⟨T',false,rfl,dz HO',HTK',aq (fun _=>dz HE),hbel⟩
         case measure=>simp[lenOf,xN]
        ·have hgr:=dz HGR rfl
         go_wp2
         go_roundw
         case rel=>exact⟨T',true,rfl,dz HO',HTK',aq (fun h=>(by cases h)),hbel⟩
         case measure=>simp[lenOf,xN];omega
   ·rw[hal]at HAL
    have HF:Hid (Sp.Fol L m):=aq (.inl ((dz HAN).1 hal))
    clear hal
    go_wp2_with fail
    refine(dz HAL).mono ?_
    rintro e w1 ⟨rfl,rfl⟩
    go_wp2
    go_ret
    exact⟨true,rfl,by simp[dz HF],hbel⟩
end Go.Proofs.YtekkkoipcghlmaaGreatDoor
namespace Go.Proofs.YtekkkoipcghlmaaGreatDoor.Sp
def segsAux(cur:List UInt8):List UInt8->List (List UInt8×Bool)
 | []=>if cur=[]then []else [(cur,false)]
 | c::r=>if c=10 then(cur,true)::segsAux [] r else segsAux (cur++[c]) r
def segs(s:List UInt8):List (List UInt8×Bool):=segsAux [] s
def scanSegs:Nat->List (List UInt8×Bool)->Option Nat
 | _,[]=>none
 | n,x::r=>if !okLine x.1||!x.2 then some (n+1)else scanSegs (n+1) r
theorem segsAux_lines(r:List UInt8):∀cur,(segsAux cur r).map Prod.fst=linesAux cur r:=by
 induction r with
 | nil=>intro cur;unfold segsAux linesAux;split<;>rfl
 | cons c r ih=>
  intro cur
  unfold segsAux linesAux
  split
  ·rw[List.map_cons,ih]
  ·exact ih _
theorem qR(r:List UInt8):∀cur,linesAux cur r=[]->endAux cur r=true:=by
 induction r with
 | nil=>
  intro cur h
  unfold linesAux at h
  split at h
  ·rename_i hc;subst hc;rfl
  ·cases h
 | cons c r ih=>
  intro cur h
  unfold linesAux at h
  unfold endAux
  split at h
  ·cases h
  ·rename_i hc;rw[if_neg hc];exact ih _ h
theorem scan_segs(r:List UInt8):∀(cur:List UInt8) (n:Nat),scanSegs n (segsAux cur r)=scan (endAux cur r) n (linesAux cur r):=by
 induction r with
 | nil=>
  intro cur n
  unfold segsAux linesAux endAux
  by_cases hc:cur=[]
  ·simp[hc,scanSegs,scan]
  ·have:cur.isEmpty=false:=by simpa using hc
   simp[hc,scanSegs,scan,this]
 | cons c r ih=>
  intro cur n
  unfold segsAux linesAux endAux
  by_cases hc:c=10
  ·rw[if_pos hc,if_pos hc,if_pos hc]
   unfold scanSegs scan
   rw[ih]
   have:(!endAux [] r&&(linesAux [] r).isEmpty)=false:=by
    cases he:(linesAux [] r).isEmpty
    ·simp
    ·rw[qR r [] (by simpa using he)];rfl
   rw[this]
   simp
  ·rw[if_neg hc,if_neg hc,if_neg hc];exact ih _ n
theorem segsAux_no(r:List UInt8):∀cur,(10:UInt8)∉cur->∀x,x∈segsAux cur r->(10:UInt8)∉x.1:=by
 induction r with
 | nil=>
  intro cur h x hx
  unfold segsAux at hx
  split at hx
  ·cases hx
  ·simp at hx;subst hx;exact h
 | cons c r ih=>
  intro cur h x hx
  unfold segsAux at hx
  split at hx
  ·rcases List.mem_cons.1 hx with rfl|hx
   ·exact h
   ·exact ih [] (by simp) x hx
  ·rename_i hc
   exact ih _ (by simp[h];exact fun h'=>hc h'.symm) x hx
theorem segsAux_len(r:List UInt8):∀cur x,x∈segsAux cur r->x.1.length<=cur.length+r.length:=by
 induction r with
 | nil=>
  intro cur x hx
  unfold segsAux at hx
  split at hx
  ·cases hx
  ·simp at hx;subst hx;simp
 | cons c r ih=>
  intro cur x hx
  unfold segsAux at hx
  split at hx
  ·rcases List.mem_cons.1 hx with rfl|hx
   ·simp
   ·have:=ih [] x hx;simp at this⊢;omega
  ·have:=ih _ x hx;simp at this⊢;omega
theorem segsAux_count(r:List UInt8):∀cur,(segsAux cur r).length<=r.length+1:=by
 induction r with
 | nil=>intro cur;unfold segsAux;split<;>simp
 | cons c r ih=>
  intro cur
  unfold segsAux
  split
  ·have:=ih [];simp;omega
  ·have:=ih (cur++[c]);simp;omega
theorem segs_index(x:List UInt8):(Lib.indexByte x 10=-1/\∀cur,cur++x≠[]->segsAux cur x=[(cur++x,false)])∨
  ∃i:Nat,Lib.indexByte x 10=i/\i<x.length/\x.take (i+1)=x.take i++[10]/\∀cur,segsAux cur x=(cur++x.take i,true)::segsAux [] (x.drop (i+1)):=by
 induction x with
 | nil=>exact .inl ⟨rfl,fun cur h=>by simp at h;simp[segsAux,h]⟩
 | cons b l ih=>
  by_cases hb:b=10
  ·subst hb
   exact .inr ⟨0,by simp[Lib.indexByte],by simp,by simp,fun cur=>by simp[segsAux]⟩
  ·have hp:(b==10)=false:=by simpa using hb
   rcases ih with⟨h1,h2⟩|⟨i,h1,h2,h4,h3⟩
   ·refine .inl ⟨by unfold Lib.indexByte;rw[hp,h1];rfl,fun cur _=>?_⟩
    unfold segsAux
    rw[if_neg hb,h2 _ (by simp)]
    simp
   ·refine .inr ⟨i+1,?_,by simp;omega,by simp[h4],fun cur=>?_⟩
    ·unfold Lib.indexByte
     rw[hp,h1]
     have:((i:Int)==-1)=false:=by rw[beq_eq_false_iff_ne];omega
     simp[this]
    ·conv=>lhs;unfold segsAux
     rw[if_neg hb,h3]
     simp
end Go.Proofs.YtekkkoipcghlmaaGreatDoor.Sp
