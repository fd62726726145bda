import Derived.Test.YtekkkoipcghlmaaGreatDoorS33
import Derived.Test.YtekkkoipcghlmaaGreatDoorS39
set_option linter.all false
namespace Go.Proofs.YtekkkoipcghlmaaGreatDoor
open Go.RowKit
def negs(xs:List Int):List Int:=xs.map fun x=>-x
def lenOf:Value->Nat|.slice _ n _=>n|_=>0
def flagOf:Value->Nat|.bool true=>1|_=>0
def FolRes(L:List Nat)(m:Nat)(w:World)(e:Ending)(w':World):Prop:=∃r:Bool,e=.returned (.bool r)/\(r=true↔Sp.Fol L m)/\Below w.heap.size w w'
def Settled(T:List Int)(L:List Nat):Prop:=∀c,c∈L->Sp.doneOf T (Sp.litsOf c)=true∨2<=(Sp.openOf T (Sp.litsOf c)).length
def nOpen(T c:List Int):Nat:=(Sp.openOf T c).length
def lOf(T c:List Int):Int:=Sp.leftOf T c
def dOf(T c:List Int):Bool:=Sp.doneOf T c
theorem always_negs{m:Nat}(hm:m<2 ^ 24):alwaysOf (negs (Sp.litsOf m))=true↔∃i,m.testBit i=true/\m.testBit (Sp.opp i)=true:=by
 unfold alwaysOf negs
 rw[List.any_eq_true]
 constructor
 ·rintro⟨x,hx,hc⟩
  obtain⟨y,hy,rfl⟩:=List.mem_map.1 hx
  have hc':- -y∈(Sp.litsOf m).map fun x=>-x:=by simpa using hc
  obtain⟨z,hz,hzz⟩:=List.mem_map.1 hc'
  obtain⟨i,hi,rfl,hbi⟩:=Sp.litsOf_mem hy
  obtain⟨j,hj,rfl,hbj⟩:=Sp.litsOf_mem hz
  have e:Sp.litAt j=Sp.litAt (Sp.opp i):=by rw[Sp.litAt_opp];omega
  have:=Sp.litAt_inj e
  subst this
  exact⟨i,hbi,hbj⟩
 ·rintro⟨i,h1,h2⟩
  have hi:i<24:=by
   rcases Nat.lt_or_ge i 24 with h|h
   ·exact h
   ·rw[Nat.testBit_lt_two_pow (Nat.lt_of_lt_of_le hm (Nat.pow_le_pow_right (by decide) h))]at h1;cases h1
  refine⟨- Sp.litAt i,List.mem_map.2 ⟨_,(Sp.mem_litsOf m i hi).2 h1,rfl⟩,?_⟩
  have:- - Sp.litAt i∈(Sp.litsOf m).map fun x=>-x:=List.mem_map.2 ⟨_,(Sp.mem_litsOf m _ (Sp.opp_lt hi)).2 h2,by rw[Sp.litAt_opp]⟩
  simpa using this
theorem nOpen_snoc(T c:List Int)(x:Int):nOpen T (c++[x])=nOpen T c+(if !T.contains (-x)&&!T.contains x then 1 else 0):=by
 unfold nOpen;rw[Sp.openOf_snoc];split<;>simp
theorem dOf_snoc(T c:List Int)(x:Int):dOf T (c++[x])=(dOf T c||T.contains x):=Sp.doneOf_snoc T c x
theorem lOf_snoc(T c:List Int)(x:Int):lOf T (c++[x])=if !T.contains (-x)&&!T.contains x then x else lOf T c:=by
 unfold lOf Sp.leftOf;rw[Sp.openOf_snoc];split<;>simp
theorem nOpen_le(T c:List Int):nOpen T c<=c.length:=List.length_filter_le _ _
theorem lOf_one{T c:List Int}(h:nOpen T c=1):Sp.openOf T c=[lOf T c]:=by
 unfold nOpen at h
 obtain⟨x,hx⟩:=List.length_eq_one_iff.1 h
 unfold lOf Sp.leftOf;rw[hx];rfl
set_option maxRecDepth 100000 in
set_option maxHeartbeats 1600000 in
theorem follows_any(v u:Value)(L:List Nat)(m:Nat)(w:World)(hl:L.length<=4000000000000)(hL:∀c,c∈L->c<2 ^ 24)(hm:m<2 ^ 24)(hv:RowsOf w v L)(hu:Lies w u (ints (Sp.litsOf m))):
  Calls Tryz.prog 153 #[v,u] w fun e w'=>FolRes L m w e w':=by
 have hml:=litsOf_len24 m
 have hmb:∀x,x∈Sp.litsOf m->x≠0/\-12<=x/\x<=12:=fun x hx=>by
  obtain⟨i,hi,rfl,_⟩:=Sp.litsOf_mem hx
  unfold Sp.litAt;split<;>omega
 have hlenu:(ints (Sp.litsOf m)).length=(Sp.litsOf m).length:=by simp[ints]
 obtain⟨vs,hvs,hrows⟩:=hv
 have hlenv:=hrows.1
 obtain⟨ao2,cap2,rfl⟩:=lies_shape hvs
 rw[hlenv]at hvs⊢
 have HV:=aq hvs
 have HR:=aq hrows
 have HLV:=aq hlenv
 have HLm:=aq hL
 have HAN:=aq (always_negs hm)
 have HTS:=aq (fun h=>Sp.taken_start (L:=L) (m:=m) h)
 clear hvs hrows hlenv hL
 obtain⟨ao,cap,rfl⟩:=lies_shape hu
 rw[hlenu]at hu⊢
 have HU:=aq hu
 clear hu hlenu
 generalize hxs:Sp.litsOf m=xs at *
 have HX:=aq hxs
 clear hxs
 go_enter Tryz.func153,Tryz.ntmps153
 go_wp2
 go_loopw [5,6] (fun t i wr=>∃k:Nat,k<=xs.length/\i=.int .i64 k/\wr.ownsRow w.heap.size 3 1 t k (ints (negs (xs.take k)))/\Below w.heap.size w wr) (fun _ i _=>xs.length-(intOf i).toNat)
 case atStart=>exact⟨0,Nat.zero_le _,rfl,World.ownsRow_nil _ _ _ _,Below.refl _ _⟩
 case round=>
  obtain⟨k,hk,rfl,hown,hbel⟩:=hrel
  by_cases hlt:k<xs.length
  ·rcases dz HU with⟨h0,_⟩|⟨b,off,cap',hp,hsl,hb,hc⟩
   ·exfalso;have h0':xs=[]:=by simpa [ints] using h0
    rw[h0']at hlt;simp at hlt
   ·simp only[Value.slice.injEq]at hsl
    obtain⟨rfl,-,rfl⟩:=hsl
    have hcell:wr.cell? ⟨b,off+k,none⟩=some (.int .i64 xs[k]):=(hbel.cell (p:=⟨b,off+k,none⟩) hb).trans (hc k (.int .i64 xs[k]) (by simp[ints,hlt]))
    have hxb:=hmb xs[k] (List.getElem_mem hlt)
    have HS:Hid (xs.take (k+1)=xs.take k++[xs[k]]):=aq (List.take_succ_eq_append_getElem hlt)
    generalize xs[k]=x at hcell HS hxb
    clear hc hmb
    go_wp2_with (at_builtin;refine append_one rfl _ _ 25 3 rfl Tryz.underlying25 Tryz.infoIntW rfl (by decide) hown rfl rfl rfl (by omega) (Nat.le_refl _) hbel ?_;intro v' w1 hown' hbel' _)
    go_roundw
    case rel=>exact⟨k+1,by omega,by go_num,by rw[dz HS];simpa [ints,negs] using hown',hbel'⟩
    case measure=>simp[intOf];omega
  ·have HT:Hid (xs.take k=xs):=aq (List.take_of_length_le (by omega))
   have HTB:Hid (∀x,x∈negs xs->-12<=x/\x<=12):=aq (fun x hx=>by
    obtain⟨z,hz,rfl⟩:=List.mem_map.1 hx
    have:=hmb z hz;omega)
   have hk':k=xs.length:=by omega
   rw[dz HT]at hown
   have HO:=aq hown
   have HLT:=aq (lies_of_owns hown (by simp[ints,negs];omega))
   clear hown
   have HAL:=aq (always_any _ (negs xs) wr (by simp[negs];omega) (dz HTB) (dz HLT))
   cases hal:alwaysOf (negs xs)
   ·have HNO:Hid (¬∃i,m.testBit i=true/\m.testBit (Sp.opp i)=true):=aq (fun h=>by
     have:=(dz HAN).2 h
     rw[hal]at this;cases this)
    have HT0:Hid (Sp.Taken L m (negs xs)):=aq (dz HTS (dz HNO))
    rw[hal]at HAL
    clear hal HAN HTS
    go_wp2_with fail
    refine(dz HAL).mono ?_
    rintro e w1 ⟨rfl,rfl⟩
    go_wp2
    have hkl:k=(negs xs).length:=by simp[negs];omega
    rw[hkl]at HO
    generalize negs xs=T0 at *
    clear hmb hlt hk' HT HTB HLT HAL hkl HX HU hk
    go_loopw [5,7] (fun t g wr=>∃(T:List Int) (mb:Bool),g=.bool mb/\wr.ownsRow w.heap.size 3 1 t T.length (ints T)/\Hid (Sp.Taken L m T)/\Hid (mb=false->Settled T L)/\Below w.heap.size w wr) (fun t g _=>2*(24-lenOf t)+flagOf g)
    case atStart=>exact⟨T0,true,rfl,dz HO,HT0,aq (by intro h;cases h),hbel⟩
    case round=>
     clear hbel HO HT0 hml
     obtain⟨T,mb,rfl,hown,HTK,HSE,hbel⟩:=hrel
     cases mb
     ·have HFX:Hid (¬Sp.Fol L m):=aq ((dz HTK).fixed hm (dz HLm) (dz HNO) (dz HSE rfl))
      clear hown
      go_wp2
      go_ret
      exact⟨false,rfl,by simp[dz HFX],hbel⟩
     ·have HO:=aq hown
      obtain⟨tao,tc,rfl⟩:=owns_shape hown
      clear hown HSE
      go_wp2
      go_loopw [5,7,8] (fun t g i wr=>∃(T':List Int) (mb:Bool) (k:Nat),k<=L.length/\g=.bool mb/\i=.int .i64 k/\Hid (wr.ownsRow w.heap.size 3 1 t T'.length (ints T'))/\Hid (Sp.Taken L m T')/\Hid (mb=false->T'=T/\Settled T (L.take k))/\Hid (mb=true->T.length<T'.length)/\Below w.heap.size w wr) (fun _ _ i _=>L.length-(intOf i).toNat)
      case atStart=>exact⟨T,false,0,Nat.zero_le _,rfl,rfl,HO,HTK,aq (fun _=>⟨rfl,fun c hc=>by simp at hc⟩),aq (fun h=>(by cases h)),hbel⟩
      case round=>
       clear hbel
       obtain⟨T',mb,k,hk,rfl,rfl,HO',HTK',HSE,HGR,hbel⟩:=hrel
       have hown':=dz HO'
       obtain⟨tao',tc',rfl⟩:=owns_shape hown'
       have hTl:=(dz HTK').len
       have HLT:=aq (lies_of_owns hown' (by simp[ints]))
       clear hown'
       by_cases hlt:k<L.length
       ·rcases dz HV with⟨h0,_⟩|⟨b,off,cap',hp,hsl,hb,hc⟩
        ·exfalso;have:=dz HLV;rw[h0]at this;simp at this;omega
        ·simp only[Value.slice.injEq]at hsl
         obtain⟨rfl,-,rfl⟩:=hsl
         have hkv:k<vs.length:=by rw[dz HLV];exact hlt
         have hcell:wr.cell? ⟨b,off+k,none⟩=some vs[k]:=(hbel.cell (p:=⟨b,off+k,none⟩) hb).trans (hc k vs[k] (List.getElem?_eq_getElem hkv))
         have hli:=((dz HR).2 k vs[k] L[k] (List.getElem?_eq_getElem hkv) (List.getElem?_eq_getElem hlt)).below hbel
         have HCM:Hid (L[k]∈L/\L[k]<2 ^ 24):=aq ⟨List.getElem_mem hlt,dz HLm _ (List.getElem_mem hlt)⟩
         have HS:Hid (L.take (k+1)=L.take k++[L[k]]):=aq (List.take_succ_eq_append_getElem hlt)
         obtain⟨ao3,c3,hsh⟩:=lies_shape hli
         generalize L[k]=c at *
         generalize vs[k]=x at *
         subst hsh
         rw[show(ints (Sp.litsOf c)).length=(Sp.litsOf c).length from by simp[ints]]at hcell hli
         have hl24:=litsOf_len24 c
         have hcb:∀x,x∈Sp.litsOf c->-12<=x/\x<=12:=fun x hx=>by
          obtain⟨i,hi,rfl,_⟩:=Sp.litsOf_mem hx
          unfold Sp.litAt;split<;>omega
         generalize hcs:Sp.litsOf c=cs at *
         have HCS:=aq hcs
         have HLI:=aq hli
         clear hc hp hli hcs
         go_wp2
         go_loop [9,10,11,12] (fun o l d j=>∃q:Nat,q<=cs.length/\o=.int .i64 (nOpen T' (cs.take q):Nat)/\l=.int .i64 (lOf T' (cs.take q))/\d=.bool (dOf T' (cs.take q))/\j=.int .i64 q) (fun _ _ _ j=>cs.length-(intOf j).toNat)
         case atStart=>exact⟨0,Nat.zero_le _,rfl,rfl,rfl,rfl⟩
         case round=>
          obtain⟨q,hq,rfl,rfl,rfl,rfl⟩:=hrel
          by_cases hqlt:q<cs.length
          ·rcases dz HLI with⟨h0,_⟩|⟨b4,off4,cap4,hp4,hsl4,hb4,hc4⟩
           ·exfalso;have h0':cs=[]:=by simpa [ints] using h0
            rw[h0']at hqlt;simp at hqlt
           ·simp only[Value.slice.injEq]at hsl4
            obtain⟨rfl,-,rfl⟩:=hsl4
            have hcell4:wr.cell? ⟨b4,off4+q,none⟩=some (.int .i64 cs[q]):=hc4 q (.int .i64 cs[q]) (by simp[ints,hqlt])
            have hxb:=hcb cs[q] (List.getElem_mem hqlt)
            have HS4:Hid (cs.take (q+1)=cs.take q++[cs[q]]):=aq (List.take_succ_eq_append_getElem hqlt)
            have hno:=nOpen_le T' (cs.take q)
            have hql:(cs.take q).length<=q:=List.length_take_le _ _
            generalize cs[q]=x at hcell4 HS4 hxb
            have HN:=aq (nOpen_snoc T' (cs.take q) x)
            have HD:=aq (dOf_snoc T' (cs.take q) x)
            have HL4:=aq (lOf_snoc T' (cs.take q) x)
            rw[←dz HS4]at HN HD HL4
            clear hc4 hp4 hcb HS4
            have HI1:=aq (in_any _ T' (-x) wr (by omega) (dz HLT))
            have HI2:=aq (in_any _ T' x wr (by omega) (dz HLT))
            generalize hno':nOpen T' (cs.take q)=no at *
            generalize lOf T' (cs.take q)=lo at *
            generalize dOf T' (cs.take q)=dn at *
            generalize T'.contains (-x)=f1 at *
            generalize T'.contains x=f2 at *
            clear hno'
            cases f1<;>cases f2<;>cases dn
            all_goals
             go_wp2_with fail
             refine(dz HI1).mono ?_
             rintro e w1 ⟨rfl,rfl⟩
             go_wp2_with fail
             refine(dz HI2).mono ?_
             rintro e w2 ⟨rfl,rfl⟩
             go_wp2
             go_round
             case rel=>exact⟨q+1,by omega,by rw[dz HN];go_num,by rw[dz HL4];rfl,by rw[dz HD];rfl,by go_num⟩
             case measure=>simp[intOf];omega
          ·have hqe:cs.take q=cs:=List.take_of_length_le (by omega)
           rw[hqe]
           have hno:=nOpen_le T' cs
           clear hqe hcb hq HLI
           cases hd:dOf T' cs
           ·rcases Nat.lt_or_ge 1 (nOpen T' cs)with h2|h2
            ·have HSX:Hid (mb=false->T'=T/\Settled T (L.take (k+1))):=aq (fun hmb=>by
              obtain⟨e1,e2⟩:=dz HSE hmb
              refine⟨e1,fun c' hc'=>?_⟩
              rw[dz HS]at hc'
              rcases List.mem_append.1 hc' with h|h
              ·exact e2 c' h
              ·simp at h;subst h;right;rw[←e1,dz HCS];exact h2)
             generalize nOpen T' cs=no at *
             generalize lOf T' cs=lo at *
             have q0:((no:Int)==0)=false:=by rw[beq_eq_false_iff_ne];omega
             have q1:((no:Int)==1)=false:=by rw[beq_eq_false_iff_ne];omega
             clear hd
             go_wp2
             go_roundw
             case rel=>exact⟨T',mb,k+1,by omega,rfl,by go_num,HO',HTK',HSX,HGR,hbel⟩
             case measure=>simp[intOf];omega
            ·rcases Nat.eq_zero_or_pos (nOpen T' cs)with h0|h1
             ·have HF:Hid (Sp.Fol L m):=aq (by
               have e:=dz HCS
               subst e
               exact(dz HTK').conflict (dz HCM).1 (dz HCM).2 hd (List.length_eq_zero_iff.1 h0))
              rw[h0]
              generalize lOf T' cs=lo at *
              clear hd h0 h2 hno
              go_wp2
              go_ret
              exact⟨true,rfl,by simp[dz HF],hbel⟩
             ·have h11:nOpen T' cs=1:=by omega
              have HMO:Hid (Sp.Taken L m (T'++[lOf T' cs])):=aq (by
               have e:=dz HCS
               subst e
               exact(dz HTK').more (dz HCM).1 (dz HCM).2 hd (lOf_one h11))
              rw[h11]
              generalize lOf T' cs=lo at *
              have hown':=dz HO'
              clear hd h2 h1 h11 hno
              go_wp2_with (at_builtin;refine append_one rfl _ _ 25 3 rfl Tryz.underlying25 Tryz.infoIntW rfl (by decide) hown' rfl rfl rfl (by omega) (Nat.le_refl _) hbel ?_;intro v' w1 hown2 hbel' _)
              go_roundw
              case rel=>exact⟨T'++[lo],true,k+1,by omega,rfl,by go_num,aq (by simpa [ints] using hown2),HMO,aq (fun h=>(by cases h)),aq (fun _=>by
               have:T.length<=T'.length:=by
                cases mb
                ·rw[(dz HSE rfl).1];exact Nat.le_refl _
                ·exact Nat.le_of_lt (dz HGR rfl)
               simp;omega),hbel'⟩
              case measure=>simp[intOf];omega
           ·have HSX:Hid (mb=false->T'=T/\Settled T (L.take (k+1))):=aq (fun hmb=>by
              obtain⟨e1,e2⟩:=dz HSE hmb
              refine⟨e1,fun c' hc'=>?_⟩
              rw[dz HS]at hc'
              rcases List.mem_append.1 hc' with h|h
              ·exact e2 c' h
              ·simp at h;subst h;left;rw[←e1,dz HCS];exact hd)
            generalize nOpen T' cs=no at *
            generalize lOf T' cs=lo at *
            clear hd
            go_wp2
            go_roundw
            case rel=>exact⟨T',mb,k+1,by omega,rfl,by go_num,HO',HTK',HSX,HGR,hbel⟩
            case measure=>simp[intOf];omega
       ·have HT:Hid (L.take k=L):=aq (List.take_of_length_le (by omega))
        have hTl0:=(dz HTK).len
        cases mb
        ·obtain⟨e1,e2⟩:=dz HSE rfl
         subst e1
         rw[dz HT]at e2
         have HE:=aq e2
         clear e2 HSE
         go_wp2
         go_roundw
         case rel=>exact⟨T',false,rfl,dz HO',HTK',aq (fun _=>dz HE),hbel⟩
         case measure=>simp[lenOf,flagOf]
        ·have hgr:=dz HGR rfl
         go_wp2
         go_roundw
         case rel=>exact⟨T',true,rfl,dz HO',HTK',aq (fun h=>(by cases h)),hbel⟩
         case measure=>simp[lenOf,flagOf];omega
   ·rw[hal]at HAL
    have HF:Hid (Sp.Fol L m):=aq (.inl ((dz HAN).1 hal))
    clear hal
    go_wp2_with fail
    refine(dz HAL).mono ?_
    rintro e w1 ⟨rfl,rfl⟩
    go_wp2
    go_ret
    exact⟨true,rfl,by simp[dz HF],hbel⟩
end Go.Proofs.YtekkkoipcghlmaaGreatDoor
