import Derived.Test.YtekkkoipcghlmaaGreatDoorU41
import Derived.Test.YtekkkoipcghlmaaGreatDoorU01
import Derived.Deep.QuietTactic
import Derived.BigQuiet
import Derived.Test.YtekkkoipcghlmaaGreatDoorU30
import Derived.Test.YtekkkoipcghlmaaGreatDoorU03
import Derived.Deep.AppendLies
import Derived.ArgAppend
set_option linter.all false
namespace Go.Proofs.YtekkkoipcghlmaaGreatDoor
open Go.RowKit
set_option maxRecDepth 100000 in
set_option maxHeartbeats 800000 in
theorem jN(v:Value)(xs:List Int)(b:Nat)(w:World)(hl:xs.length<=10000000)(hb:b<4096)(hx:∀x,x∈xs->x≠0/\-12<=x/\x<=12)(hv:Lies w v (ints xs)):
  Calls Tryz.prog 180 #[v,.int .i64 b] w fun e w'=>e=.returned (.bool (bL b xs))/\∃q,w'=w.drewN q:=by
 rcases hv with⟨h0,ao,cap,rfl⟩|⟨bl,off,cap,hp,rfl,hbb,hc⟩
 ·have hx0:xs=[]:=by simpa [ints] using h0
  subst hx0
  go_enter Tryz.func180,Tryz.ntmps180
  go_wp2
  refine wp_loop_rounds 1 ?_
  rw[rounds_succ]
  go_wp2
  go_ret
  exact⟨rfl,0,rfl⟩
 ·have hlen:(ints xs).length=xs.length:=by simp[ints]
  rw[hlen]at hp⊢
  go_enter Tryz.func180,Tryz.ntmps180
  go_wp2
  go_loopw [5] (fun i wr=>∃k q:Nat,k<=xs.length/\i=.int .i64 k/\wr=w.drewN q/\Hid (bL b (xs.take k)=false)) (fun i _=>xs.length-(intOf i).toNat)
  case atStart=>exact⟨0,0,Nat.zero_le _,rfl,rfl,rfl⟩
  case round=>
   obtain⟨k,q,hk,rfl,rfl,HA⟩:=hrel
   by_cases hlt:k<xs.length
   ·have hcell:=hc k (.int .i64 xs[k]) (by simp[ints,hlt])
    have HM:Hid (xs[k]∈xs):=aq (List.getElem_mem hlt)
    have hxx:=hx xs[k] (List.getElem_mem hlt)
    have HS:Hid (xs.take (k+1)=xs.take k++[xs[k]]):=aq (List.take_succ_eq_append_getElem hlt)
    generalize xs[k]=x at hcell HM HS hxx
    clear hc hx
    by_cases hneg:x<0
    ·have HE:=aq (zQ b x ((-x).toNat-1) hb (by omega))
     cases ht:tru b x
     ·rw[ht]at HE
      have hE:=dz HE
      have HTX:=aq ht
      clear ht
      go_wp2
      go_quiet (fail)
      go_wp2
      go_roundw
      case rel=>exact⟨k+1,q+nq,by omega,by go_num,rfl,aq (by rw[dz HS];have:=dz HA;unfold bL at this⊢;rw[List.any_append,this];simp[dz HTX])⟩
      case measure=>simp[intOf];omega
     ·rw[ht]at HE
      have hE:=dz HE
      have HTX:=aq ht
      clear ht
      go_wp2
      go_quiet (fail)
      go_wp2
      go_ret
      have:bL b xs=true:=by unfold bL;rw[List.any_eq_true];exact⟨x,dz HM,dz HTX⟩
      exact⟨by rw[this];rfl,q+nq,by rw[World.drewN_drewN]⟩
    ·have HE:=aq (zQ b x (x.toNat-1) hb (by omega))
     cases ht:tru b x
     ·rw[ht]at HE
      have hE:=dz HE
      have HTX:=aq ht
      clear ht
      go_wp2
      go_quiet (fail)
      go_wp2
      go_roundw
      case rel=>exact⟨k+1,q+nq,by omega,by go_num,rfl,aq (by rw[dz HS];have:=dz HA;unfold bL at this⊢;rw[List.any_append,this];simp[dz HTX])⟩
      case measure=>simp[intOf];omega
     ·rw[ht]at HE
      have hE:=dz HE
      have HTX:=aq ht
      clear ht
      go_wp2
      go_quiet (fail)
      go_wp2
      go_ret
      have:bL b xs=true:=by unfold bL;rw[List.any_eq_true];exact⟨x,dz HM,dz HTX⟩
      exact⟨by rw[this];rfl,q+nq,by rw[World.drewN_drewN]⟩
   ·have HT:Hid (xs.take k=xs):=aq (List.take_of_length_le (by omega))
    go_wp2
    go_ret
    exact⟨by rw[←dz HT,dz HA];rfl,_,rfl⟩
end Go.Proofs.YtekkkoipcghlmaaGreatDoor
namespace Go.Proofs.YtekkkoipcghlmaaGreatDoor
open Go.RowKit
def aS5(w:World)(v:Value)(l:List (List Int)):Prop:=∃vs,Lies w v vs/\vs.length=l.length/\∀(i:Nat) (x:Value) (c:List Int),vs[i]?=some x->l[i]?=some c->Lies w x (ints c)
theorem mH{w:World}{v:Value}{vs:List Value}(h:Lies w v vs)(q:Nat):Lies (w.drewN q) v vs:=h
theorem wI{α:Type}(p:α->Bool)(l:List α)(k:Nat)(h:k<l.length):(l.take (k+1)).all p=((l.take k).all p&&p l[k]):=by
 rw[List.take_succ_eq_append_getElem h,List.all_append];simp
theorem mP{α:Type}(p:α->Bool)(l:List α)(k:Nat)(h:(l.take k).all p=false):l.all p=false:=by
 rw[List.all_eq_false]at h⊢
 obtain⟨x,hx,hp⟩:=h
 exact⟨x,List.mem_of_mem_take hx,hp⟩
set_option maxRecDepth 100000 in
set_option maxHeartbeats 1600000 in
theorem zI(v a:Value)(L:List (List Int))(A:List Int)(w:World)(hl:L.length<=10000000)(ha:A.length<=10000000)(hL:∀c,c∈L->Lits c/\c.length<=10000000)(hA:Lits A)(hv:aS5 w v L)(hav:Lies w a (ints A))(hac:∀ao n c,a=.slice ao n c->n<=c):
  Calls Tryz.prog 146 #[v,a] w fun e w'=>e=.returned (.bool (jF L A))/\∃q,w'=w.drewN q:=by
 obtain⟨vs,hvs,hvl,hrows⟩:=hv
 obtain⟨vo,vc,hsh⟩:∃vo vc,v=.slice vo L.length vc:=by
  have:=aY hvs
  rw[hvl]at this;exact this
 obtain⟨ao,ac,hsa⟩:∃ao ac,a=.slice ao A.length ac:=by
  have:=aY hav
  simpa [ints] using this
 subst hsh hsa
 have hcap:A.length<=ac:=hac _ _ _ rfl
 clear hac
 have HVS:=aq hvs
 have HROWS:=aq hrows
 have HAV:=aq hav
 have HVL:=aq hvl
 have HLL:=aq hL
 have HAA:=aq hA
 clear hvs hrows hav hvl hL hA
 go_enter Tryz.func146,Tryz.ntmps146
 go_wp2
 go_loopw [5] (fun i wr=>∃k q:Nat,k<=4096/\i=.int .i64 k/\wr=w.drewN q/\Hid (∀b,b<k->iM L A b=false)) (fun i _=>4096-(intOf i).toNat)
 case atStart=>exact⟨0,0,by omega,rfl,rfl,aq (fun b hb=>by omega)⟩
 case round=>
  obtain⟨k,q,hk,rfl,rfl,HN⟩:=hrel
  by_cases hlt:k<4096
  ·have hltI:decide ((k:Int)<4096)=true:=by rw[decide_eq_true_eq];omega
   go_wp2
   go_loopw [6,7] (fun ok i wr=>∃j q1:Nat,j<=A.length/\i=.int .i64 j/\ok=.bool ((A.take j).all (tru k))/\wr=w.drewN q1) (fun _ i _=>A.length-(intOf i).toNat)
   case atStart=>exact⟨0,q,Nat.zero_le _,rfl,rfl,rfl⟩
   case round=>
    obtain⟨j,q1,hj,rfl,rfl,rfl⟩:=hrel
    cases hok:(A.take j).all (tru k)
    ·have HCA:Hid (iM L A k=false):=aq (by unfold iM;rw[mP _ _ _ hok];rfl)
     clear hok
     have HNX:Hid (∀b,b<k+1->iM L A b=false):=aq (fun b hb=>by
      rcases Nat.lt_or_ge b k with h|h
      ·exact dz HN b h
      ·rw[show b=k from by omega];exact dz HCA)
     by_cases hjl:j<A.length<;>by_cases hL0:(0:Int)<(L.length:Int)
     all_goals go_wp2
     all_goals refine wp_loop_rounds 1 ?_
     all_goals rw[rounds_succ]
     all_goals go_wp2
     all_goals go_roundw
     all_goals first
      | exact⟨k+1,q1,by omega,by go_num,rfl,HNX⟩
      | (simp[intOf];omega)
    ·by_cases hjl:j<A.length
     ·have HST:=aq (wI (tru k) A j hjl)
      rw[hok]at HST
      clear hok
      rcases dz HAV with⟨h0,_⟩|⟨b,off,cap',hp,hvv,hbb,hc⟩
      ·exfalso;have:=congrArg List.length h0;simp[ints]at this;rw[this]at hjl;simp at hjl
      ·simp only[Value.slice.injEq]at hvv
       obtain⟨rfl,-,rfl⟩:=hvv
       have HLi:Hid (Lies (w.drewN q1) (.slice (some ⟨b,off+j,none⟩) 1 (ac-j)) (ints [A[j]])):=aq (.inr ⟨b,off+j,ac-j,by simp[ints],rfl,hbb,fun t x hx=>by
        have ht:t=0:=by
         have:=(List.getElem?_eq_some_iff.1 hx).1
         simp[ints]at this;omega
        subst ht
        simp[ints]at hx
        subst hx
        exact hc j (.int .i64 A[j]) (by simp[ints,hjl])⟩)
       have HHO:=aq (jN _ [A[j]] k (w.drewN q1) (by simp) hlt (fun x hx=>by simp at hx;subst hx;exact dz HAA _ (List.getElem_mem hjl)) (dz HLi))
       have hh1:bL k [A[j]]=tru k A[j]:=by simp[bL]
       rw[hh1]at HHO
       clear hc hh1 HLi
       generalize tru k A[j]=tj at *
       go_wp2_with fail
       refine(dz HHO).mono ?_
       rintro e w2 ⟨rfl,q3,rfl⟩
       go_wp2
       go_roundw
       case rel=>exact⟨j+1,_,by omega,by go_num,by rw[dz HST];simp,rfl⟩
       case measure=>simp[intOf];omega
     ·have HAL:Hid (A.all (tru k)=true):=aq (by rw[List.take_of_length_le (by omega)]at hok;exact hok)
      clear hok
      go_wp2
      go_loopw [6,8] (fun ok i wr=>∃j2 q2:Nat,j2<=L.length/\i=.int .i64 j2/\ok=.bool ((L.take j2).all (bL k))/\wr=w.drewN q2) (fun _ i _=>L.length-(intOf i).toNat)
      case atStart=>exact⟨0,q1,Nat.zero_le _,rfl,rfl,rfl⟩
      case round=>
       obtain⟨j2,q2,hj2,rfl,rfl,rfl⟩:=hrel
       cases hok:(L.take j2).all (bL k)
       ·have HCA:Hid (iM L A k=false):=aq (by unfold iM;rw[mP _ _ _ hok];simp)
        have HNX:Hid (∀b,b<k+1->iM L A b=false):=aq (fun b hb=>by
         rcases Nat.lt_or_ge b k with h|h
         ·exact dz HN b h
         ·rw[show b=k from by omega];exact dz HCA)
        clear hok
        by_cases hL0:j2<L.length
        all_goals go_wp2
        all_goals go_roundw
        all_goals first
         | exact⟨k+1,q2,by omega,by go_num,rfl,HNX⟩
         | (simp[intOf];omega)
       ·by_cases hjl2:j2<L.length
        ·have HST:=aq (wI (bL k) L j2 hjl2)
         rw[hok]at HST
         clear hok
         have hvl:=dz HVL
         rcases dz HVS with⟨h0,_⟩|⟨b,off,cap',hp,hvv,hbb,hc⟩
         ·exfalso;rw[h0]at hvl;simp at hvl;omega
         ·simp only[Value.slice.injEq]at hvv
          obtain⟨rfl,-,rfl⟩:=hvv
          have hlx:=dz HROWS j2 vs[j2] L[j2] (by simp[hvl,hjl2]) (by simp[hjl2])
          have hcell:=hc j2 vs[j2] (by simp[hvl,hjl2])
          obtain⟨hli,hll⟩:=dz HLL L[j2] (List.getElem_mem hjl2)
          have HHO:=aq (jN _ L[j2] k (w.drewN q2) hll hlt hli hlx)
          obtain⟨xo,xc,hxs⟩:∃xo xc,vs[j2]=.slice xo L[j2].length xc:=by
           have:=aY hlx
           simpa [ints] using this
          rw[hxs]at hcell HHO
          clear hc hlx hli hll hxs
          generalize bL k L[j2]=tj at *
          generalize L[j2].length=lj at *
          go_wp2_with fail
          refine(dz HHO).mono ?_
          rintro e w2 ⟨rfl,q3,rfl⟩
          go_wp2
          go_roundw
          case rel=>exact⟨j2+1,_,by omega,by go_num,by rw[dz HST];simp,rfl⟩
          case measure=>simp[intOf];omega
        ·have HCT:Hid (jF L A=true):=aq (by
          rw[List.take_of_length_le (by omega)]at hok
          unfold jF
          rw[List.any_eq_true]
          exact⟨k,by simpa using hlt,by unfold iM;rw[dz HAL,hok];rfl⟩)
         clear hok
         go_wp2
         go_ret
         exact⟨by rw[dz HCT];rfl,_,rfl⟩
  ·have HZ:Hid (jF L A=false):=aq (by
    unfold jF
    rw[List.any_eq_false]
    intro b hb
    have:=dz HN b (by
     have:b<4096:=by simpa using hb
     omega)
    rw[this];decide)
   go_wp2
   go_ret
   exact⟨by rw[dz HZ];rfl,_,rfl⟩
end Go.Proofs.YtekkkoipcghlmaaGreatDoor
namespace Go.Proofs.YtekkkoipcghlmaaGreatDoor
open Go.RowKit
def eC(A:List Int)(i k:Nat):Bool:=!(A.take k).contains (A.getD i 0)
def dC(core A:List Int):Nat->Nat
 | 0=>0
 | i+1=>if eC A i i&&(core[dC core A i]?==some (A.getD i 0))then dC core A i+1 else dC core A i
theorem aB1(core A:List Int)(i:Nat):dC core A i<=i/\dC core A i<=core.length:=by
 induction i with
 | zero=>simp[dC]
 | succ i ih=>
  unfold dC
  split
  ·rename_i h
   have h2:core[dC core A i]?=some (A.getD i 0):=by
    have:=(Bool.and_eq_true _ _▸h).2
    simpa using this
   have:=(List.getElem?_eq_some_iff.1 h2).1
   omega
  ·omega
theorem sS(A:List Int)(i k:Nat)(h:k<A.length):eC A i (k+1)=(eC A i k&&(A[k] != A.getD i 0)):=by
 unfold eC
 rw[List.take_succ_eq_append_getElem h]
 generalize A.getD i 0=z
 generalize A[k]=y
 generalize A.take k=l
 rw[Bool.eq_iff_iff]
 simp
 intro _
 exact⟨fun h e=>h e.symm,fun h e=>h e.symm⟩
theorem aM7(a b:Nat):((a:Int)==(b:Int))=(a==b):=by
 rw[Bool.eq_iff_iff,beq_iff_eq,beq_iff_eq]
 omega
set_option maxRecDepth 100000 in
set_option maxHeartbeats 1600000 in
theorem aL6(v a:Value)(core A:List Int)(w:World)(hc:core.length<=10000000)(ha:A.length<=10000000)(hv:Lies w v (ints core))(hav:Lies w a (ints A)):
  Calls Tryz.prog 148 #[v,a] w fun e w'=>e=.returned (.bool (dC core A A.length==core.length))/\∃q,w'=w.drewN q:=by
 obtain⟨vo,vc,hsh⟩:∃vo vc,v=.slice vo core.length vc:=by
  have:=aY hv
  simpa [ints] using this
 obtain⟨ao,ac,hsa⟩:∃ao ac,a=.slice ao A.length ac:=by
  have:=aY hav
  simpa [ints] using this
 subst hsh hsa
 have HV:=aq hv
 have HAV:=aq hav
 clear hv hav
 go_enter Tryz.func148,Tryz.ntmps148
 go_wp2
 go_loopw [5,6] (fun c i wr=>∃k q:Nat,k<=A.length/\i=.int .i64 k/\c=.int .i64 (dC core A k:Nat)/\wr=w.drewN q) (fun _ i _=>A.length-(intOf i).toNat)
 case atStart=>exact⟨0,0,Nat.zero_le _,rfl,rfl,rfl⟩
 case round=>
  obtain⟨k,q,hk,rfl,rfl,rfl⟩:=hrel
  have hle:=aB1 core A k
  by_cases hlt:k<A.length
  ·have hltI:decide ((k:Int)<(A.length:Int))=true:=by rw[decide_eq_true_eq];omega
   rcases dz HAV with⟨h0,_⟩|⟨b,off,cap',hp,hvv,hbb,hcA⟩
   ·exfalso;have:=congrArg List.length h0;simp[ints]at this;rw[this]at hlt;simp at hlt
   ·simp only[Value.slice.injEq]at hvv
    obtain⟨rfl,-,rfl⟩:=hvv
    have hck:=hcA k (.int .i64 A[k]) (by simp[ints,hlt])
    have HG:Hid (A.getD k 0=A[k]):=aq (by simp[hlt])
    have HCA:=aq hcA
    clear hcA
    have HSU:Hid (dC core A (k+1)=if eC A k k&&(core[dC core A k]?==some (A.getD k 0))then dC core A k+1 else dC core A k):=aq rfl
    have HFS:Hid (∀j (h:j<A.length),eC A k (j+1)=(eC A k j&&(A[j] != A.getD k 0))):=aq (fun j h=>sS A k j h)
    rw[dz HG]at HSU HFS
    generalize A[k]=x at *
    generalize dC core A k=sa at *
    go_wp2
    go_loopw [7,8] (fun f i wr=>∃j q1:Nat,j<=k/\i=.int .i64 j/\f=.bool (eC A k j)/\wr=w.drewN q1) (fun _ i _=>k-(intOf i).toNat)
    case atStart=>exact⟨0,q,Nat.zero_le _,rfl,rfl,rfl⟩
    case round=>
     obtain⟨j,q1,hj,rfl,rfl,rfl⟩:=hrel
     by_cases hjk:j<k
     ·have hjl:j<A.length:=by omega
      have hcj:=dz HCA j (.int .i64 A[j]) (by simp[ints,hjl])
      have HFJ:=aq (dz HFS j hjl)
      generalize A[j]=yj at hcj HFJ
      cases hf:eC A k j
      ·rw[hf]at HFJ
       clear hf
       go_wp2
       go_quiet (fail)
       go_wp2
       go_roundw
       case rel=>exact⟨j+1,_,by omega,by go_num,by rw[dz HFJ];rfl,rfl⟩
       case measure=>simp[intOf];omega
      ·rw[hf]at HFJ
       clear hf
       go_wp2
       go_quiet (fail)
       go_wp2
       go_roundw
       case rel=>exact⟨j+1,_,by omega,by go_num,by rw[dz HFJ];simp,rfl⟩
       case measure=>simp[intOf];omega
     ·have hjk2:j=k:=by omega
      subst hjk2
      have HSU':=HSU
      cases hf:eC A j j
      ·rw[hf]at HSU'
       clear hf
       go_wp2
       go_quiet (fail)
       go_wp2
       go_roundw
       case rel=>exact⟨j+1,_,by omega,by go_num,by rw[dz HSU'];rfl,rfl⟩
       case measure=>simp[intOf];omega
      ·rw[hf]at HSU'
       clear hf
       by_cases hsc:sa<core.length
       ·have hscI:decide ((sa:Int)<(core.length:Int))=true:=by rw[decide_eq_true_eq];omega
        rcases dz HV with⟨h0,_⟩|⟨b2,off2,cap2,hp2,hvv2,hbb2,hc2⟩
        ·exfalso;have:=congrArg List.length h0;simp[ints]at this;rw[this]at hsc;simp at hsc
        ·simp only[Value.slice.injEq]at hvv2
         obtain⟨rfl,-,rfl⟩:=hvv2
         have hcs:=hc2 sa (.int .i64 core[sa]) (by simp[ints,hsc])
         have e1:core[sa]?=some core[sa]:=List.getElem?_eq_getElem hsc
         rw[e1]at HSU'
         clear hc2 e1
         generalize core[sa]=cs at hcs HSU'
         by_cases hxe:cs=x
         ·have hq:(cs==x)=true:=by simpa using hxe
          have HXE:=aq hxe
          clear hxe
          go_wp2
          go_quiet (fail)
          go_wp2
          go_roundw
          case rel=>exact⟨j+1,_,by omega,by go_num,by rw[dz HSU',dz HXE];simp,rfl⟩
          case measure=>simp[intOf];omega
         ·have hq:(cs==x)=false:=by simpa using hxe
          have HXE:=aq hxe
          clear hxe
          go_wp2
          go_quiet (fail)
          go_wp2
          go_roundw
          case rel=>exact⟨j+1,_,by omega,by go_num,by rw[dz HSU'];simp[dz HXE],rfl⟩
          case measure=>simp[intOf];omega
       ·have hscI:decide ((sa:Int)<(core.length:Int))=false:=by rw[decide_eq_false_iff_not];omega
        have e1:core[sa]?=none:=List.getElem?_eq_none (by omega)
        rw[e1]at HSU'
        clear e1
        go_wp2
        go_quiet (fail)
        go_wp2
        go_roundw
        case rel=>exact⟨j+1,_,by omega,by go_num,by rw[dz HSU'];rfl,rfl⟩
        case measure=>simp[intOf];omega
  ·have hkl:k=A.length:=by omega
   subst hkl
   go_wp2
   go_ret
   exact⟨iS (aM7 _ _),_,rfl⟩
end Go.Proofs.YtekkkoipcghlmaaGreatDoor
namespace Go.Proofs.YtekkkoipcghlmaaGreatDoor
open Go.RowKit
theorem aM3(b k:Nat):b % 2 ^ (k+1)=b % 2 ^ k+(if b.testBit k then 2 ^ k else 0):=by
 rw[Nat.mod_pow_succ,Nat.testBit_eq_decide_div_mod_eq]
 by_cases h:b / 2 ^ k % 2=1
 ·rw[h];simp
 ·have:b / 2 ^ k % 2=0:=by omega
  rw[this];simp
theorem qJ{n:Int}(h0:-9223372036854775808<=n)(h1:n<=9223372036854775807):wrap64 n=n:=(IntWalk.i64_left n).symm.trans (IntWalk.i64_in n ⟨h0,h1⟩)
theorem aJ0(bm k:Nat)(h1:bm<4096)(h2:2 ^ k<4096):wrap64 ((bm:Int)+wrap64 ((2:Int) ^ k))=((bm+2 ^ k:Nat):Int):=by
 have e:((2:Int) ^ k)=((2 ^ k:Nat):Int):=by simp
 rw[e]
 generalize 2 ^ k=p at *
 rw[qJ (n:=(p:Int)) (by omega) (by omega),qJ (by omega) (by omega)]
 omega
set_option maxRecDepth 100000 in
set_option maxHeartbeats 1600000 in
theorem aE1(base y:Nat)(lv v a:Value)(vs:List Value)(ms:List Nat)(A:List Int)(b:Nat)(w:World)(hY:YAt base w y lv vs ms)(hms:ms.length<=10000000)(ha:A.length<=10000000)(hb:b<4096)(hA:Lits A)(hav:Lies w a (ints A))(hac:∀ao n c,a=.slice ao n c->n<=c)
  (hv:Lies w v (ints (dF b))) (hta:A.all (tru b)=true) (htl:(ms.map Sp.litsOf).all (bL b)=true):
  Calls Tryz.prog 147 #[.pointer (some ⟨y,0,none⟩),v,a] w fun e w'=>e=.returned (.bool true)/\∃q,w'=w.drewN q:=by
 obtain⟨vo,vc,hsh⟩:∃vo vc,v=.slice vo 12 vc:=by
  have:=aY hv
  simpa [ints,dF] using this
 obtain⟨ao,ac,hsa⟩:∃ao ac,a=.slice ao A.length ac:=by
  have:=aY hav
  simpa [ints] using this
 subst hsh hsa
 have hcap:A.length<=ac:=hac _ _ _ rfl
 rcases hv with⟨h0,_⟩|⟨bl,off,cap',hp,hvv,hbb,hcm⟩
 ·exfalso;have:=congrArg List.length h0;simp[ints,dF]at this
 ·simp only[Value.slice.injEq]at hvv
  obtain⟨rfl,-,rfl⟩:=hvv
  have HCM:Hid (∀i,i<12->w.cell? ⟨bl,off+i,none⟩=some (.int .i64 (if b.testBit i then((i:Int)+1)else -((i:Int)+1)))):=aq (fun i hi=>hcm i _ (by unfold ints;rw[List.getElem?_map,aC9 b i hi];rfl))
  have HAV:=aq hav
  have HAA:=aq hA
  have HTA:=aq hta
  have HTL:=aq htl
  have HY:=aq hY
  have hc0:w.cell? ⟨y,0,none⟩=some lv:=by simp[World.cell?,hY.block]
  obtain⟨lo,lc,hsl⟩:=aC hY.row
  subst hsl
  clear hcm hav hac hA hta htl hY
  go_enter Tryz.func147,Tryz.ntmps147
  go_wp2
  go_loopw [7,8] (fun c i wr=>∃k q:Nat,k<=12/\i=.int .i64 k/\c=.int .i64 ((b % 2 ^ k:Nat):Int)/\wr=w.drewN q) (fun _ i _=>12-(intOf i).toNat)
  case atStart=>exact⟨0,0,Nat.zero_le _,rfl,by rw[Nat.pow_zero,Nat.mod_one];rfl,rfl⟩
  case round=>
   obtain⟨k,q,hk,rfl,rfl,rfl⟩:=hrel
   by_cases hlt:k<12
   ·have hcell:=dz HCM k hlt
    have HMS:=aq (aM3 b k)
    have hml:b % 2 ^ k<4096:=Nat.lt_of_le_of_lt (Nat.mod_le _ _) hb
    have hpl:2 ^ k<4096:=Nat.lt_of_lt_of_le (Nat.pow_lt_pow_right (by decide) hlt) (by decide)
    generalize b % 2 ^ k=bm at *
    cases hbt:b.testBit k
    ·rw[hbt]at hcell HMS
     simp only[Bool.false_eq_true,if_false]at hcell HMS
     clear hbt
     go_wp2
     exact⟨⟨k+1,q,by omega,by go_num,by rw[dz HMS];simp,rfl⟩,by simp[intOf];omega⟩
    ·rw[hbt]at hcell HMS
     simp only[if_true]at hcell HMS
     clear hbt
     go_wp2
     exact⟨⟨k+1,q,by omega,by go_num,by rw[dz HMS,aJ0 bm k hml hpl],rfl⟩,by simp[intOf];omega⟩
   ·have hk12:k=12:=by omega
    have HBM:Hid (b % 2 ^ k=b):=aq (by rw[hk12];exact Nat.mod_eq_of_lt hb)
    clear hk12
    rw[dz HBM]
    go_wp2
    go_loopw [9,10] (fun i _ wr=>∃j q1:Nat,j<=A.length/\i=.int .i64 j/\wr=w.drewN q1) (fun i _ _=>A.length-(intOf i).toNat)
    case atStart=>exact⟨0,q,Nat.zero_le _,rfl,rfl⟩
    case round=>
     obtain⟨j,q1,hj,rfl,rfl⟩:=hrel
     by_cases hjl:j<A.length
     ·rcases dz HAV with⟨h0,_⟩|⟨b2,off2,cap2,hp2,hvv2,hbb2,hc2⟩
      ·exfalso;have:=congrArg List.length h0;simp[ints]at this;rw[this]at hjl;simp at hjl
      ·simp only[Value.slice.injEq]at hvv2
       obtain⟨rfl,-,rfl⟩:=hvv2
       have HLi:Hid (Lies (w.drewN q1) (.slice (some ⟨b2,off2+j,none⟩) 1 (ac-j)) (ints [A[j]])):=aq (.inr ⟨b2,off2+j,ac-j,by simp[ints],rfl,hbb2,fun t x hx=>by
        have ht:t=0:=by
         have:=(List.getElem?_eq_some_iff.1 hx).1
         simp[ints]at this;omega
        subst ht
        simp[ints]at hx
        subst hx
        exact hc2 j (.int .i64 A[j]) (by simp[ints,hjl])⟩)
       have HHO:=aq (jN _ [A[j]] b (w.drewN q1) (by simp) hb (fun x hx=>by simp at hx;subst hx;exact dz HAA _ (List.getElem_mem hjl)) (dz HLi))
       have hh1:bL b [A[j]]=true:=by
        have:=List.all_eq_true.1 (dz HTA) A[j] (List.getElem_mem hjl)
        simp[bL,this]
       rw[hh1]at HHO
       clear hc2 hh1 HLi
       go_wp2_with fail
       refine(dz HHO).mono ?_
       rintro e w2 ⟨rfl,q3,rfl⟩
       go_wp2
       go_roundw
       case rel=>exact⟨j+1,_,by omega,by go_num,rfl⟩
       case measure=>simp[intOf];omega
     ·go_wp2
      go_loopw [11,12] (fun i _ wr=>∃j2 q2:Nat,j2<=ms.length/\i=.int .i64 j2/\wr=w.drewN q2) (fun i _ _=>ms.length-(intOf i).toNat)
      case atStart=>exact⟨0,q1,Nat.zero_le _,rfl,rfl⟩
      case round=>
       obtain⟨j2,q2,hj2,rfl,rfl⟩:=hrel
       by_cases hjl2:j2<ms.length
       ·obtain⟨g,cp0,x,xo,xc,e1,hcx,e2,hlx⟩:=(dz HY).pick hjl2
        simp only[Value.slice.injEq]at e1
        obtain⟨rfl,-,rfl⟩:=e1
        have HHO:=aq (jN x (Sp.litsOf ms[j2]) b (w.drewN q2) (Nat.le_trans (bO _) (by decide)) hb (eW ms[j2]) hlx)
        have hh1:bL b (Sp.litsOf ms[j2])=true:=List.all_eq_true.1 (dz HTL) _ (List.mem_map.2 ⟨ms[j2],List.getElem_mem hjl2,rfl⟩)
        rw[hh1]at HHO
        subst e2
        clear hh1 hlx
        generalize (Sp.litsOf ms[j2]).length=lj at *
        go_wp2_with fail
        refine(dz HHO).mono ?_
        rintro e w2 ⟨rfl,q3,rfl⟩
        go_wp2
        go_roundw
        case rel=>exact⟨j2+1,_,by omega,by go_num,rfl⟩
        case measure=>simp[intOf];omega
       ·go_wp2
        go_ret
        exact⟨rfl,_,rfl⟩
end Go.Proofs.YtekkkoipcghlmaaGreatDoor
namespace Go.Proofs.YtekkkoipcghlmaaGreatDoor
open Go.RowKit
set_option maxRecDepth 100000 in
set_option maxHeartbeats 400000 in
theorem lE(v:Value)(xs:List Int)(m:Int)(w:World)(hl:xs.length<=10000000)(hx:∀x,x∈xs->x=m)(hv:Lies w v (ints xs)):
  Calls Tryz.prog 60 #[v,.int .i64 m] w fun e w'=>e=.returned (.bool true)/\w'=w:=by
 rcases hv with⟨h0,ao,cap,rfl⟩|⟨b,off,cap,hp,rfl,hb,hc⟩
 ·have hx0:xs=[]:=by simpa [ints] using h0
  subst hx0
  go_enter Tryz.func60,Tryz.ntmps60
  go_wp2
  refine wp_loop_rounds 1 ?_
  rw[rounds_succ]
  go_wp2
  go_ret
  exact⟨rfl,rfl⟩
 ·have hlen:(ints xs).length=xs.length:=by simp[ints]
  rw[hlen]at hp⊢
  go_enter Tryz.func60,Tryz.ntmps60
  go_wp2
  go_loop [5] (fun i=>∃k:Nat,k<=xs.length/\i=.int .i64 k) (fun i=>xs.length-(intOf i).toNat)
  case atStart=>exact⟨0,Nat.zero_le _,rfl⟩
  case round=>
   obtain⟨k,hk,rfl⟩:=hrel
   by_cases hlt:k<xs.length
   ·have hcell:=hc k (.int .i64 xs[k]) (by simp[ints,hlt])
    rw[hx xs[k] (List.getElem_mem hlt)]at hcell
    clear hc hx
    go_wp2
    go_round
    case rel=>exact⟨k+1,by omega,by go_num⟩
    case measure=>simp[intOf];omega
   ·go_wp2
    go_ret
    exact⟨rfl,rfl⟩
end Go.Proofs.YtekkkoipcghlmaaGreatDoor
