import Derived.Test.YtekkkoipcghlmaaGreatDoorS46
import Derived.Test.YtekkkoipcghlmaaGreatDoorS30
import Derived.Test.YtekkkoipcghlmaaGreatDoorS03
import Derived.Deep.AppendLies
import Derived.ArgAppend
set_option linter.all false
namespace Go.Proofs.YtekkkoipcghlmaaGreatDoor
open Go.RowKit
def firstAt(A:List Int)(i k:Nat):Bool:=!(A.take k).contains (A.getD i 0)
def someAt(core A:List Int):Nat->Nat
 | 0=>0
 | i+1=>if firstAt A i i&&(core[someAt core A i]?==some (A.getD i 0))then someAt core A i+1 else someAt core A i
theorem someAt_le(core A:List Int)(i:Nat):someAt core A i<=i/\someAt core A i<=core.length:=by
 induction i with
 | zero=>simp[someAt]
 | succ i ih=>
  unfold someAt
  split
  ·rename_i h
   have h2:core[someAt core A i]?=some (A.getD i 0):=by
    have:=(Bool.and_eq_true _ _▸h).2
    simpa using this
   have:=(List.getElem?_eq_some_iff.1 h2).1
   omega
  ·omega
theorem firstAt_succ(A:List Int)(i k:Nat)(h:k<A.length):firstAt A i (k+1)=(firstAt A i k&&(A[k] != A.getD i 0)):=by
 unfold firstAt
 rw[List.take_succ_eq_append_getElem h]
 generalize A.getD i 0=z
 generalize A[k]=y
 generalize A.take k=l
 rw[Bool.eq_iff_iff]
 simp
 intro _
 exact⟨fun h e=>h e.symm,fun h e=>h e.symm⟩
theorem beq_cast(a b:Nat):((a:Int)==(b:Int))=(a==b):=by
 rw[Bool.eq_iff_iff,beq_iff_eq,beq_iff_eq]
 omega
set_option maxRecDepth 100000 in
set_option maxHeartbeats 1600000 in
theorem some_any(v a:Value)(core A:List Int)(w:World)(hc:core.length<=10000000)(ha:A.length<=10000000)(hv:Lies w v (ints core))(hav:Lies w a (ints A)):
  Calls Tryz.prog 148 #[v,a] w fun e w'=>e=.returned (.bool (someAt core A A.length==core.length))/\∃q,w'=w.drewN q:=by
 obtain⟨vo,vc,hsh⟩:∃vo vc,v=.slice vo core.length vc:=by
  have:=lies_shape hv
  simpa [ints] using this
 obtain⟨ao,ac,hsa⟩:∃ao ac,a=.slice ao A.length ac:=by
  have:=lies_shape hav
  simpa [ints] using this
 subst hsh hsa
 have HV:=aq hv
 have HAV:=aq hav
 clear hv hav
 go_enter Tryz.func148,Tryz.ntmps148
 go_wp2
 go_loopw [5,6] (fun c i wr=>∃k q:Nat,k<=A.length/\i=.int .i64 k/\c=.int .i64 (someAt core A k:Nat)/\wr=w.drewN q) (fun _ i _=>A.length-(intOf i).toNat)
 case atStart=>exact⟨0,0,Nat.zero_le _,rfl,rfl,rfl⟩
 case round=>
  obtain⟨k,q,hk,rfl,rfl,rfl⟩:=hrel
  have hle:=someAt_le core A k
  by_cases hlt:k<A.length
  ·have hltI:decide ((k:Int)<(A.length:Int))=true:=by rw[decide_eq_true_eq];omega
   rcases dz HAV with⟨h0,_⟩|⟨b,off,cap',hp,hvv,hbb,hcA⟩
   ·exfalso;have:=congrArg List.length h0;simp[ints]at this;rw[this]at hlt;simp at hlt
   ·simp only[Value.slice.injEq]at hvv
    obtain⟨rfl,-,rfl⟩:=hvv
    have hck:=hcA k (.int .i64 A[k]) (by simp[ints,hlt])
    have HG:Hid (A.getD k 0=A[k]):=aq (by simp[hlt])
    have HCA:=aq hcA
    clear hcA
    have HSU:Hid (someAt core A (k+1)=if firstAt A k k&&(core[someAt core A k]?==some (A.getD k 0))then someAt core A k+1 else someAt core A k):=aq rfl
    have HFS:Hid (∀j (h:j<A.length),firstAt A k (j+1)=(firstAt A k j&&(A[j] != A.getD k 0))):=aq (fun j h=>firstAt_succ A k j h)
    rw[dz HG]at HSU HFS
    generalize A[k]=x at *
    generalize someAt core A k=sa at *
    go_wp2
    go_loopw [7,8] (fun f i wr=>∃j q1:Nat,j<=k/\i=.int .i64 j/\f=.bool (firstAt A k j)/\wr=w.drewN q1) (fun _ i _=>k-(intOf i).toNat)
    case atStart=>exact⟨0,q,Nat.zero_le _,rfl,rfl,rfl⟩
    case round=>
     obtain⟨j,q1,hj,rfl,rfl,rfl⟩:=hrel
     by_cases hjk:j<k
     ·have hjl:j<A.length:=by omega
      have hcj:=dz HCA j (.int .i64 A[j]) (by simp[ints,hjl])
      have HFJ:=aq (dz HFS j hjl)
      generalize A[j]=yj at hcj HFJ
      cases hf:firstAt A k j
      ·rw[hf]at HFJ
       clear hf
       go_wp2
       go_quiet (fail)
       go_wp2
       go_roundw
       case rel=>exact⟨j+1,_,by omega,by go_num,by rw[dz HFJ];rfl,rfl⟩
       case measure=>simp[intOf];omega
      ·rw[hf]at HFJ
       clear hf
       go_wp2
       go_quiet (fail)
       go_wp2
       go_roundw
       case rel=>exact⟨j+1,_,by omega,by go_num,by rw[dz HFJ];simp,rfl⟩
       case measure=>simp[intOf];omega
     ·have hjk2:j=k:=by omega
      subst hjk2
      have HSU':=HSU
      cases hf:firstAt A j j
      ·rw[hf]at HSU'
       clear hf
       go_wp2
       go_quiet (fail)
       go_wp2
       go_roundw
       case rel=>exact⟨j+1,_,by omega,by go_num,by rw[dz HSU'];rfl,rfl⟩
       case measure=>simp[intOf];omega
      ·rw[hf]at HSU'
       clear hf
       by_cases hsc:sa<core.length
       ·have hscI:decide ((sa:Int)<(core.length:Int))=true:=by rw[decide_eq_true_eq];omega
        rcases dz HV with⟨h0,_⟩|⟨b2,off2,cap2,hp2,hvv2,hbb2,hc2⟩
        ·exfalso;have:=congrArg List.length h0;simp[ints]at this;rw[this]at hsc;simp at hsc
        ·simp only[Value.slice.injEq]at hvv2
         obtain⟨rfl,-,rfl⟩:=hvv2
         have hcs:=hc2 sa (.int .i64 core[sa]) (by simp[ints,hsc])
         have e1:core[sa]?=some core[sa]:=List.getElem?_eq_getElem hsc
         rw[e1]at HSU'
         clear hc2 e1
         generalize core[sa]=cs at hcs HSU'
         by_cases hxe:cs=x
         ·have hq:(cs==x)=true:=by simpa using hxe
          have HXE:=aq hxe
          clear hxe
          go_wp2
          go_quiet (fail)
          go_wp2
          go_roundw
          case rel=>exact⟨j+1,_,by omega,by go_num,by rw[dz HSU',dz HXE];simp,rfl⟩
          case measure=>simp[intOf];omega
         ·have hq:(cs==x)=false:=by simpa using hxe
          have HXE:=aq hxe
          clear hxe
          go_wp2
          go_quiet (fail)
          go_wp2
          go_roundw
          case rel=>exact⟨j+1,_,by omega,by go_num,by rw[dz HSU'];simp[dz HXE],rfl⟩
          case measure=>simp[intOf];omega
       ·have hscI:decide ((sa:Int)<(core.length:Int))=false:=by rw[decide_eq_false_iff_not];omega
        have e1:core[sa]?=none:=List.getElem?_eq_none (by omega)
        rw[e1]at HSU'
        clear e1
        go_wp2
        go_quiet (fail)
        go_wp2
        go_roundw
        case rel=>exact⟨j+1,_,by omega,by go_num,by rw[dz HSU'];rfl,rfl⟩
        case measure=>simp[intOf];omega
  ·have hkl:k=A.length:=by omega
   subst hkl
   go_wp2
   go_ret
   exact⟨ret_bool (beq_cast _ _),_,rfl⟩
end Go.Proofs.YtekkkoipcghlmaaGreatDoor
namespace Go.Proofs.YtekkkoipcghlmaaGreatDoor
open Go.RowKit
theorem mod_succ(b k:Nat):b % 2 ^ (k+1)=b % 2 ^ k+(if b.testBit k then 2 ^ k else 0):=by
 rw[Nat.mod_pow_succ,Nat.testBit_eq_decide_div_mod_eq]
 by_cases h:b / 2 ^ k % 2=1
 ·rw[h];simp
 ·have:b / 2 ^ k % 2=0:=by omega
  rw[this];simp
theorem wrap64_in{n:Int}(h0:-9223372036854775808<=n)(h1:n<=9223372036854775807):wrap64 n=n:=(IntWalk.i64_left n).symm.trans (IntWalk.i64_in n ⟨h0,h1⟩)
theorem wrap_sum(bm k:Nat)(h1:bm<4096)(h2:2 ^ k<4096):wrap64 ((bm:Int)+wrap64 ((2:Int) ^ k))=((bm+2 ^ k:Nat):Int):=by
 have e:((2:Int) ^ k)=((2 ^ k:Nat):Int):=by simp
 rw[e]
 generalize 2 ^ k=p at *
 rw[wrap64_in (n:=(p:Int)) (by omega) (by omega),wrap64_in (by omega) (by omega)]
 omega
set_option maxRecDepth 100000 in
set_option maxHeartbeats 1600000 in
theorem model_any(base y:Nat)(lv v a:Value)(vs:List Value)(ms:List Nat)(A:List Int)(b:Nat)(w:World)(hY:YAt base w y lv vs ms)(hms:ms.length<=10000000)(ha:A.length<=10000000)(hb:b<4096)(hA:Lits A)(hav:Lies w a (ints A))(hac:∀ao n c,a=.slice ao n c->n<=c)
  (hv:Lies w v (ints (modelOf b))) (hta:A.all (tru b)=true) (htl:(ms.map Sp.litsOf).all (holdsOf b)=true):
  Calls Tryz.prog 147 #[.pointer (some ⟨y,0,none⟩),v,a] w fun e w'=>e=.returned (.bool true)/\∃q,w'=w.drewN q:=by
 obtain⟨vo,vc,hsh⟩:∃vo vc,v=.slice vo 12 vc:=by
  have:=lies_shape hv
  simpa [ints,modelOf] using this
 obtain⟨ao,ac,hsa⟩:∃ao ac,a=.slice ao A.length ac:=by
  have:=lies_shape hav
  simpa [ints] using this
 subst hsh hsa
 have hcap:A.length<=ac:=hac _ _ _ rfl
 rcases hv with⟨h0,_⟩|⟨bl,off,cap',hp,hvv,hbb,hcm⟩
 ·exfalso;have:=congrArg List.length h0;simp[ints,modelOf]at this
 ·simp only[Value.slice.injEq]at hvv
  obtain⟨rfl,-,rfl⟩:=hvv
  have HCM:Hid (∀i,i<12->w.cell? ⟨bl,off+i,none⟩=some (.int .i64 (if b.testBit i then((i:Int)+1)else -((i:Int)+1)))):=aq (fun i hi=>hcm i _ (by unfold ints;rw[List.getElem?_map,model_get b i hi];rfl))
  have HAV:=aq hav
  have HAA:=aq hA
  have HTA:=aq hta
  have HTL:=aq htl
  have HY:=aq hY
  have hc0:w.cell? ⟨y,0,none⟩=some lv:=by simp[World.cell?,hY.block]
  obtain⟨lo,lc,hsl⟩:=owns_shape hY.row
  subst hsl
  clear hcm hav hac hA hta htl hY
  go_enter Tryz.func147,Tryz.ntmps147
  go_wp2
  go_loopw [7,8] (fun c i wr=>∃k q:Nat,k<=12/\i=.int .i64 k/\c=.int .i64 ((b % 2 ^ k:Nat):Int)/\wr=w.drewN q) (fun _ i _=>12-(intOf i).toNat)
  case atStart=>exact⟨0,0,Nat.zero_le _,rfl,by rw[Nat.pow_zero,Nat.mod_one];rfl,rfl⟩
  case round=>
   obtain⟨k,q,hk,rfl,rfl,rfl⟩:=hrel
   by_cases hlt:k<12
   ·have hcell:=dz HCM k hlt
    have HMS:=aq (mod_succ b k)
    have hml:b % 2 ^ k<4096:=Nat.lt_of_le_of_lt (Nat.mod_le _ _) hb
    have hpl:2 ^ k<4096:=Nat.lt_of_lt_of_le (Nat.pow_lt_pow_right (by decide) hlt) (by decide)
    generalize b % 2 ^ k=bm at *
    cases hbt:b.testBit k
    ·rw[hbt]at hcell HMS
     simp only[Bool.false_eq_true,if_false]at hcell HMS
     clear hbt
     go_wp2
     exact⟨⟨k+1,q,by omega,by go_num,by rw[dz HMS];simp,rfl⟩,by simp[intOf];omega⟩
    ·rw[hbt]at hcell HMS
     simp only[if_true]at hcell HMS
     clear hbt
     go_wp2
     exact⟨⟨k+1,q,by omega,by go_num,by rw[dz HMS,wrap_sum bm k hml hpl],rfl⟩,by simp[intOf];omega⟩
   ·have hk12:k=12:=by omega
    have HBM:Hid (b % 2 ^ k=b):=aq (by rw[hk12];exact Nat.mod_eq_of_lt hb)
    clear hk12
    rw[dz HBM]
    go_wp2
    go_loopw [9,10] (fun i _ wr=>∃j q1:Nat,j<=A.length/\i=.int .i64 j/\wr=w.drewN q1) (fun i _ _=>A.length-(intOf i).toNat)
    case atStart=>exact⟨0,q,Nat.zero_le _,rfl,rfl⟩
    case round=>
     obtain⟨j,q1,hj,rfl,rfl⟩:=hrel
     by_cases hjl:j<A.length
     ·rcases dz HAV with⟨h0,_⟩|⟨b2,off2,cap2,hp2,hvv2,hbb2,hc2⟩
      ·exfalso;have:=congrArg List.length h0;simp[ints]at this;rw[this]at hjl;simp at hjl
      ·simp only[Value.slice.injEq]at hvv2
       obtain⟨rfl,-,rfl⟩:=hvv2
       have HLi:Hid (Lies (w.drewN q1) (.slice (some ⟨b2,off2+j,none⟩) 1 (ac-j)) (ints [A[j]])):=aq (.inr ⟨b2,off2+j,ac-j,by simp[ints],rfl,hbb2,fun t x hx=>by
        have ht:t=0:=by
         have:=(List.getElem?_eq_some_iff.1 hx).1
         simp[ints]at this;omega
        subst ht
        simp[ints]at hx
        subst hx
        exact hc2 j (.int .i64 A[j]) (by simp[ints,hjl])⟩)
       have HHO:=aq (holds_any _ [A[j]] b (w.drewN q1) (by simp) hb (fun x hx=>by simp at hx;subst hx;exact dz HAA _ (List.getElem_mem hjl)) (dz HLi))
       have hh1:holdsOf b [A[j]]=true:=by
        have:=List.all_eq_true.1 (dz HTA) A[j] (List.getElem_mem hjl)
        simp[holdsOf,this]
       rw[hh1]at HHO
       clear hc2 hh1 HLi
       go_wp2_with fail
       refine(dz HHO).mono ?_
       rintro e w2 ⟨rfl,q3,rfl⟩
       go_wp2
       go_roundw
       case rel=>exact⟨j+1,_,by omega,by go_num,rfl⟩
       case measure=>simp[intOf];omega
     ·go_wp2
      go_loopw [11,12] (fun i _ wr=>∃j2 q2:Nat,j2<=ms.length/\i=.int .i64 j2/\wr=w.drewN q2) (fun i _ _=>ms.length-(intOf i).toNat)
      case atStart=>exact⟨0,q1,Nat.zero_le _,rfl,rfl⟩
      case round=>
       obtain⟨j2,q2,hj2,rfl,rfl⟩:=hrel
       by_cases hjl2:j2<ms.length
       ·obtain⟨g,cp0,x,xo,xc,e1,hcx,e2,hlx⟩:=(dz HY).pick hjl2
        simp only[Value.slice.injEq]at e1
        obtain⟨rfl,-,rfl⟩:=e1
        have HHO:=aq (holds_any x (Sp.litsOf ms[j2]) b (w.drewN q2) (Nat.le_trans (litsOf_len24 _) (by decide)) hb (litsOf_bd ms[j2]) hlx)
        have hh1:holdsOf b (Sp.litsOf ms[j2])=true:=List.all_eq_true.1 (dz HTL) _ (List.mem_map.2 ⟨ms[j2],List.getElem_mem hjl2,rfl⟩)
        rw[hh1]at HHO
        subst e2
        clear hh1 hlx
        generalize (Sp.litsOf ms[j2]).length=lj at *
        go_wp2_with fail
        refine(dz HHO).mono ?_
        rintro e w2 ⟨rfl,q3,rfl⟩
        go_wp2
        go_roundw
        case rel=>exact⟨j2+1,_,by omega,by go_num,rfl⟩
        case measure=>simp[intOf];omega
       ·go_wp2
        go_ret
        exact⟨rfl,_,rfl⟩
end Go.Proofs.YtekkkoipcghlmaaGreatDoor
namespace Go.Proofs.YtekkkoipcghlmaaGreatDoor
open Go.RowKit
set_option maxRecDepth 100000 in
set_option maxHeartbeats 400000 in
theorem full_any(v:Value)(xs:List Int)(m:Int)(w:World)(hl:xs.length<=10000000)(hx:∀x,x∈xs->x=m)(hv:Lies w v (ints xs)):
  Calls Tryz.prog 60 #[v,.int .i64 m] w fun e w'=>e=.returned (.bool true)/\w'=w:=by
 rcases hv with⟨h0,ao,cap,rfl⟩|⟨b,off,cap,hp,rfl,hb,hc⟩
 ·have hx0:xs=[]:=by simpa [ints] using h0
  subst hx0
  go_enter Tryz.func60,Tryz.ntmps60
  go_wp2
  refine wp_loop_rounds 1 ?_
  rw[rounds_succ]
  go_wp2
  go_ret
  exact⟨rfl,rfl⟩
 ·have hlen:(ints xs).length=xs.length:=by simp[ints]
  rw[hlen]at hp⊢
  go_enter Tryz.func60,Tryz.ntmps60
  go_wp2
  go_loop [5] (fun i=>∃k:Nat,k<=xs.length/\i=.int .i64 k) (fun i=>xs.length-(intOf i).toNat)
  case atStart=>exact⟨0,Nat.zero_le _,rfl⟩
  case round=>
   obtain⟨k,hk,rfl⟩:=hrel
   by_cases hlt:k<xs.length
   ·have hcell:=hc k (.int .i64 xs[k]) (by simp[ints,hlt])
    rw[hx xs[k] (List.getElem_mem hlt)]at hcell
    clear hc hx
    go_wp2
    go_round
    case rel=>exact⟨k+1,by omega,by go_num⟩
    case measure=>simp[intOf];omega
   ·go_wp2
    go_ret
    exact⟨rfl,rfl⟩
end Go.Proofs.YtekkkoipcghlmaaGreatDoor
namespace Go.Proofs.YtekkkoipcghlmaaGreatDoor
open Go.RowKit
structure Entry where
 n:Nat
 m:Int
 lo:Option Addr
 lc:Nat
 ao:Option Addr
 ac:Nat
 bo:Option Addr
 bc:Nat
 co:Option Addr
 cc:Nat
def Entry.cells(e:Entry):List Value:=[.slice e.lo e.n e.lc,.slice e.ao (e.n+1) e.ac,.slice e.bo (e.n+2) e.bc,.slice e.co (e.n+3) e.cc,.int .i64 e.m]
structure EntryAt(w:World)(e:Entry):Prop where
 l:Lies w (.slice e.lo e.n e.lc) (ints (List.replicate e.n e.m))
 a:Lies w (.slice e.ao (e.n+1) e.ac) (ints (List.replicate (e.n+1) e.m))
 b:Lies w (.slice e.bo (e.n+2) e.bc) (ints (List.replicate (e.n+2) e.m))
 c:Lies w (.slice e.co (e.n+3) e.cc) (ints (List.replicate (e.n+3) e.m))
 small:e.n<=1000000
 lo:0<=e.m
 hi:e.m<=1000000000
def EntryFoot(G:Nat->Prop)(e:Entry):Prop:=∀v,v∈e.cells->∀g,v.ownBlock=some g->G g
structure BookIs(base:Nat)(w:World)(bk:Value)(G:Nat->Prop)(es:List Entry):Prop where
 row:w.ownsRow base 101 5 bk es.length (es.flatMap Entry.cells)
 ents:∀e,e∈es->EntryAt w e
 foot:∀g,bk.ownBlock=some g->G g
 feet:∀e,e∈es->EntryFoot G e
 off:∀e,e∈es->∀v,v∈e.cells->∀g,v.ownBlock=some g->bk.ownBlock≠some g
theorem lies_blocks{w w':World}{v:Value}{vs:List Value}(h:Lies w v vs)(hs:w.heap.size<=w'.heap.size)(hb:∀g,v.ownBlock=some g->w'.heap[g]?=w.heap[g]?):Lies w' v vs:=by
 rcases h with h|⟨b,off,cap,hp,rfl,hlt,hc⟩
 ·exact .inl h
 ·exact .inr ⟨b,off,cap,hp,rfl,Nat.lt_of_lt_of_le hlt hs,fun k x hx=>(World.cell?_of_block (a:=⟨b,off+k,none⟩) (hb b rfl)).trans (hc k x hx)⟩
section
variable {base:Nat}{w w':World}{bk:Value}{G:Nat->Prop}{es:List Entry}
theorem EntryAt.keep{e:Entry}(h:EntryAt w e)(hf:EntryFoot G e)(hs:w.heap.size<=w'.heap.size)(hk:∀k,G k->w'.heap[k]?=w.heap[k]?):EntryAt w' e:=
 ⟨lies_blocks h.l hs (fun g hg=>hk g (hf _ (by simp[Entry.cells]) g hg)),lies_blocks h.a hs (fun g hg=>hk g (hf _ (by simp[Entry.cells]) g hg)),lies_blocks h.b hs (fun g hg=>hk g (hf _ (by simp[Entry.cells]) g hg)),lies_blocks h.c hs (fun g hg=>hk g (hf _ (by simp[Entry.cells]) g hg)),h.small,h.lo,h.hi⟩
theorem BookIs.keep(h:BookIs base w bk G es)(hs:w.heap.size<=w'.heap.size)(hk:∀k,G k->w'.heap[k]?=w.heap[k]?):BookIs base w' bk G es:=
 ⟨owns_at h.row (fun g hg=>hk g (h.foot g hg)),fun e he=>(h.ents e he).keep (h.feet e he) hs hk,h.foot,h.feet,h.off⟩
theorem BookIs.nil(base:Nat)(w:World):BookIs base w (.slice none 0 0) (fun _=>False) []:=
 ⟨World.ownsRow_nil _ _ _ _,fun e he=>(by cases he),fun g hg=>(by cases hg),fun e he=>(by cases he),fun e he=>(by cases he)⟩
end
theorem flat5{α:Type}(f:α->List Value)(hf:∀e,(f e).length=5):∀(es:List α) (i j:Nat) (h:i<es.length),j<5->(es.flatMap f)[i*5+j]?=(f es[i])[j]?
 | [],i,j,h,_=>by simp at h
 | e::es,0,j,h,hj=>by
  rw[List.flatMap_cons,List.getElem?_append_left (by rw[hf];omega)]
  simp
 | e::es,i+1,j,h,hj=>by
  rw[List.flatMap_cons,List.getElem?_append_right (by rw[hf];omega),hf,show(i+1)*5+j-5=i*5+j from by omega]
  have:=flat5 f hf es i j (by simpa using h) hj
  simpa using this
theorem BookIs.cell{base:Nat}{w:World}{bk:Value}{G:Nat->Prop}{es:List Entry}(h:BookIs base w bk G es){i:Nat}(hi:i<es.length):∃g cap,bk=.slice (some ⟨g,0,none⟩) es.length cap/\g<w.heap.size/\es.length<=cap/\∀j x,es[i].cells[j]?=some x->w.cell? ⟨g,i*5+j,none⟩=some x:=by
 rcases h.row.2 with⟨_,h0⟩|⟨g,cap,cur,hv,_,hg,hle,_⟩
 ·omega
 ·refine⟨g,cap,hv,lt_of_block hg,hle,fun j x hx=>?_⟩
  have hj:j<5:=by have:=(List.getElem?_eq_some_iff.1 hx).1;simpa [Entry.cells] using this
  have:=h.row.cells (g:=g) (by rw[hv];rfl) (i*5+j) x (by rw[flat5 Entry.cells (fun e=>rfl) es i j hi hj];exact hx)
  rw[Addr.add_lit,Nat.zero_add]at this
  exact this
set_option maxRecDepth 100000 in
set_option maxHeartbeats 1600000 in
theorem looksB_any(base B:Nat)(bk:Value)(G:Nat->Prop)(es:List Entry)(w:World)(hB:w.cell? ⟨B,1,none⟩=some bk)(h:BookIs base w bk G es)(hG:∀k,G k->k<w.heap.size)(hn:es.length<=1000000000):
  Calls Tryz.prog 36 #[.pointer (some ⟨B,1,none⟩)] w fun e w'=>e=.returned (.bool true)/\Below w.heap.size w w':=by
 have hBl:B<w.heap.size:=World.block_lt_of_cell? w _ hB
 obtain⟨bo,bc,rfl⟩:∃bo bc,bk=.slice bo es.length bc:=by
  rcases h.row.2 with⟨h1,h2⟩|⟨g,cap,cur,h1,_⟩
  ·exact⟨none,0,by rw[h1,h2]⟩
  ·exact⟨_,_,h1⟩
 have HG:=aq hG
 clear hG
 have HH:=aq h
 clear h
 go_enter Tryz.func36,Tryz.ntmps36
 go_wp2
 go_loopw [3,4,5,6,7,8] (fun i _ _ _ _ _ wr=>∃k:Nat,k<=es.length/\i=.int .i64 k/\Hid (Below w.heap.size w wr)) (fun i _ _ _ _ _ _=>es.length-(intOf i).toNat)
 case atStart=>exact⟨0,Nat.zero_le _,rfl,aq (Below.refl _ _)⟩
 case round=>
  obtain⟨k,hk,rfl,HB⟩:=hrel
  have hb:=dz HB
  have hBr:wr.cell? ⟨B,1,none⟩=some (.slice bo es.length bc):=(hb.cell (p:=⟨B,1,none⟩) hBl).trans hB
  have hBlr:B<wr.heap.size:=Nat.lt_of_lt_of_le hBl hb.size
  by_cases hlt:k<es.length
  ·have hBk:=(dz HH).keep hb.size (fun k hk=>hb.block k (dz HG k hk))
   obtain⟨g,cap,hbk,hgl,hcap,hcell⟩:=hBk.cell hlt
   cases hbk
   have HF:Hid (∀wx,Below w.heap.size w wx->EntryAt wx es[k]):=aq (fun wx hx=>((dz HH).keep hx.size (fun k hk=>hx.block k (dz HG k hk))).ents _ (List.getElem_mem hlt))
   have hsm:=(hBk.ents _ (List.getElem_mem hlt)).small
   have hm0:=(hBk.ents _ (List.getElem_mem hlt)).lo
   have hm1:=(hBk.ents _ (List.getElem_mem hlt)).hi
   generalize es[k]=e at *
   obtain⟨n,m,lo,lc,ao,ac,bo,bc2,co,cc⟩:=e
   have c0:wr.cell? ⟨g,k*5,none⟩=some (.slice lo n lc):=hcell 0 _ rfl
   have c1:wr.cell? ⟨g,k*5+1,none⟩=some (.slice ao (n+1) ac):=hcell 1 _ rfl
   have c2:wr.cell? ⟨g,k*5+2,none⟩=some (.slice bo (n+2) bc2):=hcell 2 _ rfl
   have c3:wr.cell? ⟨g,k*5+3,none⟩=some (.slice co (n+3) cc):=hcell 3 _ rfl
   have c4:wr.cell? ⟨g,k*5+4,none⟩=some (.int .i64 m):=hcell 4 _ rfl
   have hdk:decide ((k:Int)<(es.length:Int))=true:=decide_eq_true (by omega)
   simp only at hsm hm0 hm1
   have FL:Hid (∀wx,Below w.heap.size w wx->Calls Tryz.prog 60 #[.slice lo n lc,.int .i64 m] wx fun e w'=>e=.returned (.bool true)/\w'=wx):=aq (fun wx hx=>full_any _ (List.replicate n m) m wx (by rw[List.length_replicate];omega) (fun x hx=>List.eq_of_mem_replicate hx) (dz HF wx hx).l)
   have FA:Hid (∀wx,Below w.heap.size w wx->Calls Tryz.prog 60 #[.slice ao (n+1) ac,.int .i64 m] wx fun e w'=>e=.returned (.bool true)/\w'=wx):=aq (fun wx hx=>full_any _ (List.replicate (n+1) m) m wx (by rw[List.length_replicate];omega) (fun x hx=>List.eq_of_mem_replicate hx) (dz HF wx hx).a)
   have FB:Hid (∀wx,Below w.heap.size w wx->Calls Tryz.prog 60 #[.slice bo (n+2) bc2,.int .i64 m] wx fun e w'=>e=.returned (.bool true)/\w'=wx):=aq (fun wx hx=>full_any _ (List.replicate (n+2) m) m wx (by rw[List.length_replicate];omega) (fun x hx=>List.eq_of_mem_replicate hx) (dz HF wx hx).b)
   have FC:Hid (∀wx,Below w.heap.size w wx->Calls Tryz.prog 60 #[.slice co (n+3) cc,.int .i64 m] wx fun e w'=>e=.returned (.bool true)/\w'=wx):=aq (fun wx hx=>full_any _ (List.replicate (n+3) m) m wx (by rw[List.length_replicate];omega) (fun x hx=>List.eq_of_mem_replicate hx) (dz HF wx hx).c)
   obtain⟨w1,hw1⟩:∃w1,wr.alloc (.cells #[.slice lo n lc,.slice ao (n+1) ac,.slice bo (n+2) bc2,.slice co (n+3) cc,.int .i64 m] 101)=w1:=⟨_,rfl⟩
   have hb1:Below wr.heap.size wr w1:=by rw[←hw1];exact below_alloc _ _
   have hbox:w1.heap[wr.heap.size]?=some (.cells #[.slice lo n lc,.slice ao (n+1) ac,.slice bo (n+2) bc2,.slice co (n+3) cc,.int .i64 m] 101):=by rw[←hw1];exact alloc_last _ _
   have hlt1:wr.heap.size<w1.heap.size:=lt_of_block hbox
   have b0:w1.cell? ⟨wr.heap.size,0,none⟩=some (.slice lo n lc):=by simp[World.cell?,hbox]
   have b1:w1.cell? ⟨wr.heap.size,1,none⟩=some (.slice ao (n+1) ac):=by simp[World.cell?,hbox]
   have b2:w1.cell? ⟨wr.heap.size,2,none⟩=some (.slice bo (n+2) bc2):=by simp[World.cell?,hbox]
   have b3:w1.cell? ⟨wr.heap.size,3,none⟩=some (.slice co (n+3) cc):=by simp[World.cell?,hbox]
   have b4:w1.cell? ⟨wr.heap.size,4,none⟩=some (.int .i64 m):=by simp[World.cell?,hbox]
   have hb01:Below w.heap.size w w1:=hb.trans (hb1.mono hb.size)
   have HB1:=aq hb01
   clear hcell HF hBk hbox HH
   go_wp2_with fail
   refine(dz FL w1 hb01).mono ?_
   rintro e wa ⟨rfl,rfl⟩
   go_wp2_with fail
   refine(dz FA wa hb01).mono ?_
   rintro e wb ⟨rfl,rfl⟩
   go_wp2_with fail
   refine(dz FB wb hb01).mono ?_
   rintro e wc ⟨rfl,rfl⟩
   go_wp2_with fail
   refine(dz FC wc hb01).mono ?_
   rintro e wd ⟨rfl,rfl⟩
   go_wp2
   go_roundw
   case rel=>exact⟨k+1,by omega,by go_num,HB1⟩
   case measure=>simp[intOf];omega
  ·go_wp2
   go_ret
   exact⟨rfl,hb⟩
end Go.Proofs.YtekkkoipcghlmaaGreatDoor
namespace Go.Proofs.YtekkkoipcghlmaaGreatDoor
open Go.RowKit
theorem append_keep2{P:Program}{ops:Array Oper}{rest:List Oper}{o:Oper}{a:Act}{Q:Exit->Act->World->Prop}{w:World}{base n m bytes:Nat}{v z:Value}{xs news:List Value}{ad:Addr}
  (hgd:o.guard=none) (s x:Operand) (t e:TypeId) (ho:o.op=.call { callee:=.builtin .append,args:=#[s,x],argTypes:=#[t,t] })
  (ht:P.underlying t=some (.slice e)) (hinfo:(P.info? e).map (fun i=>(i.zero,i.size,i.bytes))=some (some z,1,bytes)) (hzs:z.cells.size=1) (hby:bytes<=24)
  (hown:w.ownsRow base e 1 v n xs) (hs:a.eval s=v) (hx:a.eval x=.slice (some ad) m m) (hnl:news.length=m) (hm:0<m) (hnews:∀j u,news[j]?=some u->w.cell? (ad.add j)=some u) (h1:∀u∈news,u.oneCell'=true)
  (hn:n+m<=20000000) (hbase:base<=w.heap.size)
  (h:∀(v':Value) (w':World),w'.ownsRow base e 1 v' (n+m) (xs++news)->w'.ownsRow base e 1 v n xs->Only (fun k=>v.ownBlock=some k) w w'->(∀g,v'.ownBlock=some g->v.ownBlock=some g∨w.heap.size<=g)->((∃g cap,v=.slice (some ⟨g,0,none⟩) n cap/\v'=.slice (some ⟨g,0,none⟩) (n+m) cap)∨Below w.heap.size w w')->wpList P ops Q rest (a.put o.dst v') w'):
  wpList P ops Q (o::rest) a w:=by
 obtain⟨i0,hi0,hz0,hz1,hz2⟩:=info_parts hinfo
 have hnb:(n+m)*bytes<=140737488355328:=Nat.le_trans (Nat.mul_le_mul hn hby) (by omega)
 have hmx:n+m<=maxLen:=by unfold maxLen;omega
 have hnl1:news.length=m*1:=by omega
 rcases hown.2 with⟨rfl,h0⟩|⟨g,cap,cur,rfl,hbg,hg,hnc,hcm,hsz,htk⟩
 ·subst h0
  have hx0:xs=[]:=List.eq_nil_of_length_eq_zero (by rw[hown.1])
  subst hx0
  refine wpList_append_grows w hgd s x t ho e i0 z 1 bytes ht hi0 hz0 hz1 hz2 hzs (by decide) none 0 0 [] hs (fun _=>⟨rfl,rfl⟩) rfl (fun b hb=>by cases hb) ad m m news hx hnl1 hnews h1 (by omega) hmx hnb ?_
  intro v' w' h2 h3
  exact h v' w' (owns_mono h2 hbase) (World.ownsRow_nil _ _ _ _) (Only.grown h3 (fun k hk=>by cases hk)) (fun k hk=>.inr (h2.lt k hk).1) (.inr ((Below.refl _ _).grown h3 (Nat.le_refl _) (fun k hk=>by cases hk)))
 ·by_cases hr:n+m<=cap
  ·refine wpList_append_fits w hgd s x t ho base e i0 1 ht hi0 hz1 g n cap xs hs hown ad m m news hx hnl1 hnews h1 hr ?_
   intro w' h2 h3
   refine h _ w' h2 ?_ (Only.grown h3 (fun k hk=>by simp at hk;subst hk;rfl)) (fun k hk=>.inl hk) (.inl ⟨g,cap,rfl,rfl⟩)
   rcases h2.2 with⟨hv,_⟩|⟨g2,cap2,cur2,hv,hb2,hg2,_,hcm2,hsz2,htk2⟩
   ·cases hv
   ·simp only[Value.slice.injEq,Option.some.injEq,Addr.mk.injEq]at hv
    obtain⟨⟨rfl,-,-⟩,-,rfl⟩:=hv
    refine⟨hown.1,.inr ⟨g,cap,cur2,rfl,hbg,hg2,hnc,hcm,hsz2,?_⟩⟩
    have:=congrArg (List.take (n*1)) htk2
    rw[List.take_take,Nat.min_eq_left (by omega)]at this
    rw[this,List.take_append_of_le_length (by rw[hown.1];omega),List.take_of_length_le (by rw[hown.1];omega)]
  ·refine wpList_append_grows w hgd s x t ho e i0 z 1 bytes ht hi0 hz0 hz1 hz2 hzs (by decide) (some ⟨g,0,none⟩) n cap xs hs (fun e=>by cases e) hown.1 (fun b hb j u hu=>?_) ad m m news hx hnl1 hnews h1 (by omega) hmx hnb ?_
   ·cases hb
    have hj:j<n:=by
     have:=(List.getElem?_eq_some_iff.1 hu).1
     rw[hown.1]at this;omega
    have hadd:(⟨g,0,none⟩:Addr).add j=⟨g,j,none⟩:=by
     simp[Addr.add];intro e;exact e.symm
    rw[hadd,hown.cellAt j (by omega)]
    exact hu
   ·intro v' w' h2 h3
    exact h v' w' (owns_mono h2 hbase) (owns_at hown (fun k hk=>h3.block k (hown.lt k hk).2 (fun e=>by cases e))) (Only.grown h3 (fun k hk=>by cases hk)) (fun k hk=>.inr (h2.lt k hk).1) (.inr ((Below.refl _ _).grown h3 (Nat.le_refl _) (fun k hk=>by cases hk)))
def MarkRow(base:Nat)(w:World)(v:Value)(j:Nat)(m:Int):Prop:=w.ownsRow base 3 1 v j (ints (List.replicate j m))
theorem MarkRow.lies{base:Nat}{w:World}{v:Value}{j:Nat}{m:Int}(h:MarkRow base w v j m):Lies w v (ints (List.replicate j m)):=lies_of_owns h (by simp[ints])
theorem take_marks{cur:List Value}{j n:Nat}{m:Int}(h:cur.take n=ints (List.replicate n m))(hj:j<=n):cur.take j=ints (List.replicate j m):=by
 have:cur.take j=(cur.take n).take j:=by rw[List.take_take,Nat.min_eq_left hj]
 rw[this,h]
 simp[ints,List.take_replicate,Nat.min_eq_left hj]
theorem MarkRow.behind{base b1 n k j:Nat}{w w':World}{v v' v1:Value}{m:Int}(h1:MarkRow b1 w v1 j m)(hj:j<=n+k)(hv:MarkRow base w v n m)(hv':MarkRow base w' v' (n+k) m)(ho:Only (fun g=>v.ownBlock=some g) w w')(hp:(∃g cap,v=.slice (some ⟨g,0,none⟩) n cap/\v'=.slice (some ⟨g,0,none⟩) (n+k) cap)∨Below w.heap.size w w'):MarkRow b1 w' v1 j m:=by
 have hlt:=fun g hg=>(World.ownsRow.lt h1 g hg).2
 rcases hp with⟨g,cap,rfl,rfl⟩|hb
 ·refine⟨h1.1,?_⟩
  rcases h1.2 with h0|⟨g1,cap1,cur1,rfl,a1,a2,a3,a4,a5,a6⟩
  ·exact .inl h0
  ·by_cases e:g1=g
   ·subst e
    rcases hv.2 with⟨hv0,_⟩|⟨g2,cap2,cur2,hv2,c1,c2,c3,c4,c5,c6⟩
    ·cases hv0
    ·cases hv2
     rw[a2]at c2
     cases c2
     rcases hv'.2 with⟨hv0,_⟩|⟨g3,cap3,cur3,hv3,d1,d2,d3,d4,d5,d6⟩
     ·cases hv0
     ·cases hv3
      refine .inr ⟨g1,cap1,cur3,rfl,a1,d2,a3,a4,by omega,?_⟩
      rw[Nat.mul_one]at d6⊢
      exact take_marks d6 hj
   ·exact .inr ⟨g1,cap1,cur1,rfl,a1,(ho.block g1 (lt_of_block a2) (fun h=>e (by simpa [Value.ownBlock] using h.symm))).trans a2,a3,a4,a5,a6⟩
 ·exact owns_at h1 (fun g hg=>hb.block g (hlt g hg))
end Go.Proofs.YtekkkoipcghlmaaGreatDoor
