import Derived.Test.YtekkkoipcghlmaaGreatDoorU27
import Derived.Test.YtekkkoipcghlmaaGreatDoorU03
import Derived.Test.YtekkkoipcghlmaaGreatDoorU01
import Derived.Test.YtekkkoipcghlmaaGreatDoorProg
set_option linter.all false
namespace Go.Proofs.YtekkkoipcghlmaaGreatDoor
open Go.RowKit
attribute [local go_sem ↓] Go.wp_at_zero Go.wp_at_succ
theorem fH(l:List Int)(x:Int):x∈once l↔x∈l:=by
 have:∀n,x∈once (l.take n)↔x∈l.take n:=by
  intro n
  induction n with
  | zero=>simp[once]
  | succ n ih=>
   by_cases h:n<l.length
   ·rw[List.take_succ_eq_append_getElem h,jL]
    split
    ·rename_i hm
     rw[ih,List.mem_append]
     constructor
     ·exact .inl
     ·rintro(h1|h1)
      ·exact h1
      ·simp at h1
       subst h1
       exact ih.1 hm
    ·rw[List.mem_append,List.mem_append,ih]
   ·rw[List.take_of_length_le (by omega)]
    rw[List.take_of_length_le (by omega)]at ih
    exact ih
 have h:=this l.length
 rw[List.take_length]at h
 exact h
def aH7(v:Value):Nat:=match v with
 | .slice _ n _=>n
 | _=>0
def muOf(s:Nat)(w:World):Nat:=(3300000-(intOf ((w.cell? ⟨s,13,none⟩).getD (.int .i64 0))).toNat)*14+(13-aH7 ((w.cell? ⟨s,5,none⟩).getD (.slice none 0 0)))
theorem SAt.muOf{base:Nat}{w:World}{m:Mem}(h:SAt base w m):muOf m.s w=(3300000-m.conflicts.toNat)*14+(13-m.starts.length):=by
 have h13:w.cell? ⟨m.s,13,none⟩=some (.int .i64 m.conflicts):=by rw[h.cell 13 (by decide)];rfl
 have h5:w.cell? ⟨m.s,5,none⟩=some m.st:=by rw[h.cell 5 (by decide)];rfl
 obtain⟨ao,cp,hsh⟩:=aC (h.pack.rows 7 _ rfl)
 have hst:m.st=.slice ao m.starts.length cp:=hsh
 unfold Go.Proofs.YtekkkoipcghlmaaGreatDoor.muOf
 rw[h13,h5,hst]
 rfl
theorem mF{cls:List Cl}{tr:Tr}(h:TrOK cls tr):levels tr<=12:=by
 have h1:=h.len
 have h2:levels tr<=tr.length:=by unfold levels;exact List.length_filter_le _ _
 omega
section
variable {base:Nat}{w wr:World}{m0 m:Mem}{G:List Nat}{A:List Int}{B:Int}{cls:List Cl}{wat:Int->List Int}{tr:Tr}{n:Nat}{bad:Int}{S:List (Bool×List Int)}{D:List Nat}
def RunL(base:Nat)(w:World)(m0:Mem)(G:List Nat)(A:List Int)(B:Int)(c:Int)(l:Nat)(wr:World):Prop:=∃m cls wat tr n S D,RunI base w m0 G A B wr m cls wat tr n S D/\m.conflicts=c/\levels tr=l
theorem RunL.mu{c:Int}{l:Nat}(h:RunL base w m0 G A B c l wr):muOf m0.s wr=(3300000-c.toNat)*14+(13-l)/\0<=c/\c<3200000/\l<=12:=by
 obtain⟨m,cls,wat,tr,n,S,D,h,rfl,rfl⟩:=h
 have h1:=h.r.mu.at.muOf
 rw[h.r.mu.s,h.r.rep.levels]at h1
 exact⟨h1,h.rounds.bound.1,h.rounds.bound.2,mF h.r.still.trok⟩
def RunE(base:Nat)(w:World)(m0:Mem)(G:List Nat)(A:List Int)(B:Int)(kind:Int)(vm vc:Value)(c:Int)(w':World):Prop:=∃m S D,m.conflicts=c/\RunOut base w m0 G A B w' m S D kind vm vc
def RunC(base:Nat)(w:World)(m0:Mem)(G:List Nat)(A:List Int)(B:Int)(c:Int)(l:Nat)(bad:Int)(w':World):Prop:=(bad=-1/\∃m cls wat tr S D,RunI base w m0 G A B w' m cls wat tr tr.length S D/\m.conflicts=c/\levels tr=l)∨(bad≠-1/\∃m cls wat tr n S D,RStr base w m0 G A B w' m cls wat tr n bad S D/\m.conflicts=c)
theorem runC{c:Int}{l:Nat}(h:RunL base w m0 G A B c l wr)(hG:G.length<=100000)(hbs:base<=w.heap.size):Calls Tryz.prog 72 #[.pointer (some ⟨m0.s,0,none⟩)] wr fun e w'=>∃bad,e=.returned (.int .i64 bad)/\RunC base w m0 G A B c l bad w':=by
 obtain⟨m,cls,wat,tr,n,S,D,h,rfl,rfl⟩:=h
 have:=rX base m cls wat tr n wr h.r.mu.at h.r.rep h.r.watAt h.r.still h.r.passed (by have:=h.size hG;omega) (Nat.le_trans hbs h.r.mu.to.only.size) h.broken
 rw[h.r.mu.s]at this
 refine this.mono (fun e w' hh=>?_)
 obtain⟨m1,cls1,wat1,tr1,bad,he,hc,hl,hor⟩:=h.prop hh
 refine⟨bad,he,?_⟩
 rcases hor with⟨hb,h1⟩|⟨hb,n1,h1⟩
 ·exact .inl ⟨hb,m1,cls1,wat1,tr1,S,D,h1,hc,hl⟩
 ·exact .inr ⟨hb,m1,cls1,wat1,tr1,n1,S,D,h1,hc⟩
theorem runK(h:RStr base w m0 G A B wr m cls wat tr n bad S D)(hG:G.length<=100000)(hbs:base<=w.heap.size):wr.cell? ⟨m0.s,13,none⟩=some (.int .i64 m.conflicts)/\wr.frozen? ⟨m0.s,13,none⟩=false/\m0.s<wr.heap.size/\0<=m.conflicts/\m.conflicts<3200000/\levels tr<=12/\
  Calls Tryz.prog 73 #[.pointer (some ⟨m0.s,3,none⟩)] (wr.setCell ⟨m0.s,13,none⟩ (.int .i64 (m.conflicts+1))) (fun e w'=>e=.returned (.int .i64 (levels tr:Int))/\w'=wr.setCell ⟨m0.s,13,none⟩ (.int .i64 (m.conflicts+1)))/\
  (levels tr=0->Calls Tryz.prog 74 #[.pointer (some ⟨m0.s,0,none⟩),.slice none 0 0] (wr.setCell ⟨m0.s,13,none⟩ (.int .i64 (m.conflicts+1))) (fun e w'=>e=.returned (.agg #[.int .i64 2,.slice none 0 0,.slice none 0 0,.int .i64 (m.conflicts+1)])/\RunE base w m0 G A B 2 (.slice none 0 0) (.slice none 0 0) (m.conflicts+1) w'))/\
  (levels tr≠0->Calls Tryz.prog 75 #[.pointer (some ⟨m0.s,0,none⟩),.int .i64 bad] (wr.setCell ⟨m0.s,13,none⟩ (.int .i64 (m.conflicts+1))) (fun e w'=>e=.returned (.tuple #[])/\∃m2 cls2 wat2 tr2 n2 S2 D2,RLearn base w m0 G A B w' m2 cls2 wat2 tr2 n2 S2 D2/\m2.conflicts=m.conflicts+1)):=by
 have hS:=h.mu.at
 have hs:=h.mu.s
 have hm:=Mut.confSet hS (m.conflicts+1)
 rw[hs]at hm
 have hbd:=h.rounds.bound
 have hsz:=h.size hG
 refine⟨by rw[←hs,hS.cell 13 (by decide)];rfl,by rw[←hs];exact hS.free 13,by rw[←hs];exact hS.lt.1,hbd.1,hbd.2,mF h.struck.trok,?_,fun h0=>?_,fun h0=>?_⟩
 ·have:=gU base _ _ hm.at
  rw[show(m.confSet (m.conflicts+1)).s=m0.s from hs,show(m.confSet (m.conflicts+1)).starts.length=levels tr from h.rep.levels]at this
  exact this
 ·have:=mC base _ none 0 0 _ hm.at
  rw[show(m.confSet (m.conflicts+1)).s=m0.s from hs]at this
  refine this.mono (fun e w' hh=>?_)
  exact⟨hh.1,_,S,D,rfl,h.unsat h0 hm hh.2⟩
 ·have hcnt:=h.count
  have:=aG0 base (m.confSet (m.conflicts+1)) cls wat tr n bad _ hm.at ⟨h.rep.store,h.rep.order,h.rep.starts,h.rep.len,h.rep.taken,h.rep.free,h.rep.odr,h.rep.ordr⟩ h.watAt h.struck h.passed (by omega) h.heap h.free (by show m.store.length<=_;omega) (by show m.nsteps<=_;omega) (Nat.le_trans hbs (h.mu.trans hm).to.only.size)
  rw[show(m.confSet (m.conflicts+1)).s=m0.s from hs]at this
  refine this.mono (fun e w' hh=>?_)
  obtain⟨m2,cls2,wat2,tr2,n2,S2,D2,h2,hc2⟩:=h.learn hm hh.2
  exact⟨hh.1,m2,cls2,wat2,tr2,n2,S2,D2,h2,hc2⟩
theorem runR(h:RLearn base w m0 G A B wr m cls wat tr n S D)(hG:G.length<=100000)(hB:0<=B)(hbs:base<=w.heap.size):wr.cell? ⟨m0.s,13,none⟩=some (.int .i64 m.conflicts)/\(m.conflicts=B->∀w',Below wr.heap.size wr w'->RunE base w m0 G A B 3 (.slice none 0 0) (.slice none 0 0) m.conflicts w')/\
  (m.conflicts≠B->Calls Tryz.prog 76 #[.pointer (some ⟨m0.s,8,none⟩)] wr (fun e w'=>∃b:Bool,e=.returned (.bool b)/\(b=false->∃l,RunL base w m0 G A B m.conflicts l w')/\(b=true->Calls Tryz.prog 77 #[.pointer (some ⟨m0.s,0,none⟩)] w' (fun e w2=>e=.returned (.tuple #[])/\∃l,RunL base w m0 G A B m.conflicts l w2)))):=by
 have hS:=h.r.mu.at
 have hs:=h.r.mu.s
 obtain⟨k,hk,hr⟩:=h.rounds
 have hbd:=hr.bound
 have r1:=hr.met0
 have r2:=hr.lt
 have r3:=hr.most
 have r4:=hr.four
 refine⟨by rw[←hs,hS.cell 13 (by decide)];rfl,fun hb w' hw=>⟨m,S,D,rfl,h.unknown hB hb hw⟩,fun hb=>?_⟩
 have:=aN3 base m wr hS (by omega) (by omega)
 rw[hs]at this
 refine this.mono (fun e w' hh=>?_)
 obtain⟨he,hm⟩:=hh
 refine⟨_,he,fun hf=>?_,fun ht=>?_⟩
 ·exact⟨_,_,cls,wat,tr,n,S,D,h.on hm (of_decide_eq_false hf) hb,rfl,rfl⟩
 ·have hle:=of_decide_eq_true ht
  have hsz:m.store.length<=8900000:=by rw[h.r.rep.store];exact h.r.told.small h.r.still.wf hG
  have:=pR base w m0 G w' (m.metSet (m.rmet+1)) cls wat tr n S D (h.met hm) h.some_ (by show m.store.length<=_;omega) (by show m.conflicts<=_;omega) (by show 0<=m.rlen;omega) (by show m.rlen<=_;omega) hbs
  refine this.mono (fun e w2 hh=>?_)
  obtain⟨m2,cls2,wat2,tr2,n2,S2,D2,h2,hc2⟩:=h.anew hm hle hb hh.2
  exact⟨hh.1,_,m2,cls2,wat2,tr2,n2,S2,D2,h2,hc2,rfl⟩
theorem runN{c:Int}{l:Nat}(h:RunI base w m0 G A B wr m cls wat tr tr.length S D)(hc:m.conflicts=c)(hl:levels tr=l)(hA:∀x,x∈A->x≠0/\-12<=x/\x<=12)(hal:A.length<=10000000)(hG:G.length<=100000)(hbs:base<=w.heap.size):Calls Tryz.prog 78 #[.pointer (some ⟨m0.s,0,none⟩)] wr fun e w1=>
  (e=.returned (.int .i64 0)/\Calls Tryz.prog 79 #[.pointer (some ⟨m0.s,0,none⟩)] w1 (fun e w2=>∃vm,e=.returned (.agg #[.int .i64 1,vm,.slice none 0 0,.int .i64 c])/\(∃ao k cp,vm=.slice ao k cp)/\RunE base w m0 G A B 1 vm (.slice none 0 0) c w2))∨
  (∃x:Int,e=.returned (.int .i64 x)/\x≠0/\-12<=x/\x<=12/\∃f:Bool,Calls Tryz.prog 80 #[.pointer (some ⟨m0.s,3,none⟩),.int .i64 x] w1 (fun e w2=>e=.returned (.bool f)/\
   (f=true->Calls Tryz.prog 81 #[.pointer (some ⟨m0.s,0,none⟩),.int .i64 x] w2 (fun e w3=>∃ao k cp,e=.returned (.slice ao k cp)/\Calls Tryz.prog 74 #[.pointer (some ⟨m0.s,0,none⟩),.slice ao k cp] w3 (fun e w4=>e=.returned (.agg #[.int .i64 2,.slice none 0 0,.slice ao k cp,.int .i64 c])/\RunE base w m0 G A B 2 (.slice none 0 0) (.slice ao k cp) c w4)))/\
   (f=false->Calls Tryz.prog 82 #[.pointer (some ⟨m0.s,3,none⟩),.int .i64 x] w2 (fun e w3=>e=.returned (.tuple #[])/\RunL base w m0 G A B c (l+1) w3)))):=by
 have hS:=h.r.mu.at
 have hs:=h.r.mu.s
 have hT:=h.r.still.trok
 have hbr:=Nat.le_trans hbs h.r.mu.to.only.size
 have hol:tr.length<=12:=hT.len
 have hfree0:∀u:Nat,0<u->u<=12->m.truth u=0->(u:Int)∈m.all:=fun u a b hz=>h.r.free u a b (fun i e hi he=>by
  have h1:=(h.r.rep.taken i e hi).1
  have h2:=(hT.bd i e hi).1
  rw[he,hz]at h1
  omega)
 have:=aN4 base m cls tr wr hS h.r.rep h.r.heap hfree0 (by rw[h.asm];exact hA) (by rw[h.asm];exact hal)
 rw[hs]at this
 refine this.mono (fun e w1 hh=>?_)
 have decideC:∀{m1:Mem} {w2:World} {x:Int},Mut base wr m w2 m1->KeptQ m m1->HeapOK m1.all m1.places->(∀u:Nat,0<u->u<=12->m.truth u=0->u≠x.natAbs->(u:Int)∈m1.all)->(x≠0/\-12<=x/\x<=12)->¬Tru tr x->¬Tru tr (-x)->(x∈A∨∀a,a∈A->Tru tr a)->Calls Tryz.prog 82 #[.pointer (some ⟨m0.s,3,none⟩),.int .i64 x] w2 (fun e w3=>e=.returned (.tuple #[])/\RunL base w m0 G A B c (l+1) w3):=by
  intro m1 w2 x hm hk hh hfr hx n1 n2 hor
  have hkq:=hk
  unfold KeptQ at hkq
  have f1:m1.order=m.order:=by rw[hkq]
  have f2:m1.starts=m.starts:=by rw[hkq]
  have f3:m1.odr=m.odr:=by rw[hkq]
  have f4:m1.od=m.od:=by rw[hkq]
  have f5:m1.ordr=m.ordr:=by rw[hkq]
  have e5:m1.conflicts=m.conflicts:=by rw[hkq]
  have:=yA base m1 x w2 hm.at hx.2.1 hx.2.2 (Nat.le_trans hbr hm.to.only.size) (by rw[f1,h.r.rep.order,List.length_map];omega) (by rw[f2,h.r.rep.levels];have:=mF hT;omega) (by rw[f3,f4];exact h.r.rep.odr) (by rw[f5,f1];exact h.r.rep.ordr)
  rw[hm.s,hs]at this
  refine this.mono (fun e w3 hh3=>?_)
  obtain⟨he,st,od,hm3⟩:=hh3
  obtain⟨h1,h2⟩:=h.decided hm hk hh hfr hx n1 n2 hor hm3
  exact⟨he,_,cls,wat,_,_,S,D,h1,e5.trans hc,by rw[h2,hl]⟩
 rcases hh with⟨x,hxA,hnt,he,hm⟩|⟨hall,m1,hm,hh1,hk,hor⟩
 ·rw[h.asm]at hxA
  have hx:=hA x hxA
  refine .inr ⟨x,he,hx.1,hx.2.1,hx.2.2,(m.truth x.natAbs==-x),?_⟩
  have:=fX base m x w1 hm.at hx.2.1 hx.2.2
  rw[hs]at this
  refine this.mono (fun e w2 hh2=>?_)
  have hm2:=hm.trans (Mut.below hm.at hh2.2)
  refine⟨hh2.1,fun ht=>?_,fun hf=>?_⟩
  ·have hfalse:Tru tr (-x):=(h.r.rep.is_false x hx.1 hx.2.1 hx.2.2).1 (by simpa using ht)
   have:=aJ6 base m cls tr x w2 hm2.at h.r.rep hT h.r.still.wf hx hfalse (by rw[h.asm];exact hxA) (by rw[h.asm];exact h.dec.assumed hT hxA hfalse) (by have:=h.size hG;omega) (by rw[h.asm];exact hal)
   rw[hs,h.asm]at this
   refine this.mono (fun e w3 hh3=>?_)
   obtain⟨v,bl,he3,hown,hb3,hfol⟩:=hh3
   obtain⟨ao,cp,hsh⟩:=aC hown
   have hm3:=hm2.trans (Mut.below hm2.at hb3)
   refine⟨ao,_,cp,by rw[he3,hsh],?_⟩
   have hu:=mC base m ao (A.filter (fun x=>decide (x∈bl))).length cp w3 hm3.at
   rw[hs]at hu
   refine hu.mono (fun e w4 hh4=>?_)
   refine⟨by rw[hh4.1,hc],m,S,D,hc,?_⟩
   rw[hsh]at hown
   have hbe:=hm2.to.only
   have hI2:RunI base w m0 G A B w2 m cls wat tr tr.length S D:=⟨⟨h.r.mu.trans hm2,h.r.rep,h.r.watAt,h.r.still,h.r.passed,h.r.heap,h.r.free,h.r.steps.keep hm2.to rfl,h.r.told,h.r.given,h.r.count⟩,h.rounds,h.broken,h.asm,h.dec,h.some_,h.bud⟩
   exact hI2.unsat hA hb3 hh4.2 hown hfol
  ·have hnf:¬Tru tr (-x):=fun hT'=>by
    have:=(h.r.rep.is_false x hx.1 hx.2.1 hx.2.2).2 hT'
    rw[this]at hf
    simp at hf
   exact decideC hm2 (KeptQ.refl m) h.r.heap (fun u a b z _=>hfree0 u a b z) hx hnt hnf (.inl hxA)
 ·rw[h.asm]at hall
  rcases hor with⟨he,hno⟩|⟨v,hv0,hv12,hz,he,hfr⟩
  ·refine .inl ⟨he,?_⟩
   have:=aO7 base m1 w1 hm.at
   rw[hm.s,hs]at this
   refine this.mono (fun e w2 hh2=>?_)
   obtain⟨vm,he2,hown,hb⟩:=hh2
   have e5:m1.conflicts=m.conflicts:=by rw[hk]
   obtain⟨ao,cp,hsh⟩:=aC (n:=12) hown
   exact⟨vm,by rw[he2,e5,hc],⟨ao,12,cp,hsh⟩,m1,S,D,e5.trans hc,h.sat hA hall hno hm hk hown hb⟩
  ·refine .inr ⟨-(v:Int),he,by omega,by omega,by omega,(m.truth v==(v:Int)),?_⟩
   have hk6:m1.facts=m.facts:=by rw[hk]
   have htr:m1.truth v=m.truth v:=by unfold Mem.truth;rw[hk6]
   have:=fX base m1 (-(v:Int)) w1 hm.at (by omega) (by omega)
   rw[hm.s,hs,Int.natAbs_neg,Int.natAbs_natCast,htr,Int.neg_neg]at this
   refine this.mono (fun e w2 hh2=>?_)
   have hm2:=hm.trans (Mut.below hm.at hh2.2)
   refine⟨hh2.1,fun ht=>?_,fun _=>?_⟩
   ·rw[hz]at ht
    have:(0:Int)=(v:Int):=by simpa using ht
    omega
   ·obtain⟨o1,o2⟩:=(h.r.rep.is_open hT (v:Int) (by omega) (by omega) (by omega)).1 (by rw[Int.natAbs_natCast];exact hz)
    exact decideC hm2 hk hh1 (fun u a b z hne=>hfr u a b z (by simpa using hne)) ⟨by omega,by omega,by omega⟩ o2 (by rw[Int.neg_neg];exact o1) (.inr hall)
end
set_option maxRecDepth 100000 in
set_option maxHeartbeats 32000000 in
theorem aQ0(base:Nat)(w:World)(m0:Mem)(G:List Nat)(wr:World)(m:Mem)(cls:List Cl)(wat:Int->List Int)(tr:Tr)(av:Value)(A0:List Int)(B:Int)(h:AAt base w m0 G wr m cls wat tr)(hv:Lies wr av (ints A0))(hA0:∀x,x∈A0->x≠0/\-12<=x/\x<=12)(hal:A0.length<=10000000)(hB:0<=B)(hB2:B<=9223372036854775807)(hG:m.broken=-1->G.length<=100000)(hbs:base<=w.heap.size):
  Calls Tryz.prog 42 #[.pointer (some ⟨m0.s,0,none⟩),av,.int .i64 B] wr fun e w'=>∃v,e=.returned v/\sD base w m0 G (once A0) B v w':=by
 obtain⟨vo,vc,hvs,-⟩:=cT hv
 have hws:=h.mu.to.only.size
 have hsm:=h.mu.s
 have hb0:Below wr.heap.size wr (wr.alloc bA):=(Below.refl _ _).alloc (Nat.le_refl _) _
 have hz0:(wr.alloc bA).heap.size=wr.heap.size+1:=by simp
 have hm00:Mut base wr m (wr.alloc bA) m:=Mut.below h.mu.at hb0
 have hbox0:(wr.alloc bA).heap[wr.heap.size]?=some bA:=heap_alloc_new wr bA
 have hnf0:¬foot m.rows wr.heap.size:=fun hf=>by have:=(h.mu.at.pack.lt hf).2;omega
 have HEO:=aq (sF av A0 (wr.alloc bA) hal (hv.below hb0))
 have HIN:Hid (∀(u:Value) (w1:World),w1.ownsRow (wr.alloc bA).heap.size 3 1 u (once A0).length (ints (once A0))->Below (wr.alloc bA).heap.size (wr.alloc bA) w1->(∃z,w1.cell? ⟨m0.s,12,none⟩=some z)/\w1.frozen? ⟨m0.s,12,none⟩=false/\Mut base w m0 (w1.setCell ⟨m0.s,12,none⟩ u) (m.asmSet u (once A0))/\(w1.setCell ⟨m0.s,12,none⟩ u).heap[wr.heap.size]?=some bA/\¬foot (m.asmSet u (once A0)).rows wr.heap.size/\Mut base wr m (w1.setCell ⟨m0.s,12,none⟩ u) (m.asmSet u (once A0))):=aq (by
  intro u w1 hown hb
  have hS1:=hm00.at.below hb
  have hm2:=Mut.asmSet hm00.at (v:=u) (l:=once A0) (bC hown (by omega)) hb (fun g hg=>(hown.lt g hg).1)
  rw[hsm]at hm2
  have hslt:m0.s<wr.heap.size:=by rw[←hsm];exact h.mu.at.lt.1
  refine⟨⟨_,by rw[←hsm];exact hS1.cell 12 (by decide)⟩,by rw[←hsm];exact hS1.free 12,(h.mu.trans hm00).trans hm2,?_,fun hf=>?_,hm00.trans hm2⟩
  ·refine(Below.heap_setCell _ _ _ _ (by simp;omega)).trans ((hb.block _ (by omega)).trans hbox0)
  ·rcases hm2.to.grows _ hf with h1|h1
   ·exact hnf0 h1
   ·omega)
 have HA:Hid (∀x,x∈once A0->x≠0/\-12<=x/\x<=12):=aq (fun x hx=>hA0 x ((fH A0 x).1 hx))
 have hol:(once A0).length<=10000000:=by have:=lG A0;omega
 have H:=aq h
 have HGl:=aq hG
 clear h hv hm00 hbox0 hnf0 hb0 hA0 hG
 subst hvs
 generalize hbx:wr.heap.size=bx at *
 generalize hAA:once A0=A at *
 go_enter Tryz.func42,Tryz.ntmps42
 go_wp2_with fail
 refine(dz HEO).mono ?_
 rintro e w1 ⟨u,rfl,hown1,hb1⟩
 obtain⟨⟨z12,c12⟩,f12,hM02,hbx2,hnf2,hMr2⟩:=dz HIN u w1 hown1 hb1
 obtain⟨au,cu,hu⟩:=aC hown1
 have hbx2s:bx<(w1.setCell ⟨m0.s,12,none⟩ u).heap.size:=(Array.getElem?_eq_some_iff.1 hbx2).1
 have HBOX:Hid (∀wx mx,Mut base (w1.setCell ⟨m0.s,12,none⟩ u) (m.asmSet u A) wx mx->wx.heap[bx]?=some bA/\¬foot mx.rows bx):=aq (fun wx mx hm=>⟨(hm.to.only.block bx hbx2s hnf2).trans hbx2,fun hf=>by
  rcases hm.to.grows bx hf with h1|h1
  ·exact hnf2 h1
  ·omega⟩)
 have HFIN:Hid (∀wx kind vm vc c,RunE base (w1.setCell ⟨m0.s,12,none⟩ u) (m.asmSet u A) G A B kind vm vc c wx->sD base w m0 G A B (.agg #[.int .i64 kind,vm,vc,.int .i64 c]) (cQ wx bx (.int .i64 kind) vm vc (.int .i64 c))):=aq (by
  rintro wx kind vm vc c ⟨mx,S,D,rfl,hR⟩
  obtain⟨hz,hnf⟩:=dz HBOX wx mx hR.mu
  have ho:=((dJ hz).2.2 (.int .i64 kind) vm vc (.int .i64 mx.conflicts)).2
  have hR2:=hR.rebase hM02
  exact⟨mx,S,D,kind,vm,vc,rfl,hR2.box hz ho (by omega) hnf⟩)
 have HBZ:Hid (∀wx kind vm vc c,RunE base (w1.setCell ⟨m0.s,12,none⟩ u) (m.asmSet u A) G A B kind vm vc c wx->wx.heap[bx]?=some bA):=aq (by
  rintro wx kind vm vc c ⟨mx,S,D,rfl,hR⟩
  exact(dz HBOX wx mx hR.mu).1)
 have hs2:(m.asmSet u A).s=m0.s:=hsm
 by_cases hbr:m.broken=-1
 ·have hI0:=RunI.init (B:=B) (dz H) hbr hMr2
  have hGG:=dz HGl hbr
  have hbs2:base<=(w1.setCell ⟨m0.s,12,none⟩ u).heap.size:=Nat.le_trans hbs hM02.to.only.size
  have HL0:Hid (∃c l,RunL base (w1.setCell ⟨m0.s,12,none⟩ u) (m.asmSet u A) G A B c l (w1.setCell ⟨m0.s,12,none⟩ u)):=aq ⟨_,_,_,cls,wat,tr,_,_,_,hI0,rfl,rfl⟩
  clear hI0 hown1 hb1 hM02 hbx2 hnf2 hMr2 hbx2s HBOX HEO HIN H HGl
  subst hu
  go_wp2
  generalize w1.setCell ⟨m0.s,12,none⟩ (.slice au A.length cu)=W2 at *
  generalize m.asmSet (.slice au A.length cu) A=M2 at *
  have HC:=aq (fun wr c l (h:RunL base W2 M2 G A B c l wr)=>runC h hGG hbs2)
  have HK:=aq (fun wr m cls wat tr n bad S D (h:RStr base W2 M2 G A B wr m cls wat tr n bad S D)=>runK h hGG hbs2)
  have HR:=aq (fun wr m cls wat tr n S D (h:RLearn base W2 M2 G A B wr m cls wat tr n S D)=>runR h hGG hB hbs2)
  have HN:=aq (fun wr m cls wat tr S D c l (h:RunI base W2 M2 G A B wr m cls wat tr tr.length S D) hc hl=>runN (c:=c) (l:=l) h hc hl (dz HA) hol hGG hbs2)
  have HMU:=aq (fun wr c l (h:RunL base W2 M2 G A B c l wr)=>h.mu)
  rw[hs2]at HC HK HR HN HMU
  clear HA
  go_loopw [7] (fun _ wr=>Hid (∃c l,RunL base W2 M2 G A B c l wr)) (fun _ wr=>muOf m0.s wr)
  case atStart=>exact HL0
  case round=>
   obtain⟨c,l,hL⟩:=dz hrel
   obtain⟨hmu,hc0,hc1,hl12⟩:=dz HMU wr c l hL
   have HCC:=aq (dz HC wr c l hL)
   have HMM:=aq hmu
   clear hL hmu hrel HL0 HC
   go_wp2_with fail
   refine(dz HCC).mono ?_
   rintro e w3 ⟨bad,rfl,hor⟩
   rcases hor with⟨rfl,m3,cls3,wat3,tr3,S3,D3,hI3,hc3,hl3⟩|⟨hbad,m3,cls3,wat3,tr3,n3,S3,D3,hS3,hc3⟩
   ·have HNN:=aq (dz HN w3 m3 cls3 wat3 tr3 S3 D3 c l hI3 hc3 hl3)
    clear hI3 hc3 hl3 HCC HN HK HR
    go_wp2_with fail
    refine(dz HNN).mono ?_
    rintro e w4 (⟨rfl,hsat⟩|⟨x,rfl,hx0,hx1,hx2,f,hfalse⟩)
    ·have HS:=aq hsat
     clear hsat HNN
     go_wp2_with fail
     refine(dz HS).mono ?_
     rintro e w5 ⟨vm,rfl,⟨ao,k,cp,rfl⟩,hE⟩
     obtain⟨⟨q0,q1,q2,q3⟩,⟨p0,p1,p2,p3⟩,hfin⟩:=dJ (dz HBZ _ _ _ _ _ hE)
     obtain⟨⟨e0,e1,e2,e3⟩,-⟩:=hfin (.int .i64 1) (.slice ao k cp) (.slice none 0 0) (.int .i64 c)
     have HRES:=aq (dz HFIN _ _ _ _ _ hE)
     have HE4:=aq (And.intro e0 (And.intro e1 (And.intro e2 e3)))
     clear hE hfin e0 e1 e2 e3 HFIN HBZ HS
     go_wp2
     obtain⟨e0,e1,e2,e3⟩:=dz HE4
     unfold cQ at e0 e1 e2 e3
     refine bodyPost_ret (v:=.agg #[.int .i64 1,.slice ao k cp,.slice none 0 0,.int .i64 c]) (by simp[results,Tryz.results42,go_sem,e0,e1,e2,e3]) rfl ?_
     exact⟨_,rfl,dz HRES⟩
    ·have HF:=aq hfalse
     clear hfalse HNN
     have hxq:(x==0)=false:=by simpa using hx0
     go_wp2_with fail
     refine(dz HF).mono ?_
     rintro e w5 ⟨rfl,hft,hff⟩
     cases f
     ·have HD:=aq (hff rfl)
      clear hft hff HF
      go_wp2_with fail
      refine(dz HD).mono ?_
      rintro e w6 ⟨rfl,hL6⟩
      have HL6:=aq hL6
      clear hL6 HD
      go_wp2
      refine⟨aq ⟨c,l+1,dz HL6⟩,?_⟩
      have h6:=(dz HMU w6 c (l+1) (dz HL6))
      rw[dz HMM,h6.1]
      omega
     ·have HD:=aq (hft rfl)
      clear hft hff HF
      go_wp2_with fail
      refine(dz HD).mono ?_
      rintro e w6 ⟨ao,k,cp,rfl,hu6⟩
      have HU6:=aq hu6
      clear hu6 HD
      go_wp2_with fail
      refine(dz HU6).mono ?_
      rintro e w7 ⟨rfl,hE⟩
      obtain⟨⟨q0,q1,q2,q3⟩,⟨p0,p1,p2,p3⟩,hfin⟩:=dJ (dz HBZ _ _ _ _ _ hE)
      obtain⟨⟨e0,e1,e2,e3⟩,-⟩:=hfin (.int .i64 2) (.slice none 0 0) (.slice ao k cp) (.int .i64 c)
      have HRES:=aq (dz HFIN _ _ _ _ _ hE)
      have HE4:=aq (And.intro e0 (And.intro e1 (And.intro e2 e3)))
      clear hE hfin e0 e1 e2 e3 HFIN HBZ
      go_wp2
      obtain⟨e0,e1,e2,e3⟩:=dz HE4
      unfold cQ at e0 e1 e2 e3
      refine bodyPost_ret (v:=.agg #[.int .i64 2,(.slice none 0 0),(.slice ao k cp),.int .i64 c]) (by simp[results,Tryz.results42,go_sem,e0,e1,e2,e3]) rfl ?_
      exact⟨_,rfl,dz HRES⟩
   ·obtain⟨c13,f13,hsl,hcc0,hcc1,hl3,hlev,hun,hle⟩:=dz HK w3 m3 cls3 wat3 tr3 n3 bad S3 D3 hS3
    rw[hc3]at c13 hcc0 hcc1 hlev hun hle
    have hbq:(bad==-1)=false:=by simpa using hbad
    have hbn:(bad != -1)=true:=by simpa using hbad
    have HLV:=aq hlev
    clear hS3 hlev HCC HK HN
    go_wp2_with fail
    refine(dz HLV).mono ?_
    rintro e w4 ⟨rfl,hw4⟩
    by_cases h0:levels tr3=0
    ·have HU:=aq (hun h0)
     rw[←hw4]at HU
     have h0i:(levels tr3:Int)=0:=by omega
     rw[h0i]
     clear hun hle HLV hw4 h0i
     go_wp2_with fail
     refine(dz HU).mono ?_
     rintro e w5 ⟨rfl,hE⟩
     obtain⟨⟨q0,q1,q2,q3⟩,⟨p0,p1,p2,p3⟩,hfin⟩:=dJ (dz HBZ _ _ _ _ _ hE)
     obtain⟨⟨e0,e1,e2,e3⟩,-⟩:=hfin (.int .i64 2) (.slice none 0 0) (.slice none 0 0) (.int .i64 (c+1))
     have HRES:=aq (dz HFIN _ _ _ _ _ hE)
     have HE4:=aq (And.intro e0 (And.intro e1 (And.intro e2 e3)))
     clear hE hfin e0 e1 e2 e3 HFIN HBZ
     go_wp2
     obtain⟨e0,e1,e2,e3⟩:=dz HE4
     unfold cQ at e0 e1 e2 e3
     refine bodyPost_ret (v:=.agg #[.int .i64 2,(.slice none 0 0),(.slice none 0 0),.int .i64 (c+1)]) (by simp[results,Tryz.results42,go_sem,e0,e1,e2,e3]) rfl ?_
     exact⟨_,rfl,dz HRES⟩
    ·have HLE:=aq (hle h0)
     rw[←hw4]at HLE
     have h0i:((levels tr3:Int)==0)=false:=by rw[beq_eq_false_iff_ne];omega
     clear hun hle HLV hw4
     go_wp2_with fail
     refine(dz HLE).mono ?_
     rintro e w5 ⟨rfl,m5,cls5,wat5,tr5,n5,S5,D5,hR5,hc5⟩
     obtain⟨c135,hunk,hov⟩:=dz HR w5 m5 cls5 wat5 tr5 n5 S5 D5 hR5
     rw[hc5]at c135 hunk hov
     clear hR5 HLE HR c13
     by_cases hbud:c+1=B
     ·have HUN:=aq (hunk hbud)
      clear hunk hov
      have hbe:(c+1==B)=true:=by simpa using hbud
      clear hbud
      have hE:=dz HUN w5 (Below.refl _ _)
      obtain⟨⟨q0,q1,q2,q3⟩,⟨p0,p1,p2,p3⟩,hfin⟩:=dJ (dz HBZ _ _ _ _ _ hE)
      obtain⟨⟨e0,e1,e2,e3⟩,-⟩:=hfin (.int .i64 3) (.slice none 0 0) (.slice none 0 0) (.int .i64 (c+1))
      have HRES:=aq (dz HFIN _ _ _ _ _ hE)
      have HE4:=aq (And.intro e0 (And.intro e1 (And.intro e2 e3)))
      clear hE hfin e0 e1 e2 e3 HFIN HBZ
      go_wp2
      obtain⟨e0,e1,e2,e3⟩:=dz HE4
      unfold cQ at e0 e1 e2 e3
      refine bodyPost_ret (v:=.agg #[.int .i64 3,(.slice none 0 0),(.slice none 0 0),.int .i64 (c+1)]) (by simp[results,Tryz.results42,go_sem,e0,e1,e2,e3]) rfl ?_
      exact⟨_,rfl,dz HRES⟩
     ·have hbq:(c+1==B)=false:=by simpa using hbud
      have HOV:=aq (hov hbud)
      clear hunk hov
      go_wp2_with fail
      refine(dz HOV).mono ?_
      rintro e w6 ⟨bb,rfl,hbf,hbt⟩
      cases bb
      ·obtain⟨l6,hL6⟩:=hbf rfl
       have HL6:=aq hL6
       clear hL6 hbf hbt HOV
       go_wp2
       refine⟨aq ⟨c+1,l6,dz HL6⟩,?_⟩
       have h6:=(dz HMU w6 (c+1) l6 (dz HL6))
       rw[dz HMM,h6.1]
       omega
      ·have HBG:=aq (hbt rfl)
       clear hbf hbt HOV
       go_wp2_with fail
       refine(dz HBG).mono ?_
       rintro e w7 ⟨rfl,l7,hL7⟩
       have HL7:=aq hL7
       clear hL7 HBG
       go_wp2
       refine⟨aq ⟨c+1,l7,dz HL7⟩,?_⟩
       have h7:=(dz HMU w7 (c+1) l7 (dz HL7))
       rw[dz HMM,h7.1]
       omega
 ·have h:=dz H
  have hS2:=hMr2.at
  have hs2:(m.asmSet u A).s=m0.s:=hsm
  have hbr2:(m.asmSet u A).broken≠-1:=hbr
  have HBR:=aq (wX base _ _ hS2 hbr2)
  have hc13:(w1.setCell ⟨m0.s,12,none⟩ u).cell? ⟨m0.s,13,none⟩=some (.int .i64 0):=by
   have:=hS2.cell 13 (by decide)
   rw[hs2]at this
   rw[this,←h.rounds.2.2]
   rfl
  have hf13:(w1.setCell ⟨m0.s,12,none⟩ u).frozen? ⟨m0.s,13,none⟩=false:=by
   have:=hS2.free 13
   rwa [hs2]at this
  have hsl2:m0.s<(w1.setCell ⟨m0.s,12,none⟩ u).heap.size:=by
   have:=hS2.lt.1
   rwa [hs2]at this
  have hmc:=Mut.confSet hS2 1
  rw[hs2]at hmc
  have HLV:=aq (gU base _ _ hmc.at)
  have HUN:=aq (mC base ((m.asmSet u A).confSet 1) none 0 0 _ hmc.at)
  have hst0:((m.asmSet u A).confSet 1).starts.length=0:=by
   have:=h.rep.levels
   have:=h.zero
   show m.starts.length=0
   omega
  have hbb:(m.broken != -1)=true:=by simpa using hbr
  have HEND:Hid (∀wx,Below ((w1.setCell ⟨m0.s,12,none⟩ u).setCell ⟨m0.s,13,none⟩ (.int .i64 1)).heap.size ((w1.setCell ⟨m0.s,12,none⟩ u).setCell ⟨m0.s,13,none⟩ (.int .i64 1)) wx->RunE base (w1.setCell ⟨m0.s,12,none⟩ u) (m.asmSet u A) G A B 2 (.slice none 0 0) (.slice none 0 0) 1 wx):=aq (fun wx hb=>⟨_,[],[],rfl,h.unsat hbr hMr2 hmc hb hB⟩)
  have hbe:((m.asmSet u A).broken)=m.broken:=rfl
  rw[hs2,hbe]at HBR
  have hs3:((m.asmSet u A).confSet 1).s=m0.s:=hs2
  have hcf:((m.asmSet u A).confSet 1).conflicts=1:=rfl
  rw[hs3,hst0]at HLV
  rw[hs3,hcf]at HUN
  clear h hS2 hmc hown1 hb1 hM02 hbx2 hnf2 hMr2 hbx2s HBOX HEO HIN H HGl hbe hbr2 hcf hst0 hs3 hs2 HA
  subst hu
  go_wp2
  generalize w1.setCell ⟨m0.s,12,none⟩ (.slice au A.length cu)=W2 at *
  generalize m.asmSet (.slice au A.length cu) A=M2 at *
  generalize m.broken=BR at *
  go_loopw [7] (fun _ wr=>wr=W2) (fun _ wr=>0)
  case atStart=>rfl
  case round=>
   subst hrel
   go_wp2_with fail
   refine(dz HBR).mono ?_
   rintro e w3 ⟨rfl,rfl⟩
   go_wp2_with fail
   refine(dz HLV).mono ?_
   rintro e w4 ⟨rfl,rfl⟩
   go_wp2_with fail
   refine(dz HUN).mono ?_
   rintro e w5 ⟨rfl,hb5⟩
   have hE:=dz HEND _ hb5
   obtain⟨⟨q0,q1,q2,q3⟩,⟨p0,p1,p2,p3⟩,hfin⟩:=dJ (dz HBZ _ _ _ _ _ hE)
   obtain⟨⟨e0,e1,e2,e3⟩,-⟩:=hfin (.int .i64 2) (.slice none 0 0) (.slice none 0 0) (.int .i64 1)
   have HRES:=aq (dz HFIN _ _ _ _ _ hE)
   have HE4:=aq (And.intro e0 (And.intro e1 (And.intro e2 e3)))
   clear hE hfin e0 e1 e2 e3 HFIN HBZ
   go_wp2
   obtain⟨e0,e1,e2,e3⟩:=dz HE4
   unfold cQ at e0 e1 e2 e3
   refine bodyPost_ret (v:=.agg #[.int .i64 2,(.slice none 0 0),(.slice none 0 0),.int .i64 1]) (by simp[results,Tryz.results42,go_sem,e0,e1,e2,e3]) rfl ?_
   exact⟨_,rfl,dz HRES⟩
end Go.Proofs.YtekkkoipcghlmaaGreatDoor
namespace Go.Proofs.YtekkkoipcghlmaaGreatDoor
open Go.RowKit
def aW(ms:List Nat):Nat:=(ms.map fun m=>(Sp.litsOf m).length).sum
theorem gY(ms:List Nat)(m:Nat):aW (ms++[m])=aW ms+(Sp.litsOf m).length:=by simp[aW]
def dX(pb:List UInt8):List Value:=pb.map (fun b=>Value.int .u8 (b.toNat:Int))
structure XAt(base:Nat)(w:World)(x:Nat)(kv:Value)(ms:List Nat)(pv:Value)(pb:List UInt8):Prop where
 block:w.heap[x]?=some (.cells #[kv,.int .i64 (aW ms:Int),pv] 77 (0,0))
 le:base<=x
 row:w.ownsRow base 69 1 kv ms.length (us ms)
 prow:w.ownsRow base 5 1 pv pb.length (dX pb)
def aR9(F:Nat->Prop)(x:Nat)(kv pv:Value):Prop:=F x/\(∀g,kv.ownBlock=some g->F g)/\∀g,pv.ownBlock=some g->F g
theorem XAt.keep{base:Nat}{w w':World}{x:Nat}{kv pv:Value}{ms:List Nat}{pb:List UInt8}(h:XAt base w x kv ms pv pb){F:Nat->Prop}(hf:aR9 F x kv pv)(hk:∀k,F k->w'.heap[k]?=w.heap[k]?):XAt base w' x kv ms pv pb:=
 ⟨(hk x hf.1).trans h.block,h.le,aH h.row (fun g hg=>hk g (hf.2.1 g hg)),aH h.prow (fun g hg=>hk g (hf.2.2 g hg))⟩
end Go.Proofs.YtekkkoipcghlmaaGreatDoor
namespace Go.Proofs.YtekkkoipcghlmaaGreatDoor
open Go.RowKit
theorem aH5(n:Int)(h1:1<=n)(h2:n<=12):(2:Int) ^ (2*(n-1)).toNat % 4294967296=(Sp.bit n:Int):=by
 have:n=1∨n=2∨n=3∨n=4∨n=5∨n=6∨n=7∨n=8∨n=9∨n=10∨n=11∨n=12:=by omega
 rcases this with rfl|rfl|rfl|rfl|rfl|rfl|rfl|rfl|rfl|rfl|rfl|rfl<;>decide
theorem aA3(n:Int)(h1:-12<=n)(h2:n<=-1):(2:Int)*2 ^ (2*(-n-1)).toNat % 4294967296=(Sp.bit n:Int):=by
 have:n=-1∨n=-2∨n=-3∨n=-4∨n=-5∨n=-6∨n=-7∨n=-8∨n=-9∨n=-10∨n=-11∨n=-12:=by omega
 rcases this with rfl|rfl|rfl|rfl|rfl|rfl|rfl|rfl|rfl|rfl|rfl|rfl<;>decide
theorem zN{a b:Int}(h:a=b):Ending.returned (.tuple #[.int .u32 a,.bool true])=.returned (.tuple #[.int .u32 b,.bool true]):=by rw[h]
set_option maxRecDepth 100000 in
set_option maxHeartbeats 400000 in
theorem aH1(n:Int)(w:World)(h1:-12<=n)(h2:n<=12)(h0:n≠0):
  Calls Tryz.prog 62 #[.int .i64 n] w fun e w'=>e=.returned (.tuple #[.int .u32 (Sp.bit n:Int),.bool true])/\w'=w:=by
 by_cases hp:0<n
 ·have h1':1<=n:=by omega
  have HP:=aq (aH5 n h1' h2)
  go_enter Tryz.func62,Tryz.ntmps62
  go_wp2
  go_ret2
  exact⟨zN (dz HP),rfl⟩
 ·have h1':n<=-1:=by omega
  have HP:=aq (aA3 n h1 h1')
  go_enter Tryz.func62,Tryz.ntmps62
  go_wp2
  go_ret2
  exact⟨zN (dz HP),rfl⟩
set_option maxRecDepth 100000 in
set_option maxHeartbeats 400000 in
theorem aN2(n:Int)(w:World)(h1:n=0∨n < -12∨12<n):
  Calls Tryz.prog 62 #[.int .i64 n] w fun e w'=>e=.returned (.tuple #[.int .u32 0,.bool false])/\w'=w:=by
 rcases h1 with rfl|h|h
 ·go_enter Tryz.func62,Tryz.ntmps62
  go_wp2
  go_ret2
  exact⟨rfl,rfl⟩
 ·go_enter Tryz.func62,Tryz.ntmps62
  go_wp2
  go_ret2
  exact⟨rfl,rfl⟩
 ·go_enter Tryz.func62,Tryz.ntmps62
  go_wp2
  go_ret2
  exact⟨rfl,rfl⟩
end Go.Proofs.YtekkkoipcghlmaaGreatDoor
