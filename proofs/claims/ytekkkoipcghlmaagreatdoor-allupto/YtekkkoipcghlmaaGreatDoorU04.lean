import Derived.Test.YtekkkoipcghlmaaGreatDoorU01
import Derived.Test.YtekkkoipcghlmaaGreatDoorU03
import Derived.Deep.AppendLies
import Derived.Laws.OwnMore
import Derived.Test.YtekkkoipcghlmaaGreatDoorProg
import Derived.Deep.RegionWith
import Derived.WalkSmall
import Derived.Handy
set_option linter.all false
namespace Go.Proofs.YtekkkoipcghlmaaGreatDoor
open Go.RowKit
structure Row where
 ty:TypeId
 sz:Nat
 v:Value
 n:Nat
 xs:List Value
def Row.ok(base:Nat)(w:World)(r:Row):Prop:=w.ownsRow base r.ty r.sz r.v r.n r.xs
structure Pack(base:Nat)(w:World)(L:List Row):Prop where
 rows:∀(i:Nat) r,L[i]?=some r->r.ok base w
 apart:∀(i j:Nat) r r' g,L[i]?=some r->L[j]?=some r'->r.v.ownBlock=some g->r'.v.ownBlock=some g->i=j
def foot(L:List Row)(k:Nat):Prop:=∃(i:Nat) (r:Row),L[i]?=some r/\r.v.ownBlock=some k
structure PMut(base:Nat)(w:World)(L:List Row)(w':World)(L':List Row):Prop where
 pack:Pack base w' L'
 only:Only (foot L) w w'
 grows:∀k,foot L' k->foot L k∨w.heap.size<=k
theorem Only.then{F G:Nat->Prop}{a b c:World}(h:Only F a b)(h':Only G b c)(hG:∀k,G k->F k∨a.heap.size<=k):Only F a c:=
 ⟨h'.os.trans h.os,h'.tape.trans h.tape,h'.output.trans h.output,Nat.le_trans h.size h'.size,fun k hk hn=>(h'.block k (Nat.lt_of_lt_of_le hk h.size) (fun hg=>by
  rcases hG k hg with hf|hf
  ·exact hn hf
  ·omega)).trans (h.block k hk hn)⟩
section
variable {base:Nat}{w w' w1 w2:World}{L L' L1 L2 E:List Row}{r:Row}{i:Nat}
theorem Pack.lt(h:Pack base w L){k:Nat}(hk:foot L k):base<=k/\k<w.heap.size:=by
 obtain⟨i,r,hi,hr⟩:=hk
 exact(h.rows i r hi).lt k hr
theorem Pack.keep(h:Pack base w L)(hk:∀k,foot L k->w'.heap[k]?=w.heap[k]?):Pack base w' L:=
 ⟨fun i r hi=>aH (h.rows i r hi) (fun g hg=>hk g ⟨i,r,hi,hg⟩),h.apart⟩
theorem Pack.below(h:Pack base w L)(hb:Below w.heap.size w w'):Pack base w' L:=h.keep (fun _ hk=>hb.block _ (h.lt hk).2)
theorem PMut.refl(h:Pack base w L):PMut base w L w L:=⟨h,Only.refl _ _,fun _ hk=>.inl hk⟩
theorem PMut.below(h:Pack base w L)(hb:Below w.heap.size w w'):PMut base w L w' L:=⟨h.below hb,Only.of_below _ hb,fun _ hk=>.inl hk⟩
theorem PMut.trans(h:PMut base w L w1 L1)(h':PMut base w1 L1 w2 L2):PMut base w L w2 L2:=
 ⟨h'.pack,h.only.then h'.only h.grows,fun k hk=>by
  rcases h'.grows k hk with h1|h1
  ·exact h.grows k h1
  ·exact .inr (Nat.le_trans h.only.size h1)⟩
theorem PMut.toBelow(h:PMut base w L w' L')(hp:Pack base w L){b:Nat}(hb:b<=base)(hs:b<=w.heap.size):Below b w w':=h.only.below (fun k hk=>by have:=(hp.lt hk).1;omega) hs
theorem dP{k:Nat}:foot (L++E) k↔foot L k∨foot E k:=by
 constructor
 ·rintro⟨i,r,hi,hr⟩
  by_cases h:i<L.length
  ·rw[List.getElem?_append_left h]at hi;exact .inl ⟨i,r,hi,hr⟩
  ·rw[List.getElem?_append_right (by omega)]at hi;exact .inr ⟨_,r,hi,hr⟩
 ·rintro(⟨i,r,hi,hr⟩|⟨i,r,hi,hr⟩)
  ·exact⟨i,r,by rw[List.getElem?_append_left (List.getElem?_eq_some_iff.1 hi).1];exact hi,hr⟩
  ·exact⟨L.length+i,r,by rw[List.getElem?_append_right (by omega),Nat.add_sub_cancel_left];exact hi,hr⟩
theorem Pack.left(h:Pack base w (L++E)):Pack base w L:=
 ⟨fun i r hi=>h.rows i r (by rw[List.getElem?_append_left (List.getElem?_eq_some_iff.1 hi).1];exact hi),fun i j r r' g hi hj hr hr'=>h.apart i j r r' g (by rw[List.getElem?_append_left (List.getElem?_eq_some_iff.1 hi).1];exact hi) (by rw[List.getElem?_append_left (List.getElem?_eq_some_iff.1 hj).1];exact hj) hr hr'⟩
theorem Pack.right(h:Pack base w (L++E)):Pack base w E:=
 ⟨fun i r hi=>h.rows (L.length+i) r (by rw[List.getElem?_append_right (by omega),Nat.add_sub_cancel_left];exact hi),fun i j r r' g hi hj hr hr'=>by
  have:=h.apart (L.length+i) (L.length+j) r r' g (by rw[List.getElem?_append_right (by omega),Nat.add_sub_cancel_left];exact hi) (by rw[List.getElem?_append_right (by omega),Nat.add_sub_cancel_left];exact hj) hr hr'
  omega⟩
theorem Pack.not_both(h:Pack base w (L++E)){k:Nat}(h1:foot L k)(h2:foot E k):False:=by
 obtain⟨i,r,hi,hr⟩:=h1
 obtain⟨j,r',hj,hr'⟩:=h2
 have hlt:=(List.getElem?_eq_some_iff.1 hi).1
 have:=h.apart i (L.length+j) r r' k (by rw[List.getElem?_append_left hlt];exact hi) (by rw[List.getElem?_append_right (by omega),Nat.add_sub_cancel_left];exact hj) hr hr'
 omega
theorem Pack.join(h1:Pack base w L)(h2:Pack base w E)(hn:∀k,foot L k->foot E k->False):Pack base w (L++E):=by
 refine⟨fun i r hi=>?_,fun i j r r' g hi hj hr hr'=>?_⟩
 ·by_cases h:i<L.length
  ·rw[List.getElem?_append_left h]at hi;exact h1.rows i r hi
  ·rw[List.getElem?_append_right (by omega)]at hi;exact h2.rows _ r hi
 ·by_cases h:i<L.length
  ·rw[List.getElem?_append_left h]at hi
   by_cases h':j<L.length
   ·rw[List.getElem?_append_left h']at hj;exact h1.apart i j r r' g hi hj hr hr'
   ·rw[List.getElem?_append_right (by omega)]at hj;exact(hn g ⟨i,r,hi,hr⟩ ⟨_,r',hj,hr'⟩).elim
  ·rw[List.getElem?_append_right (by omega)]at hi
   by_cases h':j<L.length
   ·rw[List.getElem?_append_left h']at hj;exact(hn g ⟨j,r',hj,hr'⟩ ⟨_,r,hi,hr⟩).elim
   ·rw[List.getElem?_append_right (by omega)]at hj
    have:=h2.apart _ _ r r' g hi hj hr hr'
    omega
theorem PMut.frame(h:PMut base w L w' L')(hp:Pack base w (L++E)):PMut base w (L++E) w' (L'++E):=by
 have hE:Pack base w' E:=hp.right.keep (fun k hk=>h.only.block k (hp.right.lt hk).2 (fun hf=>hp.not_both hf hk))
 refine⟨h.pack.join hE (fun k h1 h2=>?_),h.only.weaken (fun k _ hf=>dP.2 (.inl hf)),fun k hk=>?_⟩
 ·rcases h.grows k h1 with h3|h3
  ·exact hp.not_both h3 h2
  ·have:=(hp.right.lt h2).2;omega
 ·rcases dP.1 hk with h1|h1
  ·rcases h.grows k h1 with h3|h3
   ·exact .inl (dP.2 (.inl h3))
   ·exact .inr h3
  ·exact .inl (dP.2 (.inr h1))
theorem PMut.lies(h:PMut base w L w' L'){v:Value}{vs:List Value}(hl:Lies w v vs)(hn:∀k,v.ownBlock=some k->¬foot L k):Lies w' v vs:=by
 rcases hl with hl|⟨b,off,cap,hp,hv,hlt,hc⟩
 ·exact .inl hl
 ·refine .inr ⟨b,off,cap,hp,hv,Nat.lt_of_lt_of_le hlt h.only.size,fun k x hx=>?_⟩
  rw[←hc k x hx]
  exact World.cell?_of_block (h.only.block b hlt (hn b (by rw[hv];rfl)))
theorem eE{α:Type}{l:List α}{i j:Nat}{x y:α}(h:(l.set i x)[j]?=some y):(j=i/\i<l.length/\y=x)∨(j≠i/\l[j]?=some y):=by
 by_cases e:j=i
 ·subst e
  have hlt:=(List.getElem?_eq_some_iff.1 h).1
  rw[List.length_set]at hlt
  rw[List.getElem?_set_self hlt]at h
  cases h
  exact .inl ⟨rfl,hlt,rfl⟩
 ·rw[List.getElem?_set_ne (fun h=>e h.symm)]at h;exact .inr ⟨e,h⟩
theorem PMut.row(hp:Pack base w L)(hi:L[i]?=some r){r':Row}(hr:r'.ok base w')(hg:w.grownBy w' r.v.ownBlock)(hloc:r'.v.ownBlock=none∨r'.v.ownBlock=r.v.ownBlock∨∃g,r'.v.ownBlock=some g/\w.heap.size<=g):PMut base w L w' (L.set i r'):=by
 have hlt:=(List.getElem?_eq_some_iff.1 hi).1
 have loc:∀g,r'.v.ownBlock=some g->r.v.ownBlock=some g∨w.heap.size<=g:=by
  intro g hg
  rcases hloc with h|h|⟨g',h,h'⟩
  ·rw[h]at hg;cases hg
  ·exact .inl (by rw[←h];exact hg)
  ·rw[h]at hg;cases hg;exact .inr h'
 have other:∀(j:Nat) q g,j≠i->L[j]?=some q->q.v.ownBlock=some g->r'.v.ownBlock=some g->False:=by
  intro j q g hj hq hqg hrg
  rcases loc g hrg with h|h
  ·exact hj (hp.apart j i q r g hq hi hqg h)
  ·have:=(hp.lt ⟨j,q,hq,hqg⟩).2;omega
 refine⟨⟨fun j q hj=>?_,fun j k q q' g hj hk hq hq'=>?_⟩,?_,?_⟩
 ·rcases eE hj with⟨rfl,_,rfl⟩|⟨hne,hj⟩
  ·exact hr
  ·refine(hp.rows j q hj).kept hg ?_
   cases hq:q.v.ownBlock with
   | none=>exact .inl rfl
   | some g=>exact .inr (fun e=>hne (hp.apart j i q r g hj hi hq e.symm))
 ·rcases eE hj with⟨e1,_,e2⟩|⟨hne,hj1⟩<;>rcases eE hk with⟨e3,_,e4⟩|⟨hne',hk1⟩
  ·rw[e1,e3]
  ·exact(other k q' g hne' hk1 hq' (by rw[←e2];exact hq)).elim
  ·exact(other j q g hne hj1 hq (by rw[←e4];exact hq')).elim
  ·exact hp.apart j k q q' g hj1 hk1 hq hq'
 ·exact Only.grown hg (fun k hk=>⟨i,r,hi,hk⟩)
 ·rintro k ⟨j,q,hj,hq⟩
  rcases eE hj with⟨rfl,_,rfl⟩|⟨_,hj⟩
  ·rcases loc k hq with h|h
   ·exact .inl ⟨_,r,hi,h⟩
   ·exact .inr h
  ·exact .inl ⟨j,q,hj,hq⟩
theorem PMut.store(hp:Pack base w L)(hi:L[i]?=some r){g cap:Nat}(hv:r.v=.slice (some ⟨g,0,none⟩) r.n cap)(j:Nat)(u:Value):PMut base w L (w.setCell ⟨g,j,none⟩ u) (L.set i ⟨r.ty,r.sz,r.v,r.n,r.xs.set j u⟩):=by
 have h:=hp.rows i r hi
 unfold Row.ok at h
 rw[hv]at h
 have h2:=h.stored j u
 refine PMut.row hp hi (r':=⟨r.ty,r.sz,r.v,r.n,r.xs.set j u⟩) ?_ ?_ (.inr (.inl rfl))
 ·unfold Row.ok;rw[hv];exact h2.1
 ·rw[hv];exact h2.2
theorem vH{e:TypeId}{s g n cap m:Nat}{xs:List Value}(h:w.ownsRow base e s (.slice (some ⟨g,0,none⟩) n cap) n xs)(hm:m<=n):w.ownsRow base e s (.slice (some ⟨g,0,none⟩) m cap) m (xs.take (m*s)):=by
 obtain⟨h1,h2⟩:=h
 refine⟨by rw[List.length_take,h1];exact Nat.min_eq_left (Nat.mul_le_mul_right _ hm),?_⟩
 rcases h2 with⟨h0,_⟩|⟨g',cap',cur,hv,hg,hh,hn,hcap,hsz,htake⟩
 ·cases h0
 ·cases hv
  refine .inr ⟨g,cap,cur,rfl,hg,hh,by omega,hcap,hsz,?_⟩
  rw[←htake,List.take_take,Nat.min_eq_left (Nat.mul_le_mul_right _ hm)]
theorem kK(w:World)(row:Option Nat):w.grownBy w row:=⟨rfl,rfl,rfl,Nat.le_refl _,fun _ _ _=>rfl⟩
theorem PMut.cut(hp:Pack base w L)(hi:L[i]?=some r){g cap m:Nat}(hv:r.v=.slice (some ⟨g,0,none⟩) r.n cap)(hm:m<=r.n):PMut base w L w (L.set i ⟨r.ty,r.sz,.slice (some ⟨g,0,none⟩) m cap,m,r.xs.take (m*r.sz)⟩):=by
 have h:=hp.rows i r hi
 unfold Row.ok at h
 rw[hv]at h
 exact PMut.row hp hi (r':=⟨r.ty,r.sz,.slice (some ⟨g,0,none⟩) m cap,m,r.xs.take (m*r.sz)⟩) (vH h hm) (kK _ _) (.inr (.inl (by rw[hv];rfl)))
theorem Pack.add(hp:Pack base w L)(hr:r.ok base w')(hb:Below w.heap.size w w')(hn:∀g,r.v.ownBlock=some g->w.heap.size<=g):Pack base w' (L++[r]):=by
 refine(hp.below hb).join ⟨fun i q hi=>?_,fun i j q q' g hi hj _ _=>?_⟩ (fun k h1 h2=>?_)
 ·have hl:=(List.getElem?_eq_some_iff.1 hi).1
  simp at hl
  subst hl
  simp at hi
  rw[←hi];exact hr
 ·have h1:=(List.getElem?_eq_some_iff.1 hi).1
  have h2:=(List.getElem?_eq_some_iff.1 hj).1
  simp at h1 h2
  omega
 ·obtain⟨i,q,hi,hq⟩:=h2
  have hl:=(List.getElem?_eq_some_iff.1 hi).1
  simp at hl
  subst hl
  simp at hi
  subst hi
  have:=hn k hq
  have:=(hp.lt h1).2
  omega
theorem cX{s:Nat}{cs:Array Value}{t:TypeId}(h:w.heap[s]?=some (.cells cs t (0,0)))(hb:base<=s):w.ownsRow base t cs.size (.slice (some ⟨s,0,none⟩) 1 1) 1 cs.toList:=
 ⟨by simp,.inr ⟨s,1,cs,rfl,hb,h,Nat.le_refl _,by unfold maxLen;omega,by simp,by rw[Nat.one_mul];exact List.take_of_length_le (by simp)⟩⟩
end
end Go.Proofs.YtekkkoipcghlmaaGreatDoor
namespace Go.Proofs.YtekkkoipcghlmaaGreatDoor
open Go.RowKit
structure Mem where
 s:Nat
 q:Nat
 qb:Nat
 cl:Value
 wl:Value
 fa:Value
 od:Value
 odr:Value
 st:Value
 al:Value
 co:Value
 pl:Value
 asm:Value
 sp:Value
 ws:List Value
 store:List Int
 facts:List Int
 order:List Int
 ordr:List Int
 starts:List Int
 all:List Int
 counts:List Int
 places:List Int
 assumed:List Int
 lists:List (List Int)
 steps:List Value
 nsteps:Nat
 passed:Int
 rlen:Int
 rmet:Int
 given:Int
 broken:Int
 conflicts:Int
 qc:Int
def aI(t:TypeId)(b:Nat)(xs:List Value):Row:=⟨t,xs.length,.slice (some ⟨b,0,none⟩) 1 1,1,xs⟩
def Mem.sCells(m:Mem):List Value:=[m.cl,.int .i64 12,m.wl,m.fa,m.od,m.st,.int .i64 m.passed,.pointer (some ⟨m.q,0,none⟩),.int .i64 m.rlen,.int .i64 m.rmet,.int .i64 m.given,.int .i64 m.broken,m.asm,.int .i64 m.conflicts,m.sp]
def Mem.qCells(m:Mem):List Value:=[.func (.func 107) #[] #[.pointer (some ⟨m.qb,0,none⟩)],.func (.func 108) #[] #[.pointer (some ⟨m.qb,0,none⟩)],m.al,m.co,m.pl,.int .i64 m.qc]
def aB(v:Value)(l:List Int):Row:=⟨3,1,v,l.length,ints l⟩
def bW(x:Value×List Int):Row:=⟨117,1,x.1,x.2.length,ints x.2⟩
def Mem.rows(m:Mem):List Row:=
 aI 120 m.s m.sCells::aI 161 m.q m.qCells::aI 112 m.qb [.pointer (some ⟨m.q,0,none⟩)]::aB m.cl m.store::⟨227,1,m.wl,m.ws.length,m.ws⟩::⟨170,3,m.fa,13,ints m.facts⟩::
 aB m.odr m.ordr::aB m.st m.starts::aB m.al m.all::aB m.co m.counts::aB m.pl m.places::aB m.asm m.assumed::⟨131,2,m.sp,m.nsteps,m.steps⟩::(m.ws.zip m.lists).map bW
structure SAt(base:Nat)(w:World)(m:Mem):Prop where
 pack:Pack base w m.rows
 ws:m.ws.length=25
 ls:m.lists.length=25
 counts:m.counts.length=13
 places:m.places.length=13
section
variable {base:Nat}{w:World}{m:Mem}
theorem SAt.cell(h:SAt base w m)(j:Nat)(hj:j<15):w.cell? ⟨m.s,j,none⟩=m.sCells[j]?:=by
 have:=h.pack.rows 0 _ rfl
 exact World.ownsRow.cellAt this j (by simpa [aI,Mem.sCells] using hj)
theorem SAt.free(h:SAt base w m)(j:Nat):w.frozen? ⟨m.s,j,none⟩=false:=World.ownsRow.frozenAt (h.pack.rows 0 _ rfl) j
theorem SAt.qcell(h:SAt base w m)(j:Nat)(hj:j<6):w.cell? ⟨m.q,j,none⟩=m.qCells[j]?:=by
 have:=h.pack.rows 1 _ rfl
 exact World.ownsRow.cellAt this j (by simpa [aI,Mem.qCells] using hj)
theorem SAt.qfree(h:SAt base w m)(j:Nat):w.frozen? ⟨m.q,j,none⟩=false:=World.ownsRow.frozenAt (h.pack.rows 1 _ rfl) j
theorem SAt.bcell(h:SAt base w m):w.cell? ⟨m.qb,0,none⟩=some (.pointer (some ⟨m.q,0,none⟩)):=World.ownsRow.cellAt (h.pack.rows 2 _ rfl) 0 (by simp[aI])
theorem SAt.below{w':World}(h:SAt base w m)(hb:Below w.heap.size w w'):SAt base w' m:=⟨h.pack.below hb,h.ws,h.ls,h.counts,h.places⟩
end
structure Mut(base:Nat)(w:World)(m:Mem)(w':World)(m':Mem):Prop where
 to:PMut base w m.rows w' m'.rows
 ws:m'.ws.length=25
 ls:m'.lists.length=25
 counts:m'.counts.length=13
 places:m'.places.length=13
 s:m'.s=m.s
 q:m'.q=m.q
 qb:m'.qb=m.qb
section
variable {base:Nat}{w w' w1 w2:World}{m m' m1 m2:Mem}
theorem Mut.at(h:Mut base w m w' m'):SAt base w' m':=⟨h.to.pack,h.ws,h.ls,h.counts,h.places⟩
theorem Mut.refl(h:SAt base w m):Mut base w m w m:=⟨PMut.refl h.pack,h.ws,h.ls,h.counts,h.places,rfl,rfl,rfl⟩
theorem Mut.below(h:SAt base w m)(hb:Below w.heap.size w w'):Mut base w m w' m:=⟨PMut.below h.pack hb,h.ws,h.ls,h.counts,h.places,rfl,rfl,rfl⟩
theorem Mut.trans(h:Mut base w m w1 m1)(h':Mut base w1 m1 w2 m2):Mut base w m w2 m2:=⟨h.to.trans h'.to,h'.ws,h'.ls,h'.counts,h'.places,h'.s.trans h.s,h'.q.trans h.q,h'.qb.trans h.qb⟩
end
end Go.Proofs.YtekkkoipcghlmaaGreatDoor
namespace Go.Proofs.YtekkkoipcghlmaaGreatDoor
open Go.RowKit
set_option maxRecDepth 100000 in
theorem aT(x:Int)(w:World)(h0:-12<=x)(h1:x<=12):
  Calls Tryz.prog 129 #[.int .i64 x] w fun e w'=>e=.returned (.int .i64 (x.natAbs:Int))/\w'=w:=by
 have hn:((x.natAbs:Nat):Int)=max x (-x):=by omega
 rw[hn]
 go_enter Tryz.func129,Tryz.ntmps129
 go_wp2
 go_ret
 exact⟨rfl,rfl⟩
def Mem.truth(m:Mem)(v:Nat):Int:=(m.facts[v*3]?).getD 0
def Mem.level(m:Mem)(v:Nat):Int:=(m.facts[v*3+1]?).getD 0
def Mem.reason(m:Mem)(v:Nat):Int:=(m.facts[v*3+2]?).getD 0
theorem SAt.facts{base:Nat}{w:World}{m:Mem}(h:SAt base w m):∃b cap,m.fa=.slice (some ⟨b,0,none⟩) 13 cap/\b<w.heap.size/\m.facts.length=39/\∀v,v<13->w.cell? ⟨b,v*3,none⟩=some (.int .i64 (m.truth v))/\w.cell? ⟨b,v*3+1,none⟩=some (.int .i64 (m.level v))/\w.cell? ⟨b,v*3+2,none⟩=some (.int .i64 (m.reason v)):=by
 have hr:=h.pack.rows 5 _ rfl
 unfold Row.ok at hr
 obtain⟨b,cap,hv,hb,hlt⟩:=World.ownsRow.form hr (show 0<13 by decide)
 have hv':m.fa=.slice (some ⟨b,0,none⟩) 13 cap:=hv
 have hlen:m.facts.length=39:=by have:=hr.1;simpa [ints] using this
 have get:∀j,j<39->w.cell? ⟨b,j,none⟩=some (.int .i64 ((m.facts[j]?).getD 0)):=by
  intro j hj
  have hr':w.ownsRow base 170 3 (.slice (some ⟨b,0,none⟩) 13 cap) 13 (ints m.facts):=by rw[←hv'];exact hr
  rw[hr'.cellAt j (by omega)]
  simp[ints,hlen,hj]
 exact⟨b,cap,hv',hlt,hlen,fun v hv=>⟨get _ (by omega),get _ (by omega),get _ (by omega)⟩⟩
set_option maxRecDepth 100000 in
theorem dN(base:Nat)(m:Mem)(x:Int)(w:World)(hS:SAt base w m)(h0:-12<=x)(h1:x<=12):
  Calls Tryz.prog 128 #[.pointer (some ⟨m.s,3,none⟩),.int .i64 x] w fun e w'=>e=.returned (.agg #[.int .i64 (m.truth x.natAbs),.int .i64 (m.level x.natAbs),.int .i64 (m.reason x.natAbs)])/\Below w.heap.size w w':=by
 have HV:=aq (fun wx=>aT x wx h0 h1)
 obtain⟨b,cap,hfa,hlt,-,hc⟩:=hS.facts
 have hc3:w.cell? ⟨m.s,3,none⟩=some (.slice (some ⟨b,0,none⟩) 13 cap):=by rw[hS.cell 3 (by decide),←hfa];rfl
 have hx:x.natAbs<13:=by omega
 have hsl:m.s<w.heap.size:=World.block_lt_of_cell? w ⟨m.s,3,none⟩ hc3
 obtain⟨c0,c1,c2⟩:=hc x.natAbs hx
 clear hc hS hfa
 generalize x.natAbs=v at *
 generalize m.truth v=t at *
 generalize m.level v=l at *
 generalize m.reason v=r at *
 go_enter Tryz.func128,Tryz.ntmps128
 go_wp2_with fail
 go_region_with (go_at_call 129;refine(dz HV _).mono ?_;rintro e w3 ⟨rfl,rfl⟩)
 all_goals go_wp2
 all_goals go_returns
 all_goals exact⟨rfl,aG ((Below.refl _ _).alloc (Nat.le_refl _) _) 1⟩
theorem Tryz.field0(t l r:Int)(w:World):(Instr.field 170 (.agg #[.int .i64 t,.int .i64 l,.int .i64 r]) 0).run Tryz.prog w=.ok (.int .i64 t) w:=by kernel_rfl
theorem Tryz.field1(t l r:Int)(w:World):(Instr.field 170 (.agg #[.int .i64 t,.int .i64 l,.int .i64 r]) 1).run Tryz.prog w=.ok (.int .i64 l) w:=by kernel_rfl
theorem Tryz.field2(t l r:Int)(w:World):(Instr.field 170 (.agg #[.int .i64 t,.int .i64 l,.int .i64 r]) 2).run Tryz.prog w=.ok (.int .i64 r) w:=by kernel_rfl
section
set_option maxRecDepth 100000 in
theorem kO(base:Nat)(m:Mem)(x:Int)(w:World)(hS:SAt base w m)(h0:-12<=x)(h1:x<=12):Calls Tryz.prog 126 #[.pointer (some ⟨m.s,3,none⟩),.int .i64 x] w fun e w'=>e=.returned (.bool (m.truth x.natAbs==x))/\Below w.heap.size w w':=by
 have HF:=aq (dN base m x w hS h0 h1)
 generalize m.truth x.natAbs=t at *
 generalize m.level x.natAbs=l at *
 generalize m.reason x.natAbs=r at *
 have f0:=Tryz.field0
 clear hS
 go_enter Tryz.func126,Tryz.ntmps126
 go_wp2_with fail
 refine(dz HF).mono ?_
 rintro e w3 ⟨rfl,hb⟩
 go_wp2
 go_ret
 exact⟨rfl,hb⟩
set_option maxRecDepth 100000 in
theorem fX(base:Nat)(m:Mem)(x:Int)(w:World)(hS:SAt base w m)(h0:-12<=x)(h1:x<=12):Calls Tryz.prog 80 #[.pointer (some ⟨m.s,3,none⟩),.int .i64 x] w fun e w'=>e=.returned (.bool (m.truth x.natAbs==-x))/\Below w.heap.size w w':=by
 have HF:=aq (dN base m x w hS h0 h1)
 generalize m.truth x.natAbs=t at *
 generalize m.level x.natAbs=l at *
 generalize m.reason x.natAbs=r at *
 have f0:=Tryz.field0
 clear hS
 go_enter Tryz.func80,Tryz.ntmps80
 go_wp2_with fail
 refine(dz HF).mono ?_
 rintro e w3 ⟨rfl,hb⟩
 go_wp2
 go_ret
 exact⟨rfl,hb⟩
set_option maxRecDepth 100000 in
theorem oE(base:Nat)(m:Mem)(x:Int)(w:World)(hS:SAt base w m)(h0:-12<=x)(h1:x<=12):Calls Tryz.prog 113 #[.pointer (some ⟨m.s,3,none⟩),.int .i64 x] w fun e w'=>e=.returned (.bool (m.truth x.natAbs==0))/\Below w.heap.size w w':=by
 have HF:=aq (dN base m x w hS h0 h1)
 generalize m.truth x.natAbs=t at *
 generalize m.level x.natAbs=l at *
 generalize m.reason x.natAbs=r at *
 have f0:=Tryz.field0
 clear hS
 go_enter Tryz.func113,Tryz.ntmps113
 go_wp2_with fail
 refine(dz HF).mono ?_
 rintro e w3 ⟨rfl,hb⟩
 go_wp2
 go_ret
 exact⟨rfl,hb⟩
end
set_option maxRecDepth 100000 in
theorem gU(base:Nat)(m:Mem)(w:World)(hS:SAt base w m):Calls Tryz.prog 73 #[.pointer (some ⟨m.s,3,none⟩)] w fun e w'=>e=.returned (.int .i64 (m.starts.length:Int))/\w'=w:=by
 have hc:w.cell? ⟨m.s,5,none⟩=some m.st:=by rw[hS.cell 5 (by decide)];rfl
 obtain⟨ao,cp,hsh⟩:=aC (hS.pack.rows 7 _ rfl)
 have hsh':m.st=.slice ao m.starts.length cp:=hsh
 rw[hsh']at hc
 clear hS hsh hsh'
 go_enter Tryz.func73,Tryz.ntmps73
 go_wp2
 go_ret
 exact⟨rfl,rfl⟩
end Go.Proofs.YtekkkoipcghlmaaGreatDoor
namespace Go.Proofs.YtekkkoipcghlmaaGreatDoor
open Go.RowKit
theorem bY{P:Program}{ops:Array Oper}{rest:List Oper}{o:Oper}{a:Act}{Q:Exit->Act->World->Prop}{w1:World}{base n bytes:Nat}{v val z:Value}{xs:List Value}{tt:TypeId}
  (hgd:o.guard=none) (s x:Operand) (t e:TypeId) (ho:o.op=.call { callee:=.builtin .append,args:=#[s,x],argTypes:=#[t,t] })
  (ht:P.underlying t=some (.slice e)) (hinfo:(P.info? e).map (fun i=>(i.zero,i.size,i.bytes))=some (some z,1,bytes)) (hzs:z.cells.size=1) (hby:bytes<=24)
  (hown:w1.ownsRow base e 1 v n xs) (hs:a.eval s=v) (hx:a.eval x=.slice (some ⟨w1.heap.size,0,none⟩) 1 1) (h1:val.oneCell'=true) (hn:n<=20000000) (hbase:base<=w1.heap.size)
  (h:∀(g cap:Nat) (w':World),w'.ownsRow base e 1 (.slice (some ⟨g,0,none⟩) (n+1) cap) (n+1) (xs++[val])->(w1.alloc (.cells #[val] tt)).grownBy w' v.ownBlock->(v.ownBlock=some g∨g=(w1.alloc (.cells #[val] tt)).heap.size)->wpList P ops Q rest (a.put o.dst (.slice (some ⟨g,0,none⟩) (n+1) cap)) w'):
  wpList P ops Q (o::rest) a (w1.alloc (.cells #[val] tt)):=by
 obtain⟨i0,hi0,hz0,hz1,hz2⟩:=info_parts hinfo
 have hnb:(n+1)*bytes<=140737488355328:=Nat.le_trans (Nat.mul_le_mul (Nat.add_le_add_right hn 1) hby) (by omega)
 refine wpList_append_lies (P:=P) _ hgd s x t ho base e i0 _ 1 bytes ht hi0 hz0 hz1 hz2 hzs (by decide) v n xs hs (hown.alloc _) ⟨w1.heap.size,0,none⟩ 1 1 [val] hx rfl (cell_one_new _ _ _) ?_ (by decide) (by unfold maxLen;omega) hnb (by simp;omega) _ rfl ?_
 ·intro u hu;simp at hu;subst hu;exact h1
 ·intro g cap w' h1 h2 h3 _
  exact h g cap w' h1 h2 h3
theorem aB3{P:Program}{ops:Array Oper}{o:Oper}{a:Act}{K:Act->World->Prop}{Q:Exit->Act->World->Prop}{E:Prop}{wz:World}{base n bytes B:Nat}{v val z:Value}{xs:List Value}{tt:TypeId}
  (hgd:o.guard=none) (s x:Operand) (t e:TypeId) (ho:o.op=.call { callee:=.builtin .append,args:=#[s,x],argTypes:=#[t,t] })
  (ht:P.underlying t=some (.slice e)) (hinfo:(P.info? e).map (fun i=>(i.zero,i.size,i.bytes))=some (some z,1,bytes)) (hzs:z.cells.size=1) (hby:bytes<=24)
  (hown:wz.ownsRow base e 1 v n xs) (hs:a.eval s=v) (hx:a.eval x=.slice (some ⟨B,0,none⟩) 1 1) (hB:wz.heap[B]?=some (.cells #[val] tt (0,0))) (h1:val.oneCell'=true) (hn:n<=20000000) (hbase:base<=wz.heap.size)
  (h:∀(g cap:Nat) (w':World),w'.ownsRow base e 1 (.slice (some ⟨g,0,none⟩) (n+1) cap) (n+1) (xs++[val])->wz.grownBy w' v.ownBlock->(v.ownBlock=some g∨g=wz.heap.size)->K (a.put o.dst (.slice (some ⟨g,0,none⟩) (n+1) cap)) w'):
  if Region.wanted o (yielded ops a.tmps)=true then Oper.wp P o a wz K Q else E:=by
 obtain⟨i0,hi0,hz0,hz1,hz2⟩:=info_parts hinfo
 have hnb:(n+1)*bytes<=140737488355328:=Nat.le_trans (Nat.mul_le_mul (Nat.add_le_add_right hn 1) hby) (by omega)
 refine step_append_lies (P:=P) wz hgd s x t ho base e i0 _ 1 bytes ht hi0 hz0 hz1 hz2 hzs (by decide) v n xs hs hown ⟨B,0,none⟩ 1 1 [val] hx rfl (World.news_of_block hB) ?_ (by decide) (by unfold maxLen;omega) hnb hbase _ rfl ?_
 ·intro u hu;simp at hu;subst hu;exact h1
 ·intro g cap w' h1 h2 h3 _
  exact h g cap w' h1 h2 h3
theorem xW{P:Program}{ops:Array Oper}{rest:List Oper}{o:Oper}{a:Act}{Q:Exit->Act->World->Prop}{w1:World}{base n bytes:Nat}{v val val2 z:Value}{xs:List Value}{tt:TypeId}
  (hgd:o.guard=none) (s x:Operand) (t e:TypeId) (ho:o.op=.call { callee:=.builtin .append,args:=#[s,x],argTypes:=#[t,t] })
  (ht:P.underlying t=some (.slice e)) (hinfo:(P.info? e).map (fun i=>(i.zero,i.size,i.bytes))=some (some z,1,bytes)) (hzs:z.cells.size=1) (hby:bytes<=24)
  (hown:w1.ownsRow base e 1 v n xs) (hs:a.eval s=v) (hx:a.eval x=.slice (some ⟨w1.heap.size,0,none⟩) 2 2) (h1:val.oneCell'=true) (h2:val2.oneCell'=true) (hn:n<=10000000) (hbase:base<=w1.heap.size)
  (h:∀(g cap:Nat) (w':World),w'.ownsRow base e 1 (.slice (some ⟨g,0,none⟩) (n+2) cap) (n+2) (xs++[val,val2])->(w1.alloc (.cells #[val,val2] tt)).grownBy w' v.ownBlock->(v.ownBlock=some g∨g=(w1.alloc (.cells #[val,val2] tt)).heap.size)->wpList P ops Q rest (a.put o.dst (.slice (some ⟨g,0,none⟩) (n+2) cap)) w'):
  wpList P ops Q (o::rest) a (w1.alloc (.cells #[val,val2] tt)):=by
 obtain⟨i0,hi0,hz0,hz1,hz2⟩:=info_parts hinfo
 have hnb:(n+2)*bytes<=140737488355328:=Nat.le_trans (Nat.mul_le_mul (Nat.add_le_add_right hn 2) hby) (by omega)
 refine wpList_append_lies (P:=P) _ hgd s x t ho base e i0 _ 1 bytes ht hi0 hz0 hz1 hz2 hzs (by decide) v n xs hs (hown.alloc _) ⟨w1.heap.size,0,none⟩ 2 2 [val,val2] hx rfl (World.news_of_block (heap_alloc_new w1 _)) ?_ (by decide) (by unfold maxLen;omega) hnb (by simp;omega) _ rfl ?_
 ·intro u hu
  simp at hu
  rcases hu with rfl|rfl
  ·exact h1
  ·exact h2
 ·intro g cap w' h1 h2 h3 _
  exact h g cap w' h1 h2 h3
section
variable {P:Program}
theorem lH(t t' ty e e':TypeId)(i:TypeInfo)(ht:P.underlying t=some (.slice e))(ht':P.underlying t'=some (.slice e'))(hi:P.info? e=some i)(bo:Option Addr)(n c:Nat)(b:Value)(w:World):(Builtin.append_ #[t,t'] ty #[.slice bo n c,b]).run P w=(Builtin.append_ #[t,t] ty #[.slice bo n c,b]).run P w:=by
 simp[Builtin.append_,run_underlying ht,run_underlying ht',sizeOf,typeInfo,hi]
theorem uP(t ty e:TypeId)(w:World){z:Value}{bytes:Nat}(ht:P.underlying t=some (.slice e))(hinfo:(P.info? e).map (fun i=>(i.zero,i.size,i.bytes))=some (some z,1,bytes)){base n:Nat}{v:Value}{xs:List Value}(hown:w.ownsRow base e 1 v n xs)(ao:Option Addr)(cap:Nat):
  (Builtin.append_ #[t,t] ty #[v,.slice ao 0 cap]).run P w=.ok v w:=by
 obtain⟨i,hi,hz0,hz1,hz2⟩:=info_parts hinfo
 rcases hown.2 with⟨rfl,rfl⟩|⟨g,c,cur,rfl,_,hg,hle,_⟩
 ·cases ao<;>simp[Builtin.append_,run_underlying ht,sizeOf,typeInfo,hi,Builtin.lenOf,Builtin.firstCells,loadCells,loadCellsFrom]
 ·cases ao<;>simp[Builtin.append_,run_underlying ht,sizeOf,typeInfo,hi,Builtin.lenOf,Builtin.firstCells,loadCells,loadCellsFrom,hle,storeCells]
theorem nC{ops:Array Oper}{rest:List Oper}{o:Oper}{a:Act}{Q:Exit->Act->World->Prop}{w1:World}{base n bytes:Nat}{v lv z:Value}{xs vs:List Value}
  (hgd:o.guard=none) (s x:Operand) (t t' e e':TypeId) (ho:o.op=.call { callee:=.builtin .append,args:=#[s,x],argTypes:=#[t,t'] })
  (ht:P.underlying t=some (.slice e)) (ht':P.underlying t'=some (.slice e')) (hinfo:(P.info? e).map (fun i=>(i.zero,i.size,i.bytes))=some (some z,1,bytes)) (hzs:z.cells.size=1) (hby:bytes<=24)
  (hown:w1.ownsRow base e 1 v n xs) (hs:a.eval s=v) (hx:a.eval x=lv) (hl:Lies w1 lv vs) (h1:∀u,u∈vs->u.oneCell'=true) (hn:n+vs.length<=20000000) (hbase:base<=w1.heap.size)
  (h:∀(v':Value) (w':World),w'.ownsRow base e 1 v' (n+vs.length) (xs++vs)->w1.grownBy w' v.ownBlock->(v'.ownBlock=v.ownBlock∨v'.ownBlock=some w1.heap.size)->(0<vs.length->∃g cap,v'=.slice (some ⟨g,0,none⟩) (n+vs.length) cap)->(vs=[]->v'=v)->wpList P ops Q rest (a.put o.dst v') w'):
  wpList P ops Q (o::rest) a w1:=by
 obtain⟨i0,hi0,hz0,hz1,hz2⟩:=info_parts hinfo
 obtain⟨vo,vc,hvs⟩:∃vo vc,v=.slice vo n vc:=by
  rcases hown.2 with⟨h',h0⟩|⟨g,cap,cur,h1,_⟩
  ·subst h0;exact⟨_,_,h'⟩
  ·exact⟨_,_,h1⟩
 subst hvs
 rcases hl with⟨rfl,ao,cap,rfl⟩|⟨b,off,cap,hp,rfl,hb,hc⟩
 ·refine wpList_plain hgd fun K hK=>?_
  have hr:=uP (P:=P) t o.type e w1 ht hinfo hown ao cap
  unfold Oper.wp execOp
  simp only[ho,resolve,invoke,builtin,Sem.run_bind,Sem.run_pure,Result.andThen_ok,List.map_toArray,List.map_cons,List.map_nil,hs,hx,lH t t' o.type e e' i0 ht ht' hi0,hr]
  exact hK _ _ (h _ w1 (by simpa using hown) ⟨rfl,rfl,rfl,Nat.le_refl _,fun _ _ _=>rfl⟩ (.inl rfl) (fun h=>absurd h (by simp)) (fun _=>rfl))
 ·have hnb:(n+vs.length)*bytes<=140737488355328:=Nat.le_trans (Nat.mul_le_mul hn hby) (by omega)
  obtain⟨g,c,w',hr,h2,h3,h4,h5⟩:=run_append_lies (P:=P) w1 t o.type base e i0 _ 1 bytes ht hi0 hz0 hz1 hz2 hzs (by decide) _ n xs hown ⟨b,off,none⟩ vs.length cap vs (by simp) (fun j u hu=>by
   have hadd:(⟨b,off,none⟩:Addr).add j=⟨b,off+j,none⟩:=by unfold Addr.add;split<;>simp_all
   rw[hadd];exact hc j u hu) h1 hp (by unfold maxLen;omega) hnb hbase _ rfl
  refine wpList_plain hgd fun K hK=>?_
  unfold Oper.wp execOp
  simp only[ho,resolve,invoke,builtin,Sem.run_bind,Sem.run_pure,Result.andThen_ok,List.map_toArray,List.map_cons,List.map_nil,hs,hx,lH t t' o.type e e' i0 ht ht' hi0,hr]
  refine hK _ _ (h _ w' h2 h3 ?_ (fun _=>⟨g,c,rfl⟩) (fun e=>by rw[e]at hp;simp at hp))
  rcases h4 with h4|h4
  ·exact .inl h4.symm
  ·exact .inr (by rw[h4];rfl)
end
end Go.Proofs.YtekkkoipcghlmaaGreatDoor
