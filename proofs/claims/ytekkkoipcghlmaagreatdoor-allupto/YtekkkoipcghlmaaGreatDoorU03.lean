import Derived.Test.YtekkkoipcghlmaaGreatDoorU02
import Derived.Test.YtekkkoipcghlmaaGreatDoorU01
set_option linter.all false
namespace Go.Proofs.YtekkkoipcghlmaaGreatDoor
def Watcher(cls:List Cl)(l:Int)(p:Int):Prop:=∃(c:Nat) (cl:Cl),cls[c]?=some cl/\p=(pos cls c:Int)/\eF l cl.lits
def upd(wat:Int->List Int)(l:Int)(v:List Int):Int->List Int:=fun k=>if k=l then v else wat k
def Stays(tr:Tr)(u:Int)(l l':List Int)(o:Int):Prop:=∃r,(l=o::u::r∨l=u::o::r)/\l'=o::u::r/\(Tru tr o∨∀x,x∈r->Tru tr (-x))
def Moves(tr:Tr)(u:Int)(l l':List Int)(y:Int):Prop:=∃o r k,(l=o::u::r∨l=u::o::r)/\r[k]?=some y/\l'=o::y::r.set k u/\¬Tru tr o/\¬Tru tr (-y)
structure Vis(i0:Nat)(u:Int)(cls:List Cl)(wat:Int->List Int)(tr:Tr)(stay todo:List Int)(bad:Int):Prop where
 trok:TrOK cls tr
 wf:∀(c:Nat) cl,cls[c]?=some cl->aM cl.lits
 here:∃r,tr[i0]?=some (-u,r)
 top:lev tr i0=levels tr
 lists:∀l,l≠u->(wat l).Nodup/\∀p,p∈wat l↔Watcher cls l p
 own:(stay++todo).Nodup/\∀p,p∈stay++todo↔Watcher cls u p
 low:∀(c:Nat) cl,cls[c]?=some cl->WOK tr i0 cl.lits
 high:bad=-1->∀(c:Nat) cl,cls[c]?=some cl->(pos cls c:Int)∉todo->WOK tr (i0+1) cl.lits
 falls:bad≠-1->∃(c:Nat) (cl:Cl),cls[c]?=some cl/\bad=(pos cls c:Int)/\∀x,x∈cl.lits->Tru tr (-x)
theorem fZ{cls:List Cl}{c:Nat}{cl cl':Cl}(hc:cls[c]?=some cl)(hl:cl'.lits.length=cl.lits.length)(l q:Int):
  Watcher (cls.set c cl') l q↔(q=(pos cls c:Int)/\eF l cl'.lits)∨(q≠(pos cls c:Int)/\Watcher cls l q):=by
 have hlt:=(List.getElem?_eq_some_iff.1 hc).1
 have hcl:cls[c]=cl:=by rw[List.getElem?_eq_getElem hlt]at hc;simpa using hc
 have hp:∀j,pos (cls.set c cl') j=pos cls j:=fun j=>fM cls c j cl' hlt (by rw[hcl];exact hl)
 constructor
 ·rintro⟨d,dl,h1,h2,h3⟩
  rw[hp]at h2
  by_cases e:d=c
  ·subst e
   rw[List.getElem?_set_self hlt]at h1
   cases h1
   exact .inl ⟨h2,h3⟩
  ·rw[List.getElem?_set_ne (fun h=>e h.symm)]at h1
   have hdlt:=(List.getElem?_eq_some_iff.1 h1).1
   refine .inr ⟨fun e2=>e ?_,d,dl,h1,h2,h3⟩
   rw[h2]at e2
   exact dW cls hdlt hlt (by omega)
 ·rintro(⟨h1,h2⟩|⟨h1,d,dl,g1,g2,g3⟩)
  ·exact⟨c,cl',by rw[List.getElem?_set_self hlt],by rw[hp];exact h1,h2⟩
  ·refine⟨d,dl,?_,by rw[hp];exact g2,g3⟩
   rw[List.getElem?_set_ne (fun e=>h1 (by rw[g2,e]))];exact g1
theorem dD{cls:List Cl}{c:Nat}{cl:Cl}(hc:cls[c]?=some cl){l:Int}:Watcher cls l (pos cls c:Int)↔eF l cl.lits:=by
 have hlt:=(List.getElem?_eq_some_iff.1 hc).1
 constructor
 ·rintro⟨d,dl,h1,h2,h3⟩
  have hdlt:=(List.getElem?_eq_some_iff.1 h1).1
  have:d=c:=dW cls hdlt hlt (by omega)
  subst this
  rw[hc]at h1;cases h1;exact h3
 ·intro h;exact⟨c,cl,hc,rfl,h⟩
theorem bX{l a b:Int}{r:List Int}:eF l (a::b::r)↔l=a∨l=b:=by
 constructor
 ·rintro⟨a',b',r',h,h2⟩;simp at h;rw[h.1,h.2.1];exact h2
 ·intro h;exact⟨a,b,r,rfl,h⟩
theorem fD{cls:List Cl}{c d:Nat}{cl' dl:Cl}(hlt:c<cls.length)(h:(cls.set c cl')[d]?=some dl):(d=c/\dl=cl')∨(d≠c/\cls[d]?=some dl):=by
 by_cases e:d=c
 ·subst e;rw[List.getElem?_set_self hlt]at h;cases h;exact .inl ⟨rfl,rfl⟩
 ·rw[List.getElem?_set_ne (fun h=>e h.symm)]at h;exact .inr ⟨e,h⟩
section
variable {i0:Nat}{u:Int}{cls:List Cl}{wat:Int->List Int}{tr:Tr}{stay todo:List Int}{bad p:Int}{c:Nat}{cl:Cl}{l':List Int}
theorem Vis.untrue(h:Vis i0 u cls wat tr stay todo bad):Tru tr (-u):=by obtain⟨r,hr⟩:=h.here;exact⟨i0,r,hr⟩
theorem Vis.not_true(h:Vis i0 u cls wat tr stay todo bad)(hu:Tru tr u):False:=h.trok.not_both hu h.untrue
theorem Vis.lt(h:Vis i0 u cls wat tr stay todo bad):i0<tr.length:=by obtain⟨r,hr⟩:=h.here;exact(List.getElem?_eq_some_iff.1 hr).1
theorem Vis.same_lists(h:Vis i0 u cls wat tr stay (p::todo) bad)(hc:cls[c]?=some cl)(hp:p=(pos cls c:Int))(hl:l'.length=cl.lits.length)(hw:∀l,eF l l'↔eF l cl.lits):
  (∀l,l≠u->(wat l).Nodup/\∀p,p∈wat l↔Watcher (cls.set c ⟨cl.used,l'⟩) l p)/\((stay++[p]++todo).Nodup/\∀q,q∈stay++[p]++todo↔Watcher (cls.set c ⟨cl.used,l'⟩) u q):=by
 have key:∀l q,Watcher (cls.set c ⟨cl.used,l'⟩) l q↔Watcher cls l q:=by
  intro l q
  rw[fZ hc (cl':=⟨cl.used,l'⟩) hl]
  simp only[hw]
  constructor
  ·rintro(⟨h1,h2⟩|⟨_,h2⟩)
   ·rw[h1];exact(dD hc).2 h2
   ·exact h2
  ·intro h2
   by_cases e:q=(pos cls c:Int)
   ·subst e;exact .inl ⟨rfl,(dD hc).1 h2⟩
   ·exact .inr ⟨e,h2⟩
 refine⟨fun l hlu=>⟨(h.lists l hlu).1,fun q=>by rw[key];exact(h.lists l hlu).2 q⟩,?_,fun q=>?_⟩
 ·rw[List.append_assoc];exact h.own.1
 ·rw[key,List.append_assoc];exact h.own.2 q
theorem oH{o:Int}{r:List Int}(hl:cl.lits=o::u::r∨cl.lits=u::o::r):∀l,eF l (o::u::r)↔eF l cl.lits:=by
 intro l
 rcases hl with hl|hl
 ·rw[hl]
 ·rw[hl,bX,bX,or_comm]
theorem oN{n:Nat}{o:Int}{r:List Int}(hl:cl.lits=o::u::r∨cl.lits=u::o::r)(h:WOK tr n cl.lits):WOK tr n (o::u::r):=by
 rcases hl with hl|hl
 ·rw[←hl];exact h
 ·rw[hl]at h
  rcases h with⟨x,h1,_⟩|⟨a,b,r',h1,h2,h3⟩
  ·simp at h1
  ·simp at h1
   obtain⟨rfl,rfl,rfl⟩:=h1
   exact .inr ⟨_,_,_,rfl,h3,h2⟩
theorem Vis.stay_any(h:Vis i0 u cls wat tr stay (p::todo) bad)(hc:cls[c]?=some cl)(hp:p=(pos cls c:Int)){o:Int}{r:List Int}(hl:cl.lits=o::u::r∨cl.lits=u::o::r)
  {bad':Int} (hhi:bad'=-1->WOK tr (i0+1) (o::u::r)) (hb:bad'=-1->bad=-1) (hfa:bad'≠-1->(bad≠-1/\bad'=bad)∨(bad'=p/\∀x,x∈o::u::r->Tru tr (-x))):
  Vis i0 u (cls.set c ⟨cl.used,o::u::r⟩) wat tr (stay++[p]) todo bad':=by
 have hlt:=(List.getElem?_eq_some_iff.1 hc).1
 have hcl:cls[c]=cl:=by rw[List.getElem?_eq_getElem hlt]at hc;simpa using hc
 have hlen:(o::u::r).length=cl.lits.length:=by rcases hl with hl|hl<;>rw[hl]<;>rfl
 have hpos:∀j,pos (cls.set c ⟨cl.used,o::u::r⟩) j=pos cls j:=fun j=>fM cls c j _ hlt (by rw[hcl];exact hlen)
 have hwfc:=h.wf c cl hc
 have hpm:∀x,x∈o::u::r↔x∈cl.lits:=by
  intro x
  rcases hl with hl|hl<;>rw[hl]
  simp only[List.mem_cons]
  constructor<;>(rintro(h|h|h)<;>simp[h])
 obtain⟨l1,l2⟩:=h.same_lists hc hp hlen (oH hl)
 refine⟨?_,?_,h.here,h.top,l1,l2,?_,?_,?_⟩
 ·refine h.trok.change hc hlen ?_
  rcases hl with hl|hl
  ·exact .inl hl.symm
  ·refine .inr (fun x hx hT=>?_)
   rw[hl]at hx;simp at hx;subst hx
   exact h.not_true hT
 ·intro d dl hd
  rcases fD hlt hd with⟨rfl,rfl⟩|⟨_,hd⟩
  ·refine⟨?_,fun x hx=>hwfc.2 x ((hpm x).1 hx)⟩
   rcases hl with hl|hl
   ·rw[←hl];exact hwfc.1
   ·have:=hwfc.1
    rw[hl]at this
    simp only[List.map_cons,List.nodup_cons,List.mem_cons,not_or]at this⊢
    exact⟨⟨fun e=>this.1.1 e.symm,this.2.1⟩,this.1.2,this.2.2⟩
  ·exact h.wf d dl hd
 ·intro d dl hd
  rcases fD hlt hd with⟨rfl,rfl⟩|⟨_,hd⟩
  ·exact oN hl (h.low _ cl hc)
  ·exact h.low d dl hd
 ·intro hb' d dl hd hnt
  rcases fD hlt hd with⟨rfl,rfl⟩|⟨hne,hd⟩
  ·exact hhi hb'
  ·refine h.high (hb hb') d dl hd (fun hm=>?_)
   rw[hpos]at hnt
   rcases List.mem_cons.1 hm with e|hm
   ·have hdlt:=(List.getElem?_eq_some_iff.1 hd).1
    exact hne (dW cls hdlt hlt (by omega))
   ·exact hnt hm
 ·intro hb'
  rcases hfa hb' with⟨h1,h2⟩|⟨h1,h2⟩
  ·obtain⟨d,dl,g1,g2,g3⟩:=h.falls h1
   by_cases e:d=c
   ·subst e
    rw[hc]at g1;cases g1
    exact⟨d,_,by rw[List.getElem?_set_self hlt],by rw[hpos,h2];exact g2,fun x hx=>g3 x ((hpm x).1 hx)⟩
   ·exact⟨d,dl,by rw[List.getElem?_set_ne (fun h=>e h.symm)];exact g1,by rw[hpos,h2];exact g2,g3⟩
  ·exact⟨c,_,by rw[List.getElem?_set_self hlt],by rw[hpos,h1];exact hp,h2⟩
theorem Vis.stay_bad(h:Vis i0 u cls wat tr stay (p::todo) bad)(hc:cls[c]?=some cl)(hp:p=(pos cls c:Int)){o:Int}(hs:Stays tr u cl.lits l' o)(hb:bad≠-1):Vis i0 u (cls.set c ⟨cl.used,l'⟩) wat tr (stay++[p]) todo bad:=by
 obtain⟨r,hl,rfl,-⟩:=hs
 exact h.stay_any hc hp hl (fun e=>absurd e hb) (fun e=>e) (fun _=>.inl ⟨hb,rfl⟩)
theorem Vis.stay_false(h:Vis i0 u cls wat tr stay (p::todo) (-1))(hc:cls[c]?=some cl)(hp:p=(pos cls c:Int)){o:Int}(hs:Stays tr u cl.lits l' o)(ho:Tru tr (-o)):Vis i0 u (cls.set c ⟨cl.used,l'⟩) wat tr (stay++[p]) todo p:=by
 obtain⟨r,hl,rfl,hr⟩:=hs
 have hp1:p≠-1:=by omega
 refine h.stay_any hc hp hl (fun e=>absurd e hp1) (fun e=>absurd e hp1) (fun _=>.inr ⟨rfl,fun x hx=>?_⟩)
 rcases hr with hr|hr
 ·exact(h.trok.not_both hr ho).elim
 ·rcases List.mem_cons.1 hx with rfl|hx
  ·exact ho
  ·rcases List.mem_cons.1 hx with rfl|hx
   ·exact h.untrue
   ·exact hr x hx
theorem Vis.uniq(h:Vis i0 u cls wat tr stay todo bad){i:Nat}{r:Int}(hi:tr[i]?=some (-u,r)):i=i0:=by
 obtain⟨s,hs⟩:=h.here
 exact h.trok.one hi hs rfl
theorem Vis.watch_true(h:Vis i0 u cls wat tr stay todo bad){o:Int}(ho:Tru tr o):Watch tr (i0+1) u o/\Watch tr (i0+1) o u:=by
 refine⟨fun i r _ hr=>?_,fun i r _ hr=>?_⟩
 ·obtain⟨j,s,hj⟩:=ho
  have:=h.uniq hr
  subst this
  exact⟨j,s,hj,by rw[h.top];exact eX tr j⟩
 ·exact(h.trok.not_both ho ⟨i,r,hr⟩).elim
theorem Vis.stay_true(h:Vis i0 u cls wat tr stay (p::todo) (-1))(hc:cls[c]?=some cl)(hp:p=(pos cls c:Int)){o:Int}(hs:Stays tr u cl.lits l' o)(ho:Tru tr o):Vis i0 u (cls.set c ⟨cl.used,l'⟩) wat tr (stay++[p]) todo (-1):=by
 obtain⟨r,hl,rfl,-⟩:=hs
 obtain⟨w1,w2⟩:=h.watch_true ho
 exact h.stay_any hc hp hl (fun _=>.inr ⟨o,u,r,rfl,w2,w1⟩) (fun e=>e) (fun e=>absurd rfl e)
theorem Vis.stay_take(h:Vis i0 u cls wat tr stay (p::todo) (-1))(hc:cls[c]?=some cl)(hp:p=(pos cls c:Int)){o:Int}(hs:Stays tr u cl.lits l' o)(ho:¬Tru tr o)(ho':¬Tru tr (-o)):Vis i0 u (cls.set c ⟨cl.used,l'⟩) wat (tr++[(o,p)]) (stay++[p]) todo (-1):=by
 obtain⟨r,hl,rfl,hr⟩:=hs
 have hr':∀x,x∈r->Tru tr (-x):=by
  rcases hr with hr|hr
  ·exact absurd hr ho
  ·exact hr
 have hlt:=(List.getElem?_eq_some_iff.1 hc).1
 have hcl:cls[c]=cl:=by rw[List.getElem?_eq_getElem hlt]at hc;simpa using hc
 have hlen:(o::u::r).length=cl.lits.length:=by rcases hl with hl|hl<;>rw[hl]<;>rfl
 have hpos:∀j,pos (cls.set c ⟨cl.used,o::u::r⟩) j=pos cls j:=fun j=>fM cls c j _ hlt (by rw[hcl];exact hlen)
 have hin:o∈cl.lits:=by rcases hl with hl|hl<;>rw[hl]<;>simp
 have hbd:=(h.wf c cl hc).2 o hin
 obtain⟨l1,l2⟩:=h.same_lists hc hp hlen (oH hl)
 have hlev:levels (tr++[(o,p)])=levels tr:=by
  rw[bM]
  have:dec (o,p)=false:=by simp[dec];omega
  simp[levels,this]
 have hi0:=h.lt
 have hset:TrOK (cls.set c ⟨cl.used,o::u::r⟩) tr:=by
  refine h.trok.change hc hlen ?_
  rcases hl with hl|hl
  ·exact .inl hl.symm
  ·refine .inr (fun x hx hT=>?_)
   rw[hl]at hx;simp at hx;subst hx
   exact h.not_true hT
 have htk:TrOK (cls.set c ⟨cl.used,o::u::r⟩) (tr++[(o,p)]):=by
  have:=hset.take (x:=o) (c:=c) (cl:=⟨cl.used,o::u::r⟩) (rest:=u::r) hbd ho ho' (by rw[List.getElem?_set_self hlt]) rfl (fun y hy=>by
   rcases List.mem_cons.1 hy with rfl|hy
   ·exact h.untrue
   ·exact hr' y hy)
  rw[hpos,←hp]at this
  exact this
 have here':∃r,(tr++[(o,p)])[i0]?=some (-u,r):=by
  obtain⟨s,hs⟩:=h.here
  exact⟨s,by rw[List.getElem?_append_left hi0];exact hs⟩
 have hwf':∀(d:Nat) dl,(cls.set c ⟨cl.used,o::u::r⟩)[d]?=some dl->aM dl.lits:=by
  intro d dl hd
  rcases fD hlt hd with⟨rfl,rfl⟩|⟨_,hd⟩
  ·have hwfc:=h.wf _ cl hc
   rcases hl with hl|hl
   ·rw[←hl];exact hwfc
   ·rw[hl]at hwfc
    refine⟨?_,fun x hx=>hwfc.2 x (by simp only[List.mem_cons]at hx⊢;rcases hx with hx|hx|hx<;>simp[hx])⟩
    have:=hwfc.1
    simp only[List.map_cons,List.nodup_cons,List.mem_cons,not_or]at this⊢
    exact⟨⟨fun e=>this.1.1 e.symm,this.2.1⟩,this.1.2,this.2.2⟩
  ·exact h.wf d dl hd
 refine⟨htk,hwf',here',by rw[eH hi0,hlev];exact h.top,l1,l2,?_,?_,fun e=>absurd rfl e⟩
 ·intro d dl hd
  rcases fD hlt hd with⟨rfl,rfl⟩|⟨_,hd⟩
  ·exact(oN hl (h.low _ cl hc)).append (by omega) _
  ·exact(h.low d dl hd).append (by omega) _
 ·intro _ d dl hd hnt
  rcases fD hlt hd with⟨rfl,rfl⟩|⟨hne,hd⟩
  ·have hT:Tru (tr++[(o,p)]) o:=⟨tr.length,p,by simp⟩
   refine .inr ⟨o,u,r,rfl,fun i s _ hr=>(htk.not_both hT ⟨i,s,hr⟩).elim,fun i s _ hr=>?_⟩
   obtain⟨q,hq⟩:=here'
   have e:i=i0:=htk.one hr hq rfl
   subst e
   refine⟨tr.length,p,by simp,?_⟩
   rw[gR,eH hi0,hlev,h.top]
   exact Nat.le_refl _
  ·refine(h.high rfl d dl hd (fun hm=>?_)).append (by omega) _
   rw[hpos]at hnt
   rcases List.mem_cons.1 hm with e|hm
   ·have hdlt:=(List.getElem?_eq_some_iff.1 hd).1
    exact hne (dW cls hdlt hlt (by omega))
   ·exact hnt hm
theorem qD{α:Type}{x:α}:∀{l:List α},l.Nodup->x∉l->∀k,(l.set k x).Nodup
 | [],_,_,_=>by simp
 | a::t,hn,hx,0=>by
  rw[List.nodup_cons]at hn
  simp only[List.mem_cons,not_or]at hx
  simp only[List.set_cons_zero,List.nodup_cons]
  exact⟨hx.2,hn.2⟩
 | a::t,hn,hx,k+1=>by
  rw[List.nodup_cons]at hn
  simp only[List.mem_cons,not_or]at hx
  simp only[List.set_cons_succ,List.nodup_cons]
  refine⟨fun hm=>?_,qD hn.2 hx.2 k⟩
  rcases List.mem_or_eq_of_mem_set hm with h|h
  ·exact hn.1 h
  ·exact hx.1 h.symm
theorem Vis.moved(h:Vis i0 u cls wat tr stay todo bad)(hc:cls[c]?=some cl){o y:Int}{r r':List Int}(hl:cl.lits=o::u::r∨cl.lits=u::o::r)(ho:¬Tru tr o)(hy:¬Tru tr (-y))(hou:o.natAbs≠u.natAbs):WOK tr (i0+1) (o::y::r'):=by
 refine .inr ⟨o,y,r',rfl,fun i s hi hs=>?_,fun i s _ hs=>absurd ⟨i,s,hs⟩ hy⟩
 have hlow:=oN hl (h.low c cl hc)
 rcases hlow with⟨x,h1,_⟩|⟨a,b,r2,h1,h2,h3⟩
 ·simp at h1
 ·simp at h1
  obtain⟨rfl,rfl,rfl⟩:=h1
  by_cases e:i=i0
  ·subst e
   obtain⟨q,hq⟩:=h.here
   rw[hs]at hq
   simp at hq
   exact absurd (by rw[hq.1]) hou
  ·obtain⟨j,q,hj,_⟩:=h2 i s (by omega) hs
   exact(h.not_true ⟨j,q,hj⟩).elim
theorem yQ{a b:Int}(h:a.natAbs≠b.natAbs):a≠b:=fun e=>h (by rw[e])
theorem Vis.move(h:Vis i0 u cls wat tr stay (p::todo) bad)(hc:cls[c]?=some cl)(hp:p=(pos cls c:Int)){y:Int}(hm:Moves tr u cl.lits l' y):Vis i0 u (cls.set c ⟨cl.used,l'⟩) (upd wat y (wat y++[p])) tr stay todo bad/\y≠u:=by
 obtain⟨o,r,k,hl,hk,rfl,ho,hy⟩:=hm
 have hlt:=(List.getElem?_eq_some_iff.1 hc).1
 have hcl:cls[c]=cl:=by rw[List.getElem?_eq_getElem hlt]at hc;simpa using hc
 have hlen:(o::y::r.set k u).length=cl.lits.length:=by rcases hl with hl|hl<;>rw[hl]<;>simp
 have hpos:∀j,pos (cls.set c ⟨cl.used,o::y::r.set k u⟩) j=pos cls j:=fun j=>fM cls c j _ hlt (by rw[hcl];exact hlen)
 have hklt:=(List.getElem?_eq_some_iff.1 hk).1
 have hyr:r[k]=y:=by rw[List.getElem?_eq_getElem hklt]at hk;simpa using hk
 have hym:y∈r:=by rw[←hyr];exact List.getElem_mem hklt
 have hwfc:=h.wf c cl hc
 have hnd:o.natAbs≠u.natAbs/\o.natAbs∉r.map Int.natAbs/\u.natAbs∉r.map Int.natAbs/\(r.map Int.natAbs).Nodup:=by
  have:=hwfc.1
  rcases hl with hl|hl
  ·rw[hl]at this
   simp only[List.map_cons,List.nodup_cons,List.mem_cons,not_or]at this
   exact⟨this.1.1,this.1.2,this.2.1,this.2.2⟩
  ·rw[hl]at this
   simp only[List.map_cons,List.nodup_cons,List.mem_cons,not_or]at this
   exact⟨fun e=>this.1.1 e.symm,this.2.1,this.1.2,this.2.2⟩
 have hya:y.natAbs∈r.map Int.natAbs:=List.mem_map.2 ⟨y,hym,rfl⟩
 have hyo:y≠o:=yQ (fun e=>hnd.2.1 (by rw[←e];exact hya))
 have hyu:y≠u:=yQ (fun e=>hnd.2.2.1 (by rw[←e];exact hya))
 have hou:o≠u:=yQ hnd.1
 have hwo:∀l,eF l cl.lits↔l=o∨l=u:=by
  intro l
  rcases hl with hl|hl
  ·rw[hl,bX]
  ·rw[hl,bX,or_comm]
 have hun:Watcher cls u p:=by rw[hp];exact(dD hc).2 ((hwo u).2 (.inr rfl))
 have hpt:p∉stay/\p∉todo:=by
  have:=h.own.1
  rw[List.nodup_append]at this
  exact⟨fun hm=>this.2.2 p hm p (by simp) rfl,(List.nodup_cons.1 this.2.1).1⟩
 have hmem:∀x,x∈o::y::r.set k u->x∈cl.lits:=by
  intro x hx
  have:x∈o::u::r:=by
   rcases List.mem_cons.1 hx with rfl|hx
   ·simp
   ·rcases List.mem_cons.1 hx with rfl|hx
    ·simp[hym]
    ·rcases List.mem_or_eq_of_mem_set hx with hx|rfl
     ·simp[hx]
     ·simp
  rcases hl with hl|hl<;>rw[hl]
  ·exact this
  ·simp only[List.mem_cons]at this⊢
   rcases this with h|h|h<;>simp[h]
 refine⟨⟨?_,?_,h.here,h.top,?_,?_,?_,?_,?_⟩,hyu⟩
 ·refine h.trok.change hc hlen (.inr (fun x hx hT=>?_))
  rcases hl with hl|hl
  ·rw[hl]at hx;simp at hx;subst hx;exact ho hT
  ·rw[hl]at hx;simp at hx;subst hx;exact h.not_true hT
 ·intro d dl hd
  rcases fD hlt hd with⟨rfl,rfl⟩|⟨_,hd⟩
  ·refine⟨?_,fun x hx=>hwfc.2 x (hmem x hx)⟩
   simp only[List.map_cons,List.nodup_cons,List.mem_cons,not_or,List.map_set]
   have hns:∀a,a∉r.map Int.natAbs->a≠u.natAbs->a∉(r.map Int.natAbs).set k u.natAbs:=fun a h1 h2 hm=>by
    rcases List.mem_or_eq_of_mem_set hm with hm|hm
    ·exact h1 hm
    ·exact h2 hm
   refine⟨⟨fun e=>hnd.2.1 (by rw[e];exact hya),hns _ hnd.2.1 hnd.1⟩,?_,?_⟩
   ·intro hm
    obtain⟨j,hj⟩:=List.getElem?_of_mem hm
    by_cases e:j=k
    ·subst e
     rw[List.getElem?_set_self (by simpa using hklt)]at hj
     simp at hj
     exact hnd.2.2.1 (by rw[hj];exact hya)
    ·rw[List.getElem?_set_ne (fun h=>e h.symm)]at hj
     have hjlt:=(List.getElem?_eq_some_iff.1 hj).1
     have hj':(r.map Int.natAbs)[j]=y.natAbs:=by rw[List.getElem?_eq_getElem hjlt]at hj;simpa using hj
     have hk':(r.map Int.natAbs)[k]'(by simpa using hklt)=y.natAbs:=by rw[List.getElem_map,hyr]
     exact e ((List.getElem_inj (h₀:=hjlt) (h₁:=by simpa using hklt) hnd.2.2.2).1 (by rw[hj',hk']))
   ·exact qD hnd.2.2.2 hnd.2.2.1 k
  ·exact h.wf d dl hd
 ·intro l hlu
  obtain⟨n1,n2⟩:=h.lists l hlu
  by_cases e:l=y
  ·subst e
   have hpn:p∉wat l:=by
    rw[n2,hp,dD hc,hwo]
    rintro(h|h)
    ·exact hyo h
    ·exact hyu h
   refine⟨by
    unfold upd
    rw[if_pos rfl,List.nodup_append]
    refine⟨n1,by simp,?_⟩
    rintro a ha b hb rfl
    simp at hb;subst hb;exact hpn ha,fun q=>?_⟩
   unfold upd
   rw[if_pos rfl,fZ hc (cl':=⟨cl.used,o::l::r.set k u⟩) hlen,List.mem_append,n2,List.mem_singleton]
   rw[←hp]
   constructor
   ·rintro(h1|h1)
    ·refine .inr ⟨fun e=>?_,h1⟩
     subst e
     exact hpn ((n2 q).2 h1)
    ·exact .inl ⟨h1,bX.2 (.inr rfl)⟩
   ·rintro(⟨h1,_⟩|⟨_,h1⟩)
    ·exact .inr h1
    ·exact .inl h1
  ·unfold upd
   rw[if_neg e]
   refine⟨n1,fun q=>?_⟩
   rw[fZ hc (cl':=⟨cl.used,o::y::r.set k u⟩) hlen,n2]
   constructor
   ·intro h1
    by_cases e2:q=(pos cls c:Int)
    ·subst e2
     have:=(hwo l).1 ((dD hc).1 h1)
     exact .inl ⟨rfl,bX.2 (.inl (this.resolve_right hlu))⟩
    ·exact .inr ⟨e2,h1⟩
   ·rintro(⟨h1,h2⟩|⟨_,h2⟩)
    ·rw[h1,dD hc,hwo]
     rcases bX.1 h2 with h|h
     ·exact .inl h
     ·exact absurd h e
    ·exact h2
 ·have hn:=h.own.1
  have h2:=h.own.2
  refine⟨?_,fun q=>?_⟩
  ·rw[List.nodup_append]at hn⊢
   exact⟨hn.1,(List.nodup_cons.1 hn.2.1).2,fun a ha b hb=>hn.2.2 a ha b (List.mem_cons_of_mem _ hb)⟩
  ·rw[fZ hc (cl':=⟨cl.used,o::y::r.set k u⟩) hlen]
   have h3:=h2 q
   rw[List.mem_append,List.mem_cons]at h3
   rw[List.mem_append,←h3,←hp]
   constructor
   ·rintro(h1|h1)
    ·exact .inr ⟨fun e=>hpt.1 (by rw[←e];exact h1),.inl h1⟩
    ·exact .inr ⟨fun e=>hpt.2 (by rw[←e];exact h1),.inr (.inr h1)⟩
   ·rintro(⟨_,h1⟩|⟨h1,h1'|h1'|h1'⟩)
    ·rcases bX.1 h1 with h|h
     ·exact absurd h.symm hou
     ·exact absurd h.symm hyu
    ·exact .inl h1'
    ·exact absurd h1' h1
    ·exact .inr h1'
 ·intro d dl hd
  rcases fD hlt hd with⟨rfl,rfl⟩|⟨_,hd⟩
  ·exact(Vis.moved h hc hl ho hy hnd.1).mono (by omega)
  ·exact h.low d dl hd
 ·intro hb d dl hd hnt
  rcases fD hlt hd with⟨rfl,rfl⟩|⟨hne,hd⟩
  ·exact Vis.moved h hc hl ho hy hnd.1
  ·refine h.high hb d dl hd (fun hm=>?_)
   rw[hpos]at hnt
   rcases List.mem_cons.1 hm with e|hm
   ·have hdlt:=(List.getElem?_eq_some_iff.1 hd).1
    exact hne (dW cls hdlt hlt (by omega))
   ·exact hnt hm
 ·intro hb
  obtain⟨d,dl,g1,g2,g3⟩:=h.falls hb
  by_cases e:d=c
  ·subst e
   rw[hc]at g1;cases g1
   refine absurd (g3 y (hmem y (by simp))) hy
  ·exact⟨d,dl,by rw[List.getElem?_set_ne (fun h=>e h.symm)];exact g1,by rw[hpos];exact g2,g3⟩
end
end Go.Proofs.YtekkkoipcghlmaaGreatDoor
namespace Go.Proofs.YtekkkoipcghlmaaGreatDoor
structure Rest(n:Nat)(cls:List Cl)(wat:Int->List Int)(tr:Tr):Prop where
 trok:TrOK cls tr
 wf:∀(c:Nat) cl,cls[c]?=some cl->aM cl.lits
 lists:∀l,(wat l).Nodup/\∀p,p∈wat l↔Watcher cls l p
 ok:∀(c:Nat) cl,cls[c]?=some cl->WOK tr n cl.lits
 le:n<=tr.length
 top:∀i,n<=i->i<tr.length->lev tr i=levels tr
structure Struck(cls:List Cl)(wat:Int->List Int)(tr:Tr)(n:Nat)(bad:Int):Prop where
 trok:TrOK cls tr
 wf:∀(c:Nat) cl,cls[c]?=some cl->aM cl.lits
 lists:∀l,(wat l).Nodup/\∀p,p∈wat l↔Watcher cls l p
 lt:n<tr.length
 top:lev tr n=levels tr
 ok:∀(c:Nat) cl,cls[c]?=some cl->WOK tr n cl.lits
 falls:∃(c:Nat) (cl:Cl),cls[c]?=some cl/\bad=(pos cls c:Int)/\∀x,x∈cl.lits->Tru tr (-x)
def SameCl(a b:List Cl):Prop:=a.length=b.length/\∀(c:Nat) x y,a[c]?=some x->b[c]?=some y->x.used=y.used/\y.lits.Perm x.lits
theorem SameCl.refl(a:List Cl):SameCl a a:=⟨rfl,fun c x y h1 h2=>by rw[h1]at h2;cases h2;exact⟨rfl,List.Perm.refl _⟩⟩
theorem SameCl.get{a b:List Cl}(h:SameCl a b){c:Nat}{y:Cl}(hc:b[c]?=some y):∃x,a[c]?=some x/\x.used=y.used/\y.lits.Perm x.lits:=by
 have hlt:=(List.getElem?_eq_some_iff.1 hc).1
 rw[←h.1]at hlt
 exact⟨a[c],List.getElem?_eq_getElem hlt,h.2 c _ y (List.getElem?_eq_getElem hlt) hc⟩
theorem SameCl.trans{a b d:List Cl}(h:SameCl a b)(h':SameCl b d):SameCl a d:=
 ⟨h.1.trans h'.1,fun c x z hx hz=>by
  obtain⟨y,hy,e1,p1⟩:=h'.get hz
  obtain⟨e2,p2⟩:=h.2 c x y hx hy
  exact⟨e2.trans e1,p1.trans p2⟩⟩
theorem SameCl.set{a:List Cl}{c:Nat}{cl:Cl}{l:List Int}(hc:a[c]?=some cl)(hp:l.Perm cl.lits):SameCl a (a.set c ⟨cl.used,l⟩):=by
 have hlt:=(List.getElem?_eq_some_iff.1 hc).1
 refine⟨by simp,fun d x y hx hy=>?_⟩
 rcases fD hlt hy with⟨rfl,rfl⟩|⟨_,hy⟩
 ·rw[hc]at hx;cases hx;exact⟨rfl,hp⟩
 ·rw[hx]at hy;cases hy;exact⟨rfl,List.Perm.refl _⟩
theorem SameCl.place{a b:List Cl}(h:SameCl a b)(i:Nat):pos b i=pos a i:=by
 have key:∀n,n<=a.length->pos b n=pos a n:=by
  intro n
  induction n with
  | zero=>intro _;rw[oJ,oJ]
  | succ n ih=>
   intro hn
   have ha:n<a.length:=by omega
   have hb:n<b.length:=by have:=h.1;omega
   rw[fR a n ha,fR b n hb,ih (by omega)]
   have:=(h.2 n a[n] b[n] (List.getElem?_eq_getElem ha) (List.getElem?_eq_getElem hb)).2.length_eq
   omega
 rcases Nat.lt_or_ge a.length i with hi|hi
 ·rw[cS a (by omega),cS b (by have:=h.1;omega),←cS a (Nat.le_refl _),←cS b (Nat.le_refl _),←h.1]
  exact key _ (Nat.le_refl _)
 ·exact key i hi
theorem pB{y u:Int}:∀(r:List Int) (k:Nat),r[k]?=some y->(y::r.set k u).Perm (u::r)
 | [],k,h=>by simp at h
 | a::t,0,h=>by
  simp at h;subst h
  simp only[List.set_cons_zero]
  exact List.Perm.swap _ _ _
 | a::t,k+1,h=>by
  rw[List.getElem?_cons_succ]at h
  have:=pB (u:=u) t k h
  simp only[List.set_cons_succ]
  exact(List.Perm.swap _ _ _).trans ((List.Perm.cons a this).trans (List.Perm.swap _ _ _))
theorem Stays.perm{tr:Tr}{u o:Int}{l l':List Int}(h:Stays tr u l l' o):l'.Perm l:=by
 obtain⟨r,hl,rfl,-⟩:=h
 rcases hl with rfl|rfl
 ·exact List.Perm.refl _
 ·exact List.Perm.swap _ _ _
theorem Moves.perm{tr:Tr}{u y:Int}{l l':List Int}(h:Moves tr u l l' y):l'.Perm l:=by
 obtain⟨o,r,k,hl,hk,rfl,-,-⟩:=h
 have h1:(o::y::r.set k u).Perm (o::u::r):=List.Perm.cons o (pB r k hk)
 rcases hl with rfl|rfl
 ·exact h1
 ·exact h1.trans (List.Perm.swap _ _ _)
def Went(a:List Cl)(tr:Tr)(b:List Cl)(tr':Tr):Prop:=SameCl a b/\∃t,tr'=tr++t/\∀e,e∈t->dec e=false
theorem Went.refl(a:List Cl)(tr:Tr):Went a tr a tr:=⟨SameCl.refl a,[],by simp,by simp⟩
theorem Went.trans{a b d:List Cl}{t1 t2 t3:Tr}(h:Went a t1 b t2)(h':Went b t2 d t3):Went a t1 d t3:=by
 obtain⟨s1,x,rfl,hx⟩:=h
 obtain⟨s2,y,rfl,hy⟩:=h'
 refine⟨s1.trans s2,x++y,by rw[List.append_assoc],fun e he=>?_⟩
 rcases List.mem_append.1 he with he|he
 ·exact hx e he
 ·exact hy e he
theorem rG{cls:List Cl}{wat:Int->List Int}{u:Int}{stay:List Int}(h1:∀l,l≠u->(wat l).Nodup/\∀p,p∈wat l↔Watcher cls l p)(h2:stay.Nodup/\∀p,p∈stay↔Watcher cls u p):
  ∀l,(upd wat u stay l).Nodup/\∀p,p∈upd wat u stay l↔Watcher cls l p:=by
 intro l
 unfold upd
 by_cases e:l=u
 ·subst e;rw[if_pos rfl];exact h2
 ·rw[if_neg e];exact h1 l e
theorem Rest.visit{n:Nat}{cls:List Cl}{wat:Int->List Int}{tr:Tr}(h:Rest n cls wat tr){x r:Int}(hx:tr[n]?=some (x,r)):Vis n (-x) cls wat tr [] (wat (-x)) (-1):=by
 have hlt:=(List.getElem?_eq_some_iff.1 hx).1
 refine⟨h.trok,h.wf,⟨r,by rw[Int.neg_neg];exact hx⟩,h.top n (Nat.le_refl _) hlt,fun l _=>h.lists l,by rw[List.nil_append];exact h.lists (-x),h.ok,fun _ c cl hc hn=>?_,fun e=>absurd rfl e⟩
 have hw:=h.ok c cl hc
 rcases hw with hw|⟨a,b,q,h1,h2,h3⟩
 ·exact .inl hw
 ·have hno:¬eF (-x) cl.lits:=fun hww=>hn ((h.lists (-x)).2 _ |>.2 ((dD hc).2 hww))
  rw[h1,bX]at hno
  have up:∀{a b:Int},Watch tr n a b->¬(-x)=a->Watch tr (n+1) a b:=fun {a b} hw hne i s hi hs=>by
   by_cases e:i=n
   ·subst e
    rw[hx]at hs
    simp at hs
    exact absurd (by omega) hne
   ·exact hw i s (by omega) hs
  exact .inr ⟨a,b,q,h1,up h2 (fun e=>hno (.inl e)),up h3 (fun e=>hno (.inr e))⟩
theorem Vis.rest{n:Nat}{u:Int}{cls:List Cl}{wat:Int->List Int}{tr:Tr}{stay:List Int}(h:Vis n u cls wat tr stay [] (-1)):Rest (n+1) cls (upd wat u stay) tr:=by
 have hlt:=h.lt
 refine⟨h.trok,h.wf,rG h.lists (by have:=h.own;rw[List.append_nil]at this;exact this),fun c cl hc=>h.high rfl c cl hc (by simp),by omega,fun i hi hl=>?_⟩
 have h1:=gN tr (i:=n) (j:=i) (by omega)
 have h2:=eX tr i
 have:=h.top
 omega
theorem Vis.struck{n:Nat}{u:Int}{cls:List Cl}{wat:Int->List Int}{tr:Tr}{stay:List Int}{bad:Int}(h:Vis n u cls wat tr stay [] bad)(hb:bad≠-1):Struck cls (upd wat u stay) tr n bad:=
 ⟨h.trok,h.wf,rG h.lists (by have:=h.own;rw[List.append_nil]at this;exact this),h.lt,h.top,h.low,h.falls hb⟩
end Go.Proofs.YtekkkoipcghlmaaGreatDoor
namespace Go.Proofs.YtekkkoipcghlmaaGreatDoor
open Go.RowKit
theorem aG{B:Nat}{a w:World}(h:Below B a w)(q:Nat):Below B a (w.drewN q):=h.trans ⟨rfl,rfl,rfl,Nat.le_refl _,fun _ _=>rfl⟩
structure Only(F:Nat->Prop)(w w':World):Prop where
 os:w'.os=w.os
 tape:w'.tape=w.tape
 output:w'.output=w.output
 size:w.heap.size<=w'.heap.size
 block:∀k,k<w.heap.size->¬F k->w'.heap[k]?=w.heap[k]?
section
variable {F G:Nat->Prop}{a b c w w':World}
theorem Only.refl(F:Nat->Prop)(w:World):Only F w w:=⟨rfl,rfl,rfl,Nat.le_refl _,fun _ _ _=>rfl⟩
theorem Only.trans(h:Only F a b)(h':Only F b c):Only F a c:=
 ⟨h'.os.trans h.os,h'.tape.trans h.tape,h'.output.trans h.output,Nat.le_trans h.size h'.size,fun k hk hn=>(h'.block k (Nat.lt_of_lt_of_le hk h.size) hn).trans (h.block k hk hn)⟩
theorem Only.weaken(h:Only F a b)(hF:∀k,k<a.heap.size->F k->G k):Only G a b:=⟨h.os,h.tape,h.output,h.size,fun k hk hn=>h.block k hk (fun hf=>hn (hF k hk hf))⟩
theorem Only.of_below(F:Nat->Prop)(h:Below a.heap.size a b):Only F a b:=⟨h.os,h.tape,h.output,h.size,fun k hk _=>h.block k hk⟩
theorem Only.alloc(F:Nat->Prop)(w:World)(o:Obj):Only F w (w.alloc o):=Only.of_below F ((Below.refl _ _).alloc (Nat.le_refl _) o)
theorem Only.setCell{p:Addr}(hp:F p.block)(w:World)(u:Value):Only F w (w.setCell p u):=
 ⟨rfl,rfl,rfl,by simp[World.setCell],fun k _ hn=>Below.heap_setCell _ _ _ _ (fun e=>hn (by rw[e];exact hp))⟩
theorem Only.grown{row:Option Nat}(hg:w.grownBy w' row)(hr:∀k,row=some k->F k):Only F w w':=
 ⟨hg.os,hg.tape,hg.output,hg.size,fun k hk hn=>hg.block k hk (fun e=>hn (hr k e.symm))⟩
theorem Only.below{B:Nat}(h:Only F w w')(hF:∀k,F k->B<=k)(hB:B<=w.heap.size):Below B w w':=
 ⟨h.os,h.tape,h.output,h.size,fun k hk=>h.block k (by omega) (fun hf=>by have:=hF k hf;omega)⟩
end
theorem aH{w w':World}{base:Nat}{e:TypeId}{s:Nat}{v:Value}{n:Nat}{xs:List Value}(h:w.ownsRow base e s v n xs)(hb:∀g,v.ownBlock=some g->w'.heap[g]?=w.heap[g]?):w'.ownsRow base e s v n xs:=by
 obtain⟨h1,h2⟩:=h
 refine⟨h1,?_⟩
 rcases h2 with h2|⟨g,cap,cur,hv,h3,h4,h5⟩
 ·exact .inl h2
 ·exact .inr ⟨g,cap,cur,hv,h3,(hb g (by rw[hv];rfl)).trans h4,h5⟩
theorem aA{w:World}{p:Nat}{o:Obj}(h:w.heap[p]?=some o):p<w.heap.size:=(Array.getElem?_eq_some_iff.1 h).1
theorem aZ{w:World}{base:Nat}{e:TypeId}{s:Nat}{v:Value}{n:Nat}{xs:List Value}(h:w.ownsRow base e s v n xs){p:Nat}{cs:Array Value}{t:TypeId}{fz:Nat×Nat}(hp:w.heap[p]?=some (.cells cs t fz))(ht:t≠e):v.ownBlock≠some p:=by
 intro he
 rcases h.2 with⟨hv,_⟩|⟨g,cap,cur,hv,_,hg,_⟩
 ·rw[hv]at he;cases he
 ·rw[hv]at he
  simp[Value.ownBlock]at he
  subst he
  rw[hp]at hg
  simp at hg
  exact ht hg.2.1
end Go.Proofs.YtekkkoipcghlmaaGreatDoor
