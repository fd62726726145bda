import Derived.Test.YtekkkoipcghlmaaGreatDoorU01
set_option linter.all false
namespace Go.Proofs.YtekkkoipcghlmaaGreatDoor
structure Cl where
 used:Bool
 lits:List Int
def Cl.cells(c:Cl):List Int:=(c.lits.length:Int)::(if c.used then 1 else 0)::c.lits
def flat(cs:List Cl):List Int:=cs.flatMap Cl.cells
def pos(cs:List Cl)(i:Nat):Nat:=(flat (cs.take i)).length
theorem Cl.cells_len(c:Cl):c.cells.length=c.lits.length+2:=by simp[Cl.cells]
theorem fT:flat []=[]:=rfl
theorem cD(a b:List Cl):flat (a++b)=flat a++flat b:=by simp[flat]
theorem dI(a:Cl)(b:List Cl):flat (a::b)=a.cells++flat b:=by simp[flat]
theorem oJ(cs:List Cl):pos cs 0=0:=by simp[pos,flat]
theorem fR(cs:List Cl)(i:Nat)(h:i<cs.length):pos cs (i+1)=pos cs i+cs[i].lits.length+2:=by
 unfold pos
 rw[List.take_succ_eq_append_getElem h,cD,List.length_append,dI,fT,List.append_nil,Cl.cells_len]
 omega
theorem cS(cs:List Cl){i:Nat}(h:cs.length<=i):pos cs i=(flat cs).length:=by unfold pos;rw[List.take_of_length_le h]
theorem kI(cs:List Cl)(i:Nat):pos cs i<=(flat cs).length:=by
 have e:flat cs=flat (cs.take i)++flat (cs.drop i):=by rw[←cD,List.take_append_drop]
 unfold pos
 rw[e,List.length_append];omega
theorem aN6(cs:List Cl){i j:Nat}(h:i<=j):pos cs i<=pos cs j:=by
 have:cs.take i=(cs.take j).take i:=by rw[List.take_take,Nat.min_eq_left h]
 unfold pos
 rw[this]
 exact kI (cs.take j) i
theorem yH(cs:List Cl){i j:Nat}(hi:i<cs.length)(h:i<j):pos cs i+cs[i].lits.length+2<=pos cs j:=by
 rw[←fR cs i hi];exact aN6 cs h
theorem dW(cs:List Cl){i j:Nat}(hi:i<cs.length)(hj:j<cs.length)(h:pos cs i=pos cs j):i=j:=by
 rcases Nat.lt_trichotomy i j with hl|hl|hl
 ·have:=yH cs hi hl;omega
 ·exact hl
 ·have:=yH cs hj hl;omega
theorem dS(cs:List Cl)(i:Nat)(h:i<cs.length):flat cs=flat (cs.take i)++(cs[i].cells++flat (cs.drop (i+1))):=by
 conv=>lhs;rw[←List.take_append_drop i cs,cD,List.drop_eq_getElem_cons h,dI]
theorem pG(cs:List Cl)(i k:Nat)(h:i<cs.length)(hk:k<cs[i].lits.length+2):(flat cs)[pos cs i+k]?=cs[i].cells[k]?:=by
 rw[dS cs i h,List.getElem?_append_right (by unfold pos;omega)]
 have:pos cs i+k-(flat (cs.take i)).length=k:=by unfold pos;omega
 rw[this,List.getElem?_append_left (by rw[Cl.cells_len];exact hk)]
theorem tP(cs:List Cl)(i:Nat)(h:i<cs.length):(flat cs)[pos cs i]?=some (cs[i].lits.length:Int):=by
 have:=pG cs i 0 h (by omega)
 rw[Nat.add_zero]at this
 rw[this];rfl
theorem rP(cs:List Cl)(i:Nat)(h:i<cs.length):(flat cs)[pos cs i+1]?=some (if cs[i].used then 1 else 0):=by
 rw[pG cs i 1 h (by omega)];rfl
theorem vF(cs:List Cl)(i k:Nat)(h:i<cs.length)(hk:k<cs[i].lits.length):(flat cs)[pos cs i+2+k]?=some cs[i].lits[k]:=by
 rw[Nat.add_assoc,pG cs i (2+k) h (by omega)]
 show(((cs[i].lits.length:Int)::(if cs[i].used then 1 else 0)::cs[i].lits))[2+k]?=_
 rw[show 2+k=k+1+1 from by omega,List.getElem?_cons_succ,List.getElem?_cons_succ,List.getElem?_eq_getElem hk]
theorem eK(cs:List Cl)(i:Nat)(h:i<cs.length):pos cs i+2+cs[i].lits.length<=(flat cs).length:=by
 have:=fR cs i h
 have:=kI cs (i+1)
 omega
theorem gT(cs:List Cl)(i:Nat)(c:Cl)(h:i<cs.length):flat (cs.set i c)=flat (cs.take i)++(c.cells++flat (cs.drop (i+1))):=by
 rw[dS (cs.set i c) i (by simpa using h)]
 rw[List.getElem_set_self,List.take_set_of_le (Nat.le_refl _),List.drop_set_of_lt (by omega)]
theorem fM(cs:List Cl)(i j:Nat)(c:Cl)(h:i<cs.length)(hl:c.lits.length=cs[i].lits.length):pos (cs.set i c) j=pos cs j:=by
 unfold pos
 rw[List.take_set]
 by_cases hij:i<j
 ·rw[gT _ _ _ (by simp;omega),dS (cs.take j) i (by simp;omega)]
  simp[Cl.cells_len,hl]
 ·rw[List.set_eq_of_length_le (by simp;omega)]
theorem tC(cs:List Cl)(i k:Nat)(x:Int)(h:i<cs.length)(hk:k<cs[i].lits.length):(flat cs).set (pos cs i+2+k) x=flat (cs.set i ⟨cs[i].used,cs[i].lits.set k x⟩):=by
 rw[gT _ _ _ h,dS cs i h,List.set_append,if_neg (by unfold pos;omega)]
 have:pos cs i+2+k-(flat (cs.take i)).length=k+1+1:=by unfold pos;omega
 rw[this,List.set_append,if_pos (by rw[Cl.cells_len];omega)]
 simp[Cl.cells]
theorem gB(cs:List Cl)(i:Nat)(h:i<cs.length):(flat cs).set (pos cs i+1) 1=flat (cs.set i ⟨true,cs[i].lits⟩):=by
 rw[gT _ _ _ h,dS cs i h,List.set_append,if_neg (by unfold pos;omega)]
 have:pos cs i+1-(flat (cs.take i)).length=0+1:=by unfold pos;omega
 rw[this,List.set_append,if_pos (by rw[Cl.cells_len];omega)]
 simp[Cl.cells]
theorem bQ(cs ds:List Cl){i:Nat}(h:i<=cs.length):pos (cs++ds) i=pos cs i:=by unfold pos;rw[List.take_append_of_le_length h]
abbrev Tr:=List (Int×Int)
def dec(e:Int×Int):Bool:=e.2==-1
def levels(tr:Tr):Nat:=(tr.filter dec).length
def lev(tr:Tr)(i:Nat):Nat:=levels (tr.take (i+1))
def aX(n:Nat):Tr->List Nat
 | []=>[]
 | e::r=>if dec e=true then n::aX (n+1) r else aX (n+1) r
def bB(tr:Tr):List Nat:=aX 0 tr
theorem bM(a b:Tr):levels (a++b)=levels a+levels b:=by simp[levels]
theorem lO(a b:Tr):∀n,aX n (a++b)=aX n a++aX (n+a.length) b:=by
 induction a with
 | nil=>intro n;rfl
 | cons e r ih=>
  intro n
  simp only[List.cons_append,aX,ih (n+1),List.length_cons,show n+1+r.length=n+(r.length+1)from by omega]
  split<;>simp
theorem oI(a:Tr):∀n,(aX n a).length=levels a:=by
 induction a with
 | nil=>intro n;rfl
 | cons e r ih=>
  intro n
  unfold levels at ih⊢
  simp only[aX,List.filter_cons]
  split<;>simp[ih (n+1)]
theorem dB(a:Tr):(bB a).length=levels a:=oI a 0
theorem kF(tr:Tr)(e:Int×Int):bB (tr++[e])=if dec e=true then bB tr++[tr.length]else bB tr:=by
 unfold bB
 rw[lO]
 simp only[aX,Nat.zero_add]
 split<;>simp
theorem cO{tr:Tr}{l s:Nat}(h:(bB tr)[l]?=some s):s<tr.length/\bB (tr.take s)=(bB tr).take l/\levels (tr.take s)=l/\∃e,tr[s]?=some e/\dec e=true:=by
 have key:∀(a:Tr) (n l s:Nat),(aX n a)[l]?=some s->n<=s/\s-n<a.length/\aX n (a.take (s-n))=(aX n a).take l/\∃e,a[s-n]?=some e/\dec e=true:=by
  intro a
  induction a with
  | nil=>intro n l s h;simp[aX]at h
  | cons e r ih=>
   intro n l s h
   simp only[aX]at h
   by_cases hd:dec e=true
   ·rw[if_pos hd]at h
    cases l with
    | zero=>
     simp at h;subst h
     exact⟨Nat.le_refl _,by simp,by simp[aX],e,by simp,hd⟩
    | succ l=>
     rw[List.getElem?_cons_succ]at h
     obtain⟨h1,h2,h3,e',h4,h5⟩:=ih _ _ _ h
     have e1:s-n=(s-(n+1))+1:=by omega
     refine⟨by omega,by simp only[List.length_cons];omega,?_,e',by rw[e1,List.getElem?_cons_succ];exact h4,h5⟩
     rw[e1,List.take_succ_cons]
     simp only[aX,if_pos hd,h3,List.take_succ_cons]
   ·rw[if_neg hd]at h
    obtain⟨h1,h2,h3,e',h4,h5⟩:=ih _ _ _ h
    have e1:s-n=(s-(n+1))+1:=by omega
    refine⟨by omega,by simp only[List.length_cons];omega,?_,e',by rw[e1,List.getElem?_cons_succ];exact h4,h5⟩
    rw[e1,List.take_succ_cons]
    simp only[aX,if_neg hd,h3]
 obtain⟨_,h2,h3,h4⟩:=key tr 0 l s h
 rw[Nat.sub_zero]at h2 h3 h4
 refine⟨h2,h3,?_,h4⟩
 have hl:l<(bB tr).length:=(List.getElem?_eq_some_iff.1 h).1
 rw[←dB]
 show(aX 0 (tr.take s)).length=l
 rw[h3,List.length_take]
 have:l<(aX 0 tr).length:=hl
 omega
theorem eH{a b:Tr}{i:Nat}(h:i<a.length):lev (a++b) i=lev a i:=by unfold lev;rw[List.take_append_of_le_length (by omega)]
theorem jD{a:Tr}{i n:Nat}(h:i<n):lev (a.take n) i=lev a i:=by unfold lev;rw[List.take_take,Nat.min_eq_left (by omega)]
theorem eU(tr:Tr){i j:Nat}(h:i<=j):levels (tr.take i)<=levels (tr.take j):=by
 have:tr.take j=tr.take i++(tr.drop i).take (j-i):=by rw[←List.take_add,show i+(j-i)=j from by omega]
 rw[this,bM];omega
theorem gN(tr:Tr){i j:Nat}(h:i<=j):lev tr i<=lev tr j:=eU tr (by omega)
theorem eX(tr:Tr)(i:Nat):lev tr i<=levels tr:=by
 have:=eU tr (i:=i+1) (j:=max (i+1) tr.length) (by omega)
 rw[List.take_of_length_le (l:=tr) (show tr.length<=max (i+1) tr.length by omega)]at this
 exact this
theorem gR(tr:Tr)(e:Int×Int):lev (tr++[e]) tr.length=levels (tr++[e]):=by unfold lev;rw[List.take_of_length_le (by simp)]
theorem jM{tr:Tr}{l s:Nat}(h:(bB tr)[l]?=some s)(i:Nat):(i<s->lev tr i<=l)/\(s<=i->l<lev tr i):=by
 obtain⟨h1,_,h3,e,he,hd⟩:=cO h
 refine⟨fun hi=>?_,fun hi=>?_⟩
 ·have:=eU tr (i:=i+1) (j:=s) (by omega)
  unfold lev;omega
 ·have h4:lev tr s<=lev tr i:=gN tr hi
  have h5:lev tr s=levels (tr.take s)+1:=by
   have hs:tr[s]=e:=by rw[List.getElem?_eq_getElem h1]at he;simpa using he
   unfold lev
   rw[List.take_succ_eq_append_getElem h1,bM,hs]
   simp[levels,hd]
  omega
end Go.Proofs.YtekkkoipcghlmaaGreatDoor
namespace Go.Proofs.YtekkkoipcghlmaaGreatDoor
def aM(l:List Int):Prop:=(l.map Int.natAbs).Nodup/\∀x,x∈l->x≠0/\-12<=x/\x<=12
def Tru(tr:Tr)(x:Int):Prop:=∃(j:Nat) (r:Int),tr[j]?=some (x,r)
structure TrOK(cls:List Cl)(tr:Tr):Prop where
 vars:(tr.map (fun e=>e.1.natAbs)).Nodup
 bd:∀(i:Nat) e,tr[i]?=some e->e.1≠0/\-12<=e.1/\e.1<=12
 reason:∀(i:Nat) e,tr[i]?=some e->dec e=false->∃(c:Nat) (cl:Cl) (rest:List Int),cls[c]?=some cl/\e.2=(pos cls c:Int)/\cl.lits=e.1::rest/\∀y,y∈rest->∃j r,j<i/\tr[j]?=some (-y,r)
theorem gO{tr:Tr}{e f:Int×Int}{i:Nat}(h:(tr++[e])[i]?=some f):(i<tr.length/\tr[i]?=some f)∨(i=tr.length/\f=e):=by
 have hl:=(List.getElem?_eq_some_iff.1 h).1
 simp at hl
 by_cases h':i<tr.length
 ·rw[List.getElem?_append_left h']at h;exact .inl ⟨h',h⟩
 ·have:i=tr.length:=by omega
  subst this
  simp at h
  exact .inr ⟨rfl,h.symm⟩
theorem TrOK.one{cls:List Cl}{tr:Tr}(h:TrOK cls tr){i j:Nat}{e f:Int×Int}(hi:tr[i]?=some e)(hj:tr[j]?=some f)(he:e.1.natAbs=f.1.natAbs):i=j:=by
 have hi':=(List.getElem?_eq_some_iff.1 hi).1
 have hj':=(List.getElem?_eq_some_iff.1 hj).1
 refine(List.getElem_inj (h₀:=by simpa using hi') (h₁:=by simpa using hj') h.vars).1 ?_
 rw[List.getElem_map,List.getElem_map]
 rw[List.getElem?_eq_getElem hi']at hi
 rw[List.getElem?_eq_getElem hj']at hj
 simp at hi hj
 rw[hi,hj,he]
theorem TrOK.not_both{cls:List Cl}{tr:Tr}(h:TrOK cls tr){x:Int}(h1:Tru tr x)(h2:Tru tr (-x)):False:=by
 obtain⟨i,r,hi⟩:=h1
 obtain⟨j,s,hj⟩:=h2
 have:=h.one hi hj (by simp)
 subst this
 rw[hi]at hj
 simp at hj
 have:=(h.bd i _ hi).1
 simp at this
 omega
theorem cE:∀(n:Nat) (l:List Nat),l.Nodup->(∀x,x∈l->x<n)->l.length<=n
 | 0,l,_,hb=>by
  cases l with
  | nil=>simp
  | cons a r=>exact absurd (hb a (by simp)) (by omega)
 | n+1,l,hn,hb=>by
  have h1:=cE n (l.erase n) (hn.erase n) (fun x hx=>by
   have h2:=(hn.mem_erase_iff).1 hx
   have:=hb x h2.2
   have:=h2.1
   omega)
  have:l.length<=(l.erase n).length+1:=by rw[List.length_erase];split<;>omega
  omega
theorem TrOK.len{cls:List Cl}{tr:Tr}(h:TrOK cls tr):tr.length<=12:=by
 have hb:∀v,v∈tr.map (fun e=>e.1.natAbs)->0<v/\v<13:=by
  intro v hv
  obtain⟨e,he,rfl⟩:=List.mem_map.1 hv
  obtain⟨i,hi⟩:=List.getElem?_of_mem he
  have:=h.bd i e hi
  omega
 have:=cE 13 (0::tr.map (fun e=>e.1.natAbs)) (List.nodup_cons.2 ⟨fun h0=>by have:=hb 0 h0;omega,h.vars⟩) (fun x hx=>by
  rcases List.mem_cons.1 hx with rfl|hx
  ·omega
  ·exact(hb x hx).2)
 simp at this
 omega
theorem TrOK.take{cls:List Cl}{tr:Tr}(h:TrOK cls tr){x:Int}{c:Nat}{cl:Cl}{rest:List Int}(hx:x≠0/\-12<=x/\x<=12)(h1:¬Tru tr x)(h2:¬Tru tr (-x))(hc:cls[c]?=some cl)(hl:cl.lits=x::rest)(hr:∀y,y∈rest->Tru tr (-y)):TrOK cls (tr++[(x,(pos cls c:Int))]):=by
 refine⟨?_,fun i e hi=>?_,fun i e hi hd=>?_⟩
 ·rw[List.map_append,List.nodup_append]
  refine⟨h.vars,by simp,?_⟩
  rintro a ha b hb rfl
  simp at hb
  obtain⟨e,he,hea⟩:=List.mem_map.1 ha
  obtain⟨j,hj⟩:=List.getElem?_of_mem he
  have:e.1=x∨e.1=-x:=by omega
  rcases this with e1|e1
  ·exact h1 ⟨j,e.2,by rw[hj,←e1]⟩
  ·exact h2 ⟨j,e.2,by rw[hj,←e1]⟩
 ·rcases gO hi with⟨-,h'⟩|⟨-,rfl⟩
  ·exact h.bd i e h'
  ·exact hx
 ·rcases gO hi with⟨hlt,h'⟩|⟨rfl,rfl⟩
  ·obtain⟨c',cl',rest',g1,g2,g3,g4⟩:=h.reason i e h' hd
   refine⟨c',cl',rest',g1,g2,g3,fun y hy=>?_⟩
   obtain⟨j,r,hj,hjr⟩:=g4 y hy
   exact⟨j,r,hj,by rw[List.getElem?_append_left (by omega)];exact hjr⟩
  ·refine⟨c,cl,rest,hc,rfl,hl,fun y hy=>?_⟩
   obtain⟨j,r,hj⟩:=hr y hy
   have hlt:=(List.getElem?_eq_some_iff.1 hj).1
   exact⟨j,r,hlt,by rw[List.getElem?_append_left hlt];exact hj⟩
theorem TrOK.decide{cls:List Cl}{tr:Tr}(h:TrOK cls tr){x:Int}(hx:x≠0/\-12<=x/\x<=12)(h1:¬Tru tr x)(h2:¬Tru tr (-x)):TrOK cls (tr++[(x,-1)]):=by
 refine⟨?_,fun i e hi=>?_,fun i e hi hd=>?_⟩
 ·rw[List.map_append,List.nodup_append]
  refine⟨h.vars,by simp,?_⟩
  rintro a ha b hb rfl
  simp at hb
  obtain⟨e,he,hea⟩:=List.mem_map.1 ha
  obtain⟨j,hj⟩:=List.getElem?_of_mem he
  have:e.1=x∨e.1=-x:=by omega
  rcases this with e1|e1
  ·exact h1 ⟨j,e.2,by rw[hj,←e1]⟩
  ·exact h2 ⟨j,e.2,by rw[hj,←e1]⟩
 ·rcases gO hi with⟨-,h'⟩|⟨-,rfl⟩
  ·exact h.bd i e h'
  ·exact hx
 ·rcases gO hi with⟨hlt,h'⟩|⟨rfl,rfl⟩
  ·obtain⟨c',cl',rest',g1,g2,g3,g4⟩:=h.reason i e h' hd
   refine⟨c',cl',rest',g1,g2,g3,fun y hy=>?_⟩
   obtain⟨j,r,hj,hjr⟩:=g4 y hy
   exact⟨j,r,hj,by rw[List.getElem?_append_left (by omega)];exact hjr⟩
  ·simp[dec]at hd
theorem TrOK.cut{cls:List Cl}{tr:Tr}(h:TrOK cls tr)(n:Nat):TrOK cls (tr.take n):=by
 have get:∀(i:Nat) e,(tr.take n)[i]?=some e->i<n/\tr[i]?=some e:=by
  intro i e hi
  have hl:=(List.getElem?_eq_some_iff.1 hi).1
  rw[List.length_take]at hl
  have hl1:i<n:=by omega
  rw[List.getElem?_take_of_lt hl1]at hi
  exact⟨hl1,hi⟩
 refine⟨?_,fun i e hi=>h.bd i e (get i e hi).2,fun i e hi hd=>?_⟩
 ·rw[List.map_take]
  exact h.vars.sublist (List.take_sublist _ _)
 ·obtain⟨c',cl',rest',g1,g2,g3,g4⟩:=h.reason i e (get i e hi).2 hd
  refine⟨c',cl',rest',g1,g2,g3,fun y hy=>?_⟩
  obtain⟨j,r,hj,hjr⟩:=g4 y hy
  exact⟨j,r,hj,by rw[List.getElem?_take_of_lt (by have:=(get i e hi).1;omega)];exact hjr⟩
theorem TrOK.change{cls:List Cl}{tr:Tr}(h:TrOK cls tr){c:Nat}{cl cl':Cl}(hc:cls[c]?=some cl)(hl:cl'.lits.length=cl.lits.length)(hk:cl'.lits=cl.lits∨∀x,cl.lits.head?=some x->¬Tru tr x):TrOK (cls.set c cl') tr:=by
 have hlt:=(List.getElem?_eq_some_iff.1 hc).1
 have hcl:cls[c]=cl:=by rw[List.getElem?_eq_getElem hlt]at hc;simpa using hc
 refine⟨h.vars,h.bd,fun i e hi hd=>?_⟩
 obtain⟨c',d,rest,g1,g2,g3,g4⟩:=h.reason i e hi hd
 have gp:e.2=(pos (cls.set c cl') c':Int):=by rw[fM cls c c' cl' hlt (by rw[hcl];exact hl)];exact g2
 by_cases e':c'=c
 ·subst e'
  rw[hc]at g1
  cases g1
  rcases hk with hk|hk
  ·exact⟨c',cl',rest,by rw[List.getElem?_set_self hlt],gp,by rw[hk];exact g3,g4⟩
  ·exact absurd ⟨i,e.2,hi⟩ (hk e.1 (by rw[g3];rfl))
 ·exact⟨c',d,rest,by rw[List.getElem?_set_ne (fun h=>e' h.symm)];exact g1,gp,g3,g4⟩
theorem TrOK.more{cls:List Cl}{tr:Tr}(h:TrOK cls tr)(b:List Cl):TrOK (cls++b) tr:=by
 refine⟨h.vars,h.bd,fun i e hi hd=>?_⟩
 obtain⟨c',d,rest,g1,g2,g3,g4⟩:=h.reason i e hi hd
 have hlt:=(List.getElem?_eq_some_iff.1 g1).1
 exact⟨c',d,rest,by rw[List.getElem?_append_left hlt];exact g1,by rw[bQ cls b (by omega)];exact g2,g3,g4⟩
def Watch(tr:Tr)(n:Nat)(a b:Int):Prop:=∀(i:Nat) r,i<n->tr[i]?=some (-a,r)->∃(j:Nat) (s:Int),tr[j]?=some (b,s)/\lev tr j<=lev tr i
def WOK(tr:Tr)(n:Nat)(l:List Int):Prop:=
 (∃x,l=[x]/\∃(j:Nat) (r:Int),tr[j]?=some (x,r)/\lev tr j=0)∨(∃a b r,l=a::b::r/\Watch tr n a b/\Watch tr n b a)
theorem Watch.mono{tr:Tr}{n m:Nat}{a b:Int}(h:Watch tr n a b)(hm:m<=n):Watch tr m a b:=fun i r hi hr=>h i r (by omega) hr
theorem WOK.mono{tr:Tr}{n m:Nat}{l:List Int}(h:WOK tr n l)(hm:m<=n):WOK tr m l:=by
 rcases h with h|⟨a,b,r,h1,h2,h3⟩
 ·exact .inl h
 ·exact .inr ⟨a,b,r,h1,h2.mono hm,h3.mono hm⟩
theorem Watch.append{tr:Tr}{n:Nat}{a b:Int}(h:Watch tr n a b)(hn:n<=tr.length)(t:Tr):Watch (tr++t) n a b:=by
 intro i r hi hr
 rw[List.getElem?_append_left (by omega)]at hr
 obtain⟨j,s,hj,hl⟩:=h i r hi hr
 have hlt:=(List.getElem?_eq_some_iff.1 hj).1
 exact⟨j,s,by rw[List.getElem?_append_left hlt];exact hj,by rw[eH hlt,eH (by omega)];exact hl⟩
theorem WOK.append{tr:Tr}{n:Nat}{l:List Int}(h:WOK tr n l)(hn:n<=tr.length)(t:Tr):WOK (tr++t) n l:=by
 rcases h with⟨x,h1,j,r,h2,h3⟩|⟨a,b,r,h1,h2,h3⟩
 ·have hlt:=(List.getElem?_eq_some_iff.1 h2).1
  exact .inl ⟨x,h1,j,r,by rw[List.getElem?_append_left hlt];exact h2,by rw[eH hlt];exact h3⟩
 ·exact .inr ⟨a,b,r,h1,h2.append hn t,h3.append hn t⟩
theorem WOK.cut{tr:Tr}{n l s:Nat}{c:List Int}(h:WOK tr n c)(hs:(bB tr)[l]?=some s)(hn:s<=n):WOK (tr.take s) s c:=by
 have low:∀{i j:Nat},i<s->lev tr j<=lev tr i->j<s:=fun {i j} hi hj=>by
  rcases Nat.lt_or_ge j s with h|h
  ·exact h
  ·have h1:=(jM hs i).1 hi
   have h2:=(jM hs j).2 h
   omega
 have wat:∀{a b:Int},Watch tr n a b->Watch (tr.take s) s a b:=fun {a b} hw i r hi hr=>by
  rw[List.getElem?_take_of_lt hi]at hr
  obtain⟨j,q,hj,hl⟩:=hw i r (by omega) hr
  have hjs:=low hi hl
  exact⟨j,q,by rw[List.getElem?_take_of_lt hjs];exact hj,by rw[jD hjs,jD hi];exact hl⟩
 rcases h with⟨x,h1,j,r,h2,h3⟩|⟨a,b,r,h1,h2,h3⟩
 ·have hjs:j<s:=by
   rcases Nat.lt_or_ge j s with h|h
   ·exact h
   ·have:=(jM hs j).2 h;omega
  exact .inl ⟨x,h1,j,r,by rw[List.getElem?_take_of_lt hjs];exact h2,by rw[jD hjs];exact h3⟩
 ·exact .inr ⟨a,b,r,h1,wat h2,wat h3⟩
def eF(l:Int)(c:List Int):Prop:=∃a b r,c=a::b::r/\(l=a∨l=b)
end Go.Proofs.YtekkkoipcghlmaaGreatDoor
