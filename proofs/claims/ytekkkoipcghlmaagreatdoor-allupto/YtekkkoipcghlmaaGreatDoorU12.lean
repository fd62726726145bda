import Derived.Test.YtekkkoipcghlmaaGreatDoorU11
set_option linter.all false
namespace Go.Proofs.YtekkkoipcghlmaaGreatDoor
open Go.RowKit
attribute [local go_sem ↓] Go.wp_at_zero Go.wp_at_succ
theorem rZ{l l':List Int}(h:l.Nodup)(h':l'.Nodup){v:Int}(hv:v∈l)(hm:∀u,u∈l'↔u∈l/\u≠v):l'.length+1=l.length:=by
 have hp:(v::l').Perm l:=(List.perm_ext_iff_of_nodup (List.nodup_cons.2 ⟨fun hx=>((hm v).1 hx).2 rfl,h'⟩) h).2 (fun a=>by
  rw[List.mem_cons,hm]
  constructor
  ·rintro(rfl|h1)
   ·exact hv
   ·exact h1.1
  ·intro ha
   by_cases e:a=v
   ·exact .inl e
   ·exact .inr ⟨ha,e⟩)
 have:=hp.length_eq
 simpa using this
def heapLen(q:Nat)(w:World):Nat:=match w.cell? ⟨q,2,none⟩with
 | some (.slice _ n _)=>n
 | _=>0
theorem SAt.heapLen{base:Nat}{w:World}{m:Mem}(h:SAt base w m):heapLen m.q w=m.all.length:=by
 have hc:w.cell? ⟨m.q,2,none⟩=some m.al:=by rw[h.qcell 2 (by decide)];rfl
 obtain⟨ao,cp,hsh⟩:=aC (h.pack.rows 8 _ rfl)
 have hsh':m.al=.slice ao m.all.length cp:=hsh
 unfold Go.Proofs.YtekkkoipcghlmaaGreatDoor.heapLen
 rw[hc,hsh']
def nG(base:Nat)(w:World)(m:Mem)(tr:Tr)(e:Ending)(w':World):Prop:=
 (∃x,x∈m.assumed/\¬Tru tr x/\e=.returned (.int .i64 x)/\Mut base w m w' m)∨
 ((∀x,x∈m.assumed->Tru tr x)/\∃m',Mut base w m w' m'/\HeapOK m'.all m'.places/\KeptQ m m'/\
  ((e=.returned (.int .i64 0)/\∀v:Nat,0<v->v<=12->m.truth v≠0)∨
  (∃v:Nat,0<v/\v<=12/\m.truth v=0/\e=.returned (.int .i64 (-(v:Int)))/\∀u:Nat,0<u->u<=12->m.truth u=0->u≠v->(u:Int)∈m'.all)))
structure NAt(base:Nat)(w:World)(m:Mem)(wr:World)(mk:Mem):Prop where
 mu:Mut base w m wr mk
 ok:HeapOK mk.all mk.places
 kept:KeptQ m mk
 free:∀u:Nat,0<u->u<=12->m.truth u=0->(u:Int)∈mk.all
set_option maxRecDepth 100000 in
set_option maxHeartbeats 3200000 in
theorem aN4(base:Nat)(m:Mem)(cls:List Cl)(tr:Tr)(w:World)(hS:SAt base w m)(hR:Rep m cls tr)(hok:HeapOK m.all m.places)(hfree:∀u:Nat,0<u->u<=12->m.truth u=0->(u:Int)∈m.all)(has:∀x,x∈m.assumed->x≠0/\-12<=x/\x<=12)(hal:m.assumed.length<=10000000):
  Calls Tryz.prog 78 #[.pointer (some ⟨m.s,0,none⟩)] w fun e w'=>nG base w m tr e w':=by
 have hc12:w.cell? ⟨m.s,12,none⟩=some m.asm:=by rw[hS.cell 12 (by decide)];rfl
 obtain⟨ao,cp,hsh⟩:=aC (hS.pack.rows 11 _ rfl)
 have hsh':m.asm=.slice ao m.assumed.length cp:=hsh
 rw[hsh']at hc12
 have HRD:Hid (∀wr k,Below w.heap.size w wr->k<m.assumed.length->∃g x,ao=some ⟨g,0,none⟩/\m.assumed[k]?=some x/\wr.cell? ⟨g,k,none⟩=some (.int .i64 x)/\∀wx,Below w.heap.size w wx->Calls Tryz.prog 126 #[.pointer (some ⟨m.s,3,none⟩),.int .i64 x] wx fun e w'=>e=.returned (.bool (m.truth x.natAbs==x))/\Below w.heap.size w w'):=aq (by
  intro wr k hb hk
  have hrow:=(hS.below hb).pack.rows 11 _ rfl
  unfold Row.ok aB at hrow
  simp only[hsh']at hrow
  obtain⟨g,cap2,hv,-,-⟩:=World.ownsRow.form hrow (by omega)
  simp only[Value.slice.injEq,true_and]at hv
  obtain⟨rfl,rfl⟩:=hv
  have hx:m.assumed[k]?=some m.assumed[k]:=List.getElem?_eq_getElem hk
  have hb2:=has _ (List.mem_of_getElem? hx)
  refine⟨g,m.assumed[k],rfl,hx,?_,fun wx hbx=>?_⟩
  ·rw[hrow.cellAt k (by omega)]
   simp[ints,hk]
  ·exact(kO base m _ wx (hS.below hbx) hb2.2.1 hb2.2.2).mono (fun e w' hh=>And.intro hh.1 (hbx.trans (hh.2.mono hbx.size))))
 have HA:Hid (∀w' x k,m.assumed[k]?=some x->m.truth x.natAbs≠x->Below w.heap.size w w'->nG base w m tr (.returned (.int .i64 x)) w'):=aq (fun w' x k hx ht hb=>by
  have hm:=List.mem_of_getElem? hx
  have hb2:=has x hm
  exact .inl ⟨x,hm,fun hT=>ht ((hR.is_true x hb2.1 hb2.2.1 hb2.2.2).2 hT),rfl,Mut.below hS hb⟩)
 have HN0:Hid (∀wr,Below w.heap.size w wr->NAt base w m wr m):=aq (fun wr hb=>⟨Mut.below hS hb,hok,KeptQ.refl _,hfree⟩)
 have HTA:Hid ((∀x,x∈m.assumed->m.truth x.natAbs=x)->∀x,x∈m.assumed->Tru tr x):=aq (fun h x hx=>by
  have hb2:=has x hx
  exact(hR.is_true x hb2.1 hb2.2.1 hb2.2.2).1 (h x hx))
 have HTK:Hid (∀wr mk,NAt base w m wr mk->∀wx,Below wr.heap.size wr wx->wr.cell? ⟨m.s,7,none⟩=some (.pointer (some ⟨m.q,0,none⟩))/\Calls Tryz.prog 127 #[.pointer (some ⟨m.q,0,none⟩)] wx fun e w'=>(∃mk',e=.returned (.tuple #[.int .i64 0,.bool false])/\NAt base w m w' mk'/\∀v:Nat,0<v->v<=12->m.truth v≠0)∨(∃(v:Nat) (mk':Mem),0<v/\v<=12/\e=.returned (.tuple #[.int .i64 v,.bool true])/\Mut base w m w' mk'/\HeapOK mk'.all mk'.places/\KeptQ m mk'/\(∀u:Nat,0<u->u<=12->m.truth u=0->u≠v->(u:Int)∈mk'.all)/\mk'.all.length+1=mk.all.length)):=aq (by
  intro wr mk h wx hbx
  refine⟨by rw[←h.mu.s,h.mu.at.cell 7 (by decide),←h.mu.q];rfl,?_⟩
  have:=aA4 base mk wx (h.mu.at.below hbx) h.ok
  rw[h.mu.q]at this
  refine this.mono (fun e w' hh=>?_)
  rcases hh with⟨h1,rfl,h3⟩|⟨v,m',h1,rfl,h3,h4,h5,h6⟩
  ·refine .inl ⟨mk,rfl,⟨(h.mu.trans (Mut.below h.mu.at hbx)).trans h3,h.ok,h.kept,h.free⟩,fun v h0 h12 hz=>?_⟩
   have:=h.free v h0 h12 hz
   rw[h1]at this
   cases this
  ·have hb:=h.ok.bd _ h1
   refine .inr ⟨v,m',by omega,by omega,rfl,(h.mu.trans (Mut.below h.mu.at hbx)).trans h3,h4,h.kept.trans h6,fun u h0 h12 hz hne=>?_,rZ h.ok.nodup h4.nodup h1 h5⟩
   exact(h5 u).2 ⟨h.free u h0 h12 hz,by omega⟩)
 have HOP:Hid (∀wr mk v,Mut base w m wr mk->KeptQ m mk->v<=12->Calls Tryz.prog 113 #[.pointer (some ⟨m.s,3,none⟩),.int .i64 ((v:Nat):Int)] wr fun e w'=>e=.returned (.bool (m.truth v==0))/\Mut base w m w' mk):=aq (by
  intro wr mk v hm hk hv
  have:=oE base mk (v:Int) wr hm.at (by omega) (by omega)
  rw[hm.s,Int.natAbs_natCast]at this
  have e:mk.truth v=m.truth v:=by unfold Mem.truth;rw[hk]
  rw[e]at this
  exact this.mono (fun e w' hh=>⟨hh.1,hm.trans (Mut.below hm.at hh.2)⟩))
 have HHL:Hid (∀wr mk,Mut base w m wr mk->heapLen m.q wr=mk.all.length):=aq (fun wr mk h=>by rw[←h.q];exact h.at.heapLen)
 have hss:=hS.lt.1
 clear hS hR hok hfree has hsh hsh'
 generalize hN:m.assumed.length=N at *
 go_enter Tryz.func78,Tryz.ntmps78
 go_wp2
 go_loopw [12] (fun i wr=>∃k:Nat,k<=N/\i=.int .i64 (k:Int)/\Hid (Below w.heap.size w wr)/\Hid (∀x,x∈m.assumed.take k->m.truth x.natAbs=x)) (fun i _=>N-(intOf i).toNat)
 case atStart=>exact⟨0,Nat.zero_le _,rfl,aq (Below.refl _ _),aq (fun x hx=>by simp at hx)⟩
 case round=>
  obtain⟨k,hk,rfl,HB,HT⟩:=hrel
  have hbr:=dz HB
  by_cases hkN:k<N
  ·obtain⟨g,x,rfl,hx,hck,hist⟩:=dz HRD wr k hbr (by omega)
   have HX:=aq hx
   have HTS:Hid (∀y,y∈m.assumed.take (k+1)->y∈m.assumed.take k∨y=x):=aq (fun y hy=>by
    have hlt:=(List.getElem?_eq_some_iff.1 hx)
    rw[List.take_succ_eq_append_getElem hlt.1,hlt.2]at hy
    rcases List.mem_append.1 hy with h|h
    ·exact .inl h
    ·exact .inr (by simpa using h))
   have HIT:=aq (hist wr hbr)
   have hki:(k:Int)<(N:Int):=by omega
   clear hx hist
   by_cases ht:m.truth x.natAbs=x
   ·have hq:(m.truth x.natAbs==x)=true:=by simpa using ht
    rw[hq]at HIT
    have HTX:=aq ht
    clear hq ht
    go_wp2_with fail
    refine(dz HIT).mono ?_
    rintro e w2 ⟨rfl,hb2⟩
    have HB2:=aq hb2
    clear hb2
    go_wp2
    go_roundw
    case rel=>exact⟨k+1,by omega,by go_num,HB2,aq (fun y hy=>by
     rcases dz HTS y hy with h|h
     ·exact dz HT y h
     ·rw[h];exact dz HTX)⟩
    case measure=>simp[intOf];omega
   ·have hq:(m.truth x.natAbs==x)=false:=by simpa using ht
    rw[hq]at HIT
    have HAX:=aq (fun w'=>dz HA w' x k (dz HX) ht)
    clear hq ht
    go_wp2_with fail
    refine(dz HIT).mono ?_
    rintro e w2 ⟨rfl,hb2⟩
    have HB2:=aq hb2
    clear hb2
    go_wp2
    try go_ret
    exact dz HAX _ (dz HB2)
  ·have hki:¬(k:Int)<(N:Int):=by omega
   have HALL:Hid (∀x,x∈m.assumed->Tru tr x):=aq (dz HTA (fun x hx=>dz HT x (by rw[List.take_of_length_le (by omega)];exact hx)))
   have HN1:=aq (dz HN0 wr hbr)
   clear hbr HT HRD HA HTA
   go_wp2
   go_loopw [] (fun wr=>Hid (∃mk,NAt base w m wr mk)) (fun wr=>heapLen m.q wr)
   case atStart=>exact aq ⟨m,dz HN1⟩
   case round=>
    obtain⟨mk,hn⟩:=dz hrel
    obtain⟨c7,htake⟩:=dz HTK _ mk hn _ (Below.refl _ _)
    have HHM:=aq (dz HHL _ mk hn.mu)
    have HTAKE:=aq htake
    clear htake hn hrel
    go_wp2_with fail
    refine(dz HTAKE).mono ?_
    rintro e w3 (⟨mk3,rfl,hn3,hall⟩|⟨v,mk3,hv0,hv12,rfl,hm3,hok3,hk3,hf3,hl3⟩)
    ·have HR:Hid (nG base w m tr (.returned (.int .i64 0)) w3):=aq (.inr ⟨dz HALL,mk3,hn3.mu,hn3.ok,hn3.kept,.inl ⟨rfl,hall⟩⟩)
     clear hn3 hall
     go_wp2
     try go_ret
     exact dz HR
    ·have HO:=aq (dz HOP w3 mk3 v hm3 hk3 hv12)
     have HL3:=aq hl3
     have HK3:=aq (And.intro hok3 (And.intro hk3 hf3))
     clear hl3 hok3 hk3 hf3 hm3
     by_cases hz:m.truth v=0
     ·have hq:(m.truth v==0)=true:=by rw[hz];rfl
      rw[hq]at HO
      have HZ:=aq hz
      clear hq hz
      go_wp2_with fail
      refine(dz HO).mono ?_
      rintro e w4 ⟨rfl,hm4⟩
      have HR:Hid (nG base w m tr (.returned (.int .i64 (-(v:Int)))) w4):=aq (.inr ⟨dz HALL,mk3,hm4,(dz HK3).1,(dz HK3).2.1,.inr ⟨v,hv0,hv12,dz HZ,rfl,(dz HK3).2.2⟩⟩)
      clear hm4
      go_wp2
      try go_ret
      exact dz HR
     ·have hq:(m.truth v==0)=false:=by simpa using hz
      rw[hq]at HO
      have HZ:=aq hz
      clear hq hz
      go_wp2_with fail
      refine(dz HO).mono ?_
      rintro e w4 ⟨rfl,hm4⟩
      have HM4:=aq hm4
      clear hm4
      go_wp2
      go_roundw
      case rel=>exact aq ⟨mk3,dz HM4,(dz HK3).1,(dz HK3).2.1,fun u h0 h12 hu=>(dz HK3).2.2 u h0 h12 hu (fun e=>dz HZ (by rw[←e];exact hu))⟩
      case measure=>
       have h1:=dz HHL _ mk3 (dz HM4)
       have h2:=dz HHM
       have h3:=dz HL3
       rw[h1,h2];omega
end Go.Proofs.YtekkkoipcghlmaaGreatDoor
namespace Go.Proofs.YtekkkoipcghlmaaGreatDoor
open Go.RowKit
structure EAt(base:Nat)(w:World)(m:Mem)(E:List Row):Prop where
 pack:Pack base w (m.rows++E)
 ws:m.ws.length=25
 ls:m.lists.length=25
 counts:m.counts.length=13
 places:m.places.length=13
structure EMut(base:Nat)(w:World)(m:Mem)(E:List Row)(w':World)(m':Mem)(E':List Row):Prop where
 pm:PMut base w (m.rows++E) w' (m'.rows++E')
 ws:m'.ws.length=25
 ls:m'.lists.length=25
 counts:m'.counts.length=13
 places:m'.places.length=13
 s:m'.s=m.s
 q:m'.q=m.q
 qb:m'.qb=m.qb
section
variable {base:Nat}{w w' w1 w2:World}{m m' m1 m2:Mem}{E E' E1 E2:List Row}{r r':Row}{i:Nat}
theorem EAt.at(h:EAt base w m E):SAt base w m:=⟨h.pack.left,h.ws,h.ls,h.counts,h.places⟩
theorem EMut.eat(h:EMut base w m E w' m' E'):EAt base w' m' E':=⟨h.pm.pack,h.ws,h.ls,h.counts,h.places⟩
theorem EMut.at(h:EMut base w m E w' m' E'):SAt base w' m':=h.eat.at
theorem EMut.refl(h:EAt base w m E):EMut base w m E w m E:=⟨PMut.refl h.pack,h.ws,h.ls,h.counts,h.places,rfl,rfl,rfl⟩
theorem EMut.trans(h:EMut base w m E w1 m1 E1)(h':EMut base w1 m1 E1 w2 m2 E2):EMut base w m E w2 m2 E2:=⟨h.pm.trans h'.pm,h'.ws,h'.ls,h'.counts,h'.places,h'.s.trans h.s,h'.q.trans h.q,h'.qb.trans h.qb⟩
theorem EMut.below(h:EAt base w m E)(hb:Below w.heap.size w w'):EMut base w m E w' m E:=⟨PMut.below h.pack hb,h.ws,h.ls,h.counts,h.places,rfl,rfl,rfl⟩
theorem EMut.call(h:EAt base w m E)(hm:Mut base w m w' m'):EMut base w m E w' m' E:=⟨hm.to.frame h.pack,hm.ws,hm.ls,hm.counts,hm.places,hm.s,hm.q,hm.qb⟩
theorem sZ(hi:E[i]?=some r):(m.rows++E)[m.rows.length+i]?=some r:=by rw[List.getElem?_append_right (by omega),Nat.add_sub_cancel_left];exact hi
theorem aI3:(m.rows++E).set (m.rows.length+i) r=m.rows++E.set i r:=by rw[List.set_append,if_neg (by omega),Nat.add_sub_cancel_left]
theorem EMut.row(h:EAt base w m E)(hi:E[i]?=some r)(hr:r'.ok base w')(hg:w.grownBy w' r.v.ownBlock)(hloc:r'.v.ownBlock=none∨r'.v.ownBlock=r.v.ownBlock∨∃g,r'.v.ownBlock=some g/\w.heap.size<=g):EMut base w m E w' m (E.set i r'):=by
 have:=PMut.row h.pack (sZ (m:=m) hi) hr hg hloc
 rw[aI3]at this
 exact⟨this,h.ws,h.ls,h.counts,h.places,rfl,rfl,rfl⟩
theorem EMut.store(h:EAt base w m E)(hi:E[i]?=some r){g cap:Nat}(hv:r.v=.slice (some ⟨g,0,none⟩) r.n cap)(j:Nat)(u:Value):EMut base w m E (w.setCell ⟨g,j,none⟩ u) m (E.set i ⟨r.ty,r.sz,r.v,r.n,r.xs.set j u⟩):=by
 have:=PMut.store h.pack (sZ (m:=m) hi) hv j u
 rw[aI3]at this
 exact⟨this,h.ws,h.ls,h.counts,h.places,rfl,rfl,rfl⟩
theorem EMut.add(h:EAt base w m E)(hr:r.ok base w')(hb:Below w.heap.size w w')(hn:∀g,r.v.ownBlock=some g->w.heap.size<=g):EMut base w m E w' m (E++[r]):=by
 refine⟨⟨?_,Only.of_below _ hb,fun k hk=>?_⟩,h.ws,h.ls,h.counts,h.places,rfl,rfl,rfl⟩
 ·have:=h.pack.add hr hb hn
  rw[List.append_assoc]at this
  exact this
 ·rw[←List.append_assoc]at hk
  rcases dP.1 hk with h1|⟨i,q,hi,hq⟩
  ·exact .inl h1
  ·have hl:=(List.getElem?_eq_some_iff.1 hi).1
   simp at hl
   subst hl
   simp at hi
   subst hi
   exact .inr (hn k hq)
theorem EMut.drop(h:EAt base w m (E++[r])):EMut base w m (E++[r]) w m E:=by
 have hp:=h.pack
 rw[←List.append_assoc]at hp
 refine⟨⟨hp.left,Only.refl _ _,fun k hk=>.inl ?_⟩,h.ws,h.ls,h.counts,h.places,rfl,rfl,rfl⟩
 rw[←List.append_assoc]
 exact dP.2 (.inl hk)
theorem EMut.mut(h:EMut base w m [] w' m' []):Mut base w m w' m':=by
 have:=h.pm
 rw[List.append_nil,List.append_nil]at this
 exact⟨this,h.ws,h.ls,h.counts,h.places,h.s,h.q,h.qb⟩
theorem SAt.eat(h:SAt base w m):EAt base w m []:=⟨by rw[List.append_nil];exact h.pack,h.ws,h.ls,h.counts,h.places⟩
end
def iJ(l:List Bool):List Value:=l.map Value.bool
def aJ(v:Value)(l:List Bool):Row:=⟨4,1,v,l.length,iJ l⟩
theorem lT(l:List Bool)(j:Nat)(x:Bool):iJ (l.set j x)=(iJ l).set j (.bool x):=by simp[iJ,List.map_set]
theorem cP{base:Nat}{w:World}{m:Mem}{E:List Row}(h:EAt base w m E){i:Nat}{v:Value}{l:List Bool}(hi:E[i]?=some (aJ v l))(hl:l.length=13):∃g cap,v=.slice (some ⟨g,0,none⟩) 13 cap/\g<w.heap.size/\(∀j x,l[j]?=some x->w.cell? ⟨g,j,none⟩=some (.bool x))/\(∀j,w.frozen? ⟨g,j,none⟩=false)/\∀j x,EMut base w m E (w.setCell ⟨g,j,none⟩ (.bool x)) m (E.set i (aJ v (l.set j x))):=by
 have hr:=h.pack.rows _ _ (sZ (m:=m) hi)
 unfold Row.ok aJ at hr
 simp only[hl]at hr
 obtain⟨g,cap,hv,-,hg⟩:=World.ownsRow.form hr (by decide)
 have hr':=hr
 rw[hv]at hr'
 refine⟨g,cap,hv,hg,fun j x hx=>?_,fun j=>hr'.frozenAt j,fun j x=>?_⟩
 ·have hj:=(List.getElem?_eq_some_iff.1 hx).1
  rw[hr'.cellAt j (by omega)]
  simp[iJ,hx]
 ·have:=EMut.store h hi (g:=g) (cap:=cap) (by show v=Value.slice _ l.length _;rw[hl];exact hv) j (.bool x)
  have e:(⟨(aJ v l).ty,(aJ v l).sz,(aJ v l).v,(aJ v l).n,(aJ v l).xs.set j (.bool x)⟩:Row)=aJ v (l.set j x):=by
   unfold aJ
   simp only[List.length_set,lT]
  rw[e]at this
  exact this
end Go.Proofs.YtekkkoipcghlmaaGreatDoor
