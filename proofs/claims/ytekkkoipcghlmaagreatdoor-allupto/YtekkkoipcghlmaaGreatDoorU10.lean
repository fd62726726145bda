import Derived.Test.YtekkkoipcghlmaaGreatDoorU09
set_option linter.all false
namespace Go.Proofs.YtekkkoipcghlmaaGreatDoor
open Go.RowKit
attribute [local go_sem ↓] Go.wp_at_zero Go.wp_at_succ
theorem HeapOK.push{all places:List Int}(h:HeapOK all places){v:Nat}(h0:0<v)(h12:v<=12)(hn:(v:Int)∉all):HeapOK (all++[(v:Int)]) (places.set v ((all.length:Int)+1)):=by
 have hlen:=h.len
 refine⟨?_,fun u hu=>?_,by simp[hlen],fun i u hi=>?_,fun u hu0 hu13 hun=>?_⟩
 ·rw[List.nodup_append]
  refine⟨h.nodup,by simp,?_⟩
  rintro a ha b hb rfl
  simp at hb;subst hb;exact hn ha
 ·rcases List.mem_append.1 hu with hu|hu
  ·exact h.bd u hu
  ·simp at hu;omega
 ·by_cases hi':i<all.length
  ·rw[List.getElem?_append_left hi']at hi
   have hu:=h.bd u (List.mem_of_getElem? hi)
   have hne:u≠v:=fun e=>hn (by rw[←e];exact List.mem_of_getElem? hi)
   rw[List.getElem?_set_ne (by omega)]
   exact h.there i u hi
  ·rw[List.getElem?_append_right (by omega)]at hi
   have hlt:=(List.getElem?_eq_some_iff.1 hi).1
   simp at hlt
   have:i=all.length:=by omega
   subst this
   simp at hi
   subst hi
   rw[Int.toNat_natCast,List.getElem?_set_self (by omega)]
 ·have h1:(u:Int)∉all:=fun hm=>hun (List.mem_append.2 (.inl hm))
  have h2:u≠v:=fun e=>hun (by rw[e];simp)
  rw[List.getElem?_set_ne (fun e=>h2 e.symm)]
  exact h.gone u hu0 hu13 h1
theorem HeapOK.pop{all places:List Int}{x:Int}(h:HeapOK (all++[x]) places):HeapOK all (places.set x.toNat 0)/\x∉all:=by
 have hn:=h.nodup
 rw[List.nodup_append]at hn
 have hx:x∉all:=fun hm=>hn.2.2 x hm x (by simp) rfl
 have bx:=h.bd x (by simp)
 have hlen:=h.len
 refine⟨⟨hn.1,fun v hv=>h.bd v (by simp[hv]),by simp[hlen],fun i v hi=>?_,fun v h0 h13 hv=>?_⟩,hx⟩
 ·have hv:=h.bd v (by simp[List.mem_of_getElem? hi])
  have hne:v≠x:=fun e=>hx (by rw[←e];exact List.mem_of_getElem? hi)
  rw[List.getElem?_set_ne (by omega)]
  exact h.there i v (by rw[List.getElem?_append_left (List.getElem?_eq_some_iff.1 hi).1];exact hi)
 ·by_cases e:(v:Int)=x
  ·have:x.toNat=v:=by omega
   rw[this,List.getElem?_set_self (by omega)]
  ·rw[List.getElem?_set_ne (by omega)]
   exact h.gone v h0 h13 (by simp[hv];exact e)
section
variable {base:Nat}{w:World}{m:Mem}
def Mem.heaped(m:Mem)(v:Value)(l:List Int):Mem:={ m with al:=v,all:=l }
theorem Mut.heaped(h:SAt base w m){w4:World}{g cap:Nat}{x:Int}(hown:w4.ownsRow base 3 1 (.slice (some ⟨g,0,none⟩) (m.all.length+1) cap) (m.all.length+1) (ints m.all++[.int .i64 x])){wz:World}(hz:Below w.heap.size w wz)(hgr:wz.grownBy w4 m.al.ownBlock)(hloc:m.al.ownBlock=some g∨g=wz.heap.size):
  Mut base w m (w4.setCell ⟨m.q,2,none⟩ (.slice (some ⟨g,0,none⟩) (m.all.length+1) cap)) (m.heaped (.slice (some ⟨g,0,none⟩) (m.all.length+1) cap) (m.all++[x]))/\w4.cell? ⟨m.q,2,none⟩=some m.al/\w4.frozen? ⟨m.q,2,none⟩=false:=by
 have h1:=PMut.below h.pack hz
 have hzs:=hz.size
 have h2:=PMut.row h1.pack (i:=8) (r':=aB (.slice (some ⟨g,0,none⟩) (m.all.length+1) cap) (m.all++[x])) rfl (by unfold Row.ok aB;rw[cV,List.length_append];exact hown) hgr (by
  rcases hloc with h|h
  ·exact .inr (.inl h.symm)
  ·exact .inr (.inr ⟨g,rfl,by omega⟩))
 have h3:=PMut.store h2.pack (i:=1) rfl rfl 2 (.slice (some ⟨g,0,none⟩) (m.all.length+1) cap)
 refine⟨⟨h1.trans (h2.trans h3),h.ws,h.ls,h.counts,h.places,rfl,rfl,rfl⟩,?_,?_⟩
 ·exact World.ownsRow.cellAt (h2.pack.rows 1 _ rfl) 2 (by simp[aI,Mem.qCells])
 ·exact World.ownsRow.frozenAt (h2.pack.rows 1 _ rfl) 2
theorem Mut.cutHeap(h:SAt base w m){g cap n:Nat}(hv:m.al=.slice (some ⟨g,0,none⟩) m.all.length cap)(hn:n<=m.all.length):Mut base w m (w.setCell ⟨m.q,2,none⟩ (.slice (some ⟨g,0,none⟩) n cap)) (m.heaped (.slice (some ⟨g,0,none⟩) n cap) (m.all.take n)):=by
 have h2:=PMut.cut h.pack (i:=8) (r:=aB m.al m.all) rfl (g:=g) (cap:=cap) (m:=n) hv hn
 have e:(⟨3,1,.slice (some ⟨g,0,none⟩) n cap,n,(ints m.all).take (n*1)⟩:Row)=aB (.slice (some ⟨g,0,none⟩) n cap) (m.all.take n):=by
  unfold aB
  rw[Nat.mul_one,List.length_take,Nat.min_eq_left hn]
  congr 1
  simp[ints,List.map_take]
 have h2':PMut base w m.rows w (m.rows.set 8 (aB (.slice (some ⟨g,0,none⟩) n cap) (m.all.take n))):=by rw[←e];exact h2
 have h3:=PMut.store h2'.pack (i:=1) rfl rfl 2 (.slice (some ⟨g,0,none⟩) n cap)
 exact⟨h2'.trans h3,h.ws,h.ls,h.counts,h.places,rfl,rfl,rfl⟩
end
def yM(base:Nat)(w:World)(m0:Mem)(v:Nat)(w':World):Prop:=∃m,Mut base w m0 w' m/\HeapOK m.all m.places/\(∀u,u∈m.all↔u∈m0.all∨u=(v:Int))/\KeptQ m0 m
set_option maxRecDepth 100000 in
set_option maxHeartbeats 6400000 in
theorem aO4(base:Nat)(m0:Mem)(v:Nat)(w:World)(hS:SAt base w m0)(hok:HeapOK m0.all m0.places)(hv0:0<v)(hv:v<=12)(hbs:base<=w.heap.size):
  Calls Tryz.prog 109 #[.pointer (some ⟨m0.q,0,none⟩),.int .i64 v] w fun e w'=>e=.returned (.tuple #[])/\yM base w m0 v w':=by
 obtain⟨g4,cap4,hpl,hg4,hcell4,hfz4⟩:=hS.placesAt
 have hq1:w.cell? ⟨m0.q,1,none⟩=some (.func (.func 108) #[] #[.pointer (some ⟨m0.qb,0,none⟩)]):=by rw[hS.qcell 1 (by decide)];rfl
 have hq2:w.cell? ⟨m0.q,2,none⟩=some m0.al:=by rw[hS.qcell 2 (by decide)];rfl
 have hq4:w.cell? ⟨m0.q,4,none⟩=some (.slice (some ⟨g4,0,none⟩) 13 cap4):=by rw[hS.qcell 4 (by decide),←hpl];rfl
 have hqb:=hS.bcell
 have hcv:=hcell4 v (by rw[hS.places];omega)
 have HC:=aq (dH m0.q m0.qb g4 cap4 v w hqb hq4 hv)
 have hl12:=hok.len12
 have hgv:m0.places[v]?=some (m0.places[v]'(by rw[hS.places];omega)):=List.getElem?_eq_getElem _
 by_cases hm:(v:Int)∈m0.all
 ·obtain⟨i,hi⟩:=List.getElem?_of_mem hm
  have h1:=hok.there i _ hi
  rw[Int.toNat_natCast,hgv]at h1
  simp only[Option.some.injEq]at h1
  rw[h1]at hcv
  have hne:(((i:Int)+1) != 0)=true:=by simp;omega
  have HR:Hid (∀w',Below w.heap.size w w'->yM base w m0 v w'):=aq (fun w' hb=>⟨m0,Mut.below hS hb,hok,fun u=>⟨.inl,fun h=>h.elim id (fun e=>by rw[e];exact hm)⟩,KeptQ.refl _⟩)
  clear hS hok hpl hcell4 hfz4 hgv h1 hi hm
  go_enter Tryz.func109,Tryz.ntmps109
  go_wp2_with fail
  refine(dz HC).mono ?_
  rintro e w1 ⟨rfl,n1,rfl⟩
  go_wp2
  try go_end0
  try (refine bodyPost_ret (results_none rfl _ _ _) rfl ?_)
  exact⟨rfl,dz HR _ (aG (Below.refl _ _) _)⟩
 ·have h1:=hok.gone v hv0 (by omega) hm
  rw[hgv]at h1
  simp only[Option.some.injEq]at h1
  rw[h1]at hcv
  have HROW:Hid (w.ownsRow base 3 1 m0.al m0.all.length (ints m0.all)):=aq (hS.pack.rows 8 _ rfl)
  obtain⟨ao,cp,hsh⟩:=aC (dz HROW)
  have HROWB:Hid (∀wx,Below w.heap.size w wx->wx.ownsRow base 3 1 m0.al m0.all.length (ints m0.all)):=aq (fun wx hb=>aR (dz HROW) hb)
  have HO:Hid (∀(wz w4:World) (g cap:Nat),w4.ownsRow base 3 1 (.slice (some ⟨g,0,none⟩) (m0.all.length+1) cap) (m0.all.length+1) (ints m0.all++[.int .i64 (v:Int)])->Below w.heap.size w wz->wz.grownBy w4 m0.al.ownBlock->(m0.al.ownBlock=some g∨g=wz.heap.size)->
    Mut base w m0 (w4.setCell ⟨m0.q,2,none⟩ (.slice (some ⟨g,0,none⟩) (m0.all.length+1) cap)) (m0.heaped (.slice (some ⟨g,0,none⟩) (m0.all.length+1) cap) (m0.all++[(v:Int)]))/\w4.cell? ⟨m0.q,2,none⟩=some m0.al/\w4.frozen? ⟨m0.q,2,none⟩=false):=aq (fun wz w4 g cap ho hz hg hl=>Mut.heaped hS ho hz hg hl)
  have HQ:Hid (∀(w1:World) (al:Value),Mut base w m0 w1 (m0.heaped al (m0.all++[(v:Int)]))->∃ao2 cp2,w1.cell? ⟨m0.q,1,none⟩=some (.func (.func 108) #[] #[.pointer (some ⟨m0.qb,0,none⟩)])/\w1.cell? ⟨m0.q,2,none⟩=some (.slice ao2 (m0.all.length+1) cp2)/\w1.cell? ⟨g4,v,none⟩=some (.int .i64 0)/\w1.frozen? ⟨g4,v,none⟩=false/\(∀wx,(∃n,wx=w1.drewN n)->Calls Tryz.prog 108 #[.int .i64 v,.pointer (some ⟨m0.qb,0,none⟩)] wx fun e w'=>e=.returned (.pointer (some ⟨g4,v,none⟩))/\∃n,w'=wx.drewN n)/\∀wq,Below w1.heap.size w1 wq->Mut base w m0 (wq.setCell ⟨g4,v,none⟩ (.int .i64 ((m0.all.length:Int)+1))) ((m0.heaped al (m0.all++[(v:Int)])).placeSet v ((m0.all.length:Int)+1))):=aq (by
   intro w1 al hm1
   have hlen:(m0.heaped al (m0.all++[(v:Int)])).all.length=m0.all.length+1:=by show(m0.all++[(v:Int)]).length=_;simp
   obtain⟨g,cap,g5,cap5,k1,k2,k3,k4,k5,k6,k7,k8,k9,k10,k11,k12,k13⟩:=hm1.at.queueAt (by rw[hlen];omega)
   rw[hlen]at k7
   have hpl5:m0.pl=.slice (some ⟨g5,0,none⟩) 13 cap5:=k2
   have e5:=hpl5
   rw[hpl]at e5
   simp only[Value.slice.injEq,Option.some.injEq,Addr.mk.injEq,and_true,true_and]at e5
   obtain⟨rfl,rfl⟩:=e5
   have k12v:=k12 v (by rw[hm1.places];omega)
   have hz:(m0.heaped al (m0.all++[(v:Int)])).places[v]'(by rw[hm1.places];omega)=0:=h1
   rw[hz]at k12v
   refine⟨_,_,k6,k7,k12v,k13 v,fun wx hx=>?_,fun wq hq=>?_⟩
   ·obtain⟨n,rfl⟩:=hx
    exact dH m0.q m0.qb g4 cap4 v (w1.drewN n) k9 k8 hv
   ·have hb:=Mut.below hm1.at hq
    exact(hm1.trans hb).trans (Mut.placeSet hb.at hpl v _))
  have HR:Hid (∀(w2:World) (al:Value),Mut base w m0 w2 ((m0.heaped al (m0.all++[(v:Int)])).placeSet v ((m0.all.length:Int)+1))->Calls Tryz.prog 154 #[.pointer (some ⟨m0.q,0,none⟩),.int .i64 v] w2 fun e w'=>e=.returned (.tuple #[])/\yM base w m0 v w'):=aq (by
   intro w2 al hm2
   have:=wH base _ v w2 hm2.at (hok.push hv0 hv hm) hv0 hv
   refine this.mono (fun e w' hh=>?_)
   obtain⟨he,m,hA⟩:=hh
   refine⟨he,m,hm2.trans hA.mu,hA.ok,fun u=>?_,KeptQ.trans (b:=(m0.heaped al (m0.all++[(v:Int)])).placeSet v ((m0.all.length:Int)+1)) rfl hA.kept⟩
   rw[hA.same]
   show u∈m0.all++[(v:Int)]↔_
   simp)
  clear hS hok hpl hcell4 hfz4 hgv h1 hm
  generalize hN:m0.all.length=N at *
  clear hN
  generalize ints m0.all=io at *
  generalize m0.al=ov at *
  subst hsh
  go_enter Tryz.func109,Tryz.ntmps109
  go_wp2_with fail
  refine(dz HC).mono ?_
  rintro e w1 ⟨rfl,n1,rfl⟩
  go_wp2_with (at_builtin;refine bY (base:=base) rfl _ _ 25 3 rfl Tryz.underlying25 Tryz.infoInt rfl (by decide) (dz HROWB _ (aG (Below.refl _ _) _)) rfl rfl rfl (by omega) hbs ?_;intro g' cap' w4 hown4 hgr4 hloc;have HMID:=aq (dz HO _ _ _ _ hown4 ((aG (Below.refl _ _) _).alloc (Nat.le_refl _) _) hgr4 hloc);clear hown4 hgr4 hloc;have hc04:=(dz HMID).2.1;have hf04:=(dz HMID).2.2)
  obtain⟨ao2,cp2,k1,k2,k3,k4,k5,k6⟩:=dz HQ _ _ (dz HMID).1
  have HK5:=aq k5
  have HK6:=aq k6
  generalize hw5:w4.setCell ⟨m0.q,2,none⟩ (.slice (some ⟨g',0,none⟩) (N+1) cap')=w5 at *
  clear hw5 k5 k6 hc04 hf04
  go_cut [] (fun wx=>Hid (∃al,Mut base w m0 wx ((m0.heaped al (m0.all++[(v:Int)])).placeSet v ((N:Int)+1))))
  case first=>
   go_region_with (go_at_call 108;refine(dz HK5 _ (by first|exact⟨0,rfl⟩|exact⟨1,rfl⟩|exact⟨2,rfl⟩)).mono ?_;rintro e w3 ⟨rfl,n3,rfl⟩)
   all_goals go_wp2_with fail
   all_goals go_meet
   all_goals exact aq ⟨_,dz HK6 _ (aG (Below.refl _ _) _)⟩
  case rest=>
   obtain⟨w6,rfl⟩:∃w6,w6=wc:=⟨wc,rfl⟩
   obtain⟨al6,hm6⟩:=dz hcut
   have HR6:=aq (dz HR _ _ hm6)
   clear hm6 hcut
   go_wp2_with fail
   refine(dz HR6).mono ?_
   rintro e w7 ⟨rfl,hp7⟩
   have HP7:=aq hp7
   clear hp7
   go_wp2
   try go_end0
   exact⟨rfl,dz HP7⟩
def sP(base:Nat)(w:World)(m0:Mem)(e:Ending)(w':World):Prop:=
 (m0.all=[]/\e=.returned (.tuple #[.int .i64 0,.bool false])/\Mut base w m0 w' m0)∨
 ∃(v:Nat) (m:Mem),(v:Int)∈m0.all/\e=.returned (.tuple #[.int .i64 v,.bool true])/\Mut base w m0 w' m/\HeapOK m.all m.places/\(∀u,u∈m.all↔u∈m0.all/\u≠(v:Int))/\KeptQ m0 m
end Go.Proofs.YtekkkoipcghlmaaGreatDoor
namespace Go.Proofs.YtekkkoipcghlmaaGreatDoor
open Go.RowKit
attribute [local go_sem ↓] Go.wp_at_zero Go.wp_at_succ
theorem aF2{all places:List Int}{N x:Nat}{y:Int}(hok:HeapOK all places)(hN:all.length=N+1)(hx:all[0]?=some (x:Int))(hy:all[N]?=some y):HeapOK (((all.set 0 y).set N x).take N) (((places.set y.toNat (((0:Nat):Int)+1)).set x ((N:Int)+1)).set x 0)/\∀u,u∈((all.set 0 y).set N x).take N↔u∈all/\u≠(x:Int):=by
 have hok1:=hok.swap hx hy
 have hsplit:(all.set 0 y).set N x=((all.set 0 y).set N x).take N++[(x:Int)]:=by
  have hlen:((all.set 0 y).set N (x:Int)).length=N+1:=by simp[hN]
  have h1:=List.take_succ_eq_append_getElem (l:=(all.set 0 y).set N (x:Int)) (i:=N) (by omega)
  rw[List.take_of_length_le (by omega),List.getElem_set_self]at h1
  exact h1
 rw[hsplit]at hok1
 obtain⟨p1,p2⟩:=hok1.pop
 rw[Int.toNat_natCast]at p1
 refine⟨p1,fun u=>?_⟩
 have hm:=kV hx hy u
 rw[hsplit,List.mem_append,List.mem_singleton]at hm
 constructor
 ·intro hu
  exact⟨hm.1 (.inl hu),fun e=>by subst e;exact p2 hu⟩
 ·rintro⟨h1,h2⟩
  exact(hm.2 h1).resolve_right h2
def Mem.t1(m:Mem)(N x:Nat)(y:Int):Mem:={ m with all:=(m.all.set 0 y).set N (x:Int),places:=(m.places.set y.toNat (((0:Nat):Int)+1)).set x ((N:Int)+1) }
def Mem.t2(m:Mem)(N x:Nat)(y:Int):Mem:={ m with all:=((m.all.set 0 y).set N (x:Int)).set N 0,places:=(m.places.set y.toNat (((0:Nat):Int)+1)).set x ((N:Int)+1) }
def Mem.t3(m:Mem)(N x:Nat)(y:Int)(al:Value):Mem:={ m with al:=al,all:=((m.all.set 0 y).set N (x:Int)).take N,places:=(m.places.set y.toNat (((0:Nat):Int)+1)).set x ((N:Int)+1) }
def Mem.t4(m:Mem)(N x:Nat)(y:Int)(al:Value):Mem:={ m with al:=al,all:=((m.all.set 0 y).set N (x:Int)).take N,places:=((m.places.set y.toNat (((0:Nat):Int)+1)).set x ((N:Int)+1)).set x 0 }
theorem t1_eq(m:Mem)(N x:Nat)(y:Int):m.swapped 0 N (x:Int) y=m.t1 N x y:=by
 unfold Mem.swapped Mem.t1 Mem.placeSet Mem.allSet
 rw[Int.toNat_natCast]
section
variable {base:Nat}{w:World}{m0:Mem}{N x:Nat}{y:Int}
theorem T1.next{w2 wq:World}{g cap:Nat}(hN:m0.all.length=N+1)(hal:m0.al=.slice (some ⟨g,0,none⟩) (N+1) cap)(hm:Mut base w m0 w2 (m0.t1 N x y))(hq:Below w2.heap.size w2 wq):Mut base w m0 (wq.setCell ⟨g,N,none⟩ (.int .i64 0)) (m0.t2 N x y):=by
 have hb:=Mut.below hm.at hq
 have hlen:(m0.t1 N x y).all.length=N+1:=by show((m0.all.set 0 y).set N (x:Int)).length=_;simp[hN]
 have:=Mut.allSet hb.at (g:=g) (cap:=cap) (by rw[hlen];exact hal) N 0
 exact(hm.trans hb).trans this
theorem T2.next{w2 wq:World}{g cap:Nat}(hN:m0.all.length=N+1)(hal:m0.al=.slice (some ⟨g,0,none⟩) (N+1) cap)(hm:Mut base w m0 w2 (m0.t2 N x y))(hq:Below w2.heap.size w2 wq):Mut base w m0 (wq.setCell ⟨m0.q,2,none⟩ (.slice (some ⟨g,0,none⟩) N cap)) (m0.t3 N x y (.slice (some ⟨g,0,none⟩) N cap)):=by
 have hb:=Mut.below hm.at hq
 have hlen:(m0.t2 N x y).all.length=N+1:=by show(((m0.all.set 0 y).set N (x:Int)).set N 0).length=_;simp[hN]
 have:=Mut.cutHeap (n:=N) hb.at (g:=g) (cap:=cap) (by rw[hlen];exact hal) (by omega)
 have e:(m0.t2 N x y).heaped (.slice (some ⟨g,0,none⟩) N cap) ((m0.t2 N x y).all.take N)=m0.t3 N x y (.slice (some ⟨g,0,none⟩) N cap):=by
  unfold Mem.heaped Mem.t2 Mem.t3
  simp only[List.take_set_of_le (Nat.le_refl N)]
 rw[e]at this
 exact(hm.trans hb).trans this
theorem T3.next{w2 wq:World}{g4 cap4:Nat}{al:Value}(hpl:m0.pl=.slice (some ⟨g4,0,none⟩) 13 cap4)(hm:Mut base w m0 w2 (m0.t3 N x y al))(hq:Below w2.heap.size w2 wq):Mut base w m0 (wq.setCell ⟨g4,x,none⟩ (.int .i64 0)) (m0.t4 N x y al):=by
 have hb:=Mut.below hm.at hq
 have:=Mut.placeSet hb.at (g:=g4) (cap:=cap4) hpl x 0
 exact(hm.trans hb).trans this
theorem T4.sink{w4:World}{al:Value}(hok:HeapOK m0.all m0.places)(hN:m0.all.length=N+1)(hx:m0.all[0]?=some (x:Int))(hy:m0.all[N]?=some y)(hm:Mut base w m0 w4 (m0.t4 N x y al)):Calls Tryz.prog 169 #[.pointer (some ⟨m0.q,0,none⟩)] w4 fun e w'=>e=.returned (.tuple #[])/\sP base w m0 (.returned (.tuple #[.int .i64 x,.bool true])) w':=by
 obtain⟨p1,p2⟩:=aF2 hok hN hx hy
 have:=aJ5 base (m0.t4 N x y al) w4 hm.at p1
 refine this.mono (fun e w' hh=>?_)
 obtain⟨he,m,hA⟩:=hh
 refine⟨he,.inr ⟨x,m,List.mem_of_getElem? hx,rfl,hm.trans hA.mu,hA.ok,fun u=>?_,KeptQ.trans (b:=m0.t4 N x y al) rfl hA.kept⟩⟩
 rw[hA.same]
 exact p2 u
end
end Go.Proofs.YtekkkoipcghlmaaGreatDoor
namespace Go.Proofs.YtekkkoipcghlmaaGreatDoor
open Go.RowKit
attribute [local go_sem ↓] Go.wp_at_zero Go.wp_at_succ
section
variable {base:Nat}{w:World}{m0 m1:Mem}{w1:World}
theorem qK{g cap N:Nat}(hm:Mut base w m0 w1 m1)(hal:m1.al=.slice (some ⟨g,0,none⟩) (N+1) cap)(hl:m1.all.length=N+1):w1.cell? ⟨m0.q,2,none⟩=some (.slice (some ⟨g,0,none⟩) (N+1) cap)/\w1.frozen? ⟨m0.q,2,none⟩=false/\(∃z,w1.cell? ⟨g,N,none⟩=some (.int .i64 z))/\w1.frozen? ⟨g,N,none⟩=false:=by
 obtain⟨g1,cap1,q1,q2,q3,q4⟩:=hm.at.heap (by omega)
 have q1':=q1
 rw[hal,hl]at q1'
 simp only[Value.slice.injEq,Option.some.injEq,Addr.mk.injEq,and_true,true_and]at q1'
 obtain⟨rfl,rfl⟩:=q1'
 refine⟨?_,?_,⟨_,q3 N (by omega)⟩,q4 N⟩
 ·rw[←hm.q,hm.at.qcell 2 (by decide),←hal];rfl
 ·rw[←hm.q];exact hm.at.qfree 2
theorem xQ{g4 cap4 x:Nat}(hm:Mut base w m0 w1 m1)(hpl:m1.pl=.slice (some ⟨g4,0,none⟩) 13 cap4)(hx:x<=12):w1.cell? ⟨m0.q,1,none⟩=some (.func (.func 108) #[] #[.pointer (some ⟨m0.qb,0,none⟩)])/\(∃z,w1.cell? ⟨g4,x,none⟩=some (.int .i64 z))/\w1.frozen? ⟨g4,x,none⟩=false/\∀wx,(∃n,wx=w1.drewN n)->Calls Tryz.prog 108 #[.int .i64 x,.pointer (some ⟨m0.qb,0,none⟩)] wx fun e w'=>e=.returned (.pointer (some ⟨g4,x,none⟩))/\∃n,w'=wx.drewN n:=by
 obtain⟨g5,cap5,k1,k2,k3,k4⟩:=hm.at.placesAt
 have k1':=k1
 rw[hpl]at k1'
 simp only[Value.slice.injEq,Option.some.injEq,Addr.mk.injEq,and_true,true_and]at k1'
 obtain⟨rfl,rfl⟩:=k1'
 have hq4:w1.cell? ⟨m0.q,4,none⟩=some (.slice (some ⟨g4,0,none⟩) 13 cap4):=by rw[←hm.q,hm.at.qcell 4 (by decide),←k1];rfl
 have hqb:w1.cell? ⟨m0.qb,0,none⟩=some (.pointer (some ⟨m0.q,0,none⟩)):=by rw[←hm.qb,←hm.q];exact hm.at.bcell
 refine⟨?_,⟨_,k3 x (by have:=hm.places;omega)⟩,k4 x,fun wx hx'=>?_⟩
 ·rw[←hm.q,←hm.qb,hm.at.qcell 1 (by decide)];rfl
 ·obtain⟨n,rfl⟩:=hx'
  exact dH m0.q m0.qb g4 cap4 x (w1.drewN n) hqb hq4 hx
end
set_option maxRecDepth 100000 in
set_option maxHeartbeats 3200000 in
theorem aA4(base:Nat)(m0:Mem)(w:World)(hS:SAt base w m0)(hok:HeapOK m0.all m0.places):
  Calls Tryz.prog 127 #[.pointer (some ⟨m0.q,0,none⟩)] w fun e w'=>sP base w m0 e w':=by
 have hl12:=hok.len12
 by_cases h0:m0.all.length=0
 ·have hnil:m0.all=[]:=List.length_eq_zero_iff.1 h0
  have hq2:w.cell? ⟨m0.q,2,none⟩=some m0.al:=by rw[hS.qcell 2 (by decide)];rfl
  obtain⟨ao,cp,hsh⟩:=aC (hS.pack.rows 8 _ rfl)
  have hsh':m0.al=.slice ao m0.all.length cp:=hsh
  rw[hsh',h0]at hq2
  have HR:Hid (sP base w m0 (.returned (.tuple #[.int .i64 0,.bool false])) w):=aq (.inl ⟨hnil,rfl,Mut.refl hS⟩)
  clear hS hok hsh hsh' hnil h0
  go_enter Tryz.func127,Tryz.ntmps127
  go_wp2
  try go_ret2
  exact dz HR
 ·obtain⟨N,hN⟩:∃N,m0.all.length=N+1:=⟨m0.all.length-1,by omega⟩
  obtain⟨x,hx⟩:∃x:Nat,m0.all[0]?=some (x:Int):=by
   have h1:m0.all[0]?=some m0.all[0]:=List.getElem?_eq_getElem (by omega)
   have:=hok.bd _ (List.mem_of_getElem? h1)
   exact⟨m0.all[0].toNat,by rw[h1,Int.toNat_of_nonneg (by omega)]⟩
  obtain⟨y,hy⟩:∃y,m0.all[N]?=some y:=⟨m0.all[N],List.getElem?_eq_getElem (by omega)⟩
  have bx:=hok.bd _ (List.mem_of_getElem? hx)
  obtain⟨g,cap,hal,hg,hcell,hfz⟩:=hS.heap (by omega)
  rw[hN]at hal
  have hcap:N+1<=cap:=by
   have hr:=hS.pack.rows 8 _ rfl
   unfold Row.ok aB at hr
   simp only[hal]at hr
   rcases hr.2 with⟨h',_⟩|⟨g',cap',cur,h',_,_,hle,_⟩
   ·simp at h'
   ·simp only[Value.slice.injEq]at h'
    have:=h'.2.2
    omega
  have hcapi:(N:Int)<=(cap:Int):=by omega
  have hcapn:¬(cap:Int)<(N:Int):=by omega
  obtain⟨g4,cap4,hpl,-,-,-⟩:=hS.placesAt
  have hq2:w.cell? ⟨m0.q,2,none⟩=some (.slice (some ⟨g,0,none⟩) (N+1) cap):=by rw[hS.qcell 2 (by decide),←hal];rfl
  have hc0:w.cell? ⟨g,0,none⟩=some (.int .i64 (x:Int)):=by
   rw[hcell 0 (by omega)]
   rw[List.getElem?_eq_getElem (by omega)]at hx
   simp only[Option.some.injEq]at hx
   rw[hx]
  have HSW:Hid (∀wx,Below w.heap.size w wx->Calls Tryz.prog 168 #[.pointer (some ⟨m0.q,0,none⟩),.int .i64 1,.int .i64 ((N:Int)+1)] wx fun e w'=>e=.returned (.tuple #[])/\Mut base w m0 w' (m0.t1 N x y)):=aq (fun wx hb=>(nJ base m0 0 N _ _ wx (hS.below hb) hx hy hok.bd hl12).mono (fun e w' hh=>⟨hh.1,by rw[←t1_eq];exact(Mut.below hS hb).trans hh.2⟩))
  have HT1:Hid (∀w1,Mut base w m0 w1 (m0.t1 N x y)->w1.cell? ⟨m0.q,2,none⟩=some (.slice (some ⟨g,0,none⟩) (N+1) cap)/\w1.frozen? ⟨m0.q,2,none⟩=false/\(∃z,w1.cell? ⟨g,N,none⟩=some (.int .i64 z))/\w1.frozen? ⟨g,N,none⟩=false):=aq (fun w1 hm=>qK hm hal (by show((m0.all.set 0 y).set N (x:Int)).length=_;simp[hN]))
  have HT2:Hid (∀w1,Mut base w m0 w1 (m0.t2 N x y)->w1.cell? ⟨m0.q,2,none⟩=some (.slice (some ⟨g,0,none⟩) (N+1) cap)/\w1.frozen? ⟨m0.q,2,none⟩=false/\(∃z,w1.cell? ⟨g,N,none⟩=some (.int .i64 z))/\w1.frozen? ⟨g,N,none⟩=false):=aq (fun w1 hm=>qK hm hal (by show(((m0.all.set 0 y).set N (x:Int)).set N 0).length=_;simp[hN]))
  have HT3:=aq (fun w1 al (hm:Mut base w m0 w1 (m0.t3 N x y al))=>xQ hm (m1:=m0.t3 N x y al) hpl (x:=x) (by omega))
  have HN1:Hid (∀w2 wq,Mut base w m0 w2 (m0.t1 N x y)->Below w2.heap.size w2 wq->Mut base w m0 (wq.setCell ⟨g,N,none⟩ (.int .i64 0)) (m0.t2 N x y)):=aq (fun w2 wq hm hq=>T1.next hN hal hm hq)
  have HN2:Hid (∀w2 wq,Mut base w m0 w2 (m0.t2 N x y)->Below w2.heap.size w2 wq->Mut base w m0 (wq.setCell ⟨m0.q,2,none⟩ (.slice (some ⟨g,0,none⟩) N cap)) (m0.t3 N x y (.slice (some ⟨g,0,none⟩) N cap))):=aq (fun w2 wq hm hq=>T2.next hN hal hm hq)
  have HN3:Hid (∀w2 wq al,Mut base w m0 w2 (m0.t3 N x y al)->Below w2.heap.size w2 wq->Mut base w m0 (wq.setCell ⟨g4,x,none⟩ (.int .i64 0)) (m0.t4 N x y al)):=aq (fun w2 wq al hm hq=>T3.next hpl hm hq)
  have HSI:=aq (fun w4 al (hm:Mut base w m0 w4 (m0.t4 N x y al))=>T4.sink hok hN hx hy hm)
  have hN12:N<=12:=by omega
  clear hS hok hx hy hcell hfz hal h0 hN hl12 hpl
  have hwN:IntKind.i64.wrap (N:Int)=N:=by rw[IntKind.wrap_i64];omega
  go_enter Tryz.func127,Tryz.ntmps127
  go_wp2_with fail
  go_quiet (fail)
  go_wp2_with fail
  refine(dz HSW _ (aG (Below.refl _ _) _)).mono ?_
  rintro e w1 ⟨rfl,hm1⟩
  have HM1:=aq hm1
  obtain⟨a1,a2,⟨z1,a3⟩,a4⟩:=dz HT1 _ hm1
  have hNi:(N:Int)<(N:Int)+1:=by omega
  clear hm1 hq2 hc0 hg
  have HM2:=aq (dz HN1 _ _ (dz HM1) (Below.refl _ _))
  obtain⟨b1,b2,-,-⟩:=dz HT2 _ (dz HM2)
  have HM3:=aq (dz HN2 _ _ (dz HM2) (Below.refl _ _))
  obtain⟨c1,⟨z3,c2⟩,c3,c4⟩:=dz HT3 _ _ (dz HM3)
  have HC4:=aq c4
  clear c4
  go_wp2_with fail
  generalize hw3:(w1.setCell ⟨g,N,none⟩ (.int .i64 0)).setCell ⟨m0.q,2,none⟩ (.slice (some ⟨g,0,none⟩) N cap)=w3 at *
  clear hw3 a1 a2 a3 a4 b1 b2
  refine(dz HC4 _ ⟨0,rfl⟩).mono ?_
  rintro e w5 ⟨rfl,n5,rfl⟩
  go_wp2_with fail
  refine(dz HSI _ _ (dz HN3 _ _ _ (dz HM3) (aG (Below.refl _ _) _))).mono ?_
  rintro e w7 ⟨rfl,hp7⟩
  have HP7:=aq hp7
  clear hp7
  go_wp2
  try go_ret2
  exact dz HP7
end Go.Proofs.YtekkkoipcghlmaaGreatDoor
namespace Go.Proofs.YtekkkoipcghlmaaGreatDoor
open Go.RowKit
attribute [local go_sem ↓] Go.wp_at_zero Go.wp_at_succ
def KeptC(m0 m:Mem):Prop:=m={ m0 with al:=m.al,all:=m.all,places:=m.places,counts:=m.counts,qc:=m.qc }
theorem KeptC.refl(m:Mem):KeptC m m:=rfl
theorem KeptC.trans{a b c:Mem}(h:KeptC a b)(h':KeptC b c):KeptC a c:=by
 unfold KeptC at h h'⊢
 rw[h]at h'
 exact h'
theorem KeptQ.keptC{a b:Mem}(h:KeptQ a b):KeptC a b:=by
 unfold KeptQ at h
 unfold KeptC
 have h1:b.counts=a.counts:=by rw[h]
 have h2:b.qc=a.qc:=by rw[h]
 rw[h1,h2];exact h
structure QAt(base:Nat)(w:World)(m0:Mem)(wr:World)(m:Mem):Prop where
 mu:Mut base w m0 wr m
 ok:HeapOK m.all m.places
 same:∀v,v∈m.all↔v∈m0.all
 kept:KeptC m0 m
def Mem.countSet(m:Mem)(j:Nat)(x:Int):Mem:={ m with counts:=m.counts.set j x }
theorem Mut.countSet{base:Nat}{w:World}{m:Mem}(h:SAt base w m){g cap:Nat}(hv:m.co=.slice (some ⟨g,0,none⟩) 13 cap)(j:Nat)(x:Int):Mut base w m (w.setCell ⟨g,j,none⟩ (.int .i64 x)) (m.countSet j x):=by
 refine⟨?_,h.ws,h.ls,by simp[Mem.countSet,h.counts],h.places,rfl,rfl,rfl⟩
 show PMut base w m.rows _ (m.rows.set 9 (aB m.co (m.counts.set j x)))
 unfold aB
 rw[dT,List.length_set]
 exact PMut.store h.pack (i:=9) rfl (by show m.co=_;rw[hv];show _=Value.slice _ m.counts.length _;rw[h.counts]) j _
set_option maxRecDepth 100000 in
set_option maxHeartbeats 3200000 in
theorem aD7(base:Nat)(m0:Mem)(v:Nat)(w:World)(hS:SAt base w m0)(hok:HeapOK m0.all m0.places)(hv0:0<v)(hv:v<=12):
  Calls Tryz.prog 186 #[.pointer (some ⟨m0.q,0,none⟩),.int .i64 v] w fun e w'=>e=.returned (.tuple #[])/\∃m,QAt base w m0 w' m:=by
 obtain⟨g,cap,hco,hg,hcell,hfz⟩:=hS.countsAt
 have hq3:w.cell? ⟨m0.q,3,none⟩=some (.slice (some ⟨g,0,none⟩) 13 cap):=by rw[hS.qcell 3 (by decide),←hco];rfl
 have hcv:=hcell v (by rw[hS.counts];omega)
 have hfv:=hfz v
 have hvi:(v:Int)<13:=by omega
 have HN:Hid (∀(z:Int) (wq:World),Below w.heap.size w wq->Mut base w m0 (wq.setCell ⟨g,v,none⟩ (.int .i64 z)) (m0.countSet v z)):=aq (fun z wq hq=>(Mut.below hS hq).trans (Mut.countSet (hS.below hq) hco v z))
 have HR:Hid (∀(z:Int) (w1:World),Mut base w m0 w1 (m0.countSet v z)->Calls Tryz.prog 154 #[.pointer (some ⟨m0.q,0,none⟩),.int .i64 v] w1 fun e w'=>e=.returned (.tuple #[])/\∃m,QAt base w m0 w' m):=aq (by
  intro z w1 hm
  refine(wH base (m0.countSet v z) v w1 hm.at hok hv0 hv).mono (fun e w' hh=>?_)
  obtain⟨he,m,hA⟩:=hh
  exact⟨he,m,hm.trans hA.mu,hA.ok,hA.same,KeptC.trans (b:=m0.countSet v z) rfl hA.kept.keptC⟩)
 generalize m0.counts[v]'(by rw[hS.counts];omega)=cv at *
 clear hS hok hco hcell hfz
 go_enter Tryz.func186,Tryz.ntmps186
 go_wp2_with fail
 refine(dz HR _ _ (dz HN _ _ (Below.refl _ _))).mono ?_
 rintro e w1 ⟨rfl,m1,hq1⟩
 have HQ1:=aq hq1
 clear hq1
 go_wp2
 try go_end0
 exact⟨rfl,m1,dz HQ1⟩
def Mem.qcSet(m:Mem)(x:Int):Mem:={ m with qc:=x }
theorem Mut.qcSet{base:Nat}{w:World}{m:Mem}(h:SAt base w m)(x:Int):Mut base w m (w.setCell ⟨m.q,5,none⟩ (.int .i64 x)) (m.qcSet x):=
 ⟨PMut.store h.pack (i:=1) rfl rfl 5 (.int .i64 x),h.ws,h.ls,h.counts,h.places,rfl,rfl,rfl⟩
theorem QAt.cells{base:Nat}{w:World}{m0:Mem}{wr:World}{m:Mem}(h:QAt base w m0 wr m):∃g cap,m0.co=.slice (some ⟨g,0,none⟩) 13 cap/\wr.cell? ⟨m0.q,3,none⟩=some (.slice (some ⟨g,0,none⟩) 13 cap)/\(∃z,wr.cell? ⟨m0.q,5,none⟩=some (.int .i64 z))/\wr.frozen? ⟨m0.q,5,none⟩=false/\(∀j,j<13->∃z,wr.cell? ⟨g,j,none⟩=some (.int .i64 z))/\(∀j,wr.frozen? ⟨g,j,none⟩=false)/\(∀j z wq,Below wr.heap.size wr wq->∃m',QAt base w m0 (wq.setCell ⟨g,j,none⟩ (.int .i64 z)) m')/\∀z wq,Below wr.heap.size wr wq->∃m',QAt base w m0 (wq.setCell ⟨m0.q,5,none⟩ (.int .i64 z)) m':=by
 obtain⟨g,cap,hco,hg,hcell,hfz⟩:=h.mu.at.countsAt
 have hco0:m0.co=.slice (some ⟨g,0,none⟩) 13 cap:=by
  have:m.co=m0.co:=by rw[h.kept]
  rw[←this];exact hco
 refine⟨g,cap,hco0,?_,⟨m.qc,?_⟩,?_,fun j hj=>⟨_,hcell j (by have:=h.mu.counts;omega)⟩,hfz,fun j z wq hq=>?_,fun z wq hq=>?_⟩
 ·rw[←h.mu.q,h.mu.at.qcell 3 (by decide),←hco];rfl
 ·rw[←h.mu.q,h.mu.at.qcell 5 (by decide)];rfl
 ·rw[←h.mu.q];exact h.mu.at.qfree 5
 ·have hb:=Mut.below h.mu.at hq
  exact⟨_,(h.mu.trans hb).trans (Mut.countSet hb.at hco j z),h.ok,h.same,h.kept.trans rfl⟩
 ·have hb:=Mut.below h.mu.at hq
  have:=Mut.qcSet hb.at z
  rw[h.mu.q]at this
  exact⟨_,(h.mu.trans hb).trans this,h.ok,h.same,h.kept.trans rfl⟩
set_option maxRecDepth 100000 in
set_option maxHeartbeats 3200000 in
theorem aH0(base:Nat)(m0:Mem)(w:World)(hS:SAt base w m0)(hok:HeapOK m0.all m0.places):
  Calls Tryz.prog 123 #[.pointer (some ⟨m0.q,0,none⟩)] w fun e w'=>e=.returned (.tuple #[])/\∃m,QAt base w m0 w' m:=by
 have h0:QAt base w m0 w m0:=⟨Mut.refl hS,hok,fun _=>Iff.rfl,KeptC.refl _⟩
 obtain⟨g,cap,hco,c3,⟨z5,c5⟩,f5,-,-,-,hs5⟩:=h0.cells
 have HQ:Hid (∀wr m,QAt base w m0 wr m->wr.cell? ⟨m0.q,3,none⟩=some (.slice (some ⟨g,0,none⟩) 13 cap)/\(∃z,wr.cell? ⟨m0.q,5,none⟩=some (.int .i64 z))/\wr.frozen? ⟨m0.q,5,none⟩=false/\(∀j,j<13->∃z,wr.cell? ⟨g,j,none⟩=some (.int .i64 z))/\(∀j,wr.frozen? ⟨g,j,none⟩=false)/\(∀j z wq,Below wr.heap.size wr wq->∃m',QAt base w m0 (wq.setCell ⟨g,j,none⟩ (.int .i64 z)) m')/\∀z wq,Below wr.heap.size wr wq->∃m',QAt base w m0 (wq.setCell ⟨m0.q,5,none⟩ (.int .i64 z)) m'):=aq (by
  intro wr m h
  obtain⟨g',cap',hco',k⟩:=h.cells
  rw[hco]at hco'
  simp only[Value.slice.injEq,Option.some.injEq,Addr.mk.injEq,and_true,true_and]at hco'
  obtain⟨rfl,rfl⟩:=hco'
  exact k)
 obtain⟨m1,h1⟩:=hs5 (wrap64 (z5+1)) w (Below.refl _ _)
 have HQ1:=aq h1
 obtain⟨d3,⟨y5,d5⟩,df5,-,-,-,ds5⟩:=dz HQ _ _ h1
 obtain⟨m2,h2⟩:=ds5 0 _ (Below.refl _ _)
 have HQ2:=aq h2
 obtain⟨e3,-⟩:=dz HQ _ _ h2
 clear hS hok h0 hco hs5 h1 h2 ds5 d5
 by_cases hlt:wrap64 (z5+1)<8
 ·go_enter Tryz.func123,Tryz.ntmps123
  go_wp2
  all_goals try go_end0
  all_goals try (refine bodyPost_ret (results_none rfl _ _ _) rfl ?_)
  exact⟨rfl,m1,dz HQ1⟩
 ·go_enter Tryz.func123,Tryz.ntmps123
  go_wp2
  go_loopw [23] (fun i wr=>∃k:Nat,k<=13/\i=.int .i64 (k:Int)/\Hid (∃m,QAt base w m0 wr m)) (fun i _=>13-(intOf i).toNat)
  case atStart=>exact⟨0,by omega,rfl,aq ⟨m2,dz HQ2⟩⟩
  case round=>
   obtain⟨k,hk,rfl,HM⟩:=hrel
   obtain⟨m,hM⟩:=dz HM
   by_cases hk13:k<13
   ·obtain⟨k3,-,-,kc,kf,ks,-⟩:=dz HQ _ _ hM
    obtain⟨z,kz⟩:=kc k hk13
    have kfk:=kf k
    have hki:(k:Int)<13:=by omega
    have HS:=aq (fun(z:Int)=>ks k z wr (Below.refl _ _))
    clear kc kf ks hM
    go_wp2
    go_roundw
    case rel=>exact⟨k+1,by omega,by go_num,aq (dz HS _)⟩
    case measure=>simp[intOf];omega
   ·have hki:¬(k:Int)<13:=by omega
    have HM2:=aq hM
    clear hM
    go_wp2
    try go_end0
    exact⟨rfl,m,dz HM2⟩
end Go.Proofs.YtekkkoipcghlmaaGreatDoor
