import Derived.Test.YtekkkoipcghlmaaGreatDoorU08
set_option linter.all false
namespace Go.Proofs.YtekkkoipcghlmaaGreatDoor
open Go.RowKit
attribute [local go_sem ↓] Go.wp_at_zero Go.wp_at_succ
structure HeapOK(all places:List Int):Prop where
 nodup:all.Nodup
 bd:∀v,v∈all->1<=v/\v<=12
 len:places.length=13
 there:∀(i:Nat) v,all[i]?=some v->places[v.toNat]?=some ((i:Int)+1)
 gone:∀v:Nat,0<v->v<13->(v:Int)∉all->places[v]?=some 0
section
variable {base:Nat}{w:World}{m:Mem}
theorem SAt.heap(h:SAt base w m)(hn:0<m.all.length):∃g cap,m.al=.slice (some ⟨g,0,none⟩) m.all.length cap/\g<w.heap.size/\(∀j (hj:j<m.all.length),w.cell? ⟨g,j,none⟩=some (.int .i64 m.all[j]))/\∀j,w.frozen? ⟨g,j,none⟩=false:=by
 have hr:=h.pack.rows 8 _ rfl
 unfold Row.ok aB at hr
 simp only at hr
 obtain⟨g,cap,hv,hb,hlt⟩:=World.ownsRow.form hr hn
 rw[hv]at hr
 refine⟨g,cap,hv,hlt,fun j hj=>?_,fun j=>hr.frozenAt j⟩
 rw[hr.cellAt j (by omega)]
 simp[ints,hj]
theorem SAt.countsAt(h:SAt base w m):∃g cap,m.co=.slice (some ⟨g,0,none⟩) 13 cap/\g<w.heap.size/\(∀j (hj:j<m.counts.length),w.cell? ⟨g,j,none⟩=some (.int .i64 m.counts[j]))/\∀j,w.frozen? ⟨g,j,none⟩=false:=by
 have hr:=h.pack.rows 9 _ rfl
 unfold Row.ok aB at hr
 simp only[h.counts]at hr
 obtain⟨g,cap,hv,hb,hlt⟩:=World.ownsRow.form hr (by decide)
 rw[hv]at hr
 refine⟨g,cap,hv,hlt,fun j hj=>?_,fun j=>hr.frozenAt j⟩
 rw[hr.cellAt j (by have:=h.counts;omega)]
 simp[ints,hj]
theorem SAt.placesAt(h:SAt base w m):∃g cap,m.pl=.slice (some ⟨g,0,none⟩) 13 cap/\g<w.heap.size/\(∀j (hj:j<m.places.length),w.cell? ⟨g,j,none⟩=some (.int .i64 m.places[j]))/\∀j,w.frozen? ⟨g,j,none⟩=false:=by
 have hr:=h.pack.rows 10 _ rfl
 unfold Row.ok aB at hr
 simp only[h.places]at hr
 obtain⟨g,cap,hv,hb,hlt⟩:=World.ownsRow.form hr (by decide)
 rw[hv]at hr
 refine⟨g,cap,hv,hlt,fun j hj=>?_,fun j=>hr.frozenAt j⟩
 rw[hr.cellAt j (by have:=h.places;omega)]
 simp[ints,hj]
end
set_option maxRecDepth 100000 in
theorem rO(q qb g2 cap2 x y:Nat)(cx cy:Int)(w:World)(hqb:w.cell? ⟨qb,0,none⟩=some (.pointer (some ⟨q,0,none⟩)))(hq3:w.cell? ⟨q,3,none⟩=some (.slice (some ⟨g2,0,none⟩) 13 cap2))(hx:x<=12)(hy:y<=12)(hcx:w.cell? ⟨g2,x,none⟩=some (.int .i64 cx))(hcy:w.cell? ⟨g2,y,none⟩=some (.int .i64 cy)):
  Calls Tryz.prog 107 #[.int .i64 x,.int .i64 y,.pointer (some ⟨qb,0,none⟩)] w fun e w'=>e=.returned (.bool (decide (cy<cx)))/\∃n,w'=w.drewN n:=by
 have hx1:(x:Int)<13:=by omega
 have hy1:(y:Int)<13:=by omega
 go_enter Tryz.func107,Tryz.ntmps107
 go_wp2
 go_quiet (fail)
 go_wp2
 go_ret
 exact⟨rfl,_,rfl⟩
set_option maxRecDepth 100000 in
set_option maxHeartbeats 1600000 in
theorem qX(base:Nat)(m:Mem)(a b:Nat)(w:World)(hS:SAt base w m)(ha:0<a)(ha':a<=m.all.length)(hb:0<b)(hb':b<=m.all.length)(hbd:∀v,v∈m.all->1<=v/\v<=12)(hl:m.all.length<=12):
  Calls Tryz.prog 183 #[.pointer (some ⟨m.q,0,none⟩),.int .i64 a,.int .i64 b] w fun e w'=>(∃t:Bool,e=.returned (.bool t))/\Below w.heap.size w w':=by
 obtain⟨g,cap,hal,hg,hcell,-⟩:=hS.heap (by omega)
 obtain⟨g2,cap2,hco,hg2,hcell2,-⟩:=hS.countsAt
 have hq0:w.cell? ⟨m.q,0,none⟩=some (.func (.func 107) #[] #[.pointer (some ⟨m.qb,0,none⟩)]):=by rw[hS.qcell 0 (by decide)];rfl
 have hq2:w.cell? ⟨m.q,2,none⟩=some (.slice (some ⟨g,0,none⟩) m.all.length cap):=by rw[hS.qcell 2 (by decide),←hal];rfl
 have hq3:w.cell? ⟨m.q,3,none⟩=some (.slice (some ⟨g2,0,none⟩) 13 cap2):=by rw[hS.qcell 3 (by decide),←hco];rfl
 have hqb:=hS.bcell
 obtain⟨a',rfl⟩:∃a',a=a'+1:=⟨a-1,by omega⟩
 obtain⟨b',rfl⟩:∃b',b=b'+1:=⟨b-1,by omega⟩
 have hca:=hcell a' (by omega)
 have hcb:=hcell b' (by omega)
 have ba:=hbd _ (List.getElem_mem (show a'<m.all.length by omega))
 have bb:=hbd _ (List.getElem_mem (show b'<m.all.length by omega))
 generalize m.all[a']=x at *
 generalize m.all[b']=y at *
 have hl2:=hS.counts
 have hc1:=hcell2 x.toNat (by omega)
 have hc2:=hcell2 y.toNat (by omega)
 generalize m.counts[x.toNat]=cx at *
 generalize m.counts[y.toNat]=cy at *
 obtain⟨x',rfl⟩:∃x':Nat,x=x':=⟨x.toNat,by omega⟩
 obtain⟨y',rfl⟩:∃y':Nat,y=y':=⟨y.toNat,by omega⟩
 simp only[Int.toNat_natCast]at hc1 hc2
 clear hcell hcell2 hbd hal hco hl2 hS
 generalize m.all.length=N at *
 have hwa:IntKind.i64.wrap (a':Int)=a':=by rw[IntKind.wrap_i64];omega
 have hwb:IntKind.i64.wrap (b':Int)=b':=by rw[IntKind.wrap_i64];omega
 have hia:(a':Int)<(N:Int):=by omega
 have hib:(b':Int)<(N:Int):=by omega
 have hka:a'<N:=by omega
 have hkb:b'<N:=by omega
 go_enter Tryz.func183,Tryz.ntmps183
 have HC:=aq (fun n=>rO m.q m.qb g2 cap2 x' y' cx cy (w.drewN n) hqb hq3 (by omega) (by omega) hc1 hc2)
 go_wp2_with fail
 go_quiet ((go_at_call 107;refine Calls.quiet_of (dz HC _)))
 go_wp2
 go_ret
 exact⟨⟨_,rfl⟩,aG (Below.refl _ _) _⟩
end Go.Proofs.YtekkkoipcghlmaaGreatDoor
namespace Go.Proofs.YtekkkoipcghlmaaGreatDoor
open Go.RowKit
attribute [local go_sem ↓] Go.wp_at_zero Go.wp_at_succ
set_option maxRecDepth 100000 in
theorem dH(q qb g4 cap4 x:Nat)(w:World)(hqb:w.cell? ⟨qb,0,none⟩=some (.pointer (some ⟨q,0,none⟩)))(hq4:w.cell? ⟨q,4,none⟩=some (.slice (some ⟨g4,0,none⟩) 13 cap4))(hx:x<=12):
  Calls Tryz.prog 108 #[.int .i64 x,.pointer (some ⟨qb,0,none⟩)] w fun e w'=>e=.returned (.pointer (some ⟨g4,x,none⟩))/\∃n,w'=w.drewN n:=by
 have hx1:(x:Int)<13:=by omega
 go_enter Tryz.func108,Tryz.ntmps108
 go_wp2
 first|(go_quiet (fail);go_wp2;go_ret;exact⟨rfl,_,rfl⟩)|(go_ret;exact⟨rfl,0,rfl⟩)
def Mem.allSet(m:Mem)(j:Nat)(x:Int):Mem:={ m with all:=m.all.set j x }
def Mem.placeSet(m:Mem)(j:Nat)(x:Int):Mem:={ m with places:=m.places.set j x }
section
variable {base:Nat}{w:World}{m:Mem}
theorem Mut.allSet(h:SAt base w m){g cap:Nat}(hv:m.al=.slice (some ⟨g,0,none⟩) m.all.length cap)(j:Nat)(x:Int):Mut base w m (w.setCell ⟨g,j,none⟩ (.int .i64 x)) (m.allSet j x):=by
 refine⟨?_,h.ws,h.ls,h.counts,h.places,rfl,rfl,rfl⟩
 show PMut base w m.rows _ (m.rows.set 8 (aB m.al (m.all.set j x)))
 unfold aB
 rw[dT,List.length_set]
 exact PMut.store h.pack (i:=8) rfl hv j _
theorem Mut.placeSet(h:SAt base w m){g cap:Nat}(hv:m.pl=.slice (some ⟨g,0,none⟩) 13 cap)(j:Nat)(x:Int):Mut base w m (w.setCell ⟨g,j,none⟩ (.int .i64 x)) (m.placeSet j x):=by
 refine⟨?_,h.ws,h.ls,h.counts,by simp[Mem.placeSet,h.places],rfl,rfl,rfl⟩
 show PMut base w m.rows _ (m.rows.set 10 (aB m.pl (m.places.set j x)))
 unfold aB
 rw[dT,List.length_set]
 exact PMut.store h.pack (i:=10) rfl (by show m.pl=_;rw[hv];show _=Value.slice _ m.places.length _;rw[h.places]) j _
theorem SAt.queueAt(h:SAt base w m)(hn:0<m.all.length):∃g cap g4 cap4,m.al=.slice (some ⟨g,0,none⟩) m.all.length cap/\m.pl=.slice (some ⟨g4,0,none⟩) 13 cap4/\g<w.heap.size/\g4<w.heap.size/\m.q<w.heap.size/\w.cell? ⟨m.q,1,none⟩=some (.func (.func 108) #[] #[.pointer (some ⟨m.qb,0,none⟩)])/\w.cell? ⟨m.q,2,none⟩=some (.slice (some ⟨g,0,none⟩) m.all.length cap)/\w.cell? ⟨m.q,4,none⟩=some (.slice (some ⟨g4,0,none⟩) 13 cap4)/\w.cell? ⟨m.qb,0,none⟩=some (.pointer (some ⟨m.q,0,none⟩))/\
  (∀j (hj:j<m.all.length),w.cell? ⟨g,j,none⟩=some (.int .i64 m.all[j]))/\(∀j,w.frozen? ⟨g,j,none⟩=false)/\(∀j (hj:j<m.places.length),w.cell? ⟨g4,j,none⟩=some (.int .i64 m.places[j]))/\∀j,w.frozen? ⟨g4,j,none⟩=false:=by
 obtain⟨g,cap,hal,hg,hcell,hfz⟩:=h.heap hn
 obtain⟨g4,cap4,hpl,hg4,hcell4,hfz4⟩:=h.placesAt
 have hq2:w.cell? ⟨m.q,2,none⟩=some (.slice (some ⟨g,0,none⟩) m.all.length cap):=by rw[h.qcell 2 (by decide),←hal];rfl
 exact⟨g,cap,g4,cap4,hal,hpl,hg,hg4,World.block_lt_of_cell? w ⟨m.q,2,none⟩ hq2,by rw[h.qcell 1 (by decide)];rfl,hq2,by rw[h.qcell 4 (by decide),←hpl];rfl,h.bcell,hcell,hfz,hcell4,hfz4⟩
end
def Mem.swapped(m:Mem)(a b:Nat)(x y:Int):Mem:=(((m.allSet a y).allSet b x).placeSet y.toNat ((a:Int)+1)).placeSet x.toNat ((b:Int)+1)
set_option maxRecDepth 100000 in
set_option maxHeartbeats 6400000 in
theorem nJ(base:Nat)(m:Mem)(a' b':Nat)(x y:Int)(w:World)(hS:SAt base w m)(hxa:m.all[a']?=some x)(hyb:m.all[b']?=some y)(hbd:∀v,v∈m.all->1<=v/\v<=12)(hl:m.all.length<=12):
  Calls Tryz.prog 168 #[.pointer (some ⟨m.q,0,none⟩),.int .i64 ((a':Int)+1),.int .i64 ((b':Int)+1)] w fun e w'=>e=.returned (.tuple #[])/\Mut base w m w' (m.swapped a' b' x y):=by
 have ha':=(List.getElem?_eq_some_iff.1 hxa).1
 have hb':=(List.getElem?_eq_some_iff.1 hyb).1
 have eax:m.all[a']=x:=(List.getElem?_eq_some_iff.1 hxa).2
 have eby:m.all[b']=y:=(List.getElem?_eq_some_iff.1 hyb).2
 obtain⟨g,cap,hal,hg,hcell,hfz⟩:=hS.heap (by omega)
 have hq2:w.cell? ⟨m.q,2,none⟩=some (.slice (some ⟨g,0,none⟩) m.all.length cap):=by rw[hS.qcell 2 (by decide),←hal];rfl
 have hca:=hcell a' ha'
 have hcb:=hcell b' hb'
 have hfa:=hfz a'
 have hfb:=hfz b'
 have ba:=hbd _ (List.getElem_mem ha')
 have bb:=hbd _ (List.getElem_mem hb')
 have hset:(w.setCell ⟨g,a',none⟩ (.int .i64 m.all[b'])).cell? ⟨g,b',none⟩=some (.int .i64 m.all[b']):=by
  have hr:=hS.pack.rows 8 _ rfl
  unfold Row.ok aB at hr
  simp only[hal]at hr
  rw[(hr.stored a' (.int .i64 m.all[b'])).1.cellAt b' (by omega),List.getElem?_set]
  split
  ·rw[if_pos (by rw[cA];exact ha')]
  ·simp[ints,hb']
 rw[eax]at hca ba
 rw[eby]at hcb bb hset
 have HM1:Hid (Mut base w m ((w.setCell ⟨g,a',none⟩ (.int .i64 y)).setCell ⟨g,b',none⟩ (.int .i64 x)).drew ((m.allSet a' y).allSet b' x)):=aq (by
  have h1:=Mut.allSet hS hal a' y
  have h2:=Mut.allSet (m:=m.allSet a' y) h1.at (g:=g) (cap:=cap) (by show m.al=Value.slice _ (m.all.set a' y).length _;rw[List.length_set];exact hal) b' x
  exact(h1.trans h2).drew)
 obtain⟨x',rfl⟩:∃x':Nat,x=x':=⟨x.toNat,by omega⟩
 obtain⟨y',rfl⟩:∃y':Nat,y=y':=⟨y.toNat,by omega⟩
 have HQ:Hid (∀(m1:Mem) (w1:World),Mut base w m w1 m1->m1.all=(m.all.set a' y').set b' x'->∃g cap g4 cap4,m1.pl=.slice (some ⟨g4,0,none⟩) 13 cap4/\w1.cell? ⟨m.q,1,none⟩=some (.func (.func 108) #[] #[.pointer (some ⟨m.qb,0,none⟩)])/\w1.cell? ⟨m.q,2,none⟩=some (.slice (some ⟨g,0,none⟩) m.all.length cap)/\w1.cell? ⟨m.q,4,none⟩=some (.slice (some ⟨g4,0,none⟩) 13 cap4)/\w1.cell? ⟨m.qb,0,none⟩=some (.pointer (some ⟨m.q,0,none⟩))/\w1.cell? ⟨g,a',none⟩=some (.int .i64 y')/\w1.cell? ⟨g,b',none⟩=some (.int .i64 x')/\(∀j,j<=12->∃z,w1.cell? ⟨g4,j,none⟩=some (.int .i64 z))/\∀j,w1.frozen? ⟨g4,j,none⟩=false):=aq (by
  intro m1 w1 hm hal1
  have hlen:m1.all.length=m.all.length:=by rw[hal1];simp
  obtain⟨g,cap,g4,cap4,h1,h2,h3,h4,h5,h6,h7,h8,h9,h10,h11,h12,h13⟩:=hm.at.queueAt (by omega)
  rw[hlen]at h7
  rw[hm.q]at h6 h7 h8 h9
  rw[hm.qb]at h6 h9
  have geta:m1.all[a']?=some (y':Int):=by
   rw[hal1,List.getElem?_set]
   split
   ·rename_i e
    subst e
    rw[if_pos (by simpa using hb')]
    rw[hxa]at hyb;exact hyb
   ·rw[List.getElem?_set_self ha']
  have getb:m1.all[b']?=some (x':Int):=by rw[hal1,List.getElem?_set_self (by simpa using hb')]
  refine⟨g,cap,g4,cap4,h2,h6,h7,h8,h9,?_,?_,fun j hj=>⟨_,h12 j (by have:=hm.places;omega)⟩,h13⟩
  ·have hj:=(List.getElem?_eq_some_iff.1 geta)
   rw[h10 a' hj.1,hj.2]
  ·have hj:=(List.getElem?_eq_some_iff.1 getb)
   rw[h10 b' hj.1,hj.2])
 have HP1:Hid (∀(w1:World) (g4 cap4:Nat) (wq:World),Mut base w m w1 ((m.allSet a' y').allSet b' x')->m.pl=.slice (some ⟨g4,0,none⟩) 13 cap4->Below w1.heap.size w1 wq->Mut base w m (wq.setCell ⟨g4,y',none⟩ (.int .i64 ((a':Int)+1))) (((m.allSet a' y').allSet b' x').placeSet y' ((a':Int)+1))):=aq (by
  intro w1 g4 cap4 wq hm hpl hq
  have h1:=Mut.below hm.at hq
  exact(hm.trans h1).trans (Mut.placeSet h1.at hpl y' ((a':Int)+1)))
 have HP2:Hid (∀(w1:World) (g4 cap4:Nat) (wq:World),Mut base w m w1 (((m.allSet a' y').allSet b' x').placeSet y' ((a':Int)+1))->m.pl=.slice (some ⟨g4,0,none⟩) 13 cap4->Below w1.heap.size w1 wq->Mut base w m (wq.setCell ⟨g4,x',none⟩ (.int .i64 ((b':Int)+1))) (m.swapped a' b' x' y')):=aq (by
  intro w1 g4 cap4 wq hm hpl hq
  have h1:=Mut.below hm.at hq
  have:=(hm.trans h1).trans (Mut.placeSet h1.at hpl x' ((b':Int)+1))
  unfold Mem.swapped
  rw[Int.toNat_natCast,Int.toNat_natCast]
  exact this)
 have HPL:Hid (∀g4 cap4 g5 cap5,m.pl=Value.slice (some ⟨g4,0,none⟩) 13 cap4->m.pl=Value.slice (some ⟨g5,0,none⟩) 13 cap5->g4=g5):=aq (by
  intro g4 cap4 g5 cap5 h1 h2
  rw[h1]at h2
  simp only[Value.slice.injEq,Option.some.injEq,Addr.mk.injEq,and_true,true_and]at h2
  exact h2.1)
 clear hcell hbd hal hS hfz hxa hyb eax eby
 generalize m.all.length=N at *
 have hwa:IntKind.i64.wrap (a':Int)=a':=by rw[IntKind.wrap_i64];omega
 have hwb:IntKind.i64.wrap (b':Int)=b':=by rw[IntKind.wrap_i64];omega
 have hia:(a':Int)<(N:Int):=by omega
 have hib:(b':Int)<(N:Int):=by omega
 go_enter Tryz.func168,Tryz.ntmps168
 go_upto_region 0 with fail
 go_cut [] (fun wx=>Hid (Mut base w m wx ((m.allSet a' y').allSet b' x')))
 case first=>
  go_region
  all_goals go_wp2_with fail
  all_goals go_meet
  all_goals exact HM1
 case rest=>
  obtain⟨w1,rfl⟩:∃w1,w1=wc:=⟨wc,rfl⟩
  have HMA:=hcut
  obtain⟨g1,cap1,g4,cap4,q0,q1,q2,q4,qb0,qa,qb',qpl,qfz⟩:=dz HQ _ w1 (dz HMA) rfl
  have HPLV:=aq q0
  have HC:=aq (fun n=>dH m.q m.qb g4 cap4 y' (w1.drewN n) qb0 q4 (by omega))
  have HC':=aq (fun wx (hx:∃n,wx=w1.drewN n)=>(by obtain⟨n,rfl⟩:=hx;exact dH m.q m.qb g4 cap4 y' (w1.drewN n) qb0 q4 (by omega):Calls Tryz.prog 108 #[.int .i64 y',.pointer (some ⟨m.qb,0,none⟩)] wx fun e w'=>e=.returned (.pointer (some ⟨g4,y',none⟩))/\∃n,w'=wx.drewN n))
  obtain⟨z1,hz1⟩:=qpl y' (by omega)
  have hf1:=qfz y'
  clear hcut HM1 hq2 hca hcb hfa hfb hset q0 qpl qfz hg
  go_upto_region 1 with fail
  go_cut [] (fun wx=>Hid (Mut base w m wx (((m.allSet a' y').allSet b' x').placeSet y' ((a':Int)+1))))
  case first=>
   go_region_with (go_at_call 108;refine(dz HC' _ (by first|exact⟨0,rfl⟩|exact⟨1,rfl⟩|exact⟨2,rfl⟩)).mono ?_;rintro e w3 ⟨rfl,n3,rfl⟩)
   all_goals go_wp2_with fail
   all_goals go_meet
   all_goals exact aq (dz HP1 w1 g4 cap4 _ (dz HMA) (dz HPLV) (aG (Below.refl _ _) _))
  case rest=>
   obtain⟨w2,rfl⟩:∃w2,w2=wc:=⟨wc,rfl⟩
   have HMB:=hcut
   obtain⟨g5,cap5,g6,cap6,r0,r1,r2,r4,rb0,ra,rb',rpl,rfz⟩:=dz HQ _ w2 (dz HMB) rfl
   obtain rfl:g4=g6:=dz HPL g4 cap4 g6 cap6 (dz HPLV) r0
   have HC2:=aq (fun wx (hx:∃n,wx=w2.drewN n)=>(by obtain⟨n,rfl⟩:=hx;exact dH m.q m.qb g4 cap6 x' (w2.drewN n) rb0 r4 (by omega):Calls Tryz.prog 108 #[.int .i64 x',.pointer (some ⟨m.qb,0,none⟩)] wx fun e w'=>e=.returned (.pointer (some ⟨g4,x',none⟩))/\∃n,w'=wx.drewN n))
   obtain⟨z2,hz2⟩:=rpl x' (by omega)
   have hf2:=rfz x'
   clear hcut q1 q2 q4 qb0 qa qb' hz1 hf1 HC HC' r0 rpl rfz HMA
   go_upto_region 2 with fail
   go_region_with (go_at_call 108;refine(dz HC2 _ (by first|exact⟨0,rfl⟩|exact⟨1,rfl⟩|exact⟨2,rfl⟩)).mono ?_;rintro e w3 ⟨rfl,n3,rfl⟩)
   all_goals go_wp2
   all_goals try go_end0
   all_goals exact⟨rfl,dz HP2 w2 g4 cap4 _ (dz HMB) (dz HPLV) (aG (Below.refl _ _) _)⟩
end Go.Proofs.YtekkkoipcghlmaaGreatDoor
namespace Go.Proofs.YtekkkoipcghlmaaGreatDoor
open Go.RowKit
attribute [local go_sem ↓] Go.wp_at_zero Go.wp_at_succ
theorem HeapOK.len12{all places:List Int}(h:HeapOK all places):all.length<=12:=by
 have h1:(all.map Int.toNat).Nodup:=by
  rw[List.Nodup,List.pairwise_map]
  refine List.Pairwise.imp_of_mem ?_ h.nodup
  intro a b ha hb hab e
  have:=h.bd a ha
  have:=h.bd b hb
  exact hab (by omega)
 have:=cE 13 (0::all.map Int.toNat) (List.nodup_cons.2 ⟨fun h0=>by
  obtain⟨v,hv,e⟩:=List.mem_map.1 h0
  have:=h.bd v hv;omega,h1⟩) (fun x hx=>by
  rcases List.mem_cons.1 hx with rfl|hx
  ·omega
  ·obtain⟨v,hv,rfl⟩:=List.mem_map.1 hx
   have:=h.bd v hv;omega)
 simp at this
 omega
theorem gI{l:List Int}{a b:Nat}{x y:Int}(ha:l[a]?=some x)(hb:l[b]?=some y)(i:Nat):((l.set a y).set b x)[i]?=if i=b then some x else if i=a then some y else l[i]?:=by
 have ha':=(List.getElem?_eq_some_iff.1 ha).1
 have hb':=(List.getElem?_eq_some_iff.1 hb).1
 by_cases e:i=b
 ·subst e;rw[if_pos rfl,List.getElem?_set_self (by simpa using hb')]
 ·rw[if_neg e,List.getElem?_set_ne (fun h=>e h.symm)]
  by_cases e2:i=a
  ·subst e2;rw[if_pos rfl,List.getElem?_set_self ha']
  ·rw[if_neg e2,List.getElem?_set_ne (fun h=>e2 h.symm)]
theorem kV{l:List Int}{a b:Nat}{x y:Int}(ha:l[a]?=some x)(hb:l[b]?=some y)(v:Int):v∈(l.set a y).set b x↔v∈l:=by
 constructor
 ·intro h
  obtain⟨i,hi⟩:=List.getElem?_of_mem h
  rw[gI ha hb]at hi
  split at hi
  ·cases hi;exact List.mem_of_getElem? ha
  ·split at hi
   ·cases hi;exact List.mem_of_getElem? hb
   ·exact List.mem_of_getElem? hi
 ·intro h
  obtain⟨i,hi⟩:=List.getElem?_of_mem h
  by_cases e:i=a
  ·subst e
   rw[ha]at hi;cases hi
   exact List.mem_of_getElem? (i:=b) (by rw[gI ha hb,if_pos rfl])
  ·by_cases e2:i=b
   ·subst e2
    rw[hb]at hi;cases hi
    exact List.mem_of_getElem? (i:=a) (by
     rw[gI ha hb]
     split
     ·rename_i e3;subst e3;rw[ha]at hb;exact hb
     ·rw[if_pos rfl])
   ·exact List.mem_of_getElem? (i:=i) (by rw[gI ha hb,if_neg e2,if_neg e];exact hi)
theorem jQ{l:List Int}(hn:l.Nodup){i j:Nat}{v:Int}(hi:l[i]?=some v)(hj:l[j]?=some v):i=j:=by
 obtain⟨h1,e1⟩:=List.getElem?_eq_some_iff.1 hi
 obtain⟨h2,e2⟩:=List.getElem?_eq_some_iff.1 hj
 exact(List.getElem_inj (h₀:=h1) (h₁:=h2) hn).1 (by rw[e1,e2])
theorem HeapOK.swap{all places:List Int}(h:HeapOK all places){a b:Nat}{x y:Int}(ha:all[a]?=some x)(hb:all[b]?=some y):HeapOK ((all.set a y).set b x) ((places.set y.toNat ((a:Int)+1)).set x.toNat ((b:Int)+1)):=by
 have bx:=h.bd x (List.mem_of_getElem? ha)
 have by':=h.bd y (List.mem_of_getElem? hb)
 have ha':=(List.getElem?_eq_some_iff.1 ha).1
 have hb':=(List.getElem?_eq_some_iff.1 hb).1
 have hlen:=h.len
 refine⟨?_,fun v hv=>h.bd v ((kV ha hb v).1 hv),by simp[hlen],fun i v hi=>?_,fun v h0 h13 hn=>?_⟩
 ·refine List.pairwise_iff_getElem.2 (fun i j hi hj hij e=>?_)
  have key:∀i,((all.set a y).set b x)[i]?=all[if i=b then a else if i=a then b else i]?:=by
   intro i
   rw[gI ha hb]
   split
   ·exact ha.symm
   ·split
    ·exact hb.symm
    ·rfl
  have h1:=key i
  have h2:=key j
  rw[List.getElem?_eq_getElem hi]at h1
  rw[List.getElem?_eq_getElem hj]at h2
  have:=jQ h.nodup h1.symm (by rw[e];exact h2.symm)
  split at this<;>split at this<;>(try split at this)<;>(try split at this)<;>omega
 ·rw[gI ha hb]at hi
  rw[List.getElem?_set,List.getElem?_set]
  split at hi
  ·rename_i e;subst e
   cases hi
   rw[if_pos rfl,if_pos (by simp;omega)]
  ·rename_i hib
   split at hi
   ·rename_i e;subst e
    cases hi
    have hne:x≠y:=fun e=>hib (jQ h.nodup ha (by rw[hb,e]))
    rw[if_neg (fun e=>hne (by omega)),if_pos rfl,if_pos (by omega)]
   ·rename_i hia
    have hv:=h.bd v (List.mem_of_getElem? hi)
    have hvx:v≠x:=fun e=>hia (jQ h.nodup hi (by rw[ha,e]))
    have hvy:v≠y:=fun e=>hib (jQ h.nodup hi (by rw[hb,e]))
    rw[if_neg (fun e=>hvx (by omega)),if_neg (fun e=>hvy (by omega))]
    exact h.there i v hi
 ·have hn':(v:Int)∉all:=fun hm=>hn ((kV ha hb v).2 hm)
  have hvx:(v:Int)≠x:=fun e=>hn' (by rw[e];exact List.mem_of_getElem? ha)
  have hvy:(v:Int)≠y:=fun e=>hn' (by rw[e];exact List.mem_of_getElem? hb)
  rw[List.getElem?_set_ne (by omega),List.getElem?_set_ne (by omega)]
  exact h.gone v h0 h13 hn'
def KeptQ(m0 m:Mem):Prop:=m={ m0 with al:=m.al,all:=m.all,places:=m.places }
theorem KeptQ.refl(m:Mem):KeptQ m m:=rfl
theorem KeptQ.trans{a b c:Mem}(h:KeptQ a b)(h':KeptQ b c):KeptQ a c:=by
 unfold KeptQ at h h'⊢
 rw[h]at h'
 exact h'
structure HAt(base:Nat)(w:World)(m0:Mem)(wr:World)(m:Mem):Prop where
 mu:Mut base w m0 wr m
 ok:HeapOK m.all m.places
 same:∀v,v∈m.all↔v∈m0.all
 len:m.all.length=m0.all.length
 kept:KeptQ m0 m
theorem HAt.swap{base:Nat}{w:World}{m0:Mem}{wr wr':World}{m:Mem}(h:HAt base w m0 wr m){a b:Nat}{x y:Int}(ha:m.all[a]?=some x)(hb:m.all[b]?=some y)(hm:Mut base wr m wr' (m.swapped a b x y)):HAt base w m0 wr' (m.swapped a b x y):=
 ⟨h.mu.trans hm,h.ok.swap ha hb,fun v=>(kV ha hb v).trans (h.same v),by
  show((m.all.set a y).set b x).length=_
  simp[h.len],h.kept.trans rfl⟩
theorem HAt.below{base:Nat}{w:World}{m0:Mem}{wr wr':World}{m:Mem}(h:HAt base w m0 wr m)(hb:Below wr.heap.size wr wr'):HAt base w m0 wr' m:=⟨h.mu.trans (Mut.below h.mu.at hb),h.ok,h.same,h.len,h.kept⟩
set_option maxRecDepth 100000 in
set_option maxHeartbeats 3200000 in
theorem wH(base:Nat)(m0:Mem)(v:Nat)(w:World)(hS:SAt base w m0)(hok:HeapOK m0.all m0.places)(hv0:0<v)(hv:v<=12):
  Calls Tryz.prog 154 #[.pointer (some ⟨m0.q,0,none⟩),.int .i64 v] w fun e w'=>e=.returned (.tuple #[])/\∃m,HAt base w m0 w' m:=by
 obtain⟨g4,cap4,hpl,hg4,hcell4,hfz4⟩:=hS.placesAt
 have hq1:w.cell? ⟨m0.q,1,none⟩=some (.func (.func 108) #[] #[.pointer (some ⟨m0.qb,0,none⟩)]):=by rw[hS.qcell 1 (by decide)];rfl
 have hq4:w.cell? ⟨m0.q,4,none⟩=some (.slice (some ⟨g4,0,none⟩) 13 cap4):=by rw[hS.qcell 4 (by decide),←hpl];rfl
 have hqb:=hS.bcell
 have hcv:=hcell4 v (by rw[hS.places];omega)
 have hat:∃j:Nat,j<=m0.all.length/\m0.places[v]'(by rw[hS.places];omega)=(j:Int):=by
  have hg:m0.places[v]?=some (m0.places[v]'(by rw[hS.places];omega)):=List.getElem?_eq_getElem _
  rcases Classical.em ((v:Int)∈m0.all)with hm|hm
  ·obtain⟨i,hi⟩:=List.getElem?_of_mem hm
   have h1:=hok.there i _ hi
   rw[Int.toNat_natCast,hg]at h1
   have hlt:=(List.getElem?_eq_some_iff.1 hi).1
   exact⟨i+1,by omega,by simpa using h1⟩
  ·have h1:=hok.gone v hv0 (by omega) hm
   rw[hg]at h1
   exact⟨0,by omega,by simpa using h1⟩
 obtain⟨j0,hj0,hpv⟩:=hat
 rw[hpv]at hcv
 have HC:=aq (dH m0.q m0.qb g4 cap4 v w hqb hq4 hv)
 have H0:Hid (HAt base w m0 w m0):=aq ⟨Mut.refl hS,hok,fun _=>Iff.rfl,rfl,KeptQ.refl _⟩
 have hl12:=hok.len12
 have HAH:Hid (∀(wr:World) (m:Mem) (j:Nat),HAt base w m0 wr m->1<j->j<=m0.all.length->Calls Tryz.prog 183 #[.pointer (some ⟨m0.q,0,none⟩),.int .i64 (j:Int),.int .i64 ((j:Int) / 2)] wr fun e w'=>(∃t:Bool,e=.returned (.bool t))/\HAt base w m0 w' m):=aq (by
  intro wr m j h h1 h2
  have hl:=h.len
  have:=qX base m j (j / 2) wr h.mu.at (by omega) (by omega) (by omega) (by omega) h.ok.bd (by have:=h.ok.len12;omega)
  rw[h.mu.q,show((j / 2:Nat):Int)=(j:Int) / 2 from by omega]at this
  exact this.mono (fun e w' hh=>⟨hh.1,h.below hh.2⟩))
 have HSW:Hid (∀(wr:World) (m:Mem) (j:Nat),HAt base w m0 wr m->1<j->j<=m0.all.length->Calls Tryz.prog 168 #[.pointer (some ⟨m0.q,0,none⟩),.int .i64 (j:Int),.int .i64 ((j:Int) / 2)] wr fun e w'=>e=.returned (.tuple #[])/\∃m',HAt base w m0 w' m'):=aq (by
  intro wr m j h h1 h2
  have hl:=h.len
  have ha:m.all[j-1]?=some m.all[j-1]:=List.getElem?_eq_getElem (by omega)
  have hb:m.all[j / 2-1]?=some m.all[j / 2-1]:=List.getElem?_eq_getElem (by omega)
  have:=nJ base m (j-1) (j / 2-1) _ _ wr h.mu.at ha hb h.ok.bd (by have:=h.ok.len12;omega)
  rw[h.mu.q,show(((j-1:Nat):Int)+1)=(j:Int)from by omega,show(((j / 2-1:Nat):Int)+1)=(j:Int) / 2 from by omega]at this
  exact this.mono (fun e w' hh=>⟨hh.1,_,h.swap ha hb hh.2⟩))
 clear hS hok hpl hcell4 hfz4 hpv
 generalize m0.all.length=N at *
 go_enter Tryz.func154,Tryz.ntmps154
 go_wp2_with fail
 refine(dz HC).mono ?_
 rintro e w1 ⟨rfl,n1,rfl⟩
 have HS1:Hid (∃m,HAt base w m0 (w.drewN n1) m):=aq ⟨m0,(dz H0).below (aG (Below.refl _ _) _)⟩
 go_wp2
 go_loopw [4] (fun a wr=>∃j:Nat,j<=N/\a=.int .i64 (j:Int)/\Hid (∃m,HAt base w m0 wr m)) (fun a _=>(intOf a).toNat)
 case atStart=>exact⟨j0,hj0,rfl,HS1⟩
 case round=>
  obtain⟨j,hj,rfl,HM⟩:=hrel
  obtain⟨m,hM⟩:=dz HM
  by_cases h1:1<j
  ·have HA:=aq (dz HAH wr m j hM h1 hj)
   clear hM
   go_wp2_with fail
   refine(dz HA).mono ?_
   rintro e w2 ⟨⟨t,rfl⟩,hM2⟩
   have HM2:=aq hM2
   have HS2:=aq (dz HSW w2 m j hM2 h1 hj)
   clear hM2
   cases t
   ·go_wp2
    try go_end0
    exact⟨rfl,m,dz HM2⟩
   ·go_wp2_with fail
    refine(dz HS2).mono ?_
    rintro e w3 ⟨rfl,m3,hM3⟩
    have HM3:=aq hM3
    clear hM3
    go_wp2
    go_roundw
    case rel=>exact⟨j / 2,by omega,by go_num,aq ⟨m3,dz HM3⟩⟩
    case measure=>simp[intOf];omega
  ·have HM2:=aq hM
   clear hM
   go_wp2
   try go_end0
   exact⟨rfl,m,dz HM2⟩
end Go.Proofs.YtekkkoipcghlmaaGreatDoor
namespace Go.Proofs.YtekkkoipcghlmaaGreatDoor
open Go.RowKit
attribute [local go_sem ↓] Go.wp_at_zero Go.wp_at_succ
theorem HAt.lenCell{base:Nat}{w:World}{m0:Mem}{wr:World}{m:Mem}(h:HAt base w m0 wr m):∃ao cp,wr.cell? ⟨m0.q,2,none⟩=some (.slice ao m0.all.length cp):=by
 have hc:wr.cell? ⟨m.q,2,none⟩=some m.al:=by rw[h.mu.at.qcell 2 (by decide)];rfl
 obtain⟨ao,cp,hsh⟩:=aC (h.mu.at.pack.rows 8 _ rfl)
 have hsh':m.al=.slice ao m.all.length cp:=hsh
 rw[h.mu.q,hsh',h.len]at hc
 exact⟨ao,cp,hc⟩
set_option maxRecDepth 100000 in
set_option maxHeartbeats 6400000 in
theorem aJ5(base:Nat)(m0:Mem)(w:World)(hS:SAt base w m0)(hok:HeapOK m0.all m0.places):
  Calls Tryz.prog 169 #[.pointer (some ⟨m0.q,0,none⟩)] w fun e w'=>e=.returned (.tuple #[])/\∃m,HAt base w m0 w' m:=by
 have H0:Hid (HAt base w m0 w m0):=aq ⟨Mut.refl hS,hok,fun _=>Iff.rfl,rfl,KeptQ.refl _⟩
 have hl12:=hok.len12
 have HAH:Hid (∀(wr:World) (m:Mem) (i j:Nat) (a b:Int),HAt base w m0 wr m->a=(i:Int)->b=(j:Int)->0<i->i<=m0.all.length->0<j->j<=m0.all.length->Calls Tryz.prog 183 #[.pointer (some ⟨m0.q,0,none⟩),.int .i64 a,.int .i64 b] wr fun e w'=>(∃t:Bool,e=.returned (.bool t))/\HAt base w m0 w' m):=aq (by
  intro wr m i j a b h ea eb h1 h2 h3 h4
  subst ea eb
  have hl:=h.len
  have:=qX base m i j wr h.mu.at h1 (by omega) h3 (by omega) h.ok.bd (by have:=h.ok.len12;omega)
  rw[h.mu.q]at this
  exact this.mono (fun e w' hh=>⟨hh.1,h.below hh.2⟩))
 have HSW:Hid (∀(wr:World) (m:Mem) (i j:Nat) (a b:Int),HAt base w m0 wr m->a=(i:Int)->b=(j:Int)->0<i->i<=m0.all.length->0<j->j<=m0.all.length->Calls Tryz.prog 168 #[.pointer (some ⟨m0.q,0,none⟩),.int .i64 a,.int .i64 b] wr fun e w'=>e=.returned (.tuple #[])/\∃m',HAt base w m0 w' m'):=aq (by
  intro wr m i j a b h ea eb h1 h2 h3 h4
  subst ea eb
  have hl:=h.len
  have ha:m.all[i-1]?=some m.all[i-1]:=List.getElem?_eq_getElem (by omega)
  have hb:m.all[j-1]?=some m.all[j-1]:=List.getElem?_eq_getElem (by omega)
  have:=nJ base m (i-1) (j-1) _ _ wr h.mu.at ha hb h.ok.bd (by have:=h.ok.len12;omega)
  rw[h.mu.q,show(((i-1:Nat):Int)+1)=(i:Int)from by omega,show(((j-1:Nat):Int)+1)=(j:Int)from by omega]at this
  exact this.mono (fun e w' hh=>⟨hh.1,_,h.swap ha hb hh.2⟩))
 have HLC:Hid (∀(wr:World) (m:Mem),HAt base w m0 wr m->∃ao cp,wr.cell? ⟨m0.q,2,none⟩=some (.slice ao m0.all.length cp)):=aq (fun wr m h=>h.lenCell)
 clear hS hok
 generalize m0.all.length=N at *
 go_enter Tryz.func169,Tryz.ntmps169
 go_wp2
 go_loopw [2] (fun a wr=>∃j:Nat,1<=j/\j<=12/\a=.int .i64 (j:Int)/\Hid (∃m,HAt base w m0 wr m)) (fun a _=>100-(intOf a).toNat)
 case atStart=>exact⟨1,by omega,by omega,rfl,aq ⟨m0,dz H0⟩⟩
 case round=>
  obtain⟨j,hj1,hj12,rfl,HM⟩:=hrel
  obtain⟨m,hM⟩:=dz HM
  obtain⟨ao,cp,hlc⟩:=dz HLC wr m hM
  by_cases h2:2*j<=N
  ·have h2i:2*(j:Int)<=(N:Int):=by omega
   by_cases h3:2*j<N
   ·have h3i:2*(j:Int)<(N:Int):=by omega
    have HA:=aq (dz HAH wr m (2*j+1) (2*j) (2*(j:Int)+1) (2*(j:Int)) hM (by omega) (by omega) (by omega) (by omega) (by omega) (by omega))
    clear hM
    go_wp2_with fail
    refine(dz HA).mono ?_
    rintro e w4 ⟨⟨t4,rfl⟩,hM4⟩
    have HMc:=aq hM4
    clear hM4
    cases t4
    ·have HA2:=aq (dz HAH w4 m (2*j) j (2*(j:Int)) (j:Int) (dz HMc) (by omega) rfl (by omega) (by omega) (by omega) (by omega))
     go_wp2_with fail
     refine(dz HA2).mono ?_
     rintro e w5 ⟨⟨t5,rfl⟩,hM5⟩
     have HM5:=aq hM5
     have HS5:=aq (dz HSW w5 m j (2*j) (j:Int) (2*(j:Int)) hM5 rfl (by omega) (by omega) (by omega) (by omega) (by omega))
     clear hM5
     cases t5
     ·go_wp2
      try go_end0
      try (refine bodyPost_ret (results_none rfl _ _ _) rfl ?_)
      exact⟨rfl,m,dz HM5⟩
     ·go_wp2_with fail
      refine(dz HS5).mono ?_
      rintro e w6 ⟨rfl,m6,hM6⟩
      have HM6:=aq hM6
      clear hM6
      go_wp2
      go_roundw
      case rel=>exact⟨2*j,by omega,by omega,by go_num,aq ⟨m6,dz HM6⟩⟩
      case measure=>simp[intOf];omega
    ·have HA2:=aq (dz HAH w4 m (2*j+1) j (2*(j:Int)+1) (j:Int) (dz HMc) (by omega) rfl (by omega) (by omega) (by omega) (by omega))
     go_wp2_with fail
     refine(dz HA2).mono ?_
     rintro e w5 ⟨⟨t5,rfl⟩,hM5⟩
     have HM5:=aq hM5
     have HS5:=aq (dz HSW w5 m j (2*j+1) (j:Int) (2*(j:Int)+1) hM5 rfl (by omega) (by omega) (by omega) (by omega) (by omega))
     clear hM5
     cases t5
     ·go_wp2
      try go_end0
      try (refine bodyPost_ret (results_none rfl _ _ _) rfl ?_)
      exact⟨rfl,m,dz HM5⟩
     ·go_wp2_with fail
      refine(dz HS5).mono ?_
      rintro e w6 ⟨rfl,m6,hM6⟩
      have HM6:=aq hM6
      clear hM6
      go_wp2
      go_roundw
      case rel=>exact⟨2*j+1,by omega,by omega,by go_num,aq ⟨m6,dz HM6⟩⟩
      case measure=>simp[intOf];omega
   ·have h3i:¬2*(j:Int)<(N:Int):=by omega
    have HMc:=aq hM
    clear hM
    have HA2:=aq (dz HAH wr m (2*j) j (2*(j:Int)) (j:Int) (dz HMc) (by omega) rfl (by omega) (by omega) (by omega) (by omega))
    go_wp2_with fail
    refine(dz HA2).mono ?_
    rintro e w5 ⟨⟨t5,rfl⟩,hM5⟩
    have HM5:=aq hM5
    have HS5:=aq (dz HSW w5 m j (2*j) (j:Int) (2*(j:Int)) hM5 rfl (by omega) (by omega) (by omega) (by omega) (by omega))
    clear hM5
    cases t5
    ·go_wp2
     try go_end0
     try (refine bodyPost_ret (results_none rfl _ _ _) rfl ?_)
     exact⟨rfl,m,dz HM5⟩
    ·go_wp2_with fail
     refine(dz HS5).mono ?_
     rintro e w6 ⟨rfl,m6,hM6⟩
     have HM6:=aq hM6
     clear hM6
     go_wp2
     go_roundw
     case rel=>exact⟨2*j,by omega,by omega,by go_num,aq ⟨m6,dz HM6⟩⟩
     case measure=>simp[intOf];omega
  ·have h2i:¬2*(j:Int)<=(N:Int):=by omega
   have HM2:=aq hM
   clear hM
   go_wp2
   try go_end0
   exact⟨rfl,m,dz HM2⟩
end Go.Proofs.YtekkkoipcghlmaaGreatDoor
