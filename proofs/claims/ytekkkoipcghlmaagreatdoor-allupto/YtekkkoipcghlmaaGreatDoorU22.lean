import Derived.Test.YtekkkoipcghlmaaGreatDoorU21
set_option linter.all false
namespace Go.Proofs.YtekkkoipcghlmaaGreatDoor
open Go.RowKit
attribute [local go_sem ↓] Go.wp_at_zero Go.wp_at_succ
theorem cT{w:World}{v:Value}{xs:List Int}(hv:Lies w v (ints xs)):∃vo vc,v=.slice vo xs.length vc/\∀j x,xs[j]?=some x->∃b off,vo=some ⟨b,off,none⟩/\w.cell? ⟨b,off+j,none⟩=some (.int .i64 x):=by
 rcases hv with⟨h0,ao,cap,he⟩|⟨b,off,cap,hp,he,hb,hc⟩
 ·have h1:xs=[]:=by
   cases xs with
   | nil=>rfl
   | cons a r=>simp[ints]at h0
  subst h1
  exact⟨ao,cap,he,fun j x hj=>by simp at hj⟩
 ·rw[cA]at he
  refine⟨_,cap,he,fun j x hj=>⟨b,off,rfl,hc j _ ?_⟩⟩
  unfold ints
  rw[List.getElem?_map,hj]
  rfl
set_option maxRecDepth 100000 in
set_option maxHeartbeats 1600000 in
theorem aE4(v:Value)(xs:List Int)(x:Int)(w:World)(hl:xs.length<=100000000)(hv:Lies w v (ints xs)):
  Calls Tryz.prog 157 #[v,.int .i64 x] w fun e w'=>(∃z:Int,e=.returned (.int .i64 z)/\(0<=z↔x∈xs))/\w'=w:=by
 obtain⟨vo,vc,rfl,hc⟩:=cT hv
 have HC:=aq hc
 clear hv hc
 generalize hN:xs.length=N at *
 go_enter Tryz.func157,Tryz.ntmps157
 go_wp2
 go_loop [8] (fun v8=>∃k:Nat,k<=N/\v8=.int .i64 (k:Int)/\Hid (∀j:Nat,j<k->xs[j]?≠some x)) (fun v8=>N-(intOf v8).toNat)
 case atStart=>exact⟨0,Nat.zero_le _,rfl,aq (fun j hj=>by omega)⟩
 case round=>
  obtain⟨k,hk,rfl,HN⟩:=hrel
  by_cases hkn:k<N
  ·have hg:xs[k]?=some (xs[k]'(by omega)):=List.getElem?_eq_getElem _
   obtain⟨b,off,hvo,hcell⟩:=dz HC k _ hg
   subst hvo
   have HG:=aq hg
   clear hg
   generalize (xs[k]'(by omega))=y at *
   have hki:(k:Int)<(N:Int):=by omega
   by_cases hxy:x=y
   ·subst hxy
    go_wp2
    try go_ret
    refine⟨⟨_,rfl,fun _=>List.mem_of_getElem? (dz HG),fun _=>by omega⟩,rfl⟩
   ·go_wp2
    refine⟨⟨k+1,by omega,by go_num,aq (fun j hj=>?_)⟩,?_⟩
    ·by_cases hjk:j=k
     ·subst hjk
      rw[dz HG]
      intro h
      simp at h
      exact hxy h.symm
     ·exact dz HN j (by omega)
    ·simp only[intOf]
     omega
  ·have hki:¬(k:Int)<(N:Int):=by omega
   go_wp2
   try go_ret
   refine⟨⟨_,rfl,fun h=>by omega,fun h=>?_⟩,rfl⟩
   obtain⟨j,hj⟩:=List.getElem?_of_mem h
   exact absurd hj (dz HN j (by have:=(List.getElem?_eq_some_iff.1 hj).1;omega))
set_option maxRecDepth 100000 in
theorem lM(v:Value)(xs:List Int)(x:Int)(w:World)(hl:xs.length<=100000000)(hv:Lies w v (ints xs)):
  Calls Tryz.prog 116 #[v,.int .i64 x] w fun e w'=>(∃b:Bool,e=.returned (.bool b)/\(b=true↔x∈xs))/\w'=w:=by
 obtain⟨vo,vc,hsh,-⟩:=cT hv
 have HI:=aq (aE4 v xs x w hl hv)
 clear hv
 subst hsh
 go_enter Tryz.func116,Tryz.ntmps116
 go_wp2_with fail
 refine(dz HI).mono ?_
 rintro e w1 ⟨⟨z,rfl,hz⟩,rfl⟩
 go_wp2
 try go_ret
 exact⟨⟨_,rfl,by simp⟩,rfl⟩
def once(l:List Int):List Int:=l.foldl (fun acc x=>if x∈acc then acc else acc++[x]) []
theorem jL(l:List Int)(x:Int):once (l++[x])=if x∈once l then once l else once l++[x]:=by unfold once;rw[List.foldl_append];rfl
theorem lG(l:List Int):(once l).length<=l.length:=by
 have:∀n,(once (l.take n)).length<=n:=by
  intro n
  induction n with
  | zero=>simp[once]
  | succ n ih=>
   by_cases h:n<l.length
   ·rw[List.take_succ_eq_append_getElem h,jL]
    split
    ·omega
    ·rw[List.length_append];simp;omega
   ·rw[List.take_of_length_le (by omega)]
    rw[List.take_of_length_le (by omega)]at ih
    omega
 have h:=this l.length
 rw[List.take_length]at h
 exact h
set_option maxRecDepth 100000 in
set_option maxHeartbeats 1600000 in
theorem sF(v:Value)(xs:List Int)(w:World)(hl:xs.length<=10000000)(hv:Lies w v (ints xs)):
  Calls Tryz.prog 71 #[v] w fun e w'=>∃u,e=.returned u/\w'.ownsRow w.heap.size 3 1 u (once xs).length (ints (once xs))/\Below w.heap.size w w':=by
 obtain⟨vo,vc,rfl,hc⟩:=cT hv
 have HC:Hid (∀wr,Below w.heap.size w wr->∀j x,xs[j]?=some x->∃b off,vo=some ⟨b,off,none⟩/\wr.cell? ⟨b,off+j,none⟩=some (.int .i64 x)):=aq (fun wr hb j x hj=>by
  obtain⟨vo',vc',he,h⟩:=cT (hv.below hb)
  cases he
  exact h j x hj)
 clear hv hc
 generalize hN:xs.length=N at *
 go_enter Tryz.func71,Tryz.ntmps71
 go_wp2
 go_loopw [3,8] (fun v3 v8 wr=>∃k:Nat,k<=N/\v8=.int .i64 (k:Int)/\Hid (wr.ownsRow w.heap.size 3 1 v3 (once (xs.take k)).length (ints (once (xs.take k))))/\Hid (Below w.heap.size w wr)) (fun _ v8 _=>N-(intOf v8).toNat)
 case atStart=>exact⟨0,Nat.zero_le _,rfl,aq (cW _ _ _),aq (Below.refl _ _)⟩
 case round=>
  rename_i v3
  obtain⟨k,hk,rfl,HO,HB⟩:=hrel
  obtain⟨ao,cp,hsh⟩:=aC (dz HO)
  subst hsh
  by_cases hkn:k<N
  ·have hg:xs[k]?=some (xs[k]'(by omega)):=List.getElem?_eq_getElem _
   obtain⟨b,off,hvo,hcell⟩:=dz HC _ (dz HB) k _ hg
   subst hvo
   have HTK:Hid (xs.take (k+1)=xs.take k++[xs[k]'(by omega)]):=aq (List.take_succ_eq_append_getElem (by omega))
   have HOL:=aq (lG (xs.take k))
   clear hg
   generalize (xs[k]'(by omega))=y at *
   have hki:(k:Int)<(N:Int):=by omega
   have hol:(once (xs.take k)).length<=10000000:=by have:=dz HOL;rw[List.length_take]at this;omega
   have HCO:=aq (lM _ (once (xs.take k)) y wr (by omega) (aE (dz HO) (cA _)))
   have HSN:=aq (jL (xs.take k) y)
   generalize once (xs.take k)=oc at *
   generalize hon:oc.length=on at *
   go_wp2_with fail
   refine(dz HCO).mono ?_
   rintro e w1 ⟨⟨bb,rfl,hbb⟩,rfl⟩
   have hbs:=(dz HB).size
   cases bb
   ·have hny:y∉oc:=fun h=>by have:=hbb.2 h;cases this
    have HNY:=aq hny
    clear hbb hny HCO
    go_wp2_with (at_builtin;refine bY (base:=w.heap.size) rfl _ _ 25 3 rfl Tryz.underlying25 Tryz.infoInt rfl (by decide) (dz HO) rfl rfl rfl (by omega) (by omega) ?_;intro g' cap' w4 hown4 hgr4 hloc4;have HO4:=aq hown4;have HG4:=aq hgr4;clear hown4 hgr4 hloc4)
    have HBW:Hid (Below w.heap.size w w4):=aq (by
     have h1:Below w.heap.size w (w1.alloc (.cells #[.int .i64 y] 3)):=(dz HB).trans ((Below.refl _ _).alloc hbs _)
     exact h1.grown (dz HG4) h1.size (fun q hq=>((dz HO).lt q hq).1))
    refine⟨⟨k+1,by omega,by go_num,?_,HBW⟩,?_⟩
    ·rw[dz HTK,dz HSN,if_neg (dz HNY),cV,List.length_append,hon]
     exact HO4
    ·simp only[intOf]
     omega
   ·have hy:y∈oc:=hbb.1 rfl
    have HY:=aq hy
    clear hbb hy HCO
    go_wp2
    refine⟨⟨k+1,by omega,by go_num,?_,HB⟩,?_⟩
    ·rw[dz HTK,dz HSN,if_pos (dz HY),hon]
     exact HO
    ·simp only[intOf]
     omega
  ·have hki:¬(k:Int)<(N:Int):=by omega
   have hkk:k=N:=by omega
   have hT:xs.take k=xs:=List.take_of_length_le (by omega)
   rw[hT]at HO⊢
   clear hT
   go_wp2
   try go_ret
   exact⟨_,rfl,dz HO,dz HB⟩
end Go.Proofs.YtekkkoipcghlmaaGreatDoor
namespace Go.Proofs.YtekkkoipcghlmaaGreatDoor
open Go.RowKit
attribute [local go_sem ↓] Go.wp_at_zero Go.wp_at_succ
def Mem.qrows(m:Mem):List Row:=[aI 161 m.q m.qCells,aI 112 m.qb [.pointer (some ⟨m.q,0,none⟩)],aB m.al m.all,aB m.co m.counts,aB m.pl m.places]
structure QS(base:Nat)(w:World)(m:Mem):Prop where
 pack:Pack base w m.qrows
 counts:m.counts.length=13
 places:m.places.length=13
 zero:∀c,c∈m.counts->c=0
section
variable {base:Nat}{w w':World}{m:Mem}
theorem QS.cell(h:QS base w m)(j:Nat)(hj:j<6):w.cell? ⟨m.q,j,none⟩=m.qCells[j]?:=World.ownsRow.cellAt (h.pack.rows 0 _ rfl) j (by simpa [aI,Mem.qCells] using hj)
theorem QS.bcell(h:QS base w m):w.cell? ⟨m.qb,0,none⟩=some (.pointer (some ⟨m.q,0,none⟩)):=World.ownsRow.cellAt (h.pack.rows 1 _ rfl) 0 (by simp[aI])
theorem QS.below(h:QS base w m)(hb:Below w.heap.size w w'):QS base w' m:=⟨h.pack.below hb,h.counts,h.places,h.zero⟩
theorem iR{v:Value}{l:List Int}{n:Nat}(h:w.ownsRow base 3 1 v l.length (ints l))(hl:l.length=n)(hn:0<n):∃g cap,v=.slice (some ⟨g,0,none⟩) n cap/\g<w.heap.size/\(∀j x,l[j]?=some x->w.cell? ⟨g,j,none⟩=some (.int .i64 x))/\∀j,w.frozen? ⟨g,j,none⟩=false:=by
 obtain⟨g,cap,hv,-,hg⟩:=World.ownsRow.form h (by omega)
 rw[hv]at h
 subst hl
 refine⟨g,cap,hv,hg,fun j x hj=>?_,fun j=>h.frozenAt j⟩
 have:=(List.getElem?_eq_some_iff.1 hj).1
 rw[h.cellAt j (by omega)]
 unfold ints
 rw[List.getElem?_map,hj]
 rfl
end
set_option maxRecDepth 100000 in
set_option maxHeartbeats 1600000 in
theorem zB(base:Nat)(m:Mem)(a b:Nat)(w:World)(hS:QS base w m)(ha:0<a)(ha':a<=m.all.length)(hb:0<b)(hb':b<=m.all.length)(hbd:∀v,v∈m.all->1<=v/\v<=12)(hl:m.all.length<=12):
  Calls Tryz.prog 183 #[.pointer (some ⟨m.q,0,none⟩),.int .i64 a,.int .i64 b] w fun e w'=>e=.returned (.bool false)/\Below w.heap.size w w':=by
 obtain⟨g,cap,hal,hg,hcell,-⟩:=iR (hS.pack.rows 2 _ rfl) rfl (by omega)
 obtain⟨g2,cap2,hco,hg2,hcell2,-⟩:=iR (hS.pack.rows 3 _ rfl) hS.counts (by omega)
 have hq0:w.cell? ⟨m.q,0,none⟩=some (.func (.func 107) #[] #[.pointer (some ⟨m.qb,0,none⟩)]):=by rw[hS.cell 0 (by decide)];rfl
 have hq2:w.cell? ⟨m.q,2,none⟩=some (.slice (some ⟨g,0,none⟩) m.all.length cap):=by rw[hS.cell 2 (by decide),←show m.al=_ from hal];rfl
 have hq3:w.cell? ⟨m.q,3,none⟩=some (.slice (some ⟨g2,0,none⟩) 13 cap2):=by rw[hS.cell 3 (by decide),←show m.co=_ from hco];rfl
 have hqb:=hS.bcell
 obtain⟨a',rfl⟩:∃a',a=a'+1:=⟨a-1,by omega⟩
 obtain⟨b',rfl⟩:∃b',b=b'+1:=⟨b-1,by omega⟩
 have hga:m.all[a']?=some m.all[a']:=List.getElem?_eq_getElem (by omega)
 have hgb:m.all[b']?=some m.all[b']:=List.getElem?_eq_getElem (by omega)
 have hca:=hcell a' _ hga
 have hcb:=hcell b' _ hgb
 have ba:=hbd _ (List.mem_of_getElem? hga)
 have bb:=hbd _ (List.mem_of_getElem? hgb)
 clear hga hgb
 generalize m.all[a']=x at *
 generalize m.all[b']=y at *
 have zero:∀j,j<13->m.counts[j]?=some 0:=fun j hj=>by
  have h1:m.counts[j]?=some (m.counts[j]'(by rw[hS.counts];exact hj)):=List.getElem?_eq_getElem _
  rw[h1,hS.zero _ (List.mem_of_getElem? h1)]
 have hc1:=hcell2 x.toNat _ (zero x.toNat (by omega))
 have hc2:=hcell2 y.toNat _ (zero y.toNat (by omega))
 obtain⟨x',rfl⟩:∃x':Nat,x=x':=⟨x.toNat,by omega⟩
 obtain⟨y',rfl⟩:∃y':Nat,y=y':=⟨y.toNat,by omega⟩
 simp only[Int.toNat_natCast]at hc1 hc2
 clear hcell hcell2 hbd hal hco hS zero
 generalize m.all.length=N at *
 have hwa:IntKind.i64.wrap (a':Int)=a':=by rw[IntKind.wrap_i64];omega
 have hwb:IntKind.i64.wrap (b':Int)=b':=by rw[IntKind.wrap_i64];omega
 have hia:(a':Int)<(N:Int):=by omega
 have hib:(b':Int)<(N:Int):=by omega
 have hka:a'<N:=by omega
 have hkb:b'<N:=by omega
 go_enter Tryz.func183,Tryz.ntmps183
 have HC:=aq (fun n=>rO m.q m.qb g2 cap2 x' y' 0 0 (w.drewN n) hqb hq3 (by omega) (by omega) hc1 hc2)
 go_wp2_with fail
 go_quiet ((go_at_call 107;refine Calls.quiet_of (dz HC _)))
 go_wp2
 go_ret
 exact⟨rfl,aG (Below.refl _ _) _⟩
set_option maxRecDepth 100000 in
set_option maxHeartbeats 3200000 in
theorem aF8(base:Nat)(m:Mem)(v:Nat)(w:World)(hS:QS base w m)(hv:v<=12)(hp:m.places[v]?=some (m.all.length:Int))(hn:0<m.all.length)(hbd:∀v,v∈m.all->1<=v/\v<=12)(hl:m.all.length<=12):
  Calls Tryz.prog 154 #[.pointer (some ⟨m.q,0,none⟩),.int .i64 v] w fun e w'=>e=.returned (.tuple #[])/\Below w.heap.size w w':=by
 obtain⟨g4,cap4,hpl,hg4,hcell4,hfz4⟩:=iR (hS.pack.rows 4 _ rfl) hS.places (by omega)
 have hq1:w.cell? ⟨m.q,1,none⟩=some (.func (.func 108) #[] #[.pointer (some ⟨m.qb,0,none⟩)]):=by rw[hS.cell 1 (by decide)];rfl
 have hq4:w.cell? ⟨m.q,4,none⟩=some (.slice (some ⟨g4,0,none⟩) 13 cap4):=by rw[hS.cell 4 (by decide),←show m.pl=_ from hpl];rfl
 have hqb:=hS.bcell
 have hcv:=hcell4 v _ hp
 have HC:=aq (dH m.q m.qb g4 cap4 v w hqb hq4 hv)
 have HAH:Hid (∀wr,Below w.heap.size w wr->1<m.all.length->Calls Tryz.prog 183 #[.pointer (some ⟨m.q,0,none⟩),.int .i64 (m.all.length:Int),.int .i64 ((m.all.length:Int) / 2)] wr fun e w'=>e=.returned (.bool false)/\Below wr.heap.size wr w'):=aq (by
  intro wr hb h1
  have:=zB base m m.all.length (m.all.length / 2) wr (hS.below hb) (by omega) (by omega) (by omega) (by omega) hbd hl
  rw[show((m.all.length / 2:Nat):Int)=(m.all.length:Int) / 2 from by omega]at this
  exact this)
 clear hS hpl hcell4 hfz4 hp
 generalize m.all.length=N at *
 go_enter Tryz.func154,Tryz.ntmps154
 go_wp2_with fail
 refine(dz HC).mono ?_
 rintro e w1 ⟨rfl,n1,rfl⟩
 have HB1:Hid (Below w.heap.size w (w.drewN n1)):=aq (aG (Below.refl _ _) _)
 go_wp2
 go_loopw [4] (fun a wr=>a=.int .i64 (N:Int)/\Hid (Below w.heap.size w wr)) (fun a _=>(intOf a).toNat)
 case atStart=>exact⟨rfl,HB1⟩
 case round=>
  obtain⟨rfl,HB⟩:=hrel
  by_cases h1:1<N
  ·have HA:=aq (dz HAH wr (dz HB) h1)
   have h1i:(1:Int)<(N:Int):=by omega
   go_wp2_with fail
   refine(dz HA).mono ?_
   rintro e w2 ⟨rfl,hb2⟩
   have HB2:Hid (Below w.heap.size w w2):=aq ((dz HB).trans (hb2.mono (dz HB).size))
   clear hb2
   go_wp2
   try go_end0
   exact⟨rfl,dz HB2⟩
  ·have h1i:¬(1:Int)<(N:Int):=by omega
   go_wp2
   try go_end0
   exact⟨rfl,dz HB⟩
end Go.Proofs.YtekkkoipcghlmaaGreatDoor
namespace Go.Proofs.YtekkkoipcghlmaaGreatDoor
open Go.RowKit
attribute [local go_sem ↓] Go.wp_at_zero Go.wp_at_succ
section
variable {base:Nat}{w:World}{m:Mem}
theorem QS.heaped(h:QS base w m){w4:World}{g cap:Nat}{x:Int}(hown:w4.ownsRow base 3 1 (.slice (some ⟨g,0,none⟩) (m.all.length+1) cap) (m.all.length+1) (ints m.all++[.int .i64 x])){wz:World}(hz:Below w.heap.size w wz)(hgr:wz.grownBy w4 m.al.ownBlock)(hloc:m.al.ownBlock=some g∨g=wz.heap.size):
  PMut base w m.qrows (w4.setCell ⟨m.q,2,none⟩ (.slice (some ⟨g,0,none⟩) (m.all.length+1) cap)) (m.heaped (.slice (some ⟨g,0,none⟩) (m.all.length+1) cap) (m.all++[x])).qrows/\w4.cell? ⟨m.q,2,none⟩=some m.al/\w4.frozen? ⟨m.q,2,none⟩=false:=by
 have h1:=PMut.below h.pack hz
 have hzs:=hz.size
 have h2:=PMut.row h1.pack (i:=2) (r':=aB (.slice (some ⟨g,0,none⟩) (m.all.length+1) cap) (m.all++[x])) rfl (by
  unfold Row.ok aB
  simp only[List.length_append,List.length_cons,List.length_nil,cV]
  exact hown) hgr (by
  rcases hloc with h|h
  ·exact .inr (.inl h.symm)
  ·exact .inr (.inr ⟨g,rfl,by omega⟩))
 have h3:=PMut.store h2.pack (i:=0) rfl rfl 2 (.slice (some ⟨g,0,none⟩) (m.all.length+1) cap)
 exact⟨h1.trans (h2.trans h3),World.ownsRow.cellAt (h2.pack.rows 0 _ rfl) 2 (by simp[aI,Mem.qCells]),World.ownsRow.frozenAt (h2.pack.rows 0 _ rfl) 2⟩
theorem QS.placeSet(h:QS base w m){g cap:Nat}(hv:m.pl=.slice (some ⟨g,0,none⟩) 13 cap)(j:Nat)(x:Int):PMut base w m.qrows (w.setCell ⟨g,j,none⟩ (.int .i64 x)) (m.placeSet j x).qrows:=by
 have h1:=PMut.store h.pack (i:=4) (r:=aB m.pl m.places) rfl (g:=g) (cap:=cap) (by show m.pl=_;rw[hv];show _=Value.slice _ m.places.length _;rw[h.places]) j (.int .i64 x)
 have e:m.qrows.set 4 ⟨3,1,m.pl,m.places.length,(ints m.places).set j (.int .i64 x)⟩=(m.placeSet j x).qrows:=by
  unfold Mem.qrows Mem.placeSet aB
  simp only[List.set,List.length_set,dT]
  rfl
 rw[←e]
 exact h1
end
set_option maxRecDepth 100000 in
set_option maxHeartbeats 6400000 in
theorem aN8(base:Nat)(m0:Mem)(v:Nat)(w:World)(hS:QS base w m0)(hv:v=m0.all.length+1)(hv12:v<=12)(hpv:m0.places[v]?=some 0)(hbd:∀v,v∈m0.all->1<=v/\v<=12)(hbs:base<=w.heap.size):
  Calls Tryz.prog 109 #[.pointer (some ⟨m0.q,0,none⟩),.int .i64 v] w fun e w'=>e=.returned (.tuple #[])/\∃al,PMut base w m0.qrows w' ((m0.heaped al (m0.all++[(v:Int)])).placeSet v (v:Int)).qrows:=by
 obtain⟨g4,cap4,hpl,hg4,hcell4,hfz4⟩:=iR (hS.pack.rows 4 _ rfl) hS.places (by omega)
 have hpl':m0.pl=.slice (some ⟨g4,0,none⟩) 13 cap4:=hpl
 have hq1:w.cell? ⟨m0.q,1,none⟩=some (.func (.func 108) #[] #[.pointer (some ⟨m0.qb,0,none⟩)]):=by rw[hS.cell 1 (by decide)];rfl
 have hq2:w.cell? ⟨m0.q,2,none⟩=some m0.al:=by rw[hS.cell 2 (by decide)];rfl
 have hq4:w.cell? ⟨m0.q,4,none⟩=some (.slice (some ⟨g4,0,none⟩) 13 cap4):=by rw[hS.cell 4 (by decide),←hpl'];rfl
 have hqb:=hS.bcell
 have hcv:=hcell4 v _ hpv
 have HC:=aq (dH m0.q m0.qb g4 cap4 v w hqb hq4 hv12)
 have HROW:Hid (w.ownsRow base 3 1 m0.al m0.all.length (ints m0.all)):=aq (hS.pack.rows 2 _ rfl)
 obtain⟨ao,cp,hsh⟩:=aC (dz HROW)
 have HROWB:Hid (∀wx,Below w.heap.size w wx->wx.ownsRow base 3 1 m0.al m0.all.length (ints m0.all)):=aq (fun wx hb=>aR (dz HROW) hb)
 have HO:Hid (∀(wz w4:World) (g cap:Nat),w4.ownsRow base 3 1 (.slice (some ⟨g,0,none⟩) (m0.all.length+1) cap) (m0.all.length+1) (ints m0.all++[.int .i64 (v:Int)])->Below w.heap.size w wz->wz.grownBy w4 m0.al.ownBlock->(m0.al.ownBlock=some g∨g=wz.heap.size)->
   PMut base w m0.qrows (w4.setCell ⟨m0.q,2,none⟩ (.slice (some ⟨g,0,none⟩) (m0.all.length+1) cap)) (m0.heaped (.slice (some ⟨g,0,none⟩) (m0.all.length+1) cap) (m0.all++[(v:Int)])).qrows/\w4.cell? ⟨m0.q,2,none⟩=some m0.al/\w4.frozen? ⟨m0.q,2,none⟩=false):=aq (fun wz w4 g cap ho hz hg hl=>hS.heaped ho hz hg hl)
 have HQ:Hid (∀(w1:World) (al:Value),PMut base w m0.qrows w1 (m0.heaped al (m0.all++[(v:Int)])).qrows->∃ao2 cp2,w1.cell? ⟨m0.q,1,none⟩=some (.func (.func 108) #[] #[.pointer (some ⟨m0.qb,0,none⟩)])/\w1.cell? ⟨m0.q,2,none⟩=some (.slice ao2 (m0.all.length+1) cp2)/\w1.cell? ⟨g4,v,none⟩=some (.int .i64 0)/\w1.frozen? ⟨g4,v,none⟩=false/\
   (∀wx,(∃n,wx=w1.drewN n)->Calls Tryz.prog 108 #[.int .i64 v,.pointer (some ⟨m0.qb,0,none⟩)] wx fun e w'=>e=.returned (.pointer (some ⟨g4,v,none⟩))/\∃n,w'=wx.drewN n)/\
   ∀wq,Below w1.heap.size w1 wq->PMut base w m0.qrows (wq.setCell ⟨g4,v,none⟩ (.int .i64 ((m0.all.length:Int)+1))) ((m0.heaped al (m0.all++[(v:Int)])).placeSet v ((m0.all.length:Int)+1)).qrows):=aq (by
  intro w1 al hm1
  have hS1:QS base w1 (m0.heaped al (m0.all++[(v:Int)])):=⟨hm1.pack,hS.counts,hS.places,hS.zero⟩
  obtain⟨ao2,cp2,hsh2⟩:=aC (hS1.pack.rows 2 _ rfl)
  obtain⟨g5,cap5,hpl5,-,hcell5,hfz5⟩:=iR (hS1.pack.rows 4 _ rfl) hS1.places (by omega)
  have hpl5':m0.pl=.slice (some ⟨g5,0,none⟩) 13 cap5:=hpl5
  rw[hpl']at hpl5'
  simp only[Value.slice.injEq,Option.some.injEq,Addr.mk.injEq,and_true,true_and]at hpl5'
  obtain⟨rfl,rfl⟩:=hpl5'
  refine⟨ao2,cp2,by have:=hS1.cell 1 (by decide);exact this,?_,hcell5 v _ hpv,hfz5 v,fun wx hx=>?_,fun wq hq=>?_⟩
  ·have:=hS1.cell 2 (by decide)
   rw[show m0.q=(m0.heaped al (m0.all++[(v:Int)])).q from rfl,this]
   show some al=_
   rw[show al=_ from hsh2]
   simp[aB,Mem.heaped]
  ·obtain⟨n,rfl⟩:=hx
   exact dH m0.q m0.qb g4 cap4 v (w1.drewN n) hS1.bcell (by have:=hS1.cell 4 (by decide);rw[show m0.q=(m0.heaped al (m0.all++[(v:Int)])).q from rfl];exact this.trans (by show some m0.pl=_;rw[hpl'])) hv12
  ·have hb:=PMut.below hm1.pack hq
   have hSq:QS base wq (m0.heaped al (m0.all++[(v:Int)])):=⟨hb.pack,hS.counts,hS.places,hS.zero⟩
   exact(hm1.trans hb).trans (hSq.placeSet hpl' v _))
 have HR:Hid (∀(w2:World) (al:Value),PMut base w m0.qrows w2 ((m0.heaped al (m0.all++[(v:Int)])).placeSet v ((m0.all.length:Int)+1)).qrows->Calls Tryz.prog 154 #[.pointer (some ⟨m0.q,0,none⟩),.int .i64 v] w2 fun e w'=>e=.returned (.tuple #[])/\∃al,PMut base w m0.qrows w' ((m0.heaped al (m0.all++[(v:Int)])).placeSet v (v:Int)).qrows):=aq (by
  intro w2 al hm2
  have hS2:QS base w2 ((m0.heaped al (m0.all++[(v:Int)])).placeSet v ((m0.all.length:Int)+1)):=⟨hm2.pack,hS.counts,by show(m0.places.set _ _).length=13;rw[List.length_set];exact hS.places,hS.zero⟩
  have hlen:((m0.heaped al (m0.all++[(v:Int)])).placeSet v ((m0.all.length:Int)+1)).all.length=m0.all.length+1:=by show(m0.all++[(v:Int)]).length=_;simp
  have:=aF8 base _ v w2 hS2 hv12 (by
   rw[hlen]
   show(m0.places.set v _)[v]?=_
   rw[List.getElem?_set_self (by rw[hS.places];omega)]
   simp) (by rw[hlen];omega) (fun u hu=>by
   have hu':u∈m0.all++[(v:Int)]:=hu
   rcases List.mem_append.1 hu' with h|h
   ·exact hbd u h
   ·simp at h;subst h;omega) (by rw[hlen];omega)
  refine this.mono (fun e w' hh=>?_)
  obtain⟨he,hb⟩:=hh
  refine⟨he,al,?_⟩
  have e1:((v:Nat):Int)=(m0.all.length:Int)+1:=by omega
  rw[e1]
  have h3:=hm2.trans (PMut.below hm2.pack hb)
  rw[e1]at h3
  exact h3)
 clear hS hpl hpl' hcell4 hfz4 hpv hbd
 generalize hN:m0.all.length=N at *
 have hN12:N<=12:=by omega
 clear hv hN
 generalize ints m0.all=io at *
 generalize m0.al=ov at *
 subst hsh
 go_enter Tryz.func109,Tryz.ntmps109
 go_wp2_with fail
 refine(dz HC).mono ?_
 rintro e w1 ⟨rfl,n1,rfl⟩
 go_wp2_with (at_builtin;refine bY (base:=base) rfl _ _ 25 3 rfl Tryz.underlying25 Tryz.infoInt rfl (by decide) (dz HROWB _ (aG (Below.refl _ _) _)) rfl rfl rfl (by omega) hbs ?_;intro g' cap' w4 hown4 hgr4 hloc;have HMID:=aq (dz HO _ _ _ _ hown4 ((aG (Below.refl _ _) _).alloc (Nat.le_refl _) _) hgr4 hloc);clear hown4 hgr4 hloc;have hc04:=(dz HMID).2.1;have hf04:=(dz HMID).2.2)
 obtain⟨ao2,cp2,k1,k2,k3,k4,k5,k6⟩:=dz HQ _ _ (dz HMID).1
 have HK5:=aq k5
 have HK6:=aq k6
 generalize hw5:w4.setCell ⟨m0.q,2,none⟩ (.slice (some ⟨g',0,none⟩) (N+1) cap')=w5 at *
 clear hw5 k5 k6 hc04 hf04
 go_cut [] (fun wx=>Hid (∃al,PMut base w m0.qrows wx ((m0.heaped al (m0.all++[(v:Int)])).placeSet v ((N:Int)+1)).qrows))
 case first=>
  go_region_with (go_at_call 108;refine(dz HK5 _ (by first|exact⟨0,rfl⟩|exact⟨1,rfl⟩|exact⟨2,rfl⟩)).mono ?_;rintro e w3 ⟨rfl,n3,rfl⟩)
  all_goals go_wp2_with fail
  all_goals go_meet
  all_goals exact aq ⟨_,dz HK6 _ (aG (Below.refl _ _) _)⟩
 case rest=>
  obtain⟨w6,rfl⟩:∃w6,w6=wc:=⟨wc,rfl⟩
  obtain⟨al6,hm6⟩:=dz hcut
  have HR6:=aq (dz HR _ _ hm6)
  clear hm6 hcut
  go_wp2_with fail
  refine(dz HR6).mono ?_
  rintro e w7 ⟨rfl,hp7⟩
  have HP7:=aq hp7
  clear hp7
  go_wp2
  try go_end0
  exact⟨rfl,dz HP7⟩
end Go.Proofs.YtekkkoipcghlmaaGreatDoor
