import Derived.Test.YtekkkoipcghlmaaGreatDoorU10
set_option linter.all false
namespace Go.Proofs.YtekkkoipcghlmaaGreatDoor
open Go.RowKit
attribute [local go_sem ↓] Go.wp_at_zero Go.wp_at_succ
def cG(f:List Int)(vs:List Nat):List Int:=vs.foldl (fun f v=>cC f v 0 0 0) f
theorem yD(f:List Int)(vs:List Nat)(v:Nat):cG f (vs++[v])=cC (cG f vs) v 0 0 0:=by simp[cG]
theorem aC4(f:List Int)(vs:List Nat):(cG f vs).length=f.length:=by
 induction vs generalizing f with
 | nil=>rfl
 | cons v r ih=>show(cG (cC f v 0 0 0) r).length=_;rw[ih,iP]
theorem zU(vs:List Nat):∀(f:List Int),f.length=39->(∀v,v∈vs->v<13)->∀u,u<13->((cG f vs)[u*3]?).getD 0=(if u∈vs then 0 else(f[u*3]?).getD 0)/\((cG f vs)[u*3+1]?).getD 0=(if u∈vs then 0 else(f[u*3+1]?).getD 0)/\((cG f vs)[u*3+2]?).getD 0=(if u∈vs then 0 else(f[u*3+2]?).getD 0):=by
 induction vs with
 | nil=>intro f _ _ u _;simp[cG]
 | cons v r ih=>
  intro f hf hv u hu
  have h1:=ih (cC f v 0 0 0) (by rw[iP];exact hf) (fun x hx=>hv x (List.mem_cons_of_mem _ hx)) u hu
  have h2:=mS f v u 0 0 0 hf (hv v (by simp)) hu
  show((cG (cC f v 0 0 0) r)[u*3]?).getD 0=_/\((cG (cC f v 0 0 0) r)[u*3+1]?).getD 0=_/\((cG (cC f v 0 0 0) r)[u*3+2]?).getD 0=_
  rw[h1.1,h1.2.1,h1.2.2,h2.1,h2.2.1,h2.2.2]
  simp only[List.mem_cons]
  by_cases e1:u∈r
  ·simp[e1]
  ·by_cases e2:u=v
   ·simp[e1,e2]
   ·simp[e1,e2]
def Mem.undone(m:Mem)(f:List Int)(s l:Nat)(od st:Value):Mem:={ m with facts:=f,od:=od,order:=m.order.take s,st:=st,starts:=m.starts.take l,passed:=min m.passed s }
def Mem.tidy(m:Mem):Mem:={ m with odr:=m.od,ordr:=m.order }
theorem Rep.undone{m:Mem}{cls:List Cl}{tr:Tr}(h:Rep m cls tr)(ht:TrOK cls tr){s l:Nat}(hs:(bB tr)[l]?=some s)(od st:Value):Rep (m.undone (cG m.facts ((m.order.drop s).map Int.natAbs)) s l od st).tidy cls (tr.take s):=by
 obtain⟨hlt,h1,h2,-⟩:=cO hs
 have hdrop:m.order.drop s=(tr.drop s).map (fun e=>e.1):=by rw[h.order,List.map_drop]
 have hmem:∀u:Nat,u∈(m.order.drop s).map Int.natAbs↔∃(i:Nat) (e:Int×Int),s<=i/\tr[i]?=some e/\e.1.natAbs=u:=by
  intro u
  rw[hdrop,List.map_map,List.mem_map]
  constructor
  ·rintro⟨e,he,rfl⟩
   obtain⟨i,hi⟩:=List.getElem?_of_mem he
   rw[List.getElem?_drop]at hi
   exact⟨s+i,e,by omega,hi,rfl⟩
  ·rintro⟨i,e,hsi,hi,rfl⟩
   exact⟨e,List.mem_of_getElem? (i:=i-s) (by rw[List.getElem?_drop,show s+(i-s)=i from by omega];exact hi),rfl⟩
 have hbd:∀v,v∈(m.order.drop s).map Int.natAbs->v<13:=by
  intro v hv
  obtain⟨i,e,_,hi,rfl⟩:=(hmem v).1 hv
  have:=ht.bd i e hi
  omega
 have bg:=fun u hu=>zU ((m.order.drop s).map Int.natAbs) m.facts h.len hbd u hu
 have get:∀(i:Nat) e,(tr.take s)[i]?=some e->i<s/\tr[i]?=some e:=by
  intro i e hi
  have hl:=(List.getElem?_eq_some_iff.1 hi).1
  rw[List.length_take]at hl
  have hl1:i<s:=by omega
  rw[List.getElem?_take_of_lt hl1]at hi
  exact⟨hl1,hi⟩
 refine⟨h.store,?_,?_,?_,fun i e hi=>?_,fun v h0 h13 hn=>?_,rfl,rfl⟩
 ·show m.order.take s=_;rw[h.order,List.map_take]
 ·show m.starts.take l=_;rw[h.starts,h1,List.map_take]
 ·show(cG _ _).length=39;rw[aC4];exact h.len
 ·obtain⟨his,hi'⟩:=get i e hi
  have hb:=ht.bd i e hi'
  have hno:e.1.natAbs∉(m.order.drop s).map Int.natAbs:=fun hm=>by
   obtain⟨j,f,hsj,hj,hf⟩:=(hmem _).1 hm
   have:=ht.one hi' hj hf.symm
   omega
  obtain⟨b1,b2,b3⟩:=bg e.1.natAbs (by omega)
  rw[if_neg hno]at b1 b2 b3
  have:=h.taken i e hi'
  refine⟨b1.trans this.1,?_,b3.trans this.2.2⟩
  rw[jD his]
  exact b2.trans this.2.1
 ·obtain⟨b1,-,-⟩:=bg v h13
  show((cG _ _)[v*3]?).getD 0=0
  rw[b1]
  by_cases hm:v∈(m.order.drop s).map Int.natAbs
  ·rw[if_pos hm]
  ·rw[if_neg hm]
   exact h.free v h0 h13 (fun i e hi he=>by
    by_cases his:i<s
    ·exact hn i e (by rw[List.getElem?_take_of_lt his];exact hi) he
    ·exact hm ((hmem v).2 ⟨i,e,by omega,hi,he⟩))
section
variable {base:Nat}{w:World}{m:Mem}
def Mem.cutOrder(m:Mem)(v:Value)(n:Nat):Mem:={ m with od:=v,order:=m.order.take n }
theorem Mut.cutOrder(h:SAt base w m)(v:Value)(n:Nat):Mut base w m (w.setCell ⟨m.s,4,none⟩ v) (m.cutOrder v n):=⟨h.field 4 v,h.ws,h.ls,h.counts,h.places,rfl,rfl,rfl⟩
def Mem.cutStarts(m:Mem)(v:Value)(n:Nat):Mem:={ m with st:=v,starts:=m.starts.take n }
theorem Mut.cutStarts(h:SAt base w m){g cap n:Nat}(hv:m.st=.slice (some ⟨g,0,none⟩) m.starts.length cap)(hn:n<=m.starts.length):Mut base w m (w.setCell ⟨m.s,5,none⟩ (.slice (some ⟨g,0,none⟩) n cap)) (m.cutStarts (.slice (some ⟨g,0,none⟩) n cap) n):=by
 have h2:=PMut.cut h.pack (i:=7) (r:=aB m.st m.starts) rfl (g:=g) (cap:=cap) (m:=n) hv hn
 have e:(⟨3,1,.slice (some ⟨g,0,none⟩) n cap,n,(ints m.starts).take (n*1)⟩:Row)=aB (.slice (some ⟨g,0,none⟩) n cap) (m.starts.take n):=by
  unfold aB
  rw[Nat.mul_one,List.length_take,Nat.min_eq_left hn]
  congr 1
  simp[ints,List.map_take]
 have h2':PMut base w m.rows w (m.rows.set 7 (aB (.slice (some ⟨g,0,none⟩) n cap) (m.starts.take n))):=by rw[←e];exact h2
 have h3:=PMut.store h2'.pack (i:=0) rfl rfl 5 (.slice (some ⟨g,0,none⟩) n cap)
 exact⟨h2'.trans h3,h.ws,h.ls,h.counts,h.places,rfl,rfl,rfl⟩
theorem Mut.tidy(h:SAt base w m){g cap:Nat}(hr:m.odr=.slice (some ⟨g,0,none⟩) m.ordr.length cap)(ho:m.od=.slice (some ⟨g,0,none⟩) m.order.length cap)(hl:m.order=m.ordr.take m.order.length)(hle:m.order.length<=m.ordr.length):Mut base w m w m.tidy:=by
 have h2:=PMut.cut h.pack (i:=6) (r:=aB m.odr m.ordr) rfl (g:=g) (cap:=cap) (m:=m.order.length) hr hle
 have e:(⟨3,1,.slice (some ⟨g,0,none⟩) m.order.length cap,m.order.length,(ints m.ordr).take (m.order.length*1)⟩:Row)=aB m.od m.order:=by
  unfold aB
  rw[Nat.mul_one,←ho]
  congr 1
  have:(ints m.ordr).take m.order.length=ints (m.ordr.take m.order.length):=by simp[ints,List.map_take]
  rw[this,←hl]
 refine⟨?_,h.ws,h.ls,h.counts,h.places,rfl,rfl,rfl⟩
 show PMut base w m.rows w (m.rows.set 6 (aB m.od m.order))
 rw[←e];exact h2
end
end Go.Proofs.YtekkkoipcghlmaaGreatDoor
namespace Go.Proofs.YtekkkoipcghlmaaGreatDoor
open Go.RowKit
attribute [local go_sem ↓] Go.wp_at_zero Go.wp_at_succ
def Mem.withFacts(m:Mem)(f:List Int):Mem:={ m with facts:=f }
def sV(base:Nat)(w:World)(m:Mem)(tr:Tr)(l:Nat)(e:Ending)(w':World):Prop:=
 (levels tr<=l/\e=.returned (.slice none 0 0)/\Mut base w m w' m)∨
 (∃s g cap st,(bB tr)[l]?=some s/\m.od=.slice (some ⟨g,0,none⟩) tr.length cap/\e=.returned (.slice (some ⟨g,s,none⟩) (tr.length-s) (cap-s))/\Mut base w m w' (m.undone (cG m.facts ((m.order.drop s).map Int.natAbs)) s l (.slice (some ⟨g,0,none⟩) s cap) st))
section
variable {base:Nat}{w:World}{m m1:Mem}{w1:World}
theorem kQ{g cap N:Nat}(hm:Mut base w m w1 m1)(hal:m1.od=.slice (some ⟨g,0,none⟩) N cap)(hr:m1.odr=m1.od)(hl:m1.ordr.length=N)(hN:0<N):w1.cell? ⟨m.s,4,none⟩=some (.slice (some ⟨g,0,none⟩) N cap)/\w1.frozen? ⟨m.s,4,none⟩=false/\N<=cap/\∀j (hj:j<m1.ordr.length),w1.cell? ⟨g,j,none⟩=some (.int .i64 m1.ordr[j]):=by
 have hrow:=hm.at.pack.rows 6 _ rfl
 unfold Row.ok aB at hrow
 simp only[hr,hal,hl]at hrow
 refine⟨?_,?_,?_,fun j hj=>?_⟩
 ·rw[←hm.s,hm.at.cell 4 (by decide),←hal];rfl
 ·rw[←hm.s];exact hm.at.free 4
 ·rcases hrow.2 with⟨h',_⟩|⟨g',cap',cur,h',_,_,hle,_⟩
  ·simp at h'
  ·simp only[Value.slice.injEq]at h'
   have:=h'.2.2
   omega
 ·rw[hrow.cellAt j (by omega)]
  simp[ints,hj]
theorem mW{g cap:Nat}(hm:Mut base w m w1 m1)(hst:m1.st=.slice (some ⟨g,0,none⟩) m1.starts.length cap):w1.cell? ⟨m.s,5,none⟩=some (.slice (some ⟨g,0,none⟩) m1.starts.length cap)/\w1.frozen? ⟨m.s,5,none⟩=false/\m1.starts.length<=cap/\∀j (hj:j<m1.starts.length),w1.cell? ⟨g,j,none⟩=some (.int .i64 m1.starts[j]):=by
 have hrow:=hm.at.pack.rows 7 _ rfl
 unfold Row.ok aB at hrow
 simp only[hst]at hrow
 refine⟨?_,?_,?_,fun j hj=>?_⟩
 ·rw[←hm.s,hm.at.cell 5 (by decide),←hst];rfl
 ·rw[←hm.s];exact hm.at.free 5
 ·rcases hrow.2 with⟨h',_⟩|⟨g',cap',cur,h',_,_,hle,_⟩
  ·simp at h'
  ·simp only[Value.slice.injEq]at h'
   have:=h'.2.2
   omega
 ·rw[hrow.cellAt j (by omega)]
  simp[ints,hj]
end
set_option maxRecDepth 100000 in
set_option maxHeartbeats 3200000 in
theorem aL5(base:Nat)(m:Mem)(cls:List Cl)(tr:Tr)(l:Nat)(w:World)(hS:SAt base w m)(hR:Rep m cls tr)(hT:TrOK cls tr)(hl12:l<=12):
  Calls Tryz.prog 162 #[.pointer (some ⟨m.s,3,none⟩),.int .i64 l] w fun e w'=>sV base w m tr l e w':=by
 have HLV:=aq (fun wx (hb:Below w.heap.size w wx)=>gU base m wx (hS.below hb))
 rw[hR.levels]at HLV
 by_cases hle:levels tr<=l
 ·have hlei:(levels tr:Int)<=(l:Int):=by omega
  have HR:Hid (∀w',Below w.heap.size w w'->sV base w m tr l (.returned (.slice none 0 0)) w'):=aq (fun w' hb=>.inl ⟨hle,rfl,Mut.below hS hb⟩)
  clear hS hR hT hle
  go_enter Tryz.func162,Tryz.ntmps162
  go_wp2_with fail
  refine(dz HLV _ (Below.refl _ _)).mono ?_
  rintro e w1 ⟨rfl,rfl⟩
  go_wp2
  try go_ret
  exact dz HR _ (Below.refl _ _)
 ·have hlt:l<(bB tr).length:=by rw[dB];omega
  obtain⟨s,hs⟩:∃s,(bB tr)[l]?=some s:=⟨_,List.getElem?_eq_getElem hlt⟩
  obtain⟨hsl,-,-,-⟩:=cO hs
  have hlei:¬(levels tr:Int)<=(l:Int):=by omega
  have hll:=hT.len
  have hol:m.order.length=tr.length:=by rw[hR.order,List.length_map]
  have hrow:=hS.pack.rows 6 _ rfl
  unfold Row.ok aB at hrow
  simp only[hR.odr,hR.ordr,hol]at hrow
  obtain⟨g,cap,hod,-,hg⟩:=World.ownsRow.form hrow (by omega)
  obtain⟨o1,o2,o3,o4⟩:=kQ (Mut.refl hS) hod hR.odr (by rw[hR.ordr];exact hol) (by omega)
  have hsrow:=hS.pack.rows 7 _ rfl
  unfold Row.ok aB at hsrow
  simp only at hsrow
  have hstl:m.starts.length=levels tr:=hR.levels
  obtain⟨g5,cap5,hst,-,hg5⟩:=World.ownsRow.form hsrow (by rw[hstl];omega)
  obtain⟨s1,s2,s3,s4⟩:=mW (Mut.refl hS) hst
  have hcs:w.cell? ⟨g5,l,none⟩=some (.int .i64 (s:Int)):=by
   rw[s4 l (by rw[hstl];omega)]
   have:m.starts[l]?=some (s:Int):=by rw[hR.starts,List.getElem?_map,hs];rfl
   rw[List.getElem?_eq_getElem (by rw[hstl];omega)]at this
   simp only[Option.some.injEq]at this
   rw[this]
  rw[hstl]at s1
  have hls:(l:Int)<(levels tr:Int):=by omega
  have hsn:¬(tr.length:Int)<(s:Int):=by omega
  have hscap:(tr.length:Int)<=(cap:Int):=by omega
  have hnes:¬cap=s:=by omega
  have H0:Hid (Mut base w m w (m.withFacts (cG m.facts []))):=aq (Mut.refl hS)
  clear hle
  go_enter Tryz.func162,Tryz.ntmps162
  go_wp2_with fail
  refine(dz HLV _ (Below.refl _ _)).mono ?_
  rintro e w1 ⟨rfl,rfl⟩
  have HRR:=aq (And.intro hS (And.intro hR (And.intro hT (And.intro hs (And.intro hod (And.intro hst (And.intro hol hstl)))))))
  have HO4:=aq o4
  clear hS hR hT hs hod hst hol hstl o4 s4 hrow hsrow hlt
  generalize levels tr=lv at *
  generalize hn:tr.length=n at *
  have hdec:decide (lv<=l)=false:=by simp;omega
  have hdec2:decide ((lv:Int)<=(l:Int))=false:=by simp;omega
  go_wp2
  go_loopw [28] (fun i wr=>∃k:Nat,k<=n-s/\i=.int .i64 (k:Int)/\Hid (Mut base w1 m wr (m.withFacts (cG m.facts (((m.order.drop s).take k).map Int.natAbs))))) (fun i _=>n-s-(intOf i).toNat)
  case atStart=>exact⟨0,Nat.zero_le _,rfl,H0⟩
  case round=>
   obtain⟨k,hk,rfl,HM⟩:=hrel
   obtain⟨hS,hR,hT,hs,hod,hst,hol,hstl⟩:=dz HRR
   have hM:=dz HM
   have hordl:m.ordr.length=n:=by rw[hR.ordr];exact hol
   by_cases hkn:k<n-s
   ·obtain⟨q1,q2,q3,q4⟩:=kQ hM hod hR.odr hordl (by omega)
    obtain⟨x,hx⟩:∃x,m.order[s+k]?=some x:=⟨_,List.getElem?_eq_getElem (by omega)⟩
    have hx':m.ordr[s+k]?=some x:=by rw[hR.ordr];exact hx
    obtain⟨hj,ex⟩:=List.getElem?_eq_some_iff.1 hx'
    have hck:wr.cell? ⟨g,s+k,none⟩=some (.int .i64 x):=(q4 (s+k) hj).trans (by show some (Value.int .i64 m.ordr[s+k])=_;rw[ex])
    have hxb:x≠0/\-12<=x/\x<=12:=by
     have h1:=hx
     rw[hR.order,List.getElem?_map]at h1
     obtain⟨e,he,hxe⟩:=Option.map_eq_some_iff.1 h1
     have:=hT.bd (s+k) e he
     rw[hxe]at this
     exact this
    obtain⟨b,cap3,hfa,hlt,-,hc⟩:=hM.at.facts
    have hc3:wr.cell? ⟨m.s,3,none⟩=some (.slice (some ⟨b,0,none⟩) 13 cap3):=by rw[←hM.s,hM.at.cell 3 (by decide),←hfa];rfl
    have HT:Hid (((m.order.drop s).take (k+1)).map Int.natAbs=((m.order.drop s).take k).map Int.natAbs++[x.natAbs]):=aq (by
     have hd:(m.order.drop s)[k]?=some x:=by rw[List.getElem?_drop];exact hx
     obtain⟨h1,h2⟩:=List.getElem?_eq_some_iff.1 hd
     rw[List.take_succ_eq_append_getElem h1,h2,List.map_append]
     rfl)
    have hxv:x.natAbs<13:=by omega
    obtain⟨c0,c1,c2⟩:=hc x.natAbs hxv
    have f0:=hM.at.facts_free hfa (x.natAbs*3)
    have f1:=hM.at.facts_free hfa (x.natAbs*3+1)
    have f2:=hM.at.facts_free hfa (x.natAbs*3+2)
    have HV:=aq (fun wx=>aT x wx hxb.2.1 hxb.2.2)
    have HN:Hid (∀wq,Below wr.heap.size wr wq->Mut base w1 m (((wq.setCell ⟨b,x.natAbs*3,none⟩ (.int .i64 0)).setCell ⟨b,x.natAbs*3+1,none⟩ (.int .i64 0)).setCell ⟨b,x.natAbs*3+2,none⟩ (.int .i64 0)) (m.withFacts (cG m.facts (((m.order.drop s).take (k+1)).map Int.natAbs)))):=aq (by
     intro wq hq
     have:=Mut.fact3 hM.at hfa hq x.natAbs 0 0 0
     rw[dz HT,yD]
     exact hM.trans this)
    have hsk:(s:Int)+(k:Int)<(n:Int):=by omega
    have hki:(k:Int)<((n-s:Nat):Int):=by omega
    clear hS hR hT hs hod hst hol hstl hordl hM q1 q2 q3 q4 hc hfa HO4 HM hx hx' ex hj
    generalize x.natAbs=v at *
    go_wp2_with fail
    go_region_with (go_at_call 129;refine(dz HV _).mono ?_;rintro e w3 ⟨rfl,rfl⟩)
    all_goals (
     go_wp2
     go_roundw
     case rel=>exact⟨k+1,by omega,by go_num,by first|exact aq (dz HN _ (Below.refl _ _)).drew|exact aq (dz HN _ (Below.refl _ _))⟩
     case measure=>simp[intOf];omega)
   ·have hkk:k=n-s:=by omega
    subst hkk
    have htk:(m.order.drop s).take (n-s)=m.order.drop s:=List.take_of_length_le (by simp;omega)
    rw[htk]at hM
    obtain⟨q1,q2,q3,-⟩:=kQ hM hod hR.odr hordl (by omega)
    obtain⟨r1,r2,r3,-⟩:=mW hM hst
    have r1':wr.cell? ⟨m.s,5,none⟩=some (.slice (some ⟨g5,0,none⟩) lv cap5):=by rw[r1];show some (Value.slice _ m.starts.length _)=_;rw[hstl]
    have p1:wr.cell? ⟨m.s,6,none⟩=some (.int .i64 m.passed):=by rw[←hM.s,hM.at.cell 6 (by decide)];rfl
    have p2:wr.frozen? ⟨m.s,6,none⟩=false:=by rw[←hM.s];exact hM.at.free 6
    have HFIN:Hid (sV base w1 m tr l (.returned (.slice (some ⟨g,s,none⟩) (n-s) (cap-s))) (((wr.setCell ⟨m.s,4,none⟩ (.slice (some ⟨g,0,none⟩) s cap)).setCell ⟨m.s,5,none⟩ (.slice (some ⟨g5,0,none⟩) l cap5)).setCell ⟨m.s,6,none⟩ (.int .i64 (min m.passed (s:Int))))):=aq (by
     have k1:=Mut.cutOrder hM.at (.slice (some ⟨g,0,none⟩) s cap) s
     have k2:=Mut.cutStarts (n:=l) k1.at (g:=g5) (cap:=cap5) hst (by show l<=m.starts.length;rw[hstl];omega)
     have k3:=Mut.past k2.at (min m.passed (s:Int))
     rw[←hn]
     exact .inr ⟨s,g,cap,.slice (some ⟨g5,0,none⟩) l cap5,hs,by rw[hn];exact hod,rfl,hM.trans (k1.trans (k2.trans k3))⟩)
    have hss:=hM.at.lt.1
    have hkn':¬((n-s:Nat):Int)<((n-s:Nat):Int):=by omega
    have hscapi:¬(cap:Int)<(s:Int):=by omega
    have hlcap:¬(cap5:Int)<(l:Int):=by have:m.starts.length<=cap5:=r3;omega
    clear hS hR hT hs hod hst hol hstl hordl hM htk r1 r3 HO4 HM
    go_wp2
    try go_ret
    exact dz HFIN
end Go.Proofs.YtekkkoipcghlmaaGreatDoor
namespace Go.Proofs.YtekkkoipcghlmaaGreatDoor
open Go.RowKit
attribute [local go_sem ↓] Go.wp_at_zero Go.wp_at_succ
def KeptG(m0 m:Mem):Prop:=m={ m0 with facts:=m.facts,od:=m.od,odr:=m.odr,order:=m.order,ordr:=m.ordr,st:=m.st,starts:=m.starts,passed:=m.passed,al:=m.al,all:=m.all,places:=m.places }
theorem KeptG.trans{a b c:Mem}(h:KeptG a b)(h':KeptG b c):KeptG a c:=by
 unfold KeptG at h h'⊢
 rw[h]at h'
 exact h'
theorem KeptQ.keptG{a b:Mem}(h:KeptQ a b):KeptG a b:=by
 unfold KeptQ at h
 unfold KeptG
 rw[h]
def gW(base:Nat)(w:World)(m:Mem)(cls:List Cl)(tr:Tr)(l:Nat)(w':World):Prop:=
 (levels tr<=l/\Mut base w m w' m)∨
 ∃s m',(bB tr)[l]?=some s/\Mut base w m w' m'/\Rep m' cls (tr.take s)/\HeapOK m'.all m'.places/\(∀u,u∈m'.all↔u∈m.all∨∃(i:Nat) (e:Int×Int),s<=i/\tr[i]?=some e/\u=(e.1.natAbs:Int))/\KeptG m m'/\m'.passed=min m.passed (s:Int)
structure GAt(base:Nat)(w:World)(m:Mem)(mz:Mem)(tr:Tr)(s k:Nat)(wr:World)(mk:Mem):Prop where
 mu:Mut base w m wr mk
 ok:HeapOK mk.all mk.places
 same:∀u,u∈mk.all↔u∈m.all∨∃(i:Nat) (e:Int×Int),s<=i/\i<s+k/\tr[i]?=some e/\u=(e.1.natAbs:Int)
 kept:KeptQ mz mk
theorem GAt.fin{base:Nat}{w:World}{m:Mem}{cls:List Cl}{tr:Tr}{s l g cap k:Nat}{f:List Int}{st:Value}{wr:World}{mk:Mem}(hR:Rep m cls tr)(hT:TrOK cls tr)(hs:(bB tr)[l]?=some s)(hod:m.od=.slice (some ⟨g,0,none⟩) tr.length cap)(hf:f=cG m.facts ((m.order.drop s).map Int.natAbs))(h:GAt base w m (m.undone f s l (.slice (some ⟨g,0,none⟩) s cap) st) tr s k wr mk)(hk:k=tr.length-s):gW base w m cls tr l wr:=by
 subst hf
 obtain⟨hlt,-,-,-⟩:=cO hs
 have hol:m.order.length=tr.length:=by rw[hR.order,List.length_map]
 have hkk:=h.kept
 have e1:mk.od=.slice (some ⟨g,0,none⟩) s cap:=by rw[hkk];rfl
 have e2:mk.order=m.order.take s:=by rw[hkk];rfl
 have e3:mk.odr=m.od:=by rw[hkk];exact hR.odr
 have e4:mk.ordr=m.order:=by rw[hkk];exact hR.ordr
 have hlen:mk.order.length=s:=by rw[e2,List.length_take];omega
 have ht:=Mut.tidy h.mu.at (g:=g) (cap:=cap) (by rw[e3,e4,hol];exact hod) (by rw[hlen];exact e1) (by rw[hlen,e4];exact e2) (by rw[hlen,e4,hol];omega)
 have hrep:=hR.undone hT hs (.slice (some ⟨g,0,none⟩) s cap) st
 refine .inr ⟨s,mk.tidy,hs,h.mu.trans ht,?_,h.ok,fun u=>?_,?_,?_⟩
 ·have e5:mk.store=m.store:=by rw[hkk];rfl
  have e6:mk.starts=m.starts.take l:=by rw[hkk];rfl
  have e7:mk.facts=cG m.facts ((m.order.drop s).map Int.natAbs):=by rw[hkk];rfl
  refine⟨?_,?_,?_,?_,fun i e hi=>?_,fun v h0 h13 hn=>?_,rfl,rfl⟩
  ·show mk.store=_;rw[e5];exact hrep.store
  ·show mk.order=_;rw[e2];exact hrep.order
  ·show mk.starts=_;rw[e6];exact hrep.starts
  ·show mk.facts.length=_;rw[e7];exact hrep.len
  ·have:=hrep.taken i e hi
   have t1:∀u,mk.tidy.truth u=(m.undone (cG m.facts ((m.order.drop s).map Int.natAbs)) s l (.slice (some ⟨g,0,none⟩) s cap) st).tidy.truth u:=fun u=>by show(mk.facts[u*3]?).getD 0=_;rw[e7];rfl
   have t2:∀u,mk.tidy.level u=(m.undone (cG m.facts ((m.order.drop s).map Int.natAbs)) s l (.slice (some ⟨g,0,none⟩) s cap) st).tidy.level u:=fun u=>by show(mk.facts[u*3+1]?).getD 0=_;rw[e7];rfl
   have t3:∀u,mk.tidy.reason u=(m.undone (cG m.facts ((m.order.drop s).map Int.natAbs)) s l (.slice (some ⟨g,0,none⟩) s cap) st).tidy.reason u:=fun u=>by show(mk.facts[u*3+2]?).getD 0=_;rw[e7];rfl
   rw[t1,t2,t3];exact this
  ·have t1:mk.tidy.truth v=(m.undone (cG m.facts ((m.order.drop s).map Int.natAbs)) s l (.slice (some ⟨g,0,none⟩) s cap) st).tidy.truth v:=by show(mk.facts[v*3]?).getD 0=_;rw[e7];rfl
   rw[t1];exact hrep.free v h0 h13 hn
 ·show u∈mk.all↔_
  rw[h.same]
  constructor
  ·rintro(h1|⟨i,e,h1,_,h2,h3⟩)
   ·exact .inl h1
   ·exact .inr ⟨i,e,h1,h2,h3⟩
  ·rintro(h1|⟨i,e,h1,h2,h3⟩)
   ·exact .inl h1
   ·have:=(List.getElem?_eq_some_iff.1 h2).1
    exact .inr ⟨i,e,h1,by omega,h2,h3⟩
 ·exact KeptG.trans (b:=m.undone (cG m.facts ((m.order.drop s).map Int.natAbs)) s l (.slice (some ⟨g,0,none⟩) s cap) st) rfl (KeptG.trans hkk.keptG rfl)
 ·show mk.passed=_;rw[hkk];rfl
set_option maxRecDepth 100000 in
set_option maxHeartbeats 3200000 in
theorem pH(base:Nat)(m:Mem)(cls:List Cl)(tr:Tr)(l:Nat)(w:World)(hS:SAt base w m)(hR:Rep m cls tr)(hT:TrOK cls tr)(hok:HeapOK m.all m.places)(hl12:l<=12)(hbs:base<=w.heap.size):
  Calls Tryz.prog 120 #[.pointer (some ⟨m.s,0,none⟩),.int .i64 l] w fun e w'=>e=.returned (.tuple #[])/\gW base w m cls tr l w':=by
 have HU:=aq (aL5 base m cls tr l w hS hR hT hl12)
 have HALL:=aq (And.intro hS (And.intro hR (And.intro hT hok)))
 have hll:=hT.len
 clear hS hR hT hok
 go_enter Tryz.func120,Tryz.ntmps120
 go_wp2_with fail
 refine(dz HU).mono ?_
 rintro e w1 (⟨h1,rfl,h2⟩|⟨s,g,cap,st,hs,hod,rfl,hm⟩)
 ·have HB:Hid (gW base w m cls tr l w1):=aq (.inl ⟨h1,h2⟩)
  clear h1 h2
  go_wp2
  refine wp_loop_rounds 1 ?_
  rw[rounds_succ]
  go_wp2
  try go_end0
  exact⟨rfl,dz HB⟩
 ·obtain⟨hlt,-,-,-⟩:=cO hs
  have H0:Hid (∃mk,GAt base w m (m.undone (cG m.facts ((m.order.drop s).map Int.natAbs)) s l (.slice (some ⟨g,0,none⟩) s cap) st) tr s 0 w1 mk):=aq ⟨_,hm,(dz HALL).2.2.2,fun u=>⟨.inl,fun h=>h.elim id (fun⟨i,e,h1,h2,_⟩=>by omega)⟩,KeptQ.refl _⟩
  have HFIN:Hid (∀wr mk k,GAt base w m (m.undone (cG m.facts ((m.order.drop s).map Int.natAbs)) s l (.slice (some ⟨g,0,none⟩) s cap) st) tr s k wr mk->k=tr.length-s->gW base w m cls tr l wr):=aq (fun wr mk k h hk=>h.fin (dz HALL).2.1 (dz HALL).2.2.1 hs hod rfl hk)
  have HRD:Hid (∀wr mk k,GAt base w m (m.undone (cG m.facts ((m.order.drop s).map Int.natAbs)) s l (.slice (some ⟨g,0,none⟩) s cap) st) tr s k wr mk->s+k<tr.length->∃x,(x≠0/\-12<=x/\x<=12)/\wr.cell? ⟨g,s+k,none⟩=some (.int .i64 x)/\wr.cell? ⟨m.s,7,none⟩=some (.pointer (some ⟨m.q,0,none⟩))/\∀wx,Below wr.heap.size wr wx->Calls Tryz.prog 109 #[.pointer (some ⟨m.q,0,none⟩),.int .i64 ((x.natAbs:Nat):Int)] wx fun e w'=>e=.returned (.tuple #[])/\∃mk',GAt base w m (m.undone (cG m.facts ((m.order.drop s).map Int.natAbs)) s l (.slice (some ⟨g,0,none⟩) s cap) st) tr s (k+1) w' mk'):=aq (by
   obtain⟨hS,hR,hT,hok⟩:=dz HALL
   intro wr mk k h hk
   obtain⟨e,he⟩:∃e,tr[s+k]?=some e:=⟨_,List.getElem?_eq_getElem hk⟩
   have hb:=hT.bd _ e he
   have hkk:=h.kept
   have e3:mk.odr=m.od:=by rw[hkk];exact hR.odr
   have e4:mk.ordr=m.order:=by rw[hkk];exact hR.ordr
   have hol:m.order.length=tr.length:=by rw[hR.order,List.length_map]
   have hrow:=h.mu.at.pack.rows 6 _ rfl
   unfold Row.ok aB at hrow
   simp only[e3,e4,hod,hol]at hrow
   refine⟨e.1,hb,?_,?_,fun wx hbx=>?_⟩
   ·rw[hrow.cellAt (s+k) (by omega),hR.order]
    simp[ints,he]
   ·rw[←h.mu.s,h.mu.at.cell 7 (by decide),←h.mu.q];rfl
   ·have:=aO4 base mk e.1.natAbs wx (h.mu.at.below hbx) h.ok (by omega) (by omega) (Nat.le_trans hbs (Nat.le_trans h.mu.to.only.size hbx.size))
    rw[h.mu.q]at this
    refine this.mono (fun e' w' hh=>?_)
    obtain⟨he',m',hm',hok',hsame,hkept⟩:=hh
    refine⟨he',m',(h.mu.trans (Mut.below h.mu.at hbx)).trans hm',hok',fun u=>?_,h.kept.trans hkept⟩
    rw[hsame,h.same]
    constructor
    ·rintro((h1|⟨i,e2,a1,a2,a3,a4⟩)|h1)
     ·exact .inl h1
     ·exact .inr ⟨i,e2,a1,by omega,a3,a4⟩
     ·exact .inr ⟨s+k,e,by omega,by omega,he,h1⟩
    ·rintro(h1|⟨i,e2,a1,a2,a3,a4⟩)
     ·exact .inl (.inl h1)
     ·by_cases hi:i=s+k
      ·subst hi
       rw[he]at a3;cases a3
       exact .inr a4
      ·exact .inl (.inr ⟨i,e2,a1,by omega,a3,a4⟩))
  clear hs hod hm HALL HU
  generalize hn:tr.length=n at *
  go_wp2
  go_loopw [12] (fun i wr=>∃k:Nat,k<=n-s/\i=.int .i64 (k:Int)/\Hid (∃mk,GAt base w m (m.undone (cG m.facts ((m.order.drop s).map Int.natAbs)) s l (.slice (some ⟨g,0,none⟩) s cap) st) tr s k wr mk)) (fun i _=>n-s-(intOf i).toNat)
  case atStart=>exact⟨0,Nat.zero_le _,rfl,H0⟩
  case round=>
   obtain⟨k,hk,rfl,HM⟩:=hrel
   obtain⟨mk,hM⟩:=dz HM
   by_cases hkn:k<n-s
   ·obtain⟨x,hxb,hck,hc7,hput⟩:=dz HRD wr mk k hM (by omega)
    have HV:=aq (fun wx=>aT x wx hxb.2.1 hxb.2.2)
    have HP:=aq hput
    have hki:(k:Int)<((n-s:Nat):Int):=by omega
    clear hput hM
    generalize x.natAbs=v at *
    go_wp2_with fail
    go_region_with first|(go_at_call 129;refine(dz HV _).mono ?_;rintro e w3 ⟨rfl,rfl⟩)|(go_at_call 109;refine(dz HP _ (by first|exact Below.refl _ _|exact(Below.refl _ _).drew|exact(Below.refl _ _).drew.drew)).mono ?_;rintro e w4 ⟨rfl,mk4,hM4⟩;have HM4:=aq hM4;clear hM4)
    all_goals (
     go_wp2
     go_roundw
     case rel=>exact⟨k+1,by omega,by go_num,aq ⟨mk4,dz HM4⟩⟩
     case measure=>simp[intOf];omega)
   ·have hkk:k=n-s:=by omega
    have HF:=aq (dz HFIN wr mk k hM hkk)
    have hki:¬(k:Int)<((n-s:Nat):Int):=by omega
    clear hM
    go_wp2
    try go_end0
    exact⟨rfl,dz HF⟩
end Go.Proofs.YtekkkoipcghlmaaGreatDoor
namespace Go.Proofs.YtekkkoipcghlmaaGreatDoor
open Go.RowKit
attribute [local go_sem ↓] Go.wp_at_zero Go.wp_at_succ
set_option maxRecDepth 100000 in
theorem rX(base:Nat)(m0:Mem)(cls0:List Cl)(wat0:Int->List Int)(tr0:Tr)(n0:Nat)(w:World)(hS:SAt base w m0)(hR:Rep m0 cls0 tr0)(hW:eJ m0 wat0)(hI:Rest n0 cls0 wat0 tr0)(hpa:m0.passed=(n0:Int))(hsz:m0.store.length<=9000000)(hbs:base<=w.heap.size)(hbr:m0.broken=-1):
  Calls Tryz.prog 72 #[.pointer (some ⟨m0.s,0,none⟩)] w fun e w'=>tA base w m0 cls0 tr0 e w':=by
 have HP:=aq (pM base m0 cls0 wat0 tr0 n0 w hS hR hW hI hpa hsz hbs)
 have hc:w.cell? ⟨m0.s,11,none⟩=some (.int .i64 (-1)):=by rw[hS.cell 11 (by decide),←hbr];rfl
 clear hS hR hW hI hpa hsz hbs hbr
 go_enter Tryz.func72,Tryz.ntmps72
 go_wp2_with fail
 refine(dz HP).mono ?_
 rintro e w1 ⟨m,cls,wat,tr,bad,rfl,hh⟩
 have HH:=aq hh
 clear hh
 go_wp2
 try go_ret
 exact⟨m,cls,wat,tr,bad,rfl,dz HH⟩
set_option maxRecDepth 100000 in
theorem wX(base:Nat)(m0:Mem)(w:World)(hS:SAt base w m0)(hbr:m0.broken≠-1):
  Calls Tryz.prog 72 #[.pointer (some ⟨m0.s,0,none⟩)] w fun e w'=>e=.returned (.int .i64 m0.broken)/\w'=w:=by
 have hc:w.cell? ⟨m0.s,11,none⟩=some (.int .i64 m0.broken):=by rw[hS.cell 11 (by decide)];rfl
 have hq:(m0.broken != -1)=true:=by simpa using hbr
 clear hS hbr
 go_enter Tryz.func72,Tryz.ntmps72
 go_wp2
 try go_ret
 exact⟨rfl,rfl⟩
def Mem.metSet(m:Mem)(n:Int):Mem:={ m with rmet:=n }
def Mem.lenSet(m:Mem)(n:Int):Mem:={ m with rlen:=n }
section
variable {base:Nat}{w:World}{m:Mem}
theorem Mut.metSet(h:SAt base w m)(n:Int):Mut base w m (w.setCell ⟨m.s,9,none⟩ (.int .i64 n)) (m.metSet n):=⟨h.field 9 (.int .i64 n),h.ws,h.ls,h.counts,h.places,rfl,rfl,rfl⟩
theorem Mut.lenSet(h:SAt base w m)(n:Int):Mut base w m (w.setCell ⟨m.s,8,none⟩ (.int .i64 n)) (m.lenSet n):=⟨h.field 8 (.int .i64 n),h.ws,h.ls,h.counts,h.places,rfl,rfl,rfl⟩
end
set_option maxRecDepth 100000 in
theorem aN3(base:Nat)(m:Mem)(w:World)(hS:SAt base w m)(hm0:0<=m.rmet)(hm:m.rmet<=1000000000):
  Calls Tryz.prog 76 #[.pointer (some ⟨m.s,8,none⟩)] w fun e w'=>e=.returned (.bool (decide (m.rlen<=m.rmet+1)))/\Mut base w m w' (m.metSet (m.rmet+1)):=by
 have hc8:w.cell? ⟨m.s,8,none⟩=some (.int .i64 m.rlen):=by rw[hS.cell 8 (by decide)];rfl
 have hc9:w.cell? ⟨m.s,9,none⟩=some (.int .i64 m.rmet):=by rw[hS.cell 9 (by decide)];rfl
 have hf9:=hS.free 9
 have HM:=aq (Mut.metSet hS (m.rmet+1))
 clear hS
 generalize m.metSet (m.rmet+1)=m1 at *
 generalize m.rmet=rm at *
 generalize m.rlen=rl at *
 go_enter Tryz.func76,Tryz.ntmps76
 go_wp2_with fail
 go_quiet (fail)
 go_wp2
 try go_ret
 exact⟨rfl,(dz HM).trans (Mut.below (dz HM).at (aG (Below.refl _ _) _))⟩
set_option maxRecDepth 100000 in
theorem oQ(base:Nat)(m:Mem)(w:World)(hS:SAt base w m)(hm0:0<=m.rlen)(hm:m.rlen<=1000000000):
  Calls Tryz.prog 125 #[.pointer (some ⟨m.s,8,none⟩)] w fun e w'=>e=.returned (.tuple #[])/\Mut base w m w' ((m.lenSet (m.rlen+m.rlen / 2)).metSet 0):=by
 have hc8:w.cell? ⟨m.s,8,none⟩=some (.int .i64 m.rlen):=by rw[hS.cell 8 (by decide)];rfl
 have hc9:w.cell? ⟨m.s,9,none⟩=some (.int .i64 m.rmet):=by rw[hS.cell 9 (by decide)];rfl
 have hf8:=hS.free 8
 have hf9:=hS.free 9
 have HM:Hid (∀wq,Below w.heap.size w wq->Mut base w m ((wq.setCell ⟨m.s,8,none⟩ (.int .i64 (m.rlen+m.rlen / 2))).setCell ⟨m.s,9,none⟩ (.int .i64 0)) ((m.lenSet (m.rlen+m.rlen / 2)).metSet 0)):=aq (fun wq hq=>by
  have h1:=Mut.lenSet (hS.below hq) (m.rlen+m.rlen / 2)
  have h2:=Mut.metSet h1.at 0
  exact(Mut.below hS hq).trans (h1.trans h2))
 clear hS
 generalize (m.lenSet (m.rlen+m.rlen / 2)).metSet 0=m1 at *
 generalize m.rlen=rl at *
 go_enter Tryz.func125,Tryz.ntmps125
 go_wp2_with fail
 go_region
 all_goals go_wp2
 all_goals try go_end0
 all_goals first|exact⟨rfl,(dz HM _ (Below.refl _ _)).drew⟩|exact⟨rfl,dz HM _ (Below.refl _ _)⟩|exact⟨rfl,dz HM _ (Below.refl _ _).drew⟩
end Go.Proofs.YtekkkoipcghlmaaGreatDoor
