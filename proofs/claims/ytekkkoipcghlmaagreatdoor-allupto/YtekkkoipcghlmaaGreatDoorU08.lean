import Derived.Test.YtekkkoipcghlmaaGreatDoorU04
import Derived.OwnWalk
import Derived.Test.YtekkkoipcghlmaaGreatDoorU07
set_option linter.all false
namespace Go.Proofs.YtekkkoipcghlmaaGreatDoor
open Go.RowKit
theorem hJ{P:Program}{ops:Array Oper}{rest:List Oper}{o:Oper}{a:Act}{Q:Exit->Act->World->Prop}{wz:World}{base n N cap bytes g:Nat}{val z:Value}{xs:List Value}{tt:TypeId}
  (hgd:o.guard=none) (s x:Operand) (t e:TypeId) (ho:o.op=.call { callee:=.builtin .append,args:=#[s,x],argTypes:=#[t,t] })
  (ht:P.underlying t=some (.slice e)) (hinfo:(P.info? e).map (fun i=>(i.zero,i.size,i.bytes))=some (some z,1,bytes))
  (hown:wz.ownsRow base e 1 (.slice (some ⟨g,0,none⟩) N cap) N xs) (hn:n<N) (hs:a.eval s=.slice (some ⟨g,0,none⟩) n cap) (hx:a.eval x=.slice (some ⟨wz.heap.size,0,none⟩) 1 1) (h1:val.oneCell'=true)
  (h:∀(w':World),w'.ownsRow base e 1 (.slice (some ⟨g,0,none⟩) N cap) N (xs.set n val)->(wz.alloc (.cells #[val] tt)).grownBy w' (some g)->wpList P ops Q rest (a.put o.dst (.slice (some ⟨g,0,none⟩) (n+1) cap)) w'):
  wpList P ops Q (o::rest) a (wz.alloc (.cells #[val] tt)):=by
 obtain⟨i0,hi0,hz0,hz1,hz2⟩:=info_parts hinfo
 have hown1:=hown.alloc (.cells #[val] tt)
 obtain⟨hlen,hrow⟩:=hown1
 rcases hrow with⟨h0,_⟩|⟨g',cap',cur,hv,hb,hg,hle,hcap,hcs,htake⟩
 ·cases h0
 ·cases hv
  rw[Nat.mul_one]at hcs htake hlen
  have hr:=run_append_room (P:=P) (wz.alloc (.cells #[val] tt)) t o.type e i0 ht hi0 g n cap cur hg ⟨wz.heap.size,0,none⟩ 1 1 [val] (by rw[hz1];rfl) (World.news_of_block (heap_alloc_new wz _)) (by intro u hu;simp at hu;subst hu;exact h1) (by omega) (by rw[hz1];simp;omega)
  rw[hz1]at hr
  simp only[Nat.mul_one,List.length_cons,List.length_nil,Nat.zero_add]at hr
  have hcur:(cur.toList.take n++[val]++cur.toList.drop (n+1))=cur.toList.set n val:=by
   rw[List.set_eq_take_append_cons_drop,if_pos (by simp;omega)]
   simp
  rw[hcur]at hr
  refine wpList_plain hgd fun K hK=>?_
  unfold Oper.wp execOp
  simp only[ho,resolve,invoke,builtin,Sem.run_bind,Sem.run_pure,Result.andThen_ok,List.map_toArray,List.map_cons,List.map_nil,hs,hx,hr]
  refine hK _ _ (h _ ⟨by rw[List.length_set,Nat.mul_one];exact hlen,.inr ⟨g,cap,(cur.toList.set n val).toArray,rfl,hb,setRow_heap _ g cur _ e (0,0) hg,hle,hcap,by simp;omega,?_⟩⟩ ⟨rfl,rfl,rfl,by simp,fun k _ hk=>setRow_other _ g k _ (fun e=>hk (by rw[e]))⟩)
  rw[Nat.mul_one,←htake,List.take_set]
end Go.Proofs.YtekkkoipcghlmaaGreatDoor
namespace Go.Proofs.YtekkkoipcghlmaaGreatDoor
open Go.RowKit
attribute [local go_sem ↓] Go.wp_at_zero Go.wp_at_succ
theorem nK{α:Type}{l:List α}{k:Nat}{x:α}(h:l[k]?=some x):l.set k x=l:=by
 apply List.ext_getElem?
 intro i
 by_cases e:i=k
 ·subst e;rw[List.getElem?_set_self (List.getElem?_eq_some_iff.1 h).1,h]
 ·rw[List.getElem?_set_ne (fun e'=>e e'.symm)]
theorem aK3(m:Mem)(k:Nat)(v:Value)(l:List Int)(hv:m.ws[k]?=some v):({ m with lists:=m.lists.set k l }:Mem).rows=m.rows.set (k+13) (bW (v,l)):=by
 have h:=tF bW m.ws m.lists k v l
 rw[nK hv]at h
 unfold Mem.rows
 simp only[h]
 rfl
section
variable {base:Nat}{w w':World}{m:Mem}
theorem Mut.put(h:SAt base w m){k:Nat}{g cap N j:Nat}{l:List Int}{p:Int}(hk:k<25)(hv:m.ws[k]?=some (.slice (some ⟨g,0,none⟩) N cap))(hl:m.lists[k]?=some l)(hN:l.length=N){wz w4:World}(hz:Below w.heap.size w wz)(hown:w4.ownsRow base 117 1 (.slice (some ⟨g,0,none⟩) N cap) N ((ints l).set j (.int .i64 p)))(hgr:wz.grownBy w4 (some g)):Mut base w m w4 (m.put k j p):=by
 obtain⟨v',l',e1,e2,-,hr⟩:=h.list hk
 rw[hv]at e1;cases e1
 rw[hl]at e2;cases e2
 subst hN
 have h1:=PMut.below h.pack hz
 have h2:=PMut.row h1.pack (i:=k+13) (r':=bW (.slice (some ⟨g,0,none⟩) l.length cap,l.set j p)) hr (by unfold Row.ok bW;simp only[dT,List.length_set];exact hown) hgr (.inr (.inl rfl))
 refine⟨?_,h.ws,by simp[Mem.put,h.ls],h.counts,h.places,rfl,rfl,rfl⟩
 unfold Mem.put
 rw[hl]
 show PMut base w m.rows _ ({ m with lists:=m.lists.set k (l.set j p) }:Mem).rows
 rw[aK3 m k _ _ hv]
 exact h1.trans h2
def Mem.listed(m:Mem)(k:Nat)(v:Value)(l:List Int):Mem:={ m with ws:=m.ws.set k v,lists:=m.lists.set k l }
theorem Mut.listed(h:SAt base w m){k:Nat}{v:Value}{l s:List Int}(hk:k<25)(hv:m.ws[k]?=some v)(hl:m.lists[k]?=some l){b cap0:Nat}(hwl:m.wl=.slice (some ⟨b,0,none⟩) 25 cap0){v':Value}(hs:(v=.slice none 0 0/\v'=v/\s=[])∨∃g cap,v=.slice (some ⟨g,0,none⟩) l.length cap/\v'=.slice (some ⟨g,0,none⟩) s.length cap/\l.take s.length=s/\s.length<=l.length):
  Mut base w m (w.setCell ⟨b,k,none⟩ v') (m.listed k v' s):=by
 obtain⟨v1,l1,e1,e2,hrow,hr⟩:=h.list hk
 rw[hv]at e1;cases e1
 rw[hl]at e2;cases e2
 have h2:PMut base w m.rows w (m.rows.set (k+13) (bW (v',s))):=by
  rcases hs with⟨rfl,rfl,rfl⟩|⟨g,cap,rfl,rfl,h3,h4⟩
  ·refine PMut.row h.pack hr (r':=bW (.slice none 0 0,[])) (World.ownsRow_nil _ _ _ _) (kK _ _) (.inl rfl)
  ·have:=PMut.cut h.pack hr (g:=g) (cap:=cap) (m:=s.length) rfl h4
   have e:(⟨117,1,.slice (some ⟨g,0,none⟩) s.length cap,s.length,(ints l).take (s.length*1)⟩:Row)=bW (.slice (some ⟨g,0,none⟩) s.length cap,s):=by
    unfold bW
    simp only[Nat.mul_one]
    congr 1
    have:(ints l).take s.length=ints (l.take s.length):=by simp[ints,List.map_take]
    rw[this,h3]
   rw[←e]
   exact this
 have hr4:(m.rows.set (k+13) (bW (v',s)))[4]?=some ⟨227,1,m.wl,m.ws.length,m.ws⟩:=rfl
 have h3:=PMut.store h2.pack (i:=4) hr4 (g:=b) (cap:=cap0) (by simp only[h.ws];exact hwl) k v'
 refine⟨?_,by simp[Mem.listed,h.ws],by simp[Mem.listed,h.ls],h.counts,h.places,rfl,rfl,rfl⟩
 show PMut base w m.rows _ ({ m with ws:=m.ws.set k v',lists:=m.lists.set k s }:Mem).rows
 rw[oS,List.length_set]
 exact h2.trans h3
end
theorem gG{cls:List Cl}{u:Int}{l:List Int}(hn:l.Nodup)(h:∀p,p∈l->Watcher cls u p):l.length<=(flat cls).length:=by
 have h1:(l.map Int.toNat).Nodup:=by
  rw[List.Nodup,List.pairwise_map]
  refine List.Pairwise.imp_of_mem ?_ hn
  intro a b ha hb hab e
  obtain⟨c,cl,_,h2,_⟩:=h a ha
  obtain⟨c',cl',_,h2',_⟩:=h b hb
  exact hab (by omega)
 have:=cE (flat cls).length (l.map Int.toNat) h1 (fun x hx=>by
  obtain⟨p,hp,rfl⟩:=List.mem_map.1 hx
  obtain⟨c,cl,h1,h2,_⟩:=h p hp
  have hlt:=(List.getElem?_eq_some_iff.1 h1).1
  have:=eK cls c hlt
  omega)
 simpa using this
theorem VAt.mid{base:Nat}{w:World}{m0:Mem}{cls0:List Cl}{tr0:Tr}{i0:Nat}{u:Int}{L:List Int}{v0:Value}{wr wr':World}{m:Mem}{cls:List Cl}{wat:Int->List Int}{tr:Tr}{stay todo:List Int}{bad p:Int}{c:Nat}{cl:Cl}{o:Int}{r:List Int}
  (h:VAt base w m0 cls0 tr0 i0 u L v0 wr m cls wat tr stay (p::todo) bad) (hc:cls[c]?=some cl) (hp:p=(pos cls c:Int)) (hl:cl.lits=o::u::r∨cl.lits=u::o::r) (hw:m.truth o.natAbs=o∨∀x,x∈r->m.truth x.natAbs=-x) (hs:stay.length<L.length)
  (hm:Mut base wr m wr' ((m.withCls (cls.set c ⟨cl.used,o::u::r⟩)).put (u+12).toNat stay.length p)):VMid base w m0 cls0 tr0 i0 u L v0 wr' ((m.withCls (cls.set c ⟨cl.used,o::u::r⟩)).put (u+12).toNat stay.length p) cls wat tr stay todo bad p c cl o r:=by
 have hwf:=h.vis.wf c cl hc
 have hin:∀x,x=o∨x=u∨x∈r->x∈cl.lits:=fun x hx=>by rcases hl with hl|hl<;>rw[hl]<;>simp only[List.mem_cons]<;>rcases hx with hx|hx|hx<;>simp[hx]
 have ub:=h.ubd
 have why:Tru tr o∨∀x,x∈r->Tru tr (-x):=by
  rcases hw with hw|hw
  ·have bo:=oC hwf (hin o (.inl rfl))
   exact .inl ((h.rep.is_true o bo.1 bo.2.1 bo.2.2).1 hw)
  ·refine .inr (fun x hx=>?_)
   have bx:=oC hwf (hin x (.inr (.inr hx)))
   exact(h.rep.is_false x bx.1 bx.2.1 bx.2.2).1 (hw x hx)
 have hst:Stays tr u cl.lits (o::u::r) o:=⟨r,hl,rfl,why⟩
 refine⟨h.mu.trans hm,?_,fun l h1 h2 h3=>?_,?_,h.head,h.wl,h.kept.trans rfl,h.vis,h.went.trans ⟨SameCl.set hc hst.perm,[],by simp,by simp⟩,?_,hc,hp,hl,why⟩
 ·have:=h.rep.turn (cls.set c ⟨cl.used,o::u::r⟩)
  exact⟨this.store,this.order,this.starts,this.len,this.taken,this.free,this.odr,this.ordr⟩
 ·show(m.lists.set (u+12).toNat _)[(l+12).toNat]?=_
  rw[List.getElem?_set_ne (fun e=>h3 (by omega))]
  exact h.wats l h1 h2 h3
 ·show(m.lists.set (u+12).toNat (((m.lists[(u+12).toNat]?).getD []).set stay.length p))[(u+12).toNat]?=_
  rw[List.getElem?_set_self (List.getElem?_eq_some_iff.1 h.own).1,h.own]
  simp only[Option.getD_some,Option.some.injEq]
  have hd:L.drop stay.length=L[stay.length]::L.drop (stay.length+1):=List.drop_eq_getElem_cons hs
  have e1:(L.drop stay.length).set 0 p=p::L.drop (stay.length+1):=by rw[hd];rfl
  rw[List.set_append,if_neg (by omega),Nat.sub_self,e1]
  simp
 ·show(flat _).length=_
  rw[lB hc hst.perm.length_eq,←h.rep.store];exact h.size
def oD(base:Nat)(w:World)(m0:Mem)(cls0:List Cl)(tr0:Tr)(i0:Nat)(e:Ending)(w':World):Prop:=
 ∃m cls wat tr bad,e=.returned (.int .i64 bad)/\Mut base w m0 w' m/\Rep m cls tr/\eJ m wat/\Kept m0 m/\Went cls0 tr0 cls tr/\m.store.length=m0.store.length/\((bad=-1/\Rest (i0+1) cls wat tr)∨(bad≠-1/\Struck cls wat tr i0 bad))
set_option maxRecDepth 100000 in
set_option maxHeartbeats 3200000 in
theorem aB2(base:Nat)(m0:Mem)(cls0:List Cl)(wat0:Int->List Int)(tr0:Tr)(i0:Nat)(x rr:Int)(w:World)(hS:SAt base w m0)(hR:Rep m0 cls0 tr0)(hW:eJ m0 wat0)(hI:Rest i0 cls0 wat0 tr0)(hx:tr0[i0]?=some (x,rr))(hsz:m0.store.length<=9000000)(hbs:base<=w.heap.size):
  Calls Tryz.prog 158 #[.pointer (some ⟨m0.s,0,none⟩),.int .i64 (-x)] w fun e w'=>oD base w m0 cls0 tr0 i0 e w':=by
 have hxb:=hI.trok.bd i0 _ hx
 simp only at hxb
 have hk:(((-x)+12).toNat:Int)=-x+12:=by omega
 have hk25:((-x)+12).toNat<25:=by omega
 have HOF:=aq (aI5 base m0 (-x) ((-x)+12).toNat w hS hk hk25)
 obtain⟨b,cap0,hwl,hb,hcell,hfz⟩:=hS.wl
 obtain⟨v0,l0,hv0,hl0,hrow,-⟩:=hS.list hk25
 have hL:l0=wat0 (-x):=by have:=hW (-x) (by omega) (by omega);rw[hl0]at this;simpa using this
 have hcv:=hcell _ v0 hv0
 obtain⟨ao,cp,hsh⟩:=aC hrow
 have HST:Hid (VAt base w m0 cls0 tr0 i0 (-x) l0 v0 w m0 cls0 wat0 tr0 [] l0 (-1)):=aq ⟨Mut.refl hS,hR,fun l h1 h2 _=>hW l h1 h2,by simpa using hl0,hv0,rfl,Kept.refl _,by rw[hL];exact hI.visit hx,Went.refl _ _,rfl⟩
 have HLB:Hid (l0.length<=9000000):=aq (by
  have h1:=hI.lists (-x)
  rw[←hL]at h1
  have:=gG h1.1 (fun p hp=>(h1.2 p).1 hp)
  rw[←hR.store]at this
  omega)
 have HWL:=aq hwl
 subst hsh
 clear hS hR hW hI hwl hcell hfz hrow hv0 hL hl0 hxb
 generalize hkk:((-x)+12).toNat=k at *
 have HKK:=aq hkk
 clear hkk
 generalize hu:-x=u at *
 clear hu
 go_enter Tryz.func158,Tryz.ntmps158
 go_wp2_with fail
 refine(dz HOF).mono ?_
 rintro e w1 ⟨⟨b',cap',hw',rfl⟩,hb1⟩
 rw[dz HWL]at hw'
 simp only[Value.slice.injEq,Option.some.injEq,Addr.mk.injEq,and_true,true_and]at hw'
 obtain⟨rfl,rfl⟩:=hw'
 have hcv1:w1.cell? ⟨b,k,none⟩=some (.slice ao l0.length cp):=(hb1.cell (p:=⟨b,k,none⟩) hb).trans hcv
 go_wp2
 have HST1:Hid (VAt base w m0 cls0 tr0 i0 u l0 (.slice ao l0.length cp) w1 m0 cls0 wat0 tr0 [] l0 (-1)):=aq (by
  have h:=dz HST
  exact⟨h.mu.trans (Mut.below h.mu.at hb1),h.rep,h.wats,h.own,h.head,h.wl,h.kept,h.vis,h.went,h.size⟩)
 clear HOF HST hcv hb1
 have hlb:l0.length<=9000000:=dz HLB
 go_loopw [6,7,23] (fun v6 v7 v23 wr=>∃(j:Nat) (stay:List Int) (bad:Int),j<=l0.length/\v23=.int .i64 j/\v6=.slice ao stay.length cp/\v7=.int .i64 bad/\stay.length<=j/\Hid (∃m cls wat tr,VAt base w m0 cls0 tr0 i0 u l0 (.slice ao l0.length cp) wr m cls wat tr stay (l0.drop j) bad)) (fun _ _ v23 _=>l0.length-(intOf v23).toNat)
 case atStart=>exact⟨0,[],-1,Nat.zero_le _,rfl,rfl,rfl,Nat.le_refl _,aq ⟨_,_,_,_,by simpa using dz HST1⟩⟩
 case round=>
  obtain⟨j,stay,bad,hj,rfl,rfl,rfl,hsj,HV⟩:=hrel
  obtain⟨m,cls,wat,tr,hV⟩:=dz HV
  by_cases hlt:j<l0.length
  ·have hdrop:l0.drop j=l0[j]::l0.drop (j+1):=List.drop_eq_getElem_cons hlt
   rw[hdrop]at hV
   obtain⟨v1,l1,e1,e2,hrow,hrr⟩:=hV.mu.at.list hk25
   have hh:=hV.head
   have ho:=hV.own
   rw[dz HKK]at hh ho
   rw[hh]at e1;cases e1
   rw[ho]at e2;cases e2
   have hlen:(stay++l0.drop stay.length).length=l0.length:=by simp;omega
   rw[hlen]at hrow
   obtain⟨g,cap2,hv,-,hg⟩:=World.ownsRow.form hrow (by omega)
   simp only[Value.slice.injEq,true_and]at hv
   obtain⟨rfl,rfl⟩:=hv
   have hcj:wr.cell? ⟨g,j,none⟩=some (.int .i64 l0[j]):=by
    rw[hrow.cellAt j (by omega)]
    simp only[ints,List.getElem?_map]
    rw[List.getElem?_append_right hsj,List.getElem?_drop,show stay.length+(j-stay.length)=j from by omega,List.getElem?_eq_getElem hlt]
    rfl
   obtain⟨c,cl,o,r,hc,hp,hl⟩:=hV.vis.clause
   have hwf:=hV.vis.wf c cl hc
   have hms:m.s=m0.s:=hV.mu.s
   have hsm:m.store.length<=9000000:=by rw[hV.size];exact hsz
   have hll:∀(k:Nat) (l:List Int),m.lists[k]?=some l->l.length<=9000000:=by
    intro k2 l2 hk2
    have hk2l:k2<25:=by have:=(List.getElem?_eq_some_iff.1 hk2).1;rw[hV.mu.ls]at this;exact this
    by_cases e:((k2:Int)-12)=u
    ·have:k2=k:=by omega
     subst this
     rw[ho]at hk2
     cases hk2
     rw[hlen];exact dz HLB
    ·have h1:=hV.wats ((k2:Int)-12) (by omega) (by omega) e
     rw[show((k2:Int)-12+12).toNat=k2 from by omega,hk2]at h1
     cases h1
     have h2:=hV.vis.lists _ e
     have:=gG h2.1 (fun p hp=>(h2.2 p).1 hp)
     rw[←hV.rep.store]at this
     omega
   have HRW:=aq (vZ base m cls c cl u o r wr hV.mu.at hV.rep.store hc (by omega) hwf hl (Nat.le_trans hbs hV.mu.to.only.size) hll)
   rw[←hp,hms]at HRW
   have HVV:=aq hV
   have HC:=aq hc
   have HP:=aq hp
   have HHD:=aq hh
   have HOW:=aq ho
   have HLN:=aq hlen
   clear hV hh ho hrow hrr hc hp hl hwf hll hdrop hlen HV hms
   generalize l0[j]=p at *
   go_wp2_with fail
   refine(dz HRW).mono ?_
   rintro e w2 ⟨o2,r2,hl2,⟨rfl,hm2,hw2⟩|⟨rfl,ho2,k2,y2,v2,hk2,hy2,hm2⟩⟩
   ·have hS2:=hm2.at
    have HR2:Hid (w2.ownsRow base 117 1 (.slice (some ⟨g,0,none⟩) l0.length cp) l0.length (ints (stay++l0.drop stay.length))):=aq (by
     obtain⟨v3,l3,e3,e4,hrow3,-⟩:=hS2.list hk25
     have h5:m.ws[k]?=some v3:=e3
     have h6:m.lists[k]?=some l3:=e4
     rw[dz HHD]at h5;cases h5
     rw[dz HOW]at h6;cases h6
     rw[dz HLN]at hrow3
     exact hrow3)
    have HMID:Hid (∀(wz w4:World),Below w2.heap.size w2 wz->w4.ownsRow base 117 1 (.slice (some ⟨g,0,none⟩) l0.length cp) l0.length ((ints (stay++l0.drop stay.length)).set stay.length (.int .i64 p))->wz.grownBy w4 (some g)->VMid base w m0 cls0 tr0 i0 u l0 (.slice (some ⟨g,0,none⟩) l0.length cp) w4 ((m.withCls (cls.set c ⟨cl.used,o2::u::r2⟩)).put (u+12).toNat stay.length p) cls wat tr stay (l0.drop (j+1)) bad p c cl o2 r2):=aq (by
     intro wz w4 hz hown hgr
     refine(dz HVV).mid (dz HC) (dz HP) hl2 hw2 (by omega) (hm2.trans ?_)
     rw[dz HKK]
     exact Mut.put hS2 hk25 (dz HHD) (dz HOW) (dz HLN) hz hown hgr)
    have HF:Hid (∀(w4:World),VMid base w m0 cls0 tr0 i0 u l0 (.slice (some ⟨g,0,none⟩) l0.length cp) w4 ((m.withCls (cls.set c ⟨cl.used,o2::u::r2⟩)).put (u+12).toNat stay.length p) cls wat tr stay (l0.drop (j+1)) bad p c cl o2 r2->Calls Tryz.prog 69 #[.pointer (some ⟨m0.s,0,none⟩),.int .i64 p] w4 fun e w'=>fU base w4 ((m.withCls (cls.set c ⟨cl.used,o2::u::r2⟩)).put (u+12).toNat stay.length p) ⟨cl.used,o2::u::r2⟩ p e w'):=aq (by
     intro w4 hM
     have hlt':=(List.getElem?_eq_some_iff.1 (dz HC)).1
     have hcl':cls[c]=cl:=by have:=dz HC;rw[List.getElem?_eq_getElem hlt']at this;simpa using this
     have hps:pos (cls.set c ⟨cl.used,o2::u::r2⟩) c=pos cls c:=fM cls c c _ hlt' (by rw[hcl'];exact hM.stays.perm.length_eq)
     have:=mK base _ (cls.set c ⟨cl.used,o2::u::r2⟩) c ⟨cl.used,o2::u::r2⟩ w4 hM.mu.at hM.rep.store (List.getElem?_set_self hlt') (by rw[hM.size];omega) hM.wf (Nat.le_trans hbs hM.mu.to.only.size) (by rw[hM.rep.order,List.length_map];have:=hM.trok.len;omega) hM.rep.odr hM.rep.ordr
     rw[hps,←dz HP]at this
     have hs:((m.withCls (cls.set c ⟨cl.used,o2::u::r2⟩)).put (u+12).toNat stay.length p).s=m0.s:=hM.mu.s
     rw[hs]at this
     exact this)
    have hsl:stay.length<l0.length:=by omega
    clear hl2 hw2 hm2 hS2
    by_cases hbad:bad=-1
    ·subst hbad
     go_wp2_with (at_builtin;refine hJ (base:=base) rfl _ _ 227 117 rfl Tryz.underlying227 Tryz.infoPlace (dz HR2) hsl rfl rfl rfl ?_;intro w4 hown4 hgr4;have HM:=aq (dz HMID _ _ ((Below.refl _ _).alloc (Nat.le_refl _) _) hown4 hgr4);clear hown4 hgr4)
     refine(dz HF _ (dz HM)).mono ?_
     rintro e w5 (⟨rfl,hm5,hcase⟩|⟨rfl,h5,r5,hl5,ht5,⟨ht0,od5,hm5⟩|⟨ht0,hm5⟩⟩)
     ·have HN:=aq ((dz HM).isFalse hm5 (by
       rcases hcase with h|⟨h5,r5,e5,ht⟩
       ·cases h
       ·simp only[List.cons.injEq]at e5
        obtain⟨rfl,-⟩:=e5
        exact ht))
      clear hm5 hcase
      go_wp2
      go_roundw
      case rel=>exact⟨j+1,stay++[p],p,by omega,by go_num,by simp,rfl,by simp;omega,aq ⟨_,_,_,_,dz HN⟩⟩
      case measure=>simp[intOf];omega
     ·simp only[List.cons.injEq]at hl5
      obtain⟨rfl,-⟩:=hl5
      have HN:=aq ((dz HM).take hm5 ht0)
      clear hm5 ht0 ht5
      go_wp2
      go_roundw
      case rel=>exact⟨j+1,stay++[p],-1,by omega,by go_num,by simp,rfl,by simp;omega,aq ⟨_,_,_,_,dz HN⟩⟩
      case measure=>simp[intOf];omega
     ·simp only[List.cons.injEq]at hl5
      obtain⟨rfl,-⟩:=hl5
      have HN:=aq ((dz HM).isTrue hm5 ht5 ht0)
      clear hm5 ht0 ht5
      go_wp2
      go_roundw
      case rel=>exact⟨j+1,stay++[p],-1,by omega,by go_num,by simp,rfl,by simp;omega,aq ⟨_,_,_,_,dz HN⟩⟩
      case measure=>simp[intOf];omega
    ·have hq:(bad==-1)=false:=by simpa using hbad
     go_wp2_with (at_builtin;refine hJ (base:=base) rfl _ _ 227 117 rfl Tryz.underlying227 Tryz.infoPlace (dz HR2) hsl rfl rfl rfl ?_;intro w4 hown4 hgr4;have HM:=aq ((dz HMID _ _ ((Below.refl _ _).alloc (Nat.le_refl _) _) hown4 hgr4).isBad hbad);clear hown4 hgr4)
     go_roundw
     case rel=>exact⟨j+1,stay++[p],bad,by omega,by go_num,by simp,rfl,by simp;omega,aq ⟨_,_,_,_,dz HM⟩⟩
     case measure=>simp[intOf];omega
   ·have HN:=aq ((dz HVV).move (dz HC) (dz HP) hl2 ho2 hk2 hy2 (by rw[dz HP];exact hm2))
    clear hl2 ho2 hk2 hy2 hm2
    go_wp2
    go_roundw
    case rel=>exact⟨j+1,stay,bad,by omega,by go_num,rfl,rfl,by omega,aq ⟨_,_,_,_,dz HN⟩⟩
    case measure=>simp[intOf];omega
  ·have hjl:j=l0.length:=by omega
   subst hjl
   rw[List.drop_length]at hV
   have hS:=hV.mu.at
   have hh:=hV.head
   have ho:=hV.own
   rw[dz HKK]at hh ho
   obtain⟨v1,l1,e1,e2,hrow,hrr⟩:=hS.list hk25
   rw[hh]at e1;cases e1
   rw[ho]at e2;cases e2
   have hlen:(stay++l0.drop stay.length).length=l0.length:=by simp;omega
   have hwl:m.wl=.slice (some ⟨b,0,none⟩) 25 cap0:=by rw[hV.wl];exact dz HWL
   obtain⟨b2,cap2,hwl2,hb2,hcell2,hfz2⟩:=hS.wl
   rw[hwl]at hwl2
   simp only[Value.slice.injEq,Option.some.injEq,Addr.mk.injEq,and_true,true_and]at hwl2
   obtain⟨rfl,rfl⟩:=hwl2
   have hcb:=hcell2 k _ hh
   have hfb:=hfz2 k
   have HFIN:Hid (oD base w m0 cls0 tr0 i0 (.returned (.int .i64 bad)) (wr.setCell ⟨b,k,none⟩ (.slice ao stay.length cp))):=aq (by
    have hmu:=Mut.listed hS hk25 hh ho hwl (v':=.slice ao stay.length cp) (s:=stay) (by
     rcases hrow.2 with⟨h1,h2⟩|⟨g,c2,cur,h1,_⟩
     ·left
      have h3:l0.length=0:=by rw[←hlen];exact h2
      have h4:stay=[]:=List.length_eq_zero_iff.1 (by omega)
      refine⟨h1,?_,h4⟩
      simp only[Value.slice.injEq]at h1
      rw[h4,h3];rfl
     ·right
      simp only[Value.slice.injEq]at h1
      refine⟨g,cp,by rw[h1.1,hlen],by rw[h1.1],by simp,by simp⟩)
    refine⟨m.listed k (.slice ao stay.length cp) stay,cls,upd wat u stay,tr,bad,rfl,hV.mu.trans hmu,⟨hV.rep.store,hV.rep.order,hV.rep.starts,hV.rep.len,hV.rep.taken,hV.rep.free,hV.rep.odr,hV.rep.ordr⟩,fun l h1 h2=>?_,hV.kept.trans rfl,hV.went,hV.size,?_⟩
    ·show(m.lists.set k stay)[(l+12).toNat]?=some (upd wat u stay l)
     unfold upd
     by_cases e:l=u
     ·subst e
      rw[if_pos rfl,dz HKK,List.getElem?_set_self (by rw[hS.ls];exact hk25)]
     ·rw[if_neg e,List.getElem?_set_ne (fun e'=>e (by omega))]
      exact hV.wats l h1 h2 e
    ·by_cases hb:bad=-1
     ·subst hb
      exact .inl ⟨rfl,hV.vis.rest⟩
     ·exact .inr ⟨hb,hV.vis.struck hb⟩)
   clear hV hS hh ho hrow hrr hlen hwl hcell2 hfz2 HV
   go_wp2
   try go_ret
   exact dz HFIN
end Go.Proofs.YtekkkoipcghlmaaGreatDoor
namespace Go.Proofs.YtekkkoipcghlmaaGreatDoor
open Go.RowKit
attribute [local go_sem ↓] Go.wp_at_zero Go.wp_at_succ
def KeptP(m0 m:Mem):Prop:=m={ m0.but m with passed:=m.passed }
theorem KeptP.refl(m:Mem):KeptP m m:=rfl
theorem KeptP.trans{a b c:Mem}(h:KeptP a b)(h':KeptP b c):KeptP a c:=by
 unfold KeptP at h h'⊢
 rw[h]at h'
 exact h'
theorem Kept.keptP{a b:Mem}(h:Kept a b):KeptP a b:=by
 unfold Kept at h
 unfold KeptP
 have:b.passed=a.passed:=by rw[h];rfl
 rw[this];exact h
def Mem.past(m:Mem)(n:Int):Mem:={ m with passed:=n }
theorem Mut.past{base:Nat}{w:World}{m:Mem}(h:SAt base w m)(n:Int):Mut base w m (w.setCell ⟨m.s,6,none⟩ (.int .i64 n)) (m.past n):=⟨h.field 6 (.int .i64 n),h.ws,h.ls,h.counts,h.places,rfl,rfl,rfl⟩
def tA(base:Nat)(w:World)(m0:Mem)(cls0:List Cl)(tr0:Tr)(e:Ending)(w':World):Prop:=
 ∃m cls wat tr bad,e=.returned (.int .i64 bad)/\Mut base w m0 w' m/\Rep m cls tr/\eJ m wat/\KeptP m0 m/\Went cls0 tr0 cls tr/\m.store.length=m0.store.length/\((bad=-1/\m.passed=(tr.length:Int)/\Rest tr.length cls wat tr)∨(bad≠-1/\∃n:Nat,m.passed=(n:Int)+1/\Struck cls wat tr n bad))
structure PAt(base:Nat)(w:World)(m0:Mem)(cls0:List Cl)(tr0:Tr)(wr:World)(n:Nat)(m:Mem)(cls:List Cl)(wat:Int->List Int)(tr:Tr):Prop where
 mu:Mut base w m0 wr m
 rep:Rep m cls tr
 wats:eJ m wat
 kept:KeptP m0 m
 went:Went cls0 tr0 cls tr
 size:m.store.length=m0.store.length
 passed:m.passed=(n:Int)
 rest:Rest n cls wat tr
def passedOf(s:Nat)(w:World):Nat:=(intOf ((w.cell? ⟨s,6,none⟩).getD (.int .i64 0))).toNat
theorem PAt.passedOf{base:Nat}{w:World}{m0:Mem}{cls0:List Cl}{tr0:Tr}{wr:World}{n:Nat}{m:Mem}{cls:List Cl}{wat:Int->List Int}{tr:Tr}(h:PAt base w m0 cls0 tr0 wr n m cls wat tr):passedOf m0.s wr=n:=by
 have hc:wr.cell? ⟨m.s,6,none⟩=some (.int .i64 m.passed):=by rw[h.mu.at.cell 6 (by decide)];rfl
 rw[h.mu.s,h.passed]at hc
 unfold Go.Proofs.YtekkkoipcghlmaaGreatDoor.passedOf
 rw[hc]
 simp[intOf]
set_option maxRecDepth 100000 in
set_option maxHeartbeats 3200000 in
theorem pM(base:Nat)(m0:Mem)(cls0:List Cl)(wat0:Int->List Int)(tr0:Tr)(n0:Nat)(w:World)(hS:SAt base w m0)(hR:Rep m0 cls0 tr0)(hW:eJ m0 wat0)(hI:Rest n0 cls0 wat0 tr0)(hpa:m0.passed=(n0:Int))(hsz:m0.store.length<=9000000)(hbs:base<=w.heap.size):
  Calls Tryz.prog 117 #[.pointer (some ⟨m0.s,0,none⟩)] w fun e w'=>tA base w m0 cls0 tr0 e w':=by
 have HST:Hid (∃n m cls wat tr,PAt base w m0 cls0 tr0 w n m cls wat tr):=aq ⟨n0,m0,cls0,wat0,tr0,Mut.refl hS,hR,hW,KeptP.refl _,Went.refl _ _,rfl,hpa,hI⟩
 clear hS hR hW hI hpa
 go_enter Tryz.func117,Tryz.ntmps117
 go_wp2
 go_loopw [] (fun wr=>∃n:Nat,n<=12/\Hid (∃m cls wat tr,PAt base w m0 cls0 tr0 wr n m cls wat tr)) (fun wr=>13-passedOf m0.s wr)
 case atStart=>
  obtain⟨n,m,cls,wat,tr,h⟩:=dz HST
  exact⟨n,by have:=h.rest.le;have:=h.rest.trok.len;omega,aq ⟨m,cls,wat,tr,h⟩⟩
 case round=>
  obtain⟨n,hn12,HP⟩:=hrel
  obtain⟨m,cls,wat,tr,hP⟩:=dz HP
  have hS:=hP.mu.at
  have hms:m.s=m0.s:=hP.mu.s
  have hc4:wr.cell? ⟨m0.s,4,none⟩=some m.od:=by rw[←hms,hS.cell 4 (by decide)];rfl
  have hc6:wr.cell? ⟨m0.s,6,none⟩=some (.int .i64 (n:Int)):=by rw[←hms,hS.cell 6 (by decide),←hP.passed];rfl
  have hf6:wr.frozen? ⟨m0.s,6,none⟩=false:=by rw[←hms];exact hS.free 6
  have hss:m0.s<wr.heap.size:=by rw[←hms];exact hS.lt.1
  have hol:m.order.length=tr.length:=by rw[hP.rep.order,List.length_map]
  have hrow:=hS.pack.rows 6 _ rfl
  unfold Row.ok aB at hrow
  simp only[hP.rep.odr,hP.rep.ordr]at hrow
  rw[hol]at hrow
  obtain⟨ao,cp,hsh⟩:=aC hrow
  rw[hsh]at hc4 hrow
  have htl:=hP.rest.trok.len
  by_cases hlt:n<tr.length
  ·obtain⟨g,cap2,hv,-,hg⟩:=World.ownsRow.form hrow (by omega)
   simp only[Value.slice.injEq,true_and]at hv
   obtain⟨rfl,rfl⟩:=hv
   have hcn:wr.cell? ⟨g,n,none⟩=some (.int .i64 tr[n].1):=by
    rw[hrow.cellAt n (by omega),hP.rep.order]
    simp[ints,hlt]
   have hxn:tr[n]?=some (tr[n].1,tr[n].2):=List.getElem?_eq_getElem hlt
   have hbn:=hP.rest.trok.bd n _ hxn
   simp only at hbn
   have HMS:Hid (∀wq,Below wr.heap.size wr wq->Mut base w m0 (wq.setCell ⟨m0.s,6,none⟩ (.int .i64 ((n:Int)+1))) (m.past ((n:Int)+1))):=aq (by
    intro wq hq
    have:=Mut.past (hS.below hq) ((n:Int)+1)
    rw[hms]at this
    exact(hP.mu.trans (Mut.below hS hq)).trans this)
   have HVI:Hid (∀wx,Mut base w m0 wx (m.past ((n:Int)+1))->Calls Tryz.prog 158 #[.pointer (some ⟨m0.s,0,none⟩),.int .i64 (-tr[n].1)] wx fun e w'=>oD base wx (m.past ((n:Int)+1)) cls tr n e w'):=aq (fun wx hm=>by
    have:=aB2 base (m.past ((n:Int)+1)) cls wat tr n tr[n].1 tr[n].2 wx hm.at ⟨hP.rep.store,hP.rep.order,hP.rep.starts,hP.rep.len,hP.rep.taken,hP.rep.free,hP.rep.odr,hP.rep.ordr⟩ hP.wats hP.rest hxn (by show m.store.length<=9000000;rw[hP.size];exact hsz) (Nat.le_trans hbs hm.to.only.size)
    have e:(m.past ((n:Int)+1)).s=m0.s:=hms
    rw[e]at this
    exact this)
   have HPP:=aq hP
   have HOL:=aq (And.intro hlt htl)
   clear hP hS hms hol hrow hxn HP
   clear hsh
   generalize tr[n].1=x at *
   generalize htn:tr.length=N at *
   clear htn
   go_wp2_with fail
   go_quiet (fail)
   go_wp2_with fail
   go_quiet (fail)
   go_wp2_with fail
   refine(dz HVI _ (by first|exact dz HMS _ (aG (aG (Below.refl _ _) _) _)|exact dz HMS _ (aG (Below.refl _ _) _))).mono ?_
   rintro e w2 ⟨m2,cls2,wat2,tr2,bad2,rfl,hmu2,hrep2,hwat2,hkept2,hwent2,hsz2,hres⟩
   have HALL:Hid (Mut base w m0 w2 m2/\KeptP m0 m2/\Went cls0 tr0 cls2 tr2/\m2.store.length=m0.store.length/\m2.passed=(n:Int)+1):=aq (by
    have h:=dz HPP
    refine⟨Mut.trans (by first|exact dz HMS _ (aG (aG (Below.refl _ _) _) _)|exact dz HMS _ (aG (Below.refl _ _) _)) hmu2,h.kept.trans (KeptP.trans (b:=m.past ((n:Int)+1)) rfl hkept2.keptP),h.went.trans hwent2,by rw[hsz2];exact h.size,by rw[hkept2];rfl⟩)
   have HRW:=aq (And.intro hrep2 hwat2)
   clear hmu2 hrep2 hwat2 hkept2 hwent2 hsz2
   rcases hres with⟨rfl,hrest⟩|⟨hb,hst⟩
   ·have HR:=aq hrest
    clear hrest
    go_wp2
    go_roundw
    case rel=>
     obtain⟨a1,a2,a3,a4,a5⟩:=dz HALL
     obtain⟨a6,a7⟩:=dz HRW
     exact⟨n+1,by have:=(dz HR).le;have:=(dz HR).trok.len;omega,aq ⟨m2,cls2,wat2,tr2,a1,a6,a7,a2,a3,a4,by rw[a5];omega,dz HR⟩⟩
    case measure=>
     obtain⟨a1,a2,a3,a4,a5⟩:=dz HALL
     obtain⟨a6,a7⟩:=dz HRW
     have p1:=(dz HPP).passedOf
     have p2:passedOf m0.s w2=n+1:=PAt.passedOf (base:=base) (w:=w) (m0:=m0) (cls0:=cls0) (tr0:=tr0) (wr:=w2) (n:=n+1) (m:=m2) (cls:=cls2) (wat:=wat2) (tr:=tr2) ⟨a1,a6,a7,a2,a3,a4,by rw[a5];omega,dz HR⟩
     rw[p1,p2];omega
   ·have HR:=aq hst
    have hq:(bad2==-1)=false:=by simpa using hb
    have HB:=aq hb
    clear hst hb
    go_wp2
    try go_ret
    obtain⟨a1,a2,a3,a4,a5⟩:=dz HALL
    obtain⟨a6,a7⟩:=dz HRW
    exact⟨m2,cls2,wat2,tr2,bad2,rfl,a1,a6,a7,a2,a3,a4,.inr ⟨dz HB,n,a5,dz HR⟩⟩
  ·have hnl:n=tr.length:=by have:=hP.rest.le;omega
   have HPP:=aq hP
   clear hP hS hol hrow HP
   have HN:=aq hnl
   generalize htn:tr.length=N at *
   have HTN:=aq htn
   clear htn hsh
   go_wp2_with fail
   go_quiet (fail)
   go_wp2
   try go_ret
   have h:=dz HPP
   have e1:=dz HN
   have e2:=dz HTN
   exact⟨m,cls,wat,tr,-1,rfl,h.mu.trans (Mut.below h.mu.at (aG (Below.refl _ _) _)),h.rep,h.wats,h.kept,h.went,h.size,.inl ⟨rfl,by rw[h.passed,e2,e1],by rw[e2,←e1];exact h.rest⟩⟩
end Go.Proofs.YtekkkoipcghlmaaGreatDoor
