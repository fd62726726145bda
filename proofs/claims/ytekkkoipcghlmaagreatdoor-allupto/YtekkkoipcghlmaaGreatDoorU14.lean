import Derived.Test.YtekkkoipcghlmaaGreatDoorU13
import Derived.Deep.OwnRows
set_option linter.all false
namespace Go.Proofs.YtekkkoipcghlmaaGreatDoor
open Go.RowKit
section
variable {m:Mem}{cls:List Cl}{DB:List (List Int)}{tr:Tr}{met:List Bool}{low:List Int}{left i b:Nat}
theorem MC.clause(h:MC m DB tr met low left i b)(hR:Rep m cls tr)(hT:TrOK cls tr)(hib:i<=b){l:List Int}(hwf:aM l)(hl:∀y,y∈l->aD met y.natAbs=true∨∃j r,j<i/\tr[j]?=some (-y,r)):
  MC m DB tr (bG met ((aF m met l).map Int.natAbs)) (low++(aF m met l).filter (fun x=>!cR m tr x)) (left+((aF m met l).filter (cR m tr)).length) i b/\(∀v,aD met v=true->aD (bG met ((aF m met l).map Int.natAbs)) v=true)/\(∀y,y∈l->∀j r,j<i->tr[j]?=some (-y,r)->Seen tr (bG met ((aF m met l).map Int.natAbs)) i y)/\∀y,y∈l->aD met y.natAbs=false->(∃j r,tr[j]?=some (-y,r)/\lev tr j=levels tr)->0<levels tr->0<((aF m met l).filter (cR m tr)).length:=by
 have key:∀x,x∈aF m met l->x∈l/\aD met x.natAbs=false/\m.level x.natAbs≠0:=fun x hx=>by
  obtain⟨h1,h2⟩:=List.mem_filter.1 hx
  simp at h2
  exact⟨h1,h2⟩
 have keyb:∀x,x∈l->aD met x.natAbs=false->m.level x.natAbs≠0->x∈aF m met l:=fun x h1 h2 h3=>List.mem_filter.2 ⟨h1,by simp[h2,h3]⟩
 have hbd:∀v,v∈(aF m met l).map Int.natAbs->v<met.length:=fun v hv=>by
  obtain⟨x,hx,rfl⟩:=List.mem_map.1 hv
  have:=hwf.2 x (key x hx).1
  rw[h.len];omega
 refine⟨MC.meets hR hT hib _ _ _ _ h (fun x hx=>?_) ?_,fun v hv=>by rw[gH _ _ hbd,hv];rfl,fun y hy j r hj hjr=>⟨j,r,hj,hjr,?_⟩,fun y hy hm hjr h0=>?_⟩
 ·obtain⟨h1,h2,h3⟩:=key x hx
  refine⟨h2,?_⟩
  rcases hl x h1 with h4|⟨j,r,hj,hjr⟩
  ·rw[h2]at h4;cases h4
  ·refine⟨j,r,hj,hjr,?_⟩
   have:=hR.lev hjr (v:=x.natAbs) (by simp)
   omega
 ·exact hwf.1.sublist (List.Sublist.map _ List.filter_sublist)
 ·rw[gH _ _ hbd,Bool.or_eq_true,decide_eq_true_eq]
  rcases Classical.em (lev tr j=0)with h0|h0
  ·exact .inr h0
  ·left
   cases hm:aD met y.natAbs
   ·refine .inr (List.mem_map.2 ⟨y,keyb y hy hm ?_,rfl⟩)
    have:=hR.lev hjr (v:=y.natAbs) (by simp)
    omega
   ·exact .inl rfl
 ·obtain⟨j,r,hjr,hlv⟩:=hjr
  have h1:=hR.lev hjr (v:=y.natAbs) (by simp)
  have:y∈(aF m met l).filter (cR m tr):=List.mem_filter.2 ⟨keyb y hy hm (by omega),by unfold cR;rw[h1,hlv];simp⟩
  exact List.length_pos_of_mem this
theorem MC.begin(m:Mem)(DB:List (List Int))(tr:Tr):MC m DB tr (List.replicate 13 false) [] 0 tr.length (tr.length+1):=by
 have hn:∀v,aD (List.replicate 13 false) v=false:=fun v=>by
  unfold aD
  rw[List.getElem?_replicate]
  split<;>rfl
 have hlen:(List.replicate 13 false).length=13:=by simp
 generalize List.replicate 13 false=z at *
 refine⟨hlen,Nat.le_refl _,fun v hv=>?_,fun x=>?_,by simp,?_,fun j e hj he=>?_⟩
 ·rw[hn]at hv;cases hv
 ·simp[hn]
 ·unfold mU
  rw[List.filter_eq_nil_iff.2 (fun e _=>by rw[hn];simp)]
  rfl
 ·have:=(List.getElem?_eq_some_iff.1 he).1;omega
theorem MC.finish(h:MC m DB tr met low left i (i+1)){l:List Int}(hl:l∈DB)(hs:∀e,tr[i]?=some e->∀y,y∈l->y=e.1∨Seen tr met i y):MC m DB tr met low left i i:=by
 refine⟨h.len,h.bd,h.mtr,h.lows,h.nd,h.cnt,fun j e hj he hm hlv=>?_⟩
 by_cases hji:j=i
 ·subst hji
  exact⟨l,hl,hs e he⟩
 ·exact h.done j e (by omega) he hm hlv
theorem MC.any(h:MC m DB tr met low left i b)(hl:0<left):∃(j:Nat) (e:Int×Int),j<i/\tr[j]?=some e/\aD met e.1.natAbs=true/\m.level e.1.natAbs=(levels tr:Int):=by
 rw[h.cnt]at hl
 unfold mU at hl
 obtain⟨e,he⟩:=List.exists_mem_of_length_pos hl
 obtain⟨h1,h2⟩:=List.mem_filter.1 he
 simp at h2
 obtain⟨j,hj⟩:=List.getElem?_of_mem h1
 have hjl:=(List.getElem?_eq_some_iff.1 hj).1
 rw[List.length_take]at hjl
 rw[List.getElem?_take_of_lt (by omega)]at hj
 exact⟨j,e,by omega,hj,h2.1,h2.2⟩
theorem MC.top(h:MC m DB tr met low left i b)(hR:Rep m cls tr)(hl:0<left){k:Nat}(hlast:∀j e,k<j->j<i->tr[j]?=some e->aD met e.1.natAbs=false):lev tr k=levels tr:=by
 obtain⟨j,e,h1,h2,h3,h4⟩:=h.any hl
 have hjk:j<=k:=by
  rcases Nat.lt_or_ge k j with hk|hk
  ·have:=hlast j e hk h1 h2;rw[h3]at this;cases this
  ·exact hk
 have:=hR.lev h2 rfl
 have h5:=gN tr hjk
 have h6:=eX tr k
 omega
theorem MC.down(h:MC m DB tr met low left i i)(hR:Rep m cls tr)(hl:0<left){k:Nat}{e:Int×Int}(hki:k<i)(hk:tr[k]?=some e)(hm:aD met e.1.natAbs=true)(hlast:∀j e,k<j->j<i->tr[j]?=some e->aD met e.1.natAbs=false):MC m DB tr met low (left-1) k (k+1):=by
 have htop:=h.top hR hl hlast
 have hbd:=h.bd
 refine⟨h.len,by omega,h.mtr,h.lows,h.nd,?_,fun j f hj hf hmf hlf=>?_⟩
 ·rw[h.cnt]
  unfold mU
  have hkl:=(List.getElem?_eq_some_iff.1 hk).1
  have e1:tr.take i=tr.take k++e::(tr.drop (k+1)).take (i-(k+1)):=by
   have h1:tr.take i=tr.take (k+1)++(tr.drop (k+1)).take (i-(k+1)):=by rw[←List.take_add,show k+1+(i-(k+1))=i from by omega]
   rw[h1,List.take_succ_eq_append_getElem hkl,(List.getElem?_eq_some_iff.1 hk).2,List.append_assoc]
   rfl
  have e2:((tr.drop (k+1)).take (i-(k+1))).filter (fun e=>aD met e.1.natAbs&&(m.level e.1.natAbs==(levels tr:Int)))=[]:=by
   rw[List.filter_eq_nil_iff]
   intro f hf
   obtain⟨j,hj⟩:=List.getElem?_of_mem hf
   have hjl:=(List.getElem?_eq_some_iff.1 hj).1
   rw[List.length_take]at hjl
   rw[List.getElem?_take_of_lt (by omega),List.getElem?_drop]at hj
   rw[hlast _ f (by omega) (by omega) hj]
   simp
  have e3:(m.level e.1.natAbs==(levels tr:Int))=true:=by rw[hR.lev hk rfl,htop];simp
  rw[e1,List.filter_append,List.filter_cons,e2,if_pos (by rw[hm,e3];rfl),List.length_append]
  simp
 ·rcases Nat.lt_or_ge j i with hji|hji
  ·have:=hlast j f (by omega) hji hf;rw[hmf]at this;cases this
  ·exact h.done j f hji hf hmf hlf
theorem aQ8{tr:Tr}{k:Nat}{e:Int×Int}(hk:tr[k]?=some e)(hd:dec e=true){j:Nat}(hj:j<k):lev tr j<lev tr k:=by
 have hkl:=(List.getElem?_eq_some_iff.1 hk).1
 have h1:lev tr j<=levels (tr.take k):=eU tr (by omega)
 have h2:lev tr k=levels (tr.take k)+1:=by
  unfold lev
  rw[List.take_succ_eq_append_getElem hkl,bM,(List.getElem?_eq_some_iff.1 hk).2]
  simp[levels,hd]
 omega
theorem vN{tr:Tr}{k:Nat}{e:Int×Int}(hk:tr[k]?=some e)(h0:lev tr k=0):dec e=false:=by
 cases hd:dec e
 ·rfl
 ·have hkl:=(List.getElem?_eq_some_iff.1 hk).1
  have h2:lev tr k=levels (tr.take k)+1:=by
   unfold lev
   rw[List.take_succ_eq_append_getElem hkl,bM,(List.getElem?_eq_some_iff.1 hk).2]
   simp[levels,hd]
  omega
theorem MC.reason(h:MC m DB tr met low left i i)(hR:Rep m cls tr)(hl:2<=left){k:Nat}{e:Int×Int}(hki:k<i)(hk:tr[k]?=some e)(hm:aD met e.1.natAbs=true)(hlast:∀j e,k<j->j<i->tr[j]?=some e->aD met e.1.natAbs=false):dec e=false:=by
 have htop:=h.top hR (by omega) hlast
 have h1:=h.down hR (by omega) hki hk hm hlast
 obtain⟨j,f,h2,h3,h4,h5⟩:=h1.any (by omega)
 cases hd:dec e
 ·rfl
 ·have:=aQ8 hk hd h2
  have:=hR.lev h3 rfl
  omega
theorem MC.lesson(h:MC m DB tr met low 1 i i)(hR:Rep m cls tr)(hT:TrOK cls tr)(hDB:∀(c:Nat) (cl:Cl),cls[c]?=some cl->cl.lits∈DB)(hpos:0<levels tr){k:Nat}{e:Int×Int}(hki:k<i)(hk:tr[k]?=some e)(hm:aD met e.1.natAbs=true)(hlast:∀j e,k<j->j<i->tr[j]?=some e->aD met e.1.natAbs=false)
  {l:List Int} (hl:l∈DB) (hs:∀y,y∈l->Seen tr met tr.length y):Lesson DB tr (-e.1::low):=by
 have htop:=h.top hR (by omega) hlast
 have h1:=h.down hR (by omega) hki hk hm hlast
 have hbe:=hT.bd k e hk
 have hnone:∀(j:Nat) (f:Int×Int),j<k->tr[j]?=some f->aD met f.1.natAbs=true->lev tr j≠levels tr:=by
  intro j f hj hf hmf hlf
  have h0:=h1.cnt
  have:f∈(tr.take k).filter (fun e=>aD met e.1.natAbs&&(m.level e.1.natAbs==(levels tr:Int))):=List.mem_filter.2 ⟨List.mem_of_getElem? (by rw[List.getElem?_take_of_lt hj];exact hf),by rw[hmf,hR.lev hf rfl,hlf];simp⟩
  have:=List.length_pos_of_mem this
  unfold mU at h0
  omega
 refine⟨⟨?_,fun x hx=>?_⟩,⟨e.1,low,k,e.2,rfl,hk,htop,fun x hx=>?_⟩,fun j=>∃f,tr[j]?=some f/\(aD met f.1.natAbs=true∨lev tr j=0),fun j hj=>?_,l,hl,fun y hy=>?_⟩
 ·simp only[List.map_cons,List.nodup_cons,Int.natAbs_neg]
  refine⟨fun hin=>?_,h.nd⟩
  obtain⟨x,hx,hxe⟩:=List.mem_map.1 hin
  obtain⟨-,j,r,hj,hlt⟩:=(h.lows x).1 hx
  have:=hT.one hj hk (by simp[hxe])
  subst this
  omega
 ·rcases List.mem_cons.1 hx with rfl|hx
  ·omega
  ·obtain⟨-,j,r,hj,-⟩:=(h.lows x).1 hx
   have:=hT.bd j _ hj
   simp only at this
   omega
 ·obtain⟨h2,j,r,hj,hlt⟩:=(h.lows x).1 hx
  obtain⟨j',f,hj',hf,h0⟩:=h.mtr _ h2
  have:=hT.one hj hj' (by simp[hf])
  subst this
  exact⟨j,r,hj,h0,hlt⟩
 ·obtain⟨f,hf,hc⟩:=hj
  refine⟨f,hf,?_⟩
  have zero:lev tr j=0->∃c,c∈DB/\∀y,y∈c->y=f.1∨∃j' r,j'<j/\(∃f,tr[j']?=some f/\(aD met f.1.natAbs=true∨lev tr j'=0))/\tr[j']?=some (-y,r):=by
   intro h0
   obtain⟨c,cl,rest,g1,g2,g3,g4⟩:=hT.reason j f hf (vN hf h0)
   refine⟨cl.lits,hDB c cl g1,fun y hy=>?_⟩
   rw[g3]at hy
   rcases List.mem_cons.1 hy with rfl|hy
   ·exact .inl rfl
   ·obtain⟨j',r,hj',hr⟩:=g4 y hy
    exact .inr ⟨j',r,hj',⟨_,hr,.inr (by have:=gN tr (i:=j') (j:=j) (by omega);omega)⟩,hr⟩
  rcases hc with hmf|h0
  ·have hle:=eX tr j
   rcases Nat.lt_or_ge (lev tr j) (levels tr)with hlt|hge
   ·left
    refine List.mem_cons_of_mem _ ((h.lows _).2 ⟨by simpa using hmf,j,f.2,by rw[Int.neg_neg];exact hf,hlt⟩)
   ·rcases Nat.lt_trichotomy j k with hjk|hjk|hjk
    ·exact absurd (by omega) (hnone j f hjk hf hmf)
    ·subst hjk
     rw[hk]at hf;cases hf
     exact .inl (by simp)
    ·right
     obtain⟨c,hc,hy⟩:=h1.done j f (by omega) hf hmf (by omega)
     refine⟨c,hc,fun y hyc=>?_⟩
     rcases hy y hyc with h2|⟨j',r,h2,h3,h4⟩
     ·exact .inl h2
     ·exact .inr ⟨j',r,h2,⟨_,h3,by simpa using h4⟩,h3⟩
  ·exact .inr (zero h0)
 ·obtain⟨j,r,-,h2,h3⟩:=hs y hy
  exact⟨j,r,⟨_,h2,by simpa using h3⟩,h2⟩
end
theorem Struck.high{cls:List Cl}{wat:Int->List Int}{tr:Tr}{n:Nat}{bad:Int}(h:Struck cls wat tr n bad){c:Nat}{cl:Cl}(hc:cls[c]?=some cl)(hf:∀x,x∈cl.lits->Tru tr (-x))(hpos:0<levels tr):∃y,y∈cl.lits/\∃j r,tr[j]?=some (-y,r)/\lev tr j=levels tr:=by
 rcases h.ok c cl hc with⟨x,h1,j,r,h2,h3⟩|⟨a,b,r,h1,h2,h3⟩
 ·exact(h.trok.not_both ⟨j,r,h2⟩ (hf x (by rw[h1];simp))).elim
 ·obtain⟨i,s,hi⟩:=hf a (by rw[h1];simp)
  refine⟨a,by rw[h1];simp,i,s,hi,?_⟩
  rcases Nat.lt_or_ge i n with hin|hin
  ·obtain⟨j,q,hj,-⟩:=h2 i s hin hi
   exact(h.trok.not_both ⟨j,q,hj⟩ (hf b (by rw[h1];simp))).elim
  ·have:=gN tr hin
   have:=eX tr i
   have:=h.top
   omega
end Go.Proofs.YtekkkoipcghlmaaGreatDoor
namespace Go.Proofs.YtekkkoipcghlmaaGreatDoor
open Go.RowKit
attribute [local go_sem ↓] Go.wp_at_zero Go.wp_at_succ
def zC(w:World)(tr:Tr)(met:List Bool)(n:Nat)(e:Ending)(w':World):Prop:=
 ∃k f,e=.returned (.int .i64 ((k:Nat):Int))/\k<n/\tr[k]?=some f/\aD met f.1.natAbs=true/\(∀j f,k<j->j<n->tr[j]?=some f->aD met f.1.natAbs=false)/\Below w.heap.size w w'
theorem Rep.orderAt{base:Nat}{w:World}{m:Mem}{cls:List Cl}{tr:Tr}(hS:SAt base w m)(hR:Rep m cls tr)(hn:0<tr.length):∃g cap,m.od=.slice (some ⟨g,0,none⟩) tr.length cap/\w.cell? ⟨m.s,4,none⟩=some (.slice (some ⟨g,0,none⟩) tr.length cap)/\tr.length<=cap/\g<w.heap.size/\∀j e,tr[j]?=some e->w.cell? ⟨g,j,none⟩=some (.int .i64 e.1):=by
 have hrow:=hS.pack.rows 6 _ rfl
 unfold Row.ok aB at hrow
 have hl:m.order.length=tr.length:=by rw[hR.order,List.length_map]
 simp only[hR.odr,hR.ordr,hl]at hrow
 obtain⟨g,cap,hv,-,hg⟩:=World.ownsRow.form hrow hn
 rw[hv]at hrow
 refine⟨g,cap,hv,by rw[hS.cell 4 (by decide),←hv];rfl,?_,hg,fun j e hj=>?_⟩
 ·rcases hrow.2 with⟨h0,_⟩|⟨g',cap',cur,hv',_,_,hle,_⟩
  ·cases h0
  ·cases hv';exact hle
 ·have hjl:=(List.getElem?_eq_some_iff.1 hj).1
  rw[hrow.cellAt j (by omega),hR.order]
  simp[ints,hj]
set_option maxRecDepth 100000 in
set_option maxHeartbeats 3200000 in
theorem vP(base:Nat)(m:Mem)(cls:List Cl)(tr:Tr)(E:List Row)(i:Nat)(mv:Value)(met:List Bool)(n:Nat)(w:World)(hE:EAt base w m E)(hi:E[i]?=some (aJ mv met))(hml:met.length=13)(hR:Rep m cls tr)(hT:TrOK cls tr)(hn:n<=tr.length)(hex:∃(j:Nat) (f:Int×Int),j<n/\tr[j]?=some f/\aD met f.1.natAbs=true):
  Calls Tryz.prog 161 #[.pointer (some ⟨m.s,0,none⟩),.int .i64 (n:Int),mv] w fun e w'=>zC w tr met n e w':=by
 have hl12:=hT.len
 obtain⟨j0,f0,hj0,hf0,hm0⟩:=hex
 obtain⟨gm,cm,hmv,-,-,-,-⟩:=cP hE hi hml
 subst hmv
 obtain⟨g,cap,hod,-,-,-,-⟩:=hR.orderAt hE.at (by omega)
 have HRD:Hid (∀k wr,k<n->Below w.heap.size w wr->∃f,tr[k]?=some f/\(f.1≠0/\-12<=f.1/\f.1<=12)/\∀wx,Below wr.heap.size wr wx->wx.cell? ⟨m.s,4,none⟩=some (.slice (some ⟨g,0,none⟩) tr.length cap)/\wx.cell? ⟨g,k,none⟩=some (.int .i64 f.1)/\wx.cell? ⟨gm,f.1.natAbs,none⟩=some (.bool (aD met f.1.natAbs))):=aq (by
  intro k wr hk hb
  have hkt:k<tr.length:=by omega
  have hf:tr[k]?=some tr[k]:=List.getElem?_eq_getElem hkt
  have hbd:=hT.bd k _ hf
  refine⟨tr[k],hf,hbd,fun wx hbx=>?_⟩
  have hb2:=hb.trans (hbx.mono hb.size)
  obtain⟨g',cap',h1,h2,-,-,h3⟩:=hR.orderAt (hE.at.below hb2) (by omega)
  rw[hod]at h1
  cases h1
  obtain⟨gm',cm',h4,-,h5,-,-⟩:=cP (EMut.below hE hb2).eat hi hml
  cases h4
  have hv:tr[k].1.natAbs<met.length:=by omega
  refine⟨h2,h3 k _ hf,?_⟩
  rw[h5 _ _ (List.getElem?_eq_getElem hv)]
  unfold aD
  rw[List.getElem?_eq_getElem hv]
  rfl)
 have HFIN:Hid (∀k f wr,k<n->tr[k]?=some f->aD met f.1.natAbs=true->(∀j f,k<j->j<n->tr[j]?=some f->aD met f.1.natAbs=false)->Below w.heap.size w wr->zC w tr met n (.returned (.int .i64 ((k:Nat):Int))) wr):=aq (fun k f wr h1 h2 h3 h4 h5=>⟨k,f,rfl,h1,h2,h3,h4,h5⟩)
 have HJ:=aq (And.intro hj0 (And.intro hf0 hm0))
 have hgt:n<=tr.length:=hn
 clear hE hi hml hR hT hod hf0 hm0
 generalize hL:tr.length=L at *
 clear hL
 go_enter Tryz.func161,Tryz.ntmps161
 go_wp2
 go_loopw [7] (fun v7 wr=>∃k:Nat,k<n/\v7=.int .i64 (k:Int)/\Hid (Below w.heap.size w wr)/\Hid (∀j f,k<j->j<n->tr[j]?=some f->aD met f.1.natAbs=false)) (fun v7 _=>(intOf v7).toNat)
 case atStart=>exact⟨n-1,by omega,by go_num,aq (Below.refl _ _),aq (fun j f h1 h2=>by omega)⟩
 case round=>
  obtain⟨k,hk,rfl,HB,HN⟩:=hrel
  obtain⟨f,hf,hfb,hrd⟩:=dz HRD k wr hk (dz HB)
  have HV:=aq (fun wx=>aT f.1 wx hfb.2.1 hfb.2.2)
  obtain⟨hc4,hck,hcm⟩:=hrd wr (Below.refl _ _)
  have hki:(k:Int)<(L:Int):=by omega
  have hvi:(f.1.natAbs:Int)<13:=by omega
  have HF:=aq hf
  clear hf hrd
  by_cases hmk:aD met f.1.natAbs=true
  ·have HR:=aq (fun wx=>dz HFIN k f wx hk (dz HF) hmk (dz HN))
   rw[hmk]at hcm
   clear hmk
   generalize f.1.natAbs=v at *
   generalize f.1=x at *
   go_wp2_with fail
   refine(dz HV _).mono ?_
   rintro e w3 ⟨rfl,rfl⟩
   go_wp2
   try go_ret
   exact dz HR _ (dz HB)
  ·have hmk':aD met f.1.natAbs=false:=by simpa using hmk
   have HNN:Hid (0<k/\∀j f,k-1<j->j<n->tr[j]?=some f->aD met f.1.natAbs=false):=aq (by
    refine⟨?_,fun j f' h1 h2 h3=>?_⟩
    ·rcases Nat.eq_zero_or_pos k with h0|h0
     ·obtain⟨a1,a2,a3⟩:=dz HJ
      rcases Nat.eq_zero_or_pos j0 with z|z
      ·rw[z,←h0,dz HF]at a2
       cases a2
       rw[hmk']at a3;cases a3
      ·have:=dz HN j0 f0 (by omega) a1 a2
       rw[a3]at this;cases this
     ·exact h0
    ·rcases Nat.lt_or_ge k j with h|h
     ·exact dz HN j f' h h2 h3
     ·have:j=k:=by omega
      subst this
      rw[dz HF]at h3;cases h3
      exact hmk')
   rw[hmk']at hcm
   clear hmk hmk'
   have hk0:=(dz HNN).1
   generalize f.1.natAbs=v at *
   generalize f.1=x at *
   go_wp2_with fail
   refine(dz HV _).mono ?_
   rintro e w3 ⟨rfl,rfl⟩
   go_wp2
   go_roundw
   case rel=>exact⟨k-1,by omega,by go_num,HB,aq (dz HNN).2⟩
   case measure=>simp[intOf];omega
end Go.Proofs.YtekkkoipcghlmaaGreatDoor
namespace Go.Proofs.YtekkkoipcghlmaaGreatDoor
open Go.RowKit
theorem kG{a b:List Cl}(h:dbOf a=dbOf b){c:Nat}{cl:Cl}(hc:a[c]?=some cl):∃cl',b[c]?=some cl'/\cl'.lits=cl.lits:=by
 have h1:(dbOf a)[c]?=some cl.lits:=by unfold dbOf;rw[List.getElem?_map,hc];rfl
 rw[h]at h1
 unfold dbOf at h1
 rw[List.getElem?_map]at h1
 cases hb:b[c]? with
 | none=>rw[hb]at h1;cases h1
 | some cl'=>rw[hb]at h1;exact⟨cl',rfl,by simpa using h1⟩
theorem oW{a b:List Cl}(h:dbOf a=dbOf b)(c:Nat):pos a c=pos b c:=by
 have e:∀l:List Cl,(flat l).length=((dbOf l).map (fun x=>x.length+2)).sum:=by
  intro l
  induction l with
  | nil=>rfl
  | cons x r ih=>rw[dI,List.length_append,Cl.cells_len,ih];simp[dbOf]
 have t:∀l:List Cl,dbOf (l.take c)=(dbOf l).take c:=fun l=>by unfold dbOf;rw[List.map_take]
 unfold pos
 rw[e,e,t,t,h]
theorem mA{cls:List Cl}{c:Nat}{cl:Cl}(hc:cls[c]?=some cl):cl.lits∈dbOf cls:=List.mem_map.2 ⟨cl,List.mem_of_getElem? hc,rfl⟩
theorem TrOK.same{a b:List Cl}{tr:Tr}(h:TrOK a tr)(he:dbOf a=dbOf b):TrOK b tr:=by
 refine⟨h.vars,h.bd,fun i e hi hd=>?_⟩
 obtain⟨c,cl,rest,g1,g2,g3,g4⟩:=h.reason i e hi hd
 obtain⟨cl',h1,h2⟩:=kG he g1
 exact⟨c,cl',rest,h1,by rw[g2,oW he],by rw[h2];exact g3,g4⟩
theorem aO3(cls:List Cl){c:Nat}{cl:Cl}(hc:cls[c]?=some cl):dbOf (cls.set c ⟨true,cl.lits⟩)=dbOf cls:=by
 unfold dbOf
 rw[List.map_set]
 exact nK (by rw[List.getElem?_map,hc];rfl)
def KeptL(m0 m:Mem):Prop:=m={ m0 with store:=m.store,al:=m.al,all:=m.all,places:=m.places,counts:=m.counts,qc:=m.qc }
theorem KeptL.refl(m:Mem):KeptL m m:=rfl
theorem KeptL.trans{a b c:Mem}(h:KeptL a b)(h':KeptL b c):KeptL a c:=by
 unfold KeptL at h h'⊢
 rw[h]at h'
 exact h'
theorem KeptC.keptL{a b:Mem}(h:KeptC a b):KeptL a b:=by
 unfold KeptC at h
 unfold KeptL
 have h1:b.store=a.store:=by rw[h]
 rw[h1];exact h
theorem KeptL.level{a b:Mem}(h:KeptL a b)(v:Nat):b.level v=a.level v:=by unfold Mem.level;rw[h]
theorem KeptL.fresh{a b:Mem}(h:KeptL a b)(met:List Bool)(l:List Int):aF b met l=aF a met l:=by
 unfold aF
 simp only[h.level]
theorem KeptL.rep{a b:Mem}{cls cls':List Cl}{tr:Tr}(h:KeptL a b)(hR:Rep a cls tr)(hs:b.store=flat cls'):Rep b cls' tr:=by
 have hf:b.facts=a.facts:=by rw[h]
 have ho:b.order=a.order:=by rw[h]
 have hst:b.starts=a.starts:=by rw[h]
 have h1:b.odr=a.odr:=by rw[h]
 have h2:b.od=a.od:=by rw[h]
 have h3:b.ordr=a.ordr:=by rw[h]
 refine⟨hs,by rw[ho];exact hR.order,by rw[hst];exact hR.starts,by rw[hf];exact hR.len,fun i e hi=>?_,fun v a1 a2 a3=>?_,by rw[h1,h2];exact hR.odr,by rw[h3,ho];exact hR.ordr⟩
 ·have:=hR.taken i e hi
  unfold Mem.truth Mem.level Mem.reason at *
  rw[hf];exact this
 ·have:=hR.free v a1 a2 a3
  unfold Mem.truth at *
  rw[hf];exact this
def lW(DB:List (List Int))(tr:Tr)(met:List Bool)(left i:Nat)(l:List Int):Prop:=
 (i=tr.length/\met=List.replicate 13 false/\(∀y,y∈l->Tru tr (-y))/\∃y,y∈l/\∃j r,tr[j]?=some (-y,r)/\lev tr j=levels tr)∨
 (∃x r rest,tr[i]?=some (x,r)/\l=x::rest/\(∀y,y∈rest->∃j s,j<i/\tr[j]?=some (-y,s))/\aD met x.natAbs=true/\1<=left/\∃l0,l0∈DB/\∀y,y∈l0->Seen tr met tr.length y)
theorem aI6{m:Mem}{cls:List Cl}{DB:List (List Int)}{tr:Tr}{met:List Bool}{low l:List Int}{left i:Nat}(h:MC m DB tr met low left i (i+1))(hR:Rep m cls tr)(hT:TrOK cls tr)(hwf:aM l)(hl:l∈DB)(hpos:0<levels tr)(hd:lW DB tr met left i l):
  MC m DB tr (bG met ((aF m met l).map Int.natAbs)) (low++(aF m met l).filter (fun x=>!cR m tr x)) (left+((aF m met l).filter (cR m tr)).length) i i/\1<=left+((aF m met l).filter (cR m tr)).length/\∃l0,l0∈DB/\∀y,y∈l0->Seen tr (bG met ((aF m met l).map Int.natAbs)) tr.length y:=by
 rcases hd with⟨rfl,rfl,hf,y0,hy0,hj0⟩|⟨x,r,rest,hx,rfl,hrest,hm,h1,l0,hl0,hs0⟩
 ·have hlt:∀y,y∈l->∃j r,j<tr.length/\tr[j]?=some (-y,r):=fun y hy=>by
   obtain⟨j,r,hj⟩:=hf y hy
   exact⟨j,r,(List.getElem?_eq_some_iff.1 hj).1,hj⟩
  obtain⟨c1,c2,c3,c4⟩:=h.clause hR hT (by omega) hwf (fun y hy=>.inr (hlt y hy))
  have seen:∀y,y∈l->Seen tr (bG (List.replicate 13 false) ((aF m (List.replicate 13 false) l).map Int.natAbs)) tr.length y:=fun y hy=>by
   obtain⟨j,r,hj,hjr⟩:=hlt y hy
   exact c3 y hy j r hj hjr
  refine⟨c1.finish hl (fun e he=>?_),?_,l,hl,seen⟩
  ·have:=(List.getElem?_eq_some_iff.1 he).1;omega
  ·have hz:aD (List.replicate 13 false) y0.natAbs=false:=by
    unfold aD
    rw[List.getElem?_replicate]
    split<;>rfl
   have:=c4 y0 hy0 hz hj0 hpos
   omega
 ·obtain⟨c1,c2,c3,c4⟩:=h.clause hR hT (by omega) hwf (fun y hy=>by
   rcases List.mem_cons.1 hy with rfl|hy
   ·exact .inl hm
   ·exact .inr (hrest y hy))
  refine⟨c1.finish hl (fun e he y hy=>?_),by omega,l0,hl0,fun y hy=>(hs0 y hy).mono c2 (Nat.le_refl _)⟩
  rw[hx]at he
  cases he
  rcases List.mem_cons.1 hy with rfl|hy'
  ·exact .inl rfl
  ·obtain⟨j,s,hj,hjs⟩:=hrest y hy'
   exact .inr (c3 y hy j s hj hjs)
theorem aL8{m:Mem}{cls:List Cl}{DB:List (List Int)}{tr:Tr}{met:List Bool}{low:List Int}{left i k:Nat}{e:Int×Int}(h:MC m DB tr met low left i i)(hR:Rep m cls tr)(hT:TrOK cls tr)(hl:2<=left)(hki:k<i)(hk:tr[k]?=some e)(hm:aD met e.1.natAbs=true)(hlast:∀j e,k<j->j<i->tr[j]?=some e->aD met e.1.natAbs=false)
  (hc:∃l0,l0∈DB/\∀y,y∈l0->Seen tr met tr.length y):MC m DB tr met low (left-1) k (k+1)/\∃c cl,cls[c]?=some cl/\e.2=(pos cls c:Int)/\lW DB tr met (left-1) k cl.lits:=by
 have hd:=h.reason hR hl hki hk hm hlast
 obtain⟨c,cl,rest,g1,g2,g3,g4⟩:=hT.reason k e hk hd
 refine⟨h.down hR (by omega) hki hk hm hlast,c,cl,g1,g2,.inr ⟨e.1,e.2,rest,hk,g3,fun y hy=>?_,hm,by omega,hc⟩⟩
 obtain⟨j,r,hj,hjr⟩:=g4 y hy
 exact⟨j,r,hj,hjr⟩
section
variable {base:Nat}{w:World}{m:Mem}{E:List Row}{r:Row}
theorem EMut.tail(h:EAt base w m (r::E)):EMut base w m (r::E) w m E:=by
 have hp:=h.pack
 have ix:∀(i:Nat) (q:Row),(m.rows++E)[i]?=some q->(m.rows++r::E)[if i<m.rows.length then i else i+1]?=some q:=by
  intro i q hi
  by_cases hl:i<m.rows.length
  ·rw[if_pos hl]
   rw[List.getElem?_append_left hl]at hi⊢
   exact hi
  ·rw[if_neg hl]
   rw[List.getElem?_append_right (by omega)]at hi⊢
   rw[show i+1-m.rows.length=(i-m.rows.length)+1 from by omega,List.getElem?_cons_succ]
   exact hi
 refine⟨⟨⟨fun i q hi=>hp.rows _ q (ix i q hi),fun i j q q' g hi hj hq hq'=>?_⟩,Only.refl _ _,fun k hk=>.inl ?_⟩,h.ws,h.ls,h.counts,h.places,rfl,rfl,rfl⟩
 ·have:=hp.apart _ _ q q' g (ix i q hi) (ix j q' hj) hq hq'
  split at this<;>split at this<;>omega
 ·obtain⟨i,q,hi,hq⟩:=hk
  exact⟨_,q,ix i q hi,hq⟩
end
structure LAt(base:Nat)(w:World)(m0:Mem)(cls0:List Cl)(tr:Tr)(wr:World)(m:Mem)(cls:List Cl)(mv:Value)(met:List Bool)(lv:Value)(low:List Int)(left i b:Nat):Prop where
 mu:EMut base w m0 [] wr m [aJ mv met,aB lv (0::low)]
 rep:Rep m cls tr
 same:dbOf cls=dbOf cls0
 ok:HeapOK m.all m.places
 all:∀v,v∈m.all↔v∈m0.all
 kept:KeptL m0 m
 mc:MC m0 (dbOf cls0) tr met low left i b
 size:m.store.length=m0.store.length
def jW(base:Nat)(w:World)(m0:Mem)(cls0:List Cl)(tr:Tr)(e:Ending)(w':World):Prop:=
 ∃m cls lv lits,e=.returned lv/\EMut base w m0 [] w' m [aB lv lits]/\Rep m cls tr/\dbOf cls=dbOf cls0/\HeapOK m.all m.places/\(∀v,v∈m.all↔v∈m0.all)/\KeptL m0 m/\Lesson (dbOf cls0) tr lits/\m.store.length=m0.store.length
end Go.Proofs.YtekkkoipcghlmaaGreatDoor
namespace Go.Proofs.YtekkkoipcghlmaaGreatDoor
open Go.RowKit
attribute [local go_sem ↓] Go.wp_at_zero Go.wp_at_succ
theorem Tryz.infoBool:(Tryz.prog.info? 4).map (fun i=>(i.zero,i.size,i.bytes))=some (some (.bool false),1,1):=by kernel_rfl
theorem Tryz.underBools:Tryz.prog.underlying 172=some (.slice 4):=by kernel_rfl
theorem Tryz.make13(w:World):(Instr.makeSlice 172 (.int .i64 13) (.int .i64 13)).run Tryz.prog w=.ok (.slice (some ⟨w.heap.size,0,none⟩) 13 13) (w.alloc (.cells (madeCells #[.bool false] 13) 4)):=
 run_make_row' (P:=Tryz.prog) 172 4 (.bool false) 1 Tryz.underBools Tryz.infoBool rfl .i64 .i64 13 (by decide) (by decide) w
theorem nY:(madeCells #[.bool false] 13).toList=iJ (List.replicate 13 false):=by rw[toList_madeCells_one];rfl
section
variable {base:Nat}{w w':World}{m:Mem}{E:List Row}{r:Row}
theorem Pack.pull{L L':List Row}(h:Pack base w L)(f:Nat->Nat)(hf:∀i q,L'[i]?=some q->L[f i]?=some q)(hi:∀i j,i<L'.length->j<L'.length->f i=f j->i=j):Pack base w L':=
 ⟨fun i q hq=>h.rows _ q (hf i q hq),fun i j q q' g h1 h2 h3 h4=>hi i j (List.getElem?_eq_some_iff.1 h1).1 (List.getElem?_eq_some_iff.1 h2).1 (h.apart _ _ q q' g (hf i q h1) (hf j q' h2) h3 h4)⟩
theorem EMut.front(h:EAt base w m (E++[r])):EMut base w m (E++[r]) w m (r::E):=by
 have hp:=h.pack
 have ix:∀(i:Nat) (q:Row),(m.rows++r::E)[i]?=some q->(m.rows++(E++[r]))[if i<m.rows.length then i else if i=m.rows.length then m.rows.length+E.length else i-1]?=some q:=by
  intro i q hi
  by_cases hl:i<m.rows.length
  ·rw[if_pos hl]
   rw[List.getElem?_append_left hl]at hi⊢
   exact hi
  ·rw[if_neg hl]
   rw[List.getElem?_append_right (by omega)]at hi
   by_cases he:i=m.rows.length
   ·rw[if_pos he]
    subst he
    rw[Nat.sub_self]at hi
    rw[List.getElem?_append_right (by omega),Nat.add_sub_cancel_left]
    simpa using hi
   ·rw[if_neg he]
    rw[show i-m.rows.length=(i-1-m.rows.length)+1 from by omega,List.getElem?_cons_succ]at hi
    rw[List.getElem?_append_right (by omega),List.getElem?_append_left (List.getElem?_eq_some_iff.1 hi).1]
    exact hi
 refine⟨⟨hp.pull _ ix (fun i j hi hj he=>?_),Only.refl _ _,fun k hk=>.inl ?_⟩,h.ws,h.ls,h.counts,h.places,rfl,rfl,rfl⟩
 ·simp only[List.length_append,List.length_cons]at hi hj
  split at he<;>split at he<;>(try split at he)<;>(try split at he)<;>omega
 ·obtain⟨i,q,hi,hq⟩:=hk
  exact⟨_,q,ix i q hi,hq⟩
theorem EMut.addFront(h:EAt base w m E)(hr:r.ok base w')(hb:Below w.heap.size w w')(hn:∀g,r.v.ownBlock=some g->w.heap.size<=g):EMut base w m E w' m (r::E):=by
 have h1:=EMut.add h hr hb hn
 exact h1.trans (EMut.front h1.eat)
theorem eV(base:Nat)(w:World)(hb:base<=w.heap.size)(t:TypeId)(cs:Array Value)(n:Nat)(hn:cs.size=n)(hm:n<=1000):(w.alloc (.cells cs t)).ownsRow base t 1 (.slice (some ⟨w.heap.size,0,none⟩) n n) n cs.toList:=
 ⟨by simp[hn],.inr ⟨w.heap.size,n,cs,rfl,hb,heap_alloc_new w _,Nat.le_refl _,by unfold maxLen;omega,by omega,List.take_of_length_le (by simp;omega)⟩⟩
end
structure IAt(base:Nat)(w:World)(m0:Mem)(cls0:List Cl)(tr:Tr)(wr:World)(m:Mem)(cls:List Cl)(mv:Value)(met:List Bool)(lv:Value)(lits:List Int)(fv:Value)(fr:List Int):Prop where
 mu:EMut base w m0 [] wr m [aJ mv met,aB lv lits,aB fv fr]
 rep:Rep m cls tr
 same:dbOf cls=dbOf cls0
 ok:HeapOK m.all m.places
 all:∀v,v∈m.all↔v∈m0.all
 kept:KeptL m0 m
 size:m.store.length=m0.store.length
section
variable {base:Nat}{w:World}{m0:Mem}{cls0:List Cl}{tr:Tr}{wr wr':World}{m:Mem}{cls:List Cl}{mv:Value}{met:List Bool}{lv:Value}{low lits:List Int}{left i b:Nat}{fv:Value}{fr:List Int}
theorem LAt.below(h:LAt base w m0 cls0 tr wr m cls mv met lv low left i b)(hb:Below wr.heap.size wr wr'):LAt base w m0 cls0 tr wr' m cls mv met lv low left i b:=⟨h.mu.trans (EMut.below h.mu.eat hb),h.rep,h.same,h.ok,h.all,h.kept,h.mc,h.size⟩
theorem IAt.below(h:IAt base w m0 cls0 tr wr m cls mv met lv lits fv fr)(hb:Below wr.heap.size wr wr'):IAt base w m0 cls0 tr wr' m cls mv met lv lits fv fr:=⟨h.mu.trans (EMut.below h.mu.eat hb),h.rep,h.same,h.ok,h.all,h.kept,h.size⟩
theorem LAt.meets(h:LAt base w m0 cls0 tr wr m cls mv met lv low left i b){c:Nat}{cl:Cl}(hc:cls[c]?=some cl){e:Ending}{w':World}(hm:rU base wr m (pos cls c) mv met [aB lv (0::low)] (aF m met cl.lits) e w'):∃m' cls' fv,e=.returned fv/\IAt base w m0 cls0 tr w' m' cls' mv (bG met ((aF m0 met cl.lits).map Int.natAbs)) lv (0::low) fv (aF m0 met cl.lits):=by
 obtain⟨m',fv,rfl,hA⟩:=hm
 rw[h.kept.fresh]at hA
 have hlt:=(List.getElem?_eq_some_iff.1 hc).1
 have hcl:cls[c]=cl:=by rw[List.getElem?_eq_getElem hlt]at hc;simpa using hc
 have hk1:KeptL m (m.cell (pos cls c+1) 1):=rfl
 have hk2:=hk1.trans hA.kept.keptL
 have hst:m'.store=flat (cls.set c ⟨true,cl.lits⟩):=by
  have:m'.store=(m.cell (pos cls c+1) 1).store:=by rw[hA.kept]
  rw[this]
  show m.store.set (pos cls c+1) 1=_
  rw[h.rep.store,gB cls c hlt,hcl]
 refine⟨m',cls.set c ⟨true,cl.lits⟩,fv,rfl,h.mu.trans hA.mu,hk2.rep h.rep hst,(aO3 cls hc).trans h.same,hA.ok,fun v=>(hA.same v).trans (h.all v),h.kept.trans hk2,?_⟩
 have:m'.store=(m.cell (pos cls c+1) 1).store:=by rw[hA.kept]
 rw[this]
 show(m.store.set _ _).length=_
 rw[List.length_set];exact h.size
theorem IAt.done(h:IAt base w m0 cls0 tr wr m cls mv met lv (0::low) fv fr)(hmc:MC m0 (dbOf cls0) tr met low left i b):LAt base w m0 cls0 tr wr m cls mv met lv low left i b:=
 ⟨h.mu.trans (EMut.drop (E:=[aJ mv met,aB lv (0::low)]) h.mu.eat),h.rep,h.same,h.ok,h.all,h.kept,hmc,h.size⟩
theorem IAt.lrow(h:IAt base w m0 cls0 tr wr m cls mv met lv lits fv fr):wr.ownsRow base 3 1 lv lits.length (ints lits):=h.mu.eat.row (i:=1) (r:=aB lv lits) rfl
theorem IAt.frow(h:IAt base w m0 cls0 tr wr m cls mv met lv lits fv fr):wr.ownsRow base 3 1 fv fr.length (ints fr):=h.mu.eat.row (i:=2) (r:=aB fv fr) rfl
theorem LAt.lrow(h:LAt base w m0 cls0 tr wr m cls mv met lv low left i b):wr.ownsRow base 3 1 lv (low.length+1) (ints (0::low)):=h.mu.eat.row (i:=1) (r:=aB lv (0::low)) rfl
theorem IAt.push(h:IAt base w m0 cls0 tr wr m cls mv met lv lits fv fr){wz w4:World}{g cap:Nat}{x:Int}(hz:Below wr.heap.size wr wz)(hown:w4.ownsRow base 3 1 (.slice (some ⟨g,0,none⟩) (lits.length+1) cap) (lits.length+1) (ints lits++[.int .i64 x]))(hgr:wz.grownBy w4 lv.ownBlock)(hloc:lv.ownBlock=some g∨g=wz.heap.size):IAt base w m0 cls0 tr w4 m cls mv met (.slice (some ⟨g,0,none⟩) (lits.length+1) cap) (lits++[x]) fv fr:=by
 have h1:=h.mu.trans (EMut.below h.mu.eat hz)
 have hzs:=hz.size
 have h2:=EMut.row h1.eat (i:=1) (r:=aB lv lits) (r':=aB (.slice (some ⟨g,0,none⟩) (lits.length+1) cap) (lits++[x])) rfl (by unfold Row.ok aB;rw[cV,List.length_append];exact hown) hgr (by
  rcases hloc with hl|hl
  ·exact .inr (.inl hl.symm)
  ·exact .inr (.inr ⟨g,rfl,by omega⟩))
 exact⟨h1.trans h2,h.rep,h.same,h.ok,h.all,h.kept,h.size⟩
theorem LAt.ends(h:LAt base w m0 cls0 tr wr m cls mv met lv low left i b){g cap:Nat}(hv:lv=.slice (some ⟨g,0,none⟩) (low.length+1) cap){x:Int}(hl:Lesson (dbOf cls0) tr (x::low)):jW base w m0 cls0 tr (.returned lv) (wr.setCell ⟨g,0,none⟩ (.int .i64 x)):=by
 have h2:=EMut.store h.mu.eat (i:=1) (r:=aB lv (0::low)) rfl (g:=g) (cap:=cap) hv 0 (.int .i64 x)
 have h3:=EMut.tail (E:=[aB lv (x::low)]) h2.eat
 exact⟨m,cls,lv,x::low,rfl,(h.mu.trans h2).trans h3,h.rep,h.same,h.ok,h.all,h.kept,hl,h.size⟩
end
end Go.Proofs.YtekkkoipcghlmaaGreatDoor
