import Derived.Test.YtekkkoipcghlmaaGreatDoorU05
set_option linter.all false
namespace Go.Proofs.YtekkkoipcghlmaaGreatDoor
open Go.RowKit
attribute [local go_sem ↓] Go.wp_at_zero Go.wp_at_succ
theorem Tryz.infoPlace:(Tryz.prog.info? 117).map (fun i=>(i.zero,i.size,i.bytes))=some (some (.int .i64 0),1,8):=by kernel_rfl
def Mem.watch1(m:Mem)(k:Nat)(v:Value)(p:Int):Mem:={ m with ws:=m.ws.set k v,lists:=m.lists.set k ((m.lists[k]?).getD []++[p]) }
theorem tF{α β:Type}(f:α×β->Row):∀(l:List α) (r:List β) (k:Nat) (x:α) (y:β),((l.set k x).zip (r.set k y)).map f=((l.zip r).map f).set k (f (x,y))
 | [],r,k,x,y=>by simp
 | a::l,[],k,x,y=>by cases k<;>simp
 | a::l,b::r,0,x,y=>by simp
 | a::l,b::r,k+1,x,y=>by simp[tF f l r k x y]
section
variable {base:Nat}{w w':World}{m:Mem}
theorem oS(m:Mem)(k:Nat)(v:Value)(l:List Int):({ m with ws:=m.ws.set k v,lists:=m.lists.set k l }:Mem).rows=(m.rows.set (k+13) (bW (v,l))).set 4 ⟨227,1,m.wl,(m.ws.set k v).length,m.ws.set k v⟩:=by
 have h:=tF bW m.ws m.lists k v l
 unfold Mem.rows
 simp only[h]
 rfl
theorem SAt.list(h:SAt base w m){k:Nat}(hk:k<25):∃v l,m.ws[k]?=some v/\m.lists[k]?=some l/\w.ownsRow base 117 1 v l.length (ints l)/\m.rows[k+13]?=some (bW (v,l)):=by
 have h1:k<m.ws.length:=by rw[h.ws];exact hk
 have h2:k<m.lists.length:=by rw[h.ls];exact hk
 have hr:m.rows[k+13]?=some (bW (m.ws[k],m.lists[k])):=by
  show((m.ws.zip m.lists).map bW)[k]?=_
  rw[List.getElem?_map,(List.getElem?_zip_eq_some (z:=(m.ws[k],m.lists[k]))).2 ⟨List.getElem?_eq_getElem h1,List.getElem?_eq_getElem h2⟩]
  rfl
 exact⟨m.ws[k],m.lists[k],List.getElem?_eq_getElem h1,List.getElem?_eq_getElem h2,h.pack.rows _ _ hr,hr⟩
theorem SAt.wl(h:SAt base w m):∃b cap,m.wl=.slice (some ⟨b,0,none⟩) 25 cap/\b<w.heap.size/\(∀k (v:Value),m.ws[k]?=some v->w.cell? ⟨b,k,none⟩=some v)/\∀j,w.frozen? ⟨b,j,none⟩=false:=by
 have hr:=h.pack.rows 4 _ rfl
 unfold Row.ok at hr
 simp only[h.ws]at hr
 obtain⟨b,cap,hv,hb,hlt⟩:=World.ownsRow.form hr (by decide)
 rw[hv]at hr
 refine⟨b,cap,hv,hlt,fun k v hk=>?_,fun j=>hr.frozenAt j⟩
 have hk':k<25:=by have:=(List.getElem?_eq_some_iff.1 hk).1;rw[h.ws]at this;exact this
 rw[hr.cellAt k (by omega)];exact hk
theorem Mut.list(h:SAt base w m){k:Nat}{v:Value}{l:List Int}(hk:k<25)(hv:m.ws[k]?=some v)(hl:m.lists[k]?=some l){b cap0:Nat}(hwl:m.wl=.slice (some ⟨b,0,none⟩) 25 cap0){w4:World}{g cap:Nat}{p:Int}(hown:w4.ownsRow base 117 1 (.slice (some ⟨g,0,none⟩) (l.length+1) cap) (l.length+1) (ints l++[.int .i64 p])){wz:World}(hz:Below w.heap.size w wz)(hgr:wz.grownBy w4 v.ownBlock)(hloc:v.ownBlock=some g∨g=wz.heap.size):
  Mut base w m (w4.setCell ⟨b,k,none⟩ (.slice (some ⟨g,0,none⟩) (l.length+1) cap)) (m.watch1 k (.slice (some ⟨g,0,none⟩) (l.length+1) cap) p)/\w4.cell? ⟨b,k,none⟩=some v/\w4.frozen? ⟨b,k,none⟩=false:=by
 obtain⟨v',l',e1,e2,-,hr⟩:=h.list hk
 rw[hv]at e1;cases e1
 rw[hl]at e2;cases e2
 have h1:=PMut.below h.pack hz
 have hzs:=hz.size
 have h2:=PMut.row h1.pack (i:=k+13) (r':=bW (.slice (some ⟨g,0,none⟩) (l.length+1) cap,l++[p])) hr (by unfold Row.ok bW;simp only[cV,List.length_append];exact hown) hgr (by
  rcases hloc with h|h
  ·exact .inr (.inl h.symm)
  ·exact .inr (.inr ⟨g,rfl,by omega⟩))
 have hr4:(m.rows.set (k+13) (bW (.slice (some ⟨g,0,none⟩) (l.length+1) cap,l++[p])))[4]?=some ⟨227,1,m.wl,m.ws.length,m.ws⟩:=rfl
 have h3:=PMut.store h2.pack (i:=4) hr4 (g:=b) (cap:=cap0) (by simp only[h.ws];exact hwl) k (.slice (some ⟨g,0,none⟩) (l.length+1) cap)
 have hr5:=h2.pack.rows 4 _ hr4
 unfold Row.ok at hr5
 simp only[h.ws]at hr5
 rw[hwl]at hr5
 refine⟨⟨?_,by simp[Mem.watch1,h.ws],by simp[Mem.watch1,h.ls],h.counts,h.places,rfl,rfl,rfl⟩,?_,hr5.frozenAt k⟩
 ·unfold Mem.watch1
  rw[hl]
  show PMut base w m.rows _ ({ m with ws:=m.ws.set k (.slice (some ⟨g,0,none⟩) (l.length+1) cap),lists:=m.lists.set k (l++[p]) }:Mem).rows
  rw[oS,List.length_set]
  exact h1.trans (h2.trans h3)
 ·rw[hr5.cellAt k (by omega)];exact hv
end
set_option maxRecDepth 100000 in
theorem aI5(base:Nat)(m:Mem)(x:Int)(k:Nat)(w:World)(hS:SAt base w m)(hk:(k:Int)=x+12)(hk25:k<25):
  Calls Tryz.prog 184 #[.pointer (some ⟨m.s,1,none⟩),.int .i64 x] w fun e w'=>(∃b cap,m.wl=.slice (some ⟨b,0,none⟩) 25 cap/\e=.returned (.pointer (some ⟨b,k,none⟩)))/\Below w.heap.size w w':=by
 obtain⟨b,cap,hwl,hb,-,-⟩:=hS.wl
 have hc1:w.cell? ⟨m.s,1,none⟩=some (.int .i64 12):=by rw[hS.cell 1 (by decide)];rfl
 have hc2:w.cell? ⟨m.s,2,none⟩=some (.slice (some ⟨b,0,none⟩) 25 cap):=by rw[hS.cell 2 (by decide),←hwl];rfl
 have HW:=aq hwl
 obtain rfl:x=(k:Int)-12:=by omega
 clear hS hwl hk
 have hw:IntKind.i64.wrap (12+((k:Int)-12))=(k:Int):=by rw[IntKind.wrap_i64];omega
 go_enter Tryz.func184,Tryz.ntmps184
 go_wp2
 go_quiet (fail)
 go_wp2
 go_ret
 exact⟨⟨b,cap,dz HW,rfl⟩,aG (Below.refl _ _) _⟩
set_option maxRecDepth 100000 in
set_option maxHeartbeats 1600000 in
theorem gX(base:Nat)(m:Mem)(x p:Int)(k:Nat)(l:List Int)(w:World)(hS:SAt base w m)(hk:(k:Int)=x+12)(hk25:k<25)(hbs:base<=w.heap.size)(hl:m.lists[k]?=some l)(hll:l.length<=9500000):
  Calls Tryz.prog 155 #[.pointer (some ⟨m.s,1,none⟩),.int .i64 x,.int .i64 p] w fun e w'=>e=.returned (.tuple #[])/\∃v,Mut base w m w' (m.watch1 k v p):=by
 have HOF:=aq (aI5 base m x k w hS hk hk25)
 obtain⟨b,cap,hwl,hb,hcell,hfz⟩:=hS.wl
 obtain⟨v,l',hv,e2,hrow,hr⟩:=hS.list hk25
 rw[hl]at e2;cases e2
 have hcv:=hcell k v hv
 have hfk:=hfz k
 have HROW:=aq hrow
 obtain⟨ao,cp,hsh⟩:=aC hrow
 have HO:Hid (∀(wz w4:World) (g cap:Nat),w4.ownsRow base 117 1 (.slice (some ⟨g,0,none⟩) (l.length+1) cap) (l.length+1) (ints l++[.int .i64 p])->Below w.heap.size w wz->wz.grownBy w4 v.ownBlock->(v.ownBlock=some g∨g=wz.heap.size)->
   Mut base w m (w4.setCell ⟨b,k,none⟩ (.slice (some ⟨g,0,none⟩) (l.length+1) cap)) (m.watch1 k (.slice (some ⟨g,0,none⟩) (l.length+1) cap) p)/\w4.cell? ⟨b,k,none⟩=some v/\w4.frozen? ⟨b,k,none⟩=false):=aq (fun wz w4 g cap ho hz hg hlo=>Mut.list hS hk25 hv hl hwl ho hz hg hlo)
 have HWL:=aq hwl
 have HROWB:Hid (∀wx,Below w.heap.size w wx->wx.ownsRow base 117 1 v l.length (ints l)):=aq (fun wx hb=>aR (dz HROW) hb)
 clear hS hwl hcell hfz hrow hr hl hv
 subst hsh
 go_enter Tryz.func155,Tryz.ntmps155
 go_wp2_with fail
 refine(dz HOF).mono ?_
 rintro e w1 ⟨⟨b',cap',hw',rfl⟩,hb1⟩
 rw[dz HWL]at hw'
 simp only[Value.slice.injEq,Option.some.injEq,Addr.mk.injEq,and_true,true_and]at hw'
 obtain⟨rfl,rfl⟩:=hw'
 have hcv1:w1.cell? ⟨b,k,none⟩=some (.slice ao l.length cp):=(hb1.cell (p:=⟨b,k,none⟩) hb).trans hcv
 have hs1:=hb1.size
 have HR1:=aq (dz HROWB _ hb1)
 go_wp2_with (at_builtin;refine bY (base:=base) rfl _ _ 227 117 rfl Tryz.underlying227 Tryz.infoPlace rfl (by decide) (dz HR1) rfl rfl rfl (by omega) (by omega) ?_;intro g' cap' w4 hown4 hgr4 hloc;have HMID:=aq (dz HO _ _ _ _ hown4 (hb1.alloc (by omega) _) hgr4 hloc);clear hown4 hgr4 hloc;have hc04:=(dz HMID).2.1;have hf04:=(dz HMID).2.2)
 go_end0
 exact⟨rfl,_,(dz HMID).1⟩
end Go.Proofs.YtekkkoipcghlmaaGreatDoor
namespace Go.Proofs.YtekkkoipcghlmaaGreatDoor
open Go.RowKit
attribute [local go_sem ↓] Go.wp_at_zero Go.wp_at_succ
def fU(base:Nat)(w:World)(m:Mem)(cl:Cl)(p:Int)(e:Ending)(w':World):Prop:=
 (e=.returned (.int .i64 p)/\Mut base w m w' m/\(cl.lits=[]∨∃h r,cl.lits=h::r/\m.truth h.natAbs=-h))∨
 (e=.returned (.int .i64 (-1))/\∃h r,cl.lits=h::r/\m.truth h.natAbs≠-h/\((m.truth h.natAbs=0/\∃od,Mut base w m w' (m.taken h p od))∨(m.truth h.natAbs≠0/\Mut base w m w' m)))
set_option maxRecDepth 100000 in
set_option maxHeartbeats 1600000 in
theorem mK(base:Nat)(m:Mem)(cls:List Cl)(c:Nat)(cl:Cl)(w:World)(hS:SAt base w m)(hf:m.store=flat cls)(hc:cls[c]?=some cl)(hsz:m.store.length<=9900000)(hwf:aM cl.lits)(hbs:base<=w.heap.size)(hol:m.order.length<=1000)(hod:m.odr=m.od)(hor:m.ordr=m.order):
  Calls Tryz.prog 69 #[.pointer (some ⟨m.s,0,none⟩),.int .i64 (pos cls c:Int)] w fun e w'=>fU base w m cl (pos cls c:Int) e w':=by
 have hc0:w.cell? ⟨m.s,0,none⟩=some m.cl:=by rw[hS.cell 0 (by decide)];rfl
 have HLI:=aq (dV base m cls c cl w hS hf hc (by omega))
 obtain⟨g,cap,hv,-,hg,hroom,-,-,hlit,-⟩:=cK base m cls c cl w hS hf hc
 have HM:=aq (fun wx (hb:Below w.heap.size w wx)=>Mut.below hS hb)
 rw[hv]at hc0 HLI
 cases hl:cl.lits with
 | nil=>
  rw[hl]at HLI
  have HL:=aq hl
  clear hS hf hc hwf hlit hroom hv hl hod hor
  generalize hp:pos cls c=p at *
  clear hp
  go_enter Tryz.func69,Tryz.ntmps69
  go_wp2_with fail
  refine(dz HLI).mono ?_
  rintro e w1 ⟨⟨g',rfl,hg'⟩,rfl⟩
  clear hg'
  unfold cI
  rw[if_pos (show([]:List Int).length=0 from rfl)]
  go_wp2
  go_quiet (fail)
  go_wp2
  try go_ret
  exact .inl ⟨rfl,dz HM _ (aG (Below.refl _ _) _),.inl (dz HL)⟩
 | cons h r=>
  rw[hl]at HLI hwf hlit
  have hbd:=hwf.2 h (by simp)
  have hcell:w.cell? ⟨g,pos cls c+2,none⟩=some (.int .i64 h):=by have:=hlit 0 (by simp);simpa using this
  have HFA:=aq (fun wx (hb:Below w.heap.size w wx)=>(fX base m h wx (hS.below hb) hbd.2.1 hbd.2.2).mono (fun e w' hh=>And.intro hh.1 (hb.trans (hh.2.mono hb.size))))
  have HOP:=aq (fun wx (hb:Below w.heap.size w wx)=>(oE base m h wx (hS.below hb) hbd.2.1 hbd.2.2).mono (fun e w' hh=>And.intro hh.1 (hb.trans (hh.2.mono hb.size))))
  have HTK:Hid (∀wx,Below w.heap.size w wx->Calls Tryz.prog 114 #[.pointer (some ⟨m.s,3,none⟩),.int .i64 h,.int .i64 (pos cls c:Int)] wx fun e w'=>e=.returned (.tuple #[])/\∃od,Mut base w m w' (m.taken h (pos cls c:Int) od)):=aq (fun wx hb=>(uK base m h (pos cls c:Int) wx (hS.below hb) hbd.2.1 hbd.2.2 (Nat.le_trans hbs hb.size) hol hod hor).mono (fun e w' hh=>by
   obtain⟨h1,od,h2⟩:=hh
   exact⟨h1,od,(Mut.below hS hb).trans h2⟩))
  have HCB:Hid (∀wx,Below w.heap.size w wx->wx.cell? ⟨g,pos cls c+2,none⟩=some (.int .i64 h)):=aq (fun wx hb=>(hb.cell (p:=⟨g,pos cls c+2,none⟩) hg).trans hcell)
  have hss:=hS.lt.1
  have HLV:Hid (∀g',cI g' (pos cls c) (h::r).length=.slice (some ⟨g',pos cls c+2,none⟩) (r.length+1) (r.length+1)):=aq (fun g'=>by unfold cI;rw[if_neg (by simp)];rfl)
  have H1:Hid (∀w',m.truth h.natAbs=-h->Below w.heap.size w w'->fU base w m cl (pos cls c:Int) (.returned (.int .i64 (pos cls c:Int))) w'):=aq (fun w' ht hb=>.inl ⟨rfl,dz HM _ hb,.inr ⟨h,r,hl,ht⟩⟩)
  have H2:Hid (∀w' od,m.truth h.natAbs=0->Mut base w m w' (m.taken h (pos cls c:Int) od)->fU base w m cl (pos cls c:Int) (.returned (.int .i64 (-1))) w'):=aq (fun w' od ht hm=>.inr ⟨rfl,h,r,hl,by rw[ht];omega,.inl ⟨ht,od,hm⟩⟩)
  have H3:Hid (∀w',m.truth h.natAbs≠-h->m.truth h.natAbs≠0->Below w.heap.size w w'->fU base w m cl (pos cls c:Int) (.returned (.int .i64 (-1))) w'):=aq (fun w' ht ht0 hb=>.inr ⟨rfl,h,r,hl,ht,.inr ⟨ht0,dz HM _ hb⟩⟩)
  have hcd:=hcell
  clear hS hf hc hwf hlit hv hl hroom HM hcell hod hor
  generalize hFR:fU base w m cl (pos cls c:Int)=FR at *
  clear hFR
  generalize hTK:(fun od=>m.taken h (pos cls c:Int) od)=TK at *
  generalize hpp:pos cls c=p at *
  clear hpp
  generalize hrl:r.length=n at HLV
  clear hrl
  generalize m.truth h.natAbs=t at *
  by_cases ht:t=-h
  ·have hq:(t==-h)=true:=by rw[ht];simp
   have HF1:=aq (dz H1 · ht)
   clear H1 H2 H3
   rw[hq]at HFA
   clear ht hq
   go_enter Tryz.func69,Tryz.ntmps69
   go_wp2_with fail
   refine(dz HLI).mono ?_
   rintro e w1 ⟨⟨g',rfl,hg'⟩,rfl⟩
   simp only[Value.ownBlock,Option.some.injEq]at hg'
   subst hg'
   rw[dz HLV]
   go_wp2_with fail
   go_region_held3 (fun w'=>w'.cell? ⟨g,p+2,none⟩=some (.int .i64 h)) (first|go_keep|exact dz HCB _ hb3)
    (first|(go_at_call 80;refine(dz HFA _ (by go_grown)).mono ?_;rintro e w3 ⟨rfl,hb3⟩))
   go_wp2
   try go_ret
   exact dz HF1 _ hb3
  ·have hq:(t==-h)=false:=by simpa using ht
   rw[hq]at HFA
   clear H1 hq
   by_cases ht0:t=0
   ·have hq:(t==0)=true:=by rw[ht0];rfl
    have HF2:=aq (fun w' od=>dz H2 w' od ht0)
    rw[hq]at HOP
    clear H2 H3 ht ht0 hq
    go_enter Tryz.func69,Tryz.ntmps69
    go_wp2_with fail
    refine(dz HLI).mono ?_
    rintro e w1 ⟨⟨g',rfl,hg'⟩,rfl⟩
    simp only[Value.ownBlock,Option.some.injEq]at hg'
    subst hg'
    rw[dz HLV]
    go_wp2_with fail
    go_region_held3 (fun w'=>w'.cell? ⟨g,p+2,none⟩=some (.int .i64 h)) (first|go_keep|exact dz HCB _ hb3)
     (first|(go_at_call 80;refine(dz HFA _ (by go_grown)).mono ?_;rintro e w3 ⟨rfl,hb3⟩))
    have hcd3:=dz HCB _ hb3
    go_wp2_with fail
    go_region_held3 (fun w'=>w'.cell? ⟨g,p+2,none⟩=some (.int .i64 h)) (first|go_keep|exact dz HCB _ hb4)
     (first|(go_at_call 113;refine(dz HOP _ (by go_grown)).mono ?_;rintro e w4 ⟨rfl,hb4⟩))
    have hcd4:=dz HCB _ hb4
    go_wp2_with fail
    go_region_with (go_at_call 114;refine(dz HTK _ (by go_grown)).mono ?_;rintro e w5 ⟨rfl,od5,hm5⟩;have HM5:=aq hm5;clear hm5)
    all_goals go_wp2
    all_goals try go_ret
    all_goals exact dz HF2 _ _ (dz HM5)
   ·have hq:(t==0)=false:=by simpa using ht0
    have HF3:=aq (fun w'=>dz H3 w' ht ht0)
    rw[hq]at HOP
    clear H2 H3 ht ht0 hq HTK
    go_enter Tryz.func69,Tryz.ntmps69
    go_wp2_with fail
    refine(dz HLI).mono ?_
    rintro e w1 ⟨⟨g',rfl,hg'⟩,rfl⟩
    simp only[Value.ownBlock,Option.some.injEq]at hg'
    subst hg'
    rw[dz HLV]
    go_wp2_with fail
    go_region_held3 (fun w'=>w'.cell? ⟨g,p+2,none⟩=some (.int .i64 h)) (first|go_keep|exact dz HCB _ hb3)
     (first|(go_at_call 80;refine(dz HFA _ (by go_grown)).mono ?_;rintro e w3 ⟨rfl,hb3⟩))
    have hcd3:=dz HCB _ hb3
    go_wp2_with fail
    go_region_held3 (fun w'=>w'.cell? ⟨g,p+2,none⟩=some (.int .i64 h)) (first|go_keep|exact dz HCB _ hb4)
     (first|(go_at_call 113;refine(dz HOP _ (by go_grown)).mono ?_;rintro e w4 ⟨rfl,hb4⟩))
    go_wp2
    try go_ret
    exact dz HF3 _ hb4
end Go.Proofs.YtekkkoipcghlmaaGreatDoor
namespace Go.Proofs.YtekkkoipcghlmaaGreatDoor
open Go.RowKit
attribute [local go_sem ↓] Go.wp_at_zero Go.wp_at_succ
def Watched(m m':Mem)(l:List Int)(p:Int):Prop:=
 match l with
 | a::b::_=>∃v1 v2,m'=(m.watch1 (a+12).toNat v1 p).watch1 (b+12).toNat v2 p
 | _=>m'=m
set_option maxRecDepth 100000 in
set_option maxHeartbeats 1600000 in
theorem qF(base:Nat)(m:Mem)(cls:List Cl)(c:Nat)(cl:Cl)(w:World)(hS:SAt base w m)(hf:m.store=flat cls)(hc:cls[c]?=some cl)(hsz:m.store.length<=9900000)(hwf:aM cl.lits)(hbs:base<=w.heap.size)(hll:∀(k:Nat) (l:List Int),m.lists[k]?=some l->l.length<=9000000):
  Calls Tryz.prog 111 #[.pointer (some ⟨m.s,0,none⟩),.int .i64 (pos cls c:Int)] w fun e w'=>e=.returned (.tuple #[])/\∃m',Mut base w m w' m'/\Watched m m' cl.lits (pos cls c:Int):=by
 have hc0:w.cell? ⟨m.s,0,none⟩=some m.cl:=by rw[hS.cell 0 (by decide)];rfl
 have HLI:=aq (dV base m cls c cl w hS hf hc (by omega))
 obtain⟨g,cap,hv,-,hg,hroom,-,-,hlit,-⟩:=cK base m cls c cl w hS hf hc
 have HM:=aq (fun wx (hb:Below w.heap.size w wx)=>Mut.below hS hb)
 rw[hv]at hc0 HLI
 have hss:=hS.lt.1
 match hl:cl.lits with
 | []=>
  rw[hl]at HLI
  clear hS hf hc hwf hlit hroom hv hl
  generalize pos cls c=p at *
  go_enter Tryz.func111,Tryz.ntmps111
  go_wp2_with fail
  refine(dz HLI).mono ?_
  rintro e w1 ⟨⟨g',rfl,hg'⟩,rfl⟩
  clear hg'
  unfold cI
  rw[if_pos (show([]:List Int).length=0 from rfl)]
  go_wp2
  try go_end0
  exact⟨rfl,m,dz HM _ (Below.refl _ _),rfl⟩
 | [a]=>
  rw[hl]at HLI
  clear hS hf hc hwf hlit hroom hv hl
  generalize pos cls c=p at *
  go_enter Tryz.func111,Tryz.ntmps111
  go_wp2_with fail
  refine(dz HLI).mono ?_
  rintro e w1 ⟨⟨g',rfl,hg'⟩,rfl⟩
  clear hg'
  unfold cI
  rw[if_neg (show¬([a]:List Int).length=0 by simp)]
  go_wp2
  try go_end0
  exact⟨rfl,m,dz HM _ (Below.refl _ _),rfl⟩
 | a::b::r=>
  rw[hl]at HLI hwf
  have ha:=hwf.2 a (by simp)
  have hb:=hwf.2 b (by simp)
  have hcellA:w.cell? ⟨g,pos cls c+2,none⟩=some (.int .i64 a):=by have:=hlit 0 (by rw[hl];simp);simpa [hl] using this
  obtain⟨va,la,hva,hla,-,-⟩:=hS.list (k:=(a+12).toNat) (by omega)
  have HA:Hid (∀wx,Below w.heap.size w wx->Calls Tryz.prog 155 #[.pointer (some ⟨m.s,1,none⟩),.int .i64 a,.int .i64 (pos cls c:Int)] wx fun e w'=>e=.returned (.tuple #[])/\∃v,Mut base w m w' (m.watch1 (a+12).toNat v (pos cls c:Int))):=aq (fun wx hbw=>(gX base m a _ (a+12).toNat la wx (hS.below hbw) (by omega) (by omega) (Nat.le_trans hbs hbw.size) hla (by have:=hll _ _ hla;omega)).mono (fun e w' hh=>by
   obtain⟨h1,v,h2⟩:=hh
   exact⟨h1,v,(Mut.below hS hbw).trans h2⟩))
  have HCB:Hid (∀(w1:World) (v1:Value),Mut base w m w1 (m.watch1 (a+12).toNat v1 (pos cls c:Int))->w1.cell? ⟨g,pos cls c+3,none⟩=some (.int .i64 b)):=aq (fun w1 v1 hm=>by
   obtain⟨g1,cap1,hv1,-,-,-,-,-,hlit1,-⟩:=cK base (m.watch1 (a+12).toNat v1 (pos cls c:Int)) cls c cl w1 hm.at hf hc
   have hv1':m.cl=.slice (some ⟨g1,0,none⟩) m.store.length cap1:=hv1
   rw[hv]at hv1'
   simp only[Value.slice.injEq,Option.some.injEq,Addr.mk.injEq,and_true,true_and]at hv1'
   obtain⟨rfl,rfl⟩:=hv1'
   have:=hlit1 1 (by rw[hl];simp)
   simpa [hl] using this)
  have HB:Hid (∀(w1:World) (v1:Value),Mut base w m w1 (m.watch1 (a+12).toNat v1 (pos cls c:Int))->Calls Tryz.prog 155 #[.pointer (some ⟨m.s,1,none⟩),.int .i64 b,.int .i64 (pos cls c:Int)] w1 fun e w'=>e=.returned (.tuple #[])/\∃m',Mut base w m w' m'/\Watched m m' (a::b::r) (pos cls c:Int)):=aq (fun w1 v1 hm=>by
   obtain⟨vb,lb,hvb,hlb,-,-⟩:=hm.at.list (k:=(b+12).toNat) (by omega)
   have hlen:lb.length<=9500000:=by
    have h2:(m.lists.set (a+12).toNat ((m.lists[(a+12).toNat]?).getD []++[(pos cls c:Int)]))[(b+12).toNat]?=some lb:=hlb
    rcases eE h2 with⟨e1,-,rfl⟩|⟨-,h3⟩
    ·rw[hla]
     have:=hll _ _ hla
     simp;omega
    ·have:=hll _ _ h3;omega
   refine(gX base _ b _ (b+12).toNat lb w1 hm.at (by omega) (by omega) (Nat.le_trans hbs hm.to.only.size) hlb hlen).mono (fun e w' hh=>?_)
   obtain⟨h1,v,h2⟩:=hh
   exact⟨h1,_,hm.trans h2,v1,v,rfl⟩)
  have HLV:Hid (∀g',cI g' (pos cls c) (a::b::r).length=.slice (some ⟨g',pos cls c+2,none⟩) (r.length+2) (r.length+2)):=aq (fun g'=>by unfold cI;rw[if_neg (by simp)];rfl)
  clear hS hf hc hwf hlit hv hl hroom HM hva hla hll
  generalize hpp:pos cls c=p at *
  clear hpp
  go_enter Tryz.func111,Tryz.ntmps111
  go_wp2_with fail
  refine(dz HLI).mono ?_
  rintro e w1 ⟨⟨g',rfl,hg'⟩,rfl⟩
  simp only[Value.ownBlock,Option.some.injEq]at hg'
  subst hg'
  rw[dz HLV]
  generalize r.length=n at *
  go_wp2_with fail
  go_region_with (go_at_call 155;refine(dz HA _ (by go_grown)).mono ?_;rintro e w5 ⟨rfl,v5,hm5⟩;have HM5:=aq hm5;clear hm5)
  all_goals have hcb:=dz HCB _ _ (dz HM5)
  all_goals go_wp2_with fail
  all_goals go_region_with (go_at_call 155;refine(dz HB _ _ (by first|exact(dz HM5).drew|exact dz HM5|exact(dz HM5).drew.drew)).mono ?_;rintro e w6 ⟨rfl,m6,hm6,hw6⟩;have HM6:=aq (And.intro hm6 hw6);clear hm6 hw6)
  all_goals go_wp2
  all_goals try go_end0
  all_goals exact⟨rfl,m6,(dz HM6).1,(dz HM6).2⟩
def Mem.kept(m:Mem)(cl:Value)(lits:List Int):Mem:=m.stored cl (m.store++[(lits.length:Int),0]++lits)
set_option maxRecDepth 100000 in
set_option maxHeartbeats 1600000 in
theorem tK(base:Nat)(m:Mem)(cls:List Cl)(v:Value)(lits:List Int)(w:World)(hS:SAt base w m)(hf:m.store=flat cls)(hsz:m.store.length<=9800000)(hwf:aM lits)(hbs:base<=w.heap.size)(hll:∀(k:Nat) (l:List Int),m.lists[k]?=some l->l.length<=9000000)(hv:Lies w v (ints lits))(hnf:∀k,v.ownBlock=some k->¬foot m.rows k)(hl:lits.length<=1000):
  Calls Tryz.prog 67 #[.pointer (some ⟨m.s,0,none⟩),v] w fun e w'=>e=.returned (.int .i64 (m.store.length:Int))/\∃c0 m',Mut base w m w' m'/\Watched (m.kept c0 lits) m' lits (m.store.length:Int):=by
 obtain⟨vo,vn,vc,hvs⟩:∃vo vn vc,v=.slice vo vn vc:=by
  rcases hv with⟨h0,ao,cap,rfl⟩|⟨b,off,cap,hp,rfl,hb,hc⟩
  ·exact⟨_,_,_,rfl⟩
  ·exact⟨_,_,_,rfl⟩
 have HADD:=aq (fun wx (hb:Below w.heap.size w wx)=>kW base m v lits wx (hS.below hb) (Nat.le_trans hbs hb.size) hl (by omega) (hv.below hb) hnf)
 have hfl:∀c0,(m.kept c0 lits).store=flat (cls++[⟨false,lits⟩]):=fun c0=>by
  show m.store++[(lits.length:Int),0]++lits=_
  rw[cD,dI,fT,hf]
  simp[Cl.cells]
 have hpos:pos (cls++[⟨false,lits⟩]) cls.length=m.store.length:=by rw[bQ _ _ (Nat.le_refl _),cS _ (Nat.le_refl _),hf]
 have HWA:Hid (∀w1 c0,Mut base w m w1 (m.kept c0 lits)->Calls Tryz.prog 111 #[.pointer (some ⟨m.s,0,none⟩),.int .i64 (m.store.length:Int)] w1 fun e w'=>e=.returned (.tuple #[])/\∃c0 m',Mut base w m w' m'/\Watched (m.kept c0 lits) m' lits (m.store.length:Int)):=aq (fun w1 c0 hm=>by
  have:=qF base (m.kept c0 lits) (cls++[⟨false,lits⟩]) cls.length ⟨false,lits⟩ w1 hm.at (hfl c0) (by simp) (by
   show(m.store++[(lits.length:Int),0]++lits).length<=9900000
   simp;omega) hwf (Nat.le_trans hbs hm.to.only.size) hll
  rw[hpos]at this
  refine this.mono (fun e w' hh=>?_)
  obtain⟨h1,m',h2,h3⟩:=hh
  exact⟨h1,c0,m',hm.trans h2,h3⟩)
 clear hS hf hwf hv hnf hfl hpos hll
 subst hvs
 go_enter Tryz.func67,Tryz.ntmps67
 go_wp2_with fail
 refine(dz HADD _ (by go_grown)).mono ?_
 rintro e w1 ⟨rfl,c1,hm1⟩
 have HM1:=aq hm1
 clear hm1
 go_wp2_with fail
 refine(dz HWA _ c1 (dz HM1)).mono ?_
 rintro e w2 ⟨rfl,c2,m2,hm2,hw2⟩
 have HM2:=aq (And.intro hm2 hw2)
 clear hm2 hw2
 go_wp2
 try go_ret
 exact⟨rfl,c2,m2,(dz HM2).1,(dz HM2).2⟩
end Go.Proofs.YtekkkoipcghlmaaGreatDoor
