import Derived.Test.YtekkkoipcghlmaaGreatDoorU14
set_option linter.all false
namespace Go.Proofs.YtekkkoipcghlmaaGreatDoor
open Go.RowKit
attribute [local go_sem ↓] Go.wp_at_zero Go.wp_at_succ
set_option maxRecDepth 100000 in
set_option maxHeartbeats 3200000 in
theorem wT(base:Nat)(m0:Mem)(cls0:List Cl)(tr:Tr)(c0:Nat)(cl0:Cl)(w:World)(hS:SAt base w m0)(hR:Rep m0 cls0 tr)(hT:TrOK cls0 tr)(hwf:∀(c:Nat) cl,cls0[c]?=some cl->aM cl.lits)(hc0:cls0[c0]?=some cl0)(hf:∀x,x∈cl0.lits->Tru tr (-x))(hh:∃y,y∈cl0.lits/\∃j r,tr[j]?=some (-y,r)/\lev tr j=levels tr)(hpos:0<levels tr)(hok:HeapOK m0.all m0.places)(hsz:m0.store.length<=9900000)(hbs:base<=w.heap.size):
  Calls Tryz.prog 119 #[.pointer (some ⟨m0.s,0,none⟩),.int .i64 (pos cls0 c0:Int)] w fun e w'=>jW base w m0 cls0 tr e w':=by
 obtain⟨b,cap,hfa,hlt,-,hc⟩:=hS.facts
 have hc3:w.cell? ⟨m0.s,3,none⟩=some (.slice (some ⟨b,0,none⟩) 13 cap):=by rw[hS.cell 3 (by decide),←hfa];rfl
 have hsl:m0.s<w.heap.size:=World.block_lt_of_cell? w ⟨m0.s,3,none⟩ hc3
 have htl:0<tr.length:=by obtain⟨y,-,j,r,hj,-⟩:=hh;have:=(List.getElem?_eq_some_iff.1 hj).1;omega
 obtain⟨g,cap4,hod,hc4,hcap,hg,-⟩:=hR.orderAt hS htl
 have hl12:=hT.len
 have HST:Hid (LAt base w m0 cls0 tr ((w.alloc (.cells #[.int .i64 0] 3)).alloc (.cells (madeCells #[.bool false] 13) 4)) m0 cls0 (.slice (some ⟨w.heap.size+1,0,none⟩) 13 13) (List.replicate 13 false) (.slice (some ⟨w.heap.size,0,none⟩) 1 1) [] 0 tr.length (tr.length+1)/\lW (dbOf cls0) tr (List.replicate 13 false) 0 tr.length cl0.lits):=aq (by
  have e1:(w.alloc (.cells #[.int .i64 0] 3)).heap.size=w.heap.size+1:=by simp
  have h1:=EMut.addFront hS.eat (r:=aB (.slice (some ⟨w.heap.size,0,none⟩) 1 1) [0]) (eV base w hbs 3 #[.int .i64 0] 1 rfl (by omega)) ((Below.refl _ _).alloc (Nat.le_refl _) _) (fun k hk=>by cases hk;exact Nat.le_refl _)
  have h2:=EMut.addFront h1.eat (r:=aJ (.slice (some ⟨w.heap.size+1,0,none⟩) 13 13) (List.replicate 13 false)) (by
   have:=eV base (w.alloc (.cells #[.int .i64 0] 3)) (by rw[e1];omega) 4 (madeCells #[.bool false] 13) 13 (by rw[←Array.length_toList,nY];rfl) (by omega)
   rw[e1,nY]at this
   exact this) ((Below.refl _ _).alloc (Nat.le_refl _) _) (fun k hk=>by cases hk;rw[e1];exact Nat.le_refl _)
  exact⟨⟨h1.trans h2,hR,rfl,hok,fun _=>Iff.rfl,KeptL.refl _,MC.begin _ _ _,rfl⟩,.inl ⟨rfl,rfl,hf,hh⟩⟩)
 have HMEET:Hid (∀wr m cls mv met lv low left i c cl,LAt base w m0 cls0 tr wr m cls mv met lv low left i (i+1)->cls[c]?=some cl->lW (dbOf cls0) tr met left i cl.lits->Calls Tryz.prog 160 #[.pointer (some ⟨m0.s,0,none⟩),.int .i64 (pos cls c:Int),mv] wr fun e w'=>∃fv met' low' fr left',e=.returned fv/\(∃m' cls',IAt base w m0 cls0 tr w' m' cls' mv met' lv (0::low) fv fr)/\low'=low++fr.filter (fun x=>!cR m0 tr x)/\left'=left+(fr.filter (cR m0 tr)).length/\(∀x,x∈fr->x≠0/\-12<=x/\x<=12)/\fr.length<=12/\low.length<=12/\left'<=12/\MC m0 (dbOf cls0) tr met' low' left' i i/\1<=left'/\∃l0,l0∈dbOf cls0/\∀y,y∈l0->Seen tr met' tr.length y):=aq (by
  intro wr m cls mv met lv low left i c cl h hc hd
  obtain⟨cl',hc',hll⟩:=kG h.same hc
  have hwfc:aM cl.lits:=by rw[←hll];exact hwf c cl' hc'
  have hin:cl.lits∈dbOf cls0:=by rw[←hll];exact mA hc'
  have hnv:∀l:List Int,(l.map Int.natAbs).Nodup->(∀x,x∈l->x≠0/\-12<=x/\x<=12)->l.length<=12:=fun l h1 h2=>by
   have:=cE 13 (0::l.map Int.natAbs) (List.nodup_cons.2 ⟨fun h0=>by obtain⟨x,hx,he⟩:=List.mem_map.1 h0;have:=h2 x hx;omega,h1⟩) (fun v hv=>by
    rcases List.mem_cons.1 hv with rfl|hv
    ·omega
    ·obtain⟨x,hx,rfl⟩:=List.mem_map.1 hv;have:=h2 x hx;omega)
   simp at this;omega
  have:=aK8 base m cls c cl mv met [aB lv (0::low)] wr h.mu.eat h.rep.store hc hwfc h.mc.len h.ok (by rw[h.size];exact hsz) (Nat.le_trans hbs h.mu.pm.only.size)
  rw[h.mu.s]at this
  refine this.mono (fun e w' hr=>?_)
  obtain⟨m',cls',fv,he,hI⟩:=h.meets hc hr
  obtain⟨g1,g2,g3⟩:=aI6 h.mc hR hT hwfc hin hpos hd
  have hfr:∀x,x∈aF m0 met cl.lits->x≠0/\-12<=x/\x<=12:=fun x hx=>hwfc.2 x (List.mem_filter.1 hx).1
  refine⟨fv,_,_,_,_,he,⟨m',cls',hI⟩,rfl,rfl,hfr,?_,?_,?_,g1,g2,g3⟩
  ·exact hnv _ (hwfc.1.sublist (List.Sublist.map _ List.filter_sublist)) hfr
  ·refine hnv _ h.mc.nd (fun x hx=>?_)
   obtain⟨-,j,r,hj,-⟩:=(h.mc.lows x).1 hx
   have:=hT.bd j _ hj
   simp only at this
   omega
  ·rw[g1.cnt]
   have h5:=g1.bd
   exact Nat.le_trans (List.length_filter_le _ _) (by rw[List.length_take];omega))
 have HIN:Hid (∀wr m cls mv met lv lits fv fr q x,IAt base w m0 cls0 tr wr m cls mv met lv lits fv fr->fr[q]?=some x->(x≠0/\-12<=x/\x<=12)->(∃gf cf,fv=.slice (some ⟨gf,0,none⟩) fr.length cf/\wr.cell? ⟨gf,q,none⟩=some (.int .i64 x))/\∃t r,∀wx,Below wr.heap.size wr wx->(Calls Tryz.prog 128 #[.pointer (some ⟨m0.s,3,none⟩),.int .i64 x] wx fun e w'=>e=.returned (.agg #[.int .i64 t,.int .i64 (m0.level x.natAbs),.int .i64 r])/\Below wr.heap.size wr w')/\Calls Tryz.prog 73 #[.pointer (some ⟨m0.s,3,none⟩)] wx fun e w'=>e=.returned (.int .i64 (levels tr:Int))/\w'=wx):=aq (by
  intro wr m cls mv met lv lits fv fr q x h hx hb
  have hq:=(List.getElem?_eq_some_iff.1 hx).1
  refine⟨?_,m.truth x.natAbs,m.reason x.natAbs,fun wx hbx=>⟨?_,?_⟩⟩
  ·have hrow:=h.frow
   obtain⟨gf,cf,hv,-,-⟩:=World.ownsRow.form hrow (by omega)
   rw[hv]at hrow
   refine⟨gf,cf,hv,?_⟩
   rw[hrow.cellAt q (by omega)]
   simp[ints,hx]
  ·have:=dN base m x wx (h.mu.at.below hbx) hb.2.1 hb.2.2
   rw[h.mu.s,h.kept.level]at this
   exact this.mono (fun e w' hh=>⟨hh.1,hbx.trans (hh.2.mono hbx.size)⟩)
  ·have:=gU base m wx (h.mu.at.below hbx)
   rw[h.mu.s,h.rep.levels]at this
   exact this)
 have HLAST:Hid (∀wr m cls mv met lv low left i,LAt base w m0 cls0 tr wr m cls mv met lv low left i i->1<=left->Calls Tryz.prog 161 #[.pointer (some ⟨m0.s,0,none⟩),.int .i64 (i:Int),mv] wr fun e w'=>∃k f,e=.returned (.int .i64 ((k:Nat):Int))/\k<i/\i<=tr.length/\tr[k]?=some f/\aD met f.1.natAbs=true/\(∀j f,k<j->j<i->tr[j]?=some f->aD met f.1.natAbs=false)/\LAt base w m0 cls0 tr w' m cls mv met lv low left i i/\w'.cell? ⟨m0.s,4,none⟩=some (.slice (some ⟨g,0,none⟩) tr.length cap4)/\w'.cell? ⟨g,k,none⟩=some (.int .i64 f.1)):=aq (by
  intro wr m cls mv met lv low left i h h1
  obtain⟨j,f,a1,a2,a3,-⟩:=h.mc.any (by omega)
  have:=vP base m cls tr _ 0 mv met i wr h.mu.eat rfl h.mc.len h.rep (hT.same h.same.symm) h.mc.bd ⟨j,f,a1,a2,a3⟩
  rw[h.mu.s]at this
  refine this.mono (fun e w' hr=>?_)
  obtain⟨k,f,he,b1,b2,b3,b4,b5⟩:=hr
  have hS':=(h.mu.trans (EMut.below h.mu.eat b5)).at
  obtain⟨g',cap',d1,d2,-,-,d5⟩:=h.rep.orderAt hS' htl
  have hodm:m.od=m0.od:=by rw[h.kept]
  rw[hodm,hod]at d1
  cases d1
  rw[h.mu.s]at d2
  exact⟨k,f,he,b1,h.mc.bd,b2,b3,b4,h.below b5,d2,d5 k f b2⟩)
 have HNEXT:Hid (∀wr m cls mv met lv low left i k f,LAt base w m0 cls0 tr wr m cls mv met lv low left i i->2<=left->k<i->tr[k]?=some f->aD met f.1.natAbs=true->(∀j f,k<j->j<i->tr[j]?=some f->aD met f.1.natAbs=false)->(∃l0,l0∈dbOf cls0/\∀y,y∈l0->Seen tr met tr.length y)->∃(c:Nat) (cl:Cl) (t lvl:Int),cls[c]?=some cl/\lW (dbOf cls0) tr met (left-1) k cl.lits/\∀wx,Below wr.heap.size wr wx->Calls Tryz.prog 128 #[.pointer (some ⟨m0.s,3,none⟩),.int .i64 f.1] wx fun e w'=>e=.returned (.agg #[.int .i64 t,.int .i64 lvl,.int .i64 (pos cls c:Int)])/\LAt base w m0 cls0 tr w' m cls mv met lv low (left-1) k (k+1)):=aq (by
  intro wr m cls mv met lv low left i k f h h2 hki hk hm hlast hcf
  obtain⟨c1,c,cl,c2,c3,c4⟩:=aL8 h.mc hR hT h2 hki hk hm hlast hcf
  have hb:=hT.bd k f hk
  obtain⟨cl',e1,e2⟩:=kG h.same.symm c2
  refine⟨c,cl',m.truth f.1.natAbs,m.level f.1.natAbs,e1,by rw[e2];exact c4,fun wx hbx=>?_⟩
  have:=dN base m f.1 wx (h.mu.at.below hbx) hb.2.1 hb.2.2
  rw[h.mu.s,(h.rep.taken k f hk).2.2,c3,←oW h.same]at this
  refine this.mono (fun e w' hh=>⟨hh.1,?_⟩)
  have h':=h.below (hbx.trans (hh.2.mono hbx.size))
  exact⟨h'.mu,h'.rep,h'.same,h'.ok,h'.all,h'.kept,c1,h'.size⟩)
 have HEND:Hid (∀wr m cls mv met lv low i k f,LAt base w m0 cls0 tr wr m cls mv met lv low 1 i i->k<i->tr[k]?=some f->aD met f.1.natAbs=true->(∀j f,k<j->j<i->tr[j]?=some f->aD met f.1.natAbs=false)->(∃l0,l0∈dbOf cls0/\∀y,y∈l0->Seen tr met tr.length y)->(-12<=f.1/\f.1<=12)/\∃g0 cap0,lv=.slice (some ⟨g0,0,none⟩) (low.length+1) cap0/\wr.cell? ⟨g0,0,none⟩=some (.int .i64 0)/\wr.frozen? ⟨g0,0,none⟩=false/\jW base w m0 cls0 tr (.returned lv) (wr.setCell ⟨g0,0,none⟩ (.int .i64 (-f.1)))):=aq (by
  intro wr m cls mv met lv low i k f h hki hk hm hlast hcf
  obtain⟨l0,hl0,hs0⟩:=hcf
  have hb:=hT.bd k f hk
  have hL:=h.mc.lesson hR hT (fun c cl hc=>mA hc) hpos hki hk hm hlast hl0 hs0
  have hrow:=h.lrow
  obtain⟨g0,cap0,hv,-,-⟩:=World.ownsRow.form hrow (by omega)
  rw[hv]at hrow
  refine⟨hb.2,g0,cap0,hv,?_,hrow.frozenAt 0,h.ends hv hL⟩
  rw[hrow.cellAt 0 (by omega)]
  rfl)
 have HC0:=aq hc0
 have mk:=Tryz.make13
 have f1:=Tryz.field1
 have f2:=Tryz.field2
 clear hc hS hR hT hwf hc0 hf hh hok hfa hod
 generalize hp0:pos cls0 c0=p0 at *
 have HP0:=aq hp0
 clear hp0
 generalize hL:tr.length=L at *
 clear hL
 go_enter Tryz.func119,Tryz.ntmps119
 go_wp2
 go_quiet (fail)
 go_wp2
 go_loopw [5,7,8,9] (fun v5 v7 v8 v9 wr=>∃(lv:Value) (left i p:Nat),lv=v5/\v7=.int .i64 (left:Int)/\v8=.int .i64 (p:Int)/\v9=.int .i64 (i:Int)/\left<=12/\Hid (∃m cls met low c cl,LAt base w m0 cls0 tr wr m cls (.slice (some ⟨w.heap.size+1,0,none⟩) 13 13) met lv low left i (i+1)/\cls[c]?=some cl/\p=pos cls c/\lW (dbOf cls0) tr met left i cl.lits)) (fun _ _ _ v9 _=>(intOf v9).toNat)
 case atStart=>exact⟨_,0,L,p0,rfl,rfl,rfl,rfl,by omega,aq ⟨m0,cls0,_,[],c0,cl0,(dz HST).1.below (aG (Below.refl _ _) _),dz HC0,(dz HP0).symm,(dz HST).2⟩⟩
 case round=>
  obtain⟨lv,left,i,p,rfl,rfl,rfl,rfl,hleft,HH⟩:=hrel
  obtain⟨m,cls,met,low,c,cl,hA,hcc,rfl,hHd⟩:=dz HH
  have HME:=aq (dz HMEET _ _ _ _ _ _ _ _ _ _ _ hA hcc hHd)
  clear hA hcc hHd HH HST HMEET
  generalize pos cls c=p at *
  go_wp2_with fail
  refine(dz HME).mono ?_
  rintro e w1 ⟨fv,met',low',fr,left',rfl,⟨m1,cls1,hI⟩,hlow,hlf,hfr,hfl,hll,hl12',hMC,h1,hcf⟩
  have hfsh:=aC hI.frow
  obtain⟨fo,fc,hfv⟩:=hfsh
  have HI:=aq hI
  have HLW:=aq (And.intro hlow hlf)
  have HFR:=aq hfr
  have HMC:=aq hMC
  have HCF:=aq hcf
  have hl1:1<=left':=h1
  have hlb:left'<=24:=by rw[hlf];have:=List.length_filter_le (cR m0 tr) fr;omega
  clear hI hlow hlf hfr hMC hcf HME h1
  generalize hn:fr.length=n at *
  have HN:=aq hn
  clear hn
  subst hfv
  go_wp2
  go_loopw [5,7,33] (fun v5 v7 v33 wr=>∃(q:Nat) (lv2:Value) (lf2:Nat) (lits2:List Int),q<=n/\lv2=v5/\v7=.int .i64 (lf2:Int)/\v33=.int .i64 (q:Int)/\lf2<=100/\lits2.length<=100/\Hid (lf2=left+((fr.take q).filter (cR m0 tr)).length)/\Hid (lits2=0::low++(fr.take q).filter (fun x=>!cR m0 tr x))/\Hid (IAt base w m0 cls0 tr wr m1 cls1 (.slice (some ⟨w.heap.size+1,0,none⟩) 13 13) met' lv2 lits2 (.slice fo n fc) fr)) (fun _ _ v33 _=>n-(intOf v33).toNat)
  case atStart=>exact⟨0,_,left,0::low,Nat.zero_le _,rfl,rfl,rfl,by omega,by simp;omega,aq (by simp),aq (by simp),HI⟩
  case round=>
   obtain⟨q,lv2,lf2,lits2,hq,rfl,rfl,rfl,hlf2,hll2,HLF,HLT,HIA⟩:=hrel
   by_cases hqn:q<n
   ·have hql:q<fr.length:=by rw[dz HN];exact hqn
    have hx:fr[q]?=some fr[q]:=List.getElem?_eq_getElem hql
    have HTK:Hid (fr.take (q+1)=fr.take q++[fr[q]]):=aq (List.take_succ_eq_append_getElem hql)
    have HCN:Hid (lf2<=24/\lits2.length<=25):=aq (by
     rw[dz HLF,dz HLT]
     have h1:=List.length_filter_le (cR m0 tr) (fr.take q)
     have h2:=List.length_filter_le (fun x=>!cR m0 tr x) (fr.take q)
     rw[List.length_take]at h1 h2
     simp only[List.length_append,List.length_cons]
     omega)
    have hxb:=dz HFR _ (List.mem_of_getElem? hx)
    generalize fr[q]=x at *
    obtain⟨⟨gf,cf,hfv,hcx⟩,tx,rx,hcalls⟩:=dz HIN _ _ _ _ _ _ _ _ _ _ _ (dz HIA) hx hxb
    simp only[Value.slice.injEq]at hfv
    obtain⟨rfl,-,rfl⟩:=hfv
    have HCALL:=aq hcalls
    have hqi:(q:Int)<(n:Int):=by omega
    have HX:=aq hx
    have HIB:Hid (∀wx,Below wr.heap.size wr wx->base<=wx.heap.size/\wx.ownsRow base 3 1 lv2 lits2.length (ints lits2)/\IAt base w m0 cls0 tr wx m1 cls1 (.slice (some ⟨w.heap.size+1,0,none⟩) 13 13) met' lv2 lits2 (.slice (some ⟨gf,0,none⟩) n fc) fr):=aq (fun wx hb=>by
     have h1:=(dz HIA).below hb
     exact⟨Nat.le_trans hbs h1.mu.pm.only.size,h1.lrow,h1⟩)
    clear hx hcalls HIA hxb
    by_cases ht:m0.level x.natAbs=(levels tr:Int)
    ·have HTOP:Hid (cR m0 tr x=true):=aq (by unfold cR;simpa using ht)
     have hqe:(m0.level x.natAbs==(levels tr:Int))=true:=by simpa using ht
     clear ht
     generalize m0.level x.natAbs=lvx at *
     generalize (levels tr:Int)=lvt at *
     go_wp2_with fail
     go_region_with first|(go_at_call 128;refine(dz HCALL _ (by first|exact Below.refl _ _|exact(Below.refl _ _).drew)).1.mono ?_;rintro e w3 ⟨rfl,hb3⟩;have HB3:=aq hb3;clear hb3)|(go_at_call 73;refine(dz HCALL _ (by first|exact Below.refl _ _|exact dz HB3)).2.mono ?_;rintro e w4 ⟨rfl,rfl⟩)
     all_goals (
      have HIN3:=aq (dz HIB _ (dz HB3))
      clear HB3 HIB
      go_wp2
      go_roundw
      case rel=>exact⟨q+1,_,lf2+1,lits2,by omega,rfl,by go_num,by go_num,by have:=(dz HCN).1;omega,by omega,aq (by rw[dz HLF,dz HTK,List.filter_append,List.length_append];simp[dz HTOP];omega),aq (by rw[dz HLT,dz HTK,List.filter_append];simp[dz HTOP]),aq (dz HIN3).2.2⟩
      case measure=>simp[intOf];omega)
    ·have HTOP:Hid (cR m0 tr x=false):=aq (by unfold cR;simpa using ht)
     have hqe:(m0.level x.natAbs==(levels tr:Int))=false:=by simpa using ht
     clear ht
     generalize m0.level x.natAbs=lvx at *
     generalize (levels tr:Int)=lvt at *
     go_wp2_with fail
     go_region_with first|(go_at_call 128;refine(dz HCALL _ (by first|exact Below.refl _ _|exact(Below.refl _ _).drew)).1.mono ?_;rintro e w3 ⟨rfl,hb3⟩;have HB3:=aq hb3;clear hb3)|(go_at_call 73;refine(dz HCALL _ (by first|exact Below.refl _ _|exact dz HB3)).2.mono ?_;rintro e w4 ⟨rfl,rfl⟩)
     all_goals (
      obtain⟨hb5,hrow5,hI5⟩:=dz HIB _ (dz HB3)
      have HROW5:=aq hrow5
      have HI5:=aq hI5
      clear HB3 HIB hrow5 hI5
      go_wp2_with (at_builtin;refine bY (base:=base) rfl _ _ 25 3 rfl Tryz.underlying25 Tryz.infoInt rfl (by decide) (dz HROW5) rfl rfl rfl (by omega) hb5 ?_;intro g' cap' w6 hown6 hgr6 hloc;have HMID:=aq ((dz HI5).push ((Below.refl _ _).alloc (Nat.le_refl _) _) hown6 hgr6 hloc);clear hown6 hgr6 hloc)
      go_roundw
      case rel=>exact⟨q+1,_,lf2,lits2++[x],by omega,rfl,rfl,by go_num,by omega,by have:=(dz HCN).2;simp;omega,aq (by rw[dz HLF,dz HTK,List.filter_append,List.length_append];simp[dz HTOP]),aq (by rw[dz HLT,dz HTK,List.filter_append];simp[dz HTOP]),HMID⟩
      case measure=>simp[intOf];omega)
   ·have hqe:q=n:=by omega
    have HLAT:Hid (lf2=left'/\LAt base w m0 cls0 tr wr m1 cls1 (.slice (some ⟨w.heap.size+1,0,none⟩) 13 13) met' lv2 low' left' i i):=aq (by
     have h1:=dz HLT
     have h2:=dz HLF
     obtain⟨h3,h4⟩:=dz HLW
     rw[List.take_of_length_le (by rw[dz HN];omega)]at h1 h2
     have h5:=dz HIA
     rw[h1]at h5
     refine⟨by rw[h2,h4],?_⟩
     have h6:0::low++fr.filter (fun x=>!cR m0 tr x)=0::low':=by rw[h3];rfl
     rw[h6]at h5
     exact h5.done (dz HMC))
    have hlf':=(dz HLAT).1
    subst hlf'
    have HLA:=aq (dz HLAT).2
    have HLM:=aq (dz HLAST _ _ _ _ _ _ _ _ _ (dz HLA) hl1)
    have hqi:¬(q:Int)<(n:Int):=by omega
    clear HLAT HIA HLF HLT HIN HLAST HLW HMC HI HN HFR
    go_wp2_with fail
    refine(dz HLM).mono ?_
    rintro e w7 ⟨k,f,rfl,hki,hiL,hk,hmk,hlast,hA7,hc47,hck7⟩
    by_cases h1:lf2=1
    ·subst h1
     obtain⟨hfb,g0,cap0,hlv,hcg,hfg,hres⟩:=dz HEND _ _ _ _ _ _ _ _ _ _ hA7 hki hk hmk hlast (dz HCF)
     subst hlv
     have HRES:=aq hres
     have hkL:(k:Int)<(L:Int):=by omega
     clear hA7 hk hmk hlast hres HLA HLM HCF HNEXT HEND
     generalize f.1=x at *
     go_wp2
     try go_ret
     exact dz HRES
    ·obtain⟨c2,cl2,tz,lvz,hcc2,hhd2,hfc⟩:=dz HNEXT _ _ _ _ _ _ _ _ _ _ _ hA7 (by omega) hki hk hmk hlast (dz HCF)
     have HFC:=aq (hfc w7 (Below.refl _ _))
     have HD2:=aq (And.intro hcc2 hhd2)
     have hkL:(k:Int)<(L:Int):=by omega
     have hne1:((lf2:Int)==1)=false:=by simp;omega
     clear hA7 hk hmk hlast hfc hcc2 hhd2 HLA HLM HCF HNEXT HEND
     generalize f.1=x at *
     generalize hp2:pos cls1 c2=p2 at *
     have HP2:=aq hp2
     clear hp2
     go_wp2_with fail
     refine(dz HFC).mono ?_
     rintro e w8 ⟨rfl,hA8⟩
     have HA8:=aq hA8
     clear hA8
     go_wp2
     go_roundw
     case rel=>exact⟨_,lf2-1,k,p2,rfl,by go_num,rfl,rfl,by omega,aq ⟨_,_,_,_,c2,cl2,dz HA8,(dz HD2).1,(dz HP2).symm,(dz HD2).2⟩⟩
     case measure=>simp[intOf];omega
end Go.Proofs.YtekkkoipcghlmaaGreatDoor
namespace Go.Proofs.YtekkkoipcghlmaaGreatDoor
open Go.RowKit
attribute [local go_sem ↓] Go.wp_at_zero Go.wp_at_succ
structure CI(DB:List (List Int))(tr:Tr)(lits:List Int)(known comes:List Bool):Prop where
 klen:known.length=13
 clen:comes.length=13
 ks:∀v,aD known v=true->v∈lits.map Int.natAbs∨aD comes v=true
 cs:∀v,aD comes v=true->∃(k:Nat) (f:Int×Int) (c:List Int),tr[k]?=some f/\f.1.natAbs=v/\c∈DB/\∀y,y∈c->y=f.1∨∃j r,j<k/\tr[j]?=some (-y,r)/\(y.natAbs∈lits.map Int.natAbs∨aD comes y.natAbs=true)
structure Taught(DB:List (List Int))(tr:Tr)(lits:List Int):Prop where
 wf:aM lits
 head:∃p rest i r,lits=-p::rest/\tr[i]?=some (p,r)/\lev tr i=levels tr/\∀x,x∈rest->∃(j:Nat) (s:Int),tr[j]?=some (-x,s)/\0<lev tr j/\lev tr j<levels tr
 fol:FolI DB lits
theorem CI.add{DB:List (List Int)}{cls:List Cl}{tr:Tr}{lits:List Int}{known comes:List Bool}(h:CI DB tr lits known comes)(hT:TrOK cls tr)(hDB:dbOf cls=DB){k:Nat}{f:Int×Int}(hk:tr[k]?=some f)(hd:dec f=false)
  (hc:∀(c:Nat) cl,cls[c]?=some cl->f.2=(pos cls c:Int)->∀y,y∈cl.lits->y=f.1∨aD known y.natAbs=true):CI DB tr lits (known.set f.1.natAbs true) (comes.set f.1.natAbs true):=by
 have hb:=hT.bd k f hk
 have kl:f.1.natAbs<known.length:=by rw[h.klen];omega
 have cl:f.1.natAbs<comes.length:=by rw[h.clen];omega
 refine⟨by rw[List.length_set];exact h.klen,by rw[List.length_set];exact h.clen,fun v hv=>?_,fun v hv=>?_⟩
 ·rw[dR _ _ _ kl,Bool.or_eq_true,beq_iff_eq]at hv
  rw[dR _ _ _ cl,Bool.or_eq_true,beq_iff_eq]
  rcases hv with hv|rfl
  ·rcases h.ks v hv with h1|h1
   ·exact .inl h1
   ·exact .inr (.inl h1)
  ·exact .inr (.inr rfl)
 ·have up:∀u,aD comes u=true->aD (comes.set f.1.natAbs true) u=true:=fun u hu=>by rw[dR _ _ _ cl,hu];rfl
  rw[dR _ _ _ cl,Bool.or_eq_true,beq_iff_eq]at hv
  rcases hv with hv|rfl
  ·obtain⟨k',f',c',a1,a2,a3,a4⟩:=h.cs v hv
   refine⟨k',f',c',a1,a2,a3,fun y hy=>(a4 y hy).imp id ?_⟩
   rintro⟨j,r,b1,b2,b3⟩
   exact⟨j,r,b1,b2,b3.imp id (up _)⟩
  ·obtain⟨c,cl',rest,g1,g2,g3,g4⟩:=hT.reason k f hk hd
   refine⟨k,f,cl'.lits,hk,rfl,by rw[←hDB];exact mA g1,fun y hy=>?_⟩
   have hor:=hc c cl' g1 g2 y hy
   rw[g3]at hy
   rcases List.mem_cons.1 hy with rfl|hy
   ·exact .inl rfl
   ·obtain⟨j,r,hj,hjr⟩:=g4 y hy
    rcases hor with rfl|hm
    ·exact .inl rfl
    ·exact .inr ⟨j,r,hj,hjr,(h.ks _ hm).imp id (up _)⟩
theorem CI.taught{DB:List (List Int)}{cls:List Cl}{tr:Tr}{x:Int}{rest:List Int}{known comes:List Bool}(h:CI DB tr (x::rest) known comes)(hT:TrOK cls tr)(hL:Lesson DB tr (x::rest)):Taught DB tr (x::rest.filter (fun y=>!aD comes y.natAbs)):=by
 obtain⟨p,rest',i,r,he,hi,hlv,hr⟩:=hL.head
 simp only[List.cons.injEq]at he
 obtain⟨rfl,rfl⟩:=he
 have htru:∀y,y∈-p::rest->∃j s,tr[j]?=some (-y,s):=fun y hy=>by
  rcases List.mem_cons.1 hy with rfl|hy
  ·exact⟨i,r,by rw[Int.neg_neg];exact hi⟩
  ·obtain⟨j,s,hj,-⟩:=hr y hy
   exact⟨j,s,hj⟩
 refine⟨⟨?_,fun y hy=>?_⟩,⟨p,_,i,r,rfl,hi,hlv,fun y hy=>hr y (List.mem_filter.1 hy).1⟩,?_⟩
 ·refine hL.wf.1.sublist ?_
  simp only[List.map_cons]
  exact(List.Sublist.map _ List.filter_sublist).cons_cons _
 ·refine hL.wf.2 y ?_
  rcases List.mem_cons.1 hy with rfl|hy
  ·simp
  ·exact List.mem_cons_of_mem _ (List.mem_filter.1 hy).1
 ·obtain⟨S,hS,c,hc,hcf⟩:=hL.set
  let T:Nat->Int:=fun i=>((tr[i]?).getD (0,0)).1
  have hTe:∀{i:Nat} {e:Int×Int},tr[i]?=some e->T i=e.1:=fun {i e} h=>by show((tr[i]?).getD (0,0)).1=_;rw[h];rfl
  refine oY (T:=T) (S:=fun j=>∃f,tr[j]?=some f/\(S j∨f.1.natAbs∈(-p::rest).map Int.natAbs∨aD comes f.1.natAbs=true)) (D:=fun j=>-T j∈-p::rest.filter (fun y=>!aD comes y.natAbs)) (fun j hj hnd=>?_) hc (fun y hy=>?_) (fun j _ hd=>hd)
  ·obtain⟨f,hf,hor⟩:=hj
   have hTj:=hTe hf
   simp only[hTj]at hnd⊢
   cases hm:aD comes f.1.natAbs
   ·by_cases hin:f.1.natAbs∈(-p::rest).map Int.natAbs
    ·exfalso
     obtain⟨y,hy,hya⟩:=List.mem_map.1 hin
     obtain⟨j',s,hj'⟩:=htru y hy
     have:=hT.one hj' hf (by simp[hya])
     subst this
     rw[hf]at hj'
     cases hj'
     apply hnd
     simp only[Int.neg_neg]
     rcases List.mem_cons.1 hy with rfl|hy
     ·simp
     ·refine List.mem_cons_of_mem _ (List.mem_filter.2 ⟨hy,?_⟩)
      simp only[Int.natAbs_neg]at hm
      simp[hm]
    ·have hSj:S j:=by
      rcases hor with h1|h1|h1
      ·exact h1
      ·exact absurd h1 hin
      ·rw[hm]at h1;cases h1
     obtain⟨e,he,hcase⟩:=hS j hSj
     rw[hf]at he
     cases he
     rcases hcase with h1|⟨c',hc',hy⟩
     ·exact absurd (List.mem_map.2 ⟨_,h1,by simp⟩) hin
     ·refine⟨c',hc',fun y hyc=>(hy y hyc).imp id ?_⟩
      rintro⟨j',r',hlt,hs',hj'⟩
      exact⟨j',hlt,⟨_,hj',.inl hs'⟩,hTe hj'⟩
   ·obtain⟨k,f',c',a1,a2,a3,a4⟩:=h.cs _ hm
    have:=hT.one a1 hf a2
    subst this
    rw[hf]at a1
    cases a1
    refine⟨c',a3,fun y hyc=>(a4 y hyc).imp id ?_⟩
    rintro⟨j',r',hlt,hj',hs'⟩
    refine⟨j',hlt,⟨_,hj',.inr ?_⟩,hTe hj'⟩
    simpa using hs'
  ·obtain⟨j,r',hs,hj⟩:=hcf y hy
   exact⟨j,⟨_,hj,.inl hs⟩,hTe hj⟩
def lI(w:World)(cls:List Cl)(f:Int×Int)(known:List Bool)(e:Ending)(w':World):Prop:=
 ∃bb,e=.returned (.bool bb)/\(bb=true->dec f=false/\∀(c:Nat) cl,cls[c]?=some cl->f.2=(pos cls c:Int)->∀y,y∈cl.lits->y=f.1∨aD known y.natAbs=true)/\Below w.heap.size w w'
set_option maxRecDepth 100000 in
set_option maxHeartbeats 3200000 in
theorem tW(base:Nat)(m:Mem)(cls:List Cl)(tr:Tr)(E:List Row)(i:Nat)(kv:Value)(known:List Bool)(k:Nat)(f:Int×Int)(w:World)(hE:EAt base w m E)(hi:E[i]?=some (aJ kv known))(hkl:known.length=13)(hR:Rep m cls tr)(hT:TrOK cls tr)(hwf:∀(c:Nat) cl,cls[c]?=some cl->aM cl.lits)(hk:tr[k]?=some f)(hsz:m.store.length<=9900000):
  Calls Tryz.prog 159 #[.pointer (some ⟨m.s,0,none⟩),.int .i64 f.1,kv] w fun e w'=>lI w cls f known e w':=by
 have hb:=hT.bd k f hk
 obtain⟨gm,cm,hkv,-,-,-,-⟩:=cP hE hi hkl
 subst hkv
 have HFC:Hid (Calls Tryz.prog 128 #[.pointer (some ⟨m.s,3,none⟩),.int .i64 f.1] w fun e w'=>e=.returned (.agg #[.int .i64 (m.truth f.1.natAbs),.int .i64 (m.level f.1.natAbs),.int .i64 f.2])/\Below w.heap.size w w'):=aq (by
  have:=dN base m f.1 w hE.at hb.2.1 hb.2.2
  rw[(hR.taken k f hk).2.2]at this
  exact this)
 have f2:=Tryz.field2
 by_cases hd:dec f=true
 ·have hf2:f.2=-1:=by unfold dec at hd;simpa using hd
  have HR:Hid (∀wx,Below w.heap.size w wx->lI w cls f known (.returned (.bool false)) wx):=aq (fun wx hb=>⟨false,rfl,(fun h=>by cases h),hb⟩)
  rw[hf2]at HFC
  clear hE hi hkl hR hT hwf hk hd hf2
  generalize m.truth f.1.natAbs=t at *
  generalize m.level f.1.natAbs=l at *
  generalize f.1=x at *
  go_enter Tryz.func159,Tryz.ntmps159
  go_wp2_with fail
  refine(dz HFC).mono ?_
  rintro e w1 ⟨rfl,hb1⟩
  go_wp2
  try go_ret
  exact dz HR _ hb1
 ·have hd':dec f=false:=by simpa using hd
  obtain⟨c,cl,rest,hc,hp,hcl,-⟩:=hT.reason k f hk hd'
  have hwfc:=hwf c cl hc
  have HLT:Hid (∀wx,Below w.heap.size w wx->wx.cell? ⟨m.s,0,none⟩=some m.cl/\Calls Tryz.prog 112 #[m.cl,.int .i64 (pos cls c:Int)] wx fun e w'=>(∃g,e=.returned (cI g (pos cls c) cl.lits.length)/\m.cl.ownBlock=some g)/\w'=wx):=aq (fun wx hb=>by
   refine⟨by rw[(hE.at.below hb).cell 0 (by decide)];rfl,dV base m cls c cl wx (hE.at.below hb) hR.store hc (by omega)⟩)
  have HRD:Hid (∀q wr g,q<cl.lits.length->m.cl.ownBlock=some g->Below w.heap.size w wr->∃y,cl.lits[q]?=some y/\(y≠0/\-12<=y/\y<=12)/\wr.cell? ⟨g,pos cls c+2+q,none⟩=some (.int .i64 y)/\wr.cell? ⟨gm,y.natAbs,none⟩=some (.bool (aD known y.natAbs))):=aq (by
   intro q wr g hq hg hbx
   have hy:cl.lits[q]?=some cl.lits[q]:=List.getElem?_eq_getElem hq
   have hyb:=hwfc.2 _ (List.mem_of_getElem? hy)
   obtain⟨g',cap,hv,-,-,-,-,-,hcell,-⟩:=cK base m cls c cl wr (hE.at.below hbx) hR.store hc
   rw[hv]at hg
   cases hg
   obtain⟨gm',cm',h4,-,h5,-,-⟩:=cP (EMut.below hE hbx).eat hi hkl
   cases h4
   have hv:cl.lits[q].natAbs<known.length:=by omega
   refine⟨cl.lits[q],hy,hyb,hcell q hq,?_⟩
   rw[h5 _ _ (List.getElem?_eq_getElem hv)]
   unfold aD
   rw[List.getElem?_eq_getElem hv]
   rfl)
  have HF:Hid (∀wx,Below w.heap.size w wx->lI w cls f known (.returned (.bool false)) wx):=aq (fun wx hb=>⟨false,rfl,(fun h=>by cases h),hb⟩)
  have HT:Hid (∀wx q,¬q<cl.lits.length->Below w.heap.size w wx->(∀y,y∈cl.lits.take q->y=f.1∨aD known y.natAbs=true)->lI w cls f known (.returned (.bool true)) wx):=aq (fun wx q hq hb hy=>⟨true,rfl,fun _=>⟨hd',fun c' cl' hc' hp' y hyc=>by
   have hlt:=(List.getElem?_eq_some_iff.1 hc).1
   have hlt':=(List.getElem?_eq_some_iff.1 hc').1
   have:c'=c:=dW cls hlt' hlt (by omega)
   subst this
   rw[hc]at hc'
   cases hc'
   rw[List.take_of_length_le (by omega)]at hy
   exact hy y hyc⟩,hb⟩)
  have HLE:Hid (cl.lits.length<=1000):=aq (by
   have h1:=cE 13 (cl.lits.map Int.natAbs) hwfc.1 (fun v hv=>by obtain⟨x,hx,rfl⟩:=List.mem_map.1 hv;have:=hwfc.2 x hx;omega)
   simp at h1;omega)
  have hroom:pos cls c+2+cl.lits.length<=m.store.length:=by
   have hlt:=(List.getElem?_eq_some_iff.1 hc).1
   have hcl2:cls[c]=cl:=by rw[List.getElem?_eq_getElem hlt]at hc;simpa using hc
   have:=eK cls c hlt
   rw[hcl2,←hR.store]at this
   exact this
  have HTS:Hid (∀q y z,cl.lits[q]?=some y->z∈cl.lits.take (q+1)->z∈cl.lits.take q∨z=y):=aq (fun q y z hy hz=>by
   obtain⟨h1,h2⟩:=List.getElem?_eq_some_iff.1 hy
   rw[List.take_succ_eq_append_getElem h1,h2]at hz
   rcases List.mem_append.1 hz with h|h
   ·exact .inl h
   ·exact .inr (by simpa using h))
  rw[hp]at HFC
  have hne:((pos cls c:Nat):Int)≠-1:=by omega
  have hneq:(((pos cls c:Nat):Int)==-1)=false:=by simp
  have hN:=dz HLE
  clear hE hi hkl hR hT hwf hk hd hd' hwfc hp hcl
  generalize m.truth f.1.natAbs=t at *
  generalize m.level f.1.natAbs=l at *
  generalize pos cls c=p at *
  generalize hNN:cl.lits.length=N at *
  clear hNN
  go_enter Tryz.func159,Tryz.ntmps159
  go_wp2_with fail
  refine(dz HFC).mono ?_
  rintro e w1 ⟨rfl,hb1⟩
  obtain⟨hc1,hlit⟩:=dz HLT _ hb1
  have HL1:=aq hlit
  have HB1:=aq hb1
  clear hlit hb1
  go_wp2_with fail
  refine(dz HL1).mono ?_
  rintro e w2 ⟨⟨g,rfl,hg⟩,rfl⟩
  have HG:=aq hg
  clear hg
  obtain⟨off,hlv,hoff⟩:=nZ g p N
  rw[hlv]
  clear hlv
  go_wp2
  go_loopw [25] (fun v25 wr=>∃q:Nat,q<=N/\v25=.int .i64 (q:Int)/\Hid (Below w.heap.size w wr)/\Hid (∀y,y∈cl.lits.take q->y=f.1∨aD known y.natAbs=true)) (fun v25 _=>N-(intOf v25).toNat)
  case atStart=>exact⟨0,Nat.zero_le _,rfl,HB1,aq (fun y hy=>by simp at hy)⟩
  case round=>
   obtain⟨q,hq,rfl,HB,HY⟩:=hrel
   by_cases hqN:q<N
   ·obtain⟨y,hy,hyb,hcy,hcm⟩:=dz HRD q wr g (by omega) (dz HG) (dz HB)
    have hoff':=hoff (by omega)
    subst hoff'
    have HV:=aq (fun wx=>aT y wx hyb.2.1 hyb.2.2)
    have hqi:(q:Int)<(N:Int):=by omega
    have hvi:(y.natAbs:Int)<13:=by omega
    have HST:Hid (y=f.1∨aD known y.natAbs=true->∀z,z∈cl.lits.take (q+1)->z=f.1∨aD known z.natAbs=true):=aq (fun ho z hz=>by
     rcases dz HTS q y z hy hz with h|h
     ·exact dz HY z h
     ·rw[h];exact ho)
    clear hy hoff
    by_cases he:y=f.1
    ·have HN:=aq (dz HST (.inl he))
     have hnq:(y != f.1)=false:=by rw[he];simp
     clear he HST
     generalize y.natAbs=v at *
     generalize f.1=x at *
     go_wp2
     go_roundw
     case rel=>exact⟨q+1,by omega,by go_num,HB,HN⟩
     case measure=>simp[intOf];omega
    ·have hnq:(y != f.1)=true:=by simpa using he
     by_cases hm:aD known y.natAbs=true
     ·have HN:=aq (dz HST (.inr hm))
      rw[hm]at hcm
      clear he HST hm
      generalize y.natAbs=v at *
      generalize f.1=x at *
      go_wp2_with fail
      refine(dz HV _).mono ?_
      rintro e w3 ⟨rfl,rfl⟩
      go_wp2
      go_roundw
      case rel=>exact⟨q+1,by omega,by go_num,HB,HN⟩
      case measure=>simp[intOf];omega
     ·have hm':aD known y.natAbs=false:=by simpa using hm
      rw[hm']at hcm
      have HFF:=aq (dz HF _ (dz HB))
      clear he HST hm hm' HF HT
      generalize y.natAbs=v at *
      generalize f.1=x at *
      go_wp2_with fail
      refine(dz HV _).mono ?_
      rintro e w3 ⟨rfl,rfl⟩
      go_wp2
      try go_ret
      exact dz HFF
   ·have HFF:=aq (dz HT _ q (by omega) (dz HB) (dz HY))
    have hqi:¬(q:Int)<(N:Int):=by omega
    clear HF HT
    go_wp2
    try go_ret
    exact dz HFF
end Go.Proofs.YtekkkoipcghlmaaGreatDoor
