import Derived.Test.YtekkkoipcghlmaaGreatDoorU12
set_option linter.all false
namespace Go.Proofs.YtekkkoipcghlmaaGreatDoor
open Go.RowKit
attribute [local go_sem ↓] Go.wp_at_zero Go.wp_at_succ
def bG(l:List Bool)(vs:List Nat):List Bool:=vs.foldl (fun l v=>l.set v true) l
theorem kJ(l:List Bool)(vs:List Nat)(v:Nat):bG l (vs++[v])=(bG l vs).set v true:=by simp[bG]
theorem fN(vs:List Nat):∀l:List Bool,(bG l vs).length=l.length:=by
 induction vs with
 | nil=>intro l;rfl
 | cons v r ih=>intro l;show(bG (l.set v true) r).length=_;rw[ih,List.length_set]
def aD(l:List Bool)(v:Nat):Bool:=(l[v]?).getD false
theorem dR(l:List Bool)(v u:Nat)(hv:v<l.length):aD (l.set v true) u=(aD l u||u==v):=by
 unfold aD
 by_cases e:u=v
 ·subst e;rw[List.getElem?_set_self hv];simp
 ·rw[List.getElem?_set_ne (fun h=>e h.symm)];simp[e]
theorem gH(vs:List Nat):∀(l:List Bool),(∀v,v∈vs->v<l.length)->∀u,aD (bG l vs) u=(aD l u||decide (u∈vs)):=by
 induction vs with
 | nil=>intro l _ u;simp[bG]
 | cons v r ih=>
  intro l hb u
  show aD (bG (l.set v true) r) u=_
  rw[ih _ (fun x hx=>by rw[List.length_set];exact hb x (by simp[hx])),dR _ _ _ (hb v (by simp))]
  by_cases e:u=v
  ·simp[e]
  ·have e2:(u==v)=false:=by simpa using e
   simp[e,e2]
section
variable {base:Nat}{w w':World}{m:Mem}{E:List Row}{r r':Row}
theorem cW(base:Nat)(w:World)(e:TypeId):w.ownsRow base e 1 (.slice none 0 0) 0 []:=⟨rfl,.inl ⟨rfl,rfl⟩⟩
theorem EMut.last(h:EAt base w m (E++[r]))(hr:r'.ok base w')(hg:w.grownBy w' r.v.ownBlock)(hloc:r'.v.ownBlock=none∨r'.v.ownBlock=r.v.ownBlock∨∃g,r'.v.ownBlock=some g/\w.heap.size<=g):EMut base w m (E++[r]) w' m (E++[r']):=by
 have:=EMut.row h (i:=E.length) (by simp) hr hg hloc
 rw[List.set_append,if_neg (by omega),Nat.sub_self]at this
 exact this
theorem EAt.row{i:Nat}(h:EAt base w m E)(hi:E[i]?=some r):r.ok base w:=h.pack.rows _ _ (sZ (m:=m) hi)
theorem EMut.nil(h:EAt base w m E):EMut base w m E w m (E++[aB (.slice none 0 0) []]):=EMut.add h (cW _ _ _) (Below.refl _ _) (fun g hg=>by cases hg)
end
theorem nZ(g p n:Nat):∃off,cI g p n=.slice (some ⟨g,off,none⟩) n n/\(0<n->off=p+2):=by
 unfold cI
 by_cases h:n=0
 ·subst h;exact⟨0,by rw[if_pos rfl],fun h=>absurd h (by omega)⟩
 ·exact⟨p+2,by rw[if_neg h],fun _=>rfl⟩
def aF(m:Mem)(met:List Bool)(l:List Int):List Int:=l.filter (fun x=>!(aD met x.natAbs)&&(m.level x.natAbs != 0))
structure MeetAt(base:Nat)(w:World)(m0 m1:Mem)(mv:Value)(met:List Bool)(E:List Row)(fr:List Int)(wr:World)(m:Mem)(fv:Value):Prop where
 mu:EMut base w m0 (aJ mv met::E) wr m (aJ mv (bG met (fr.map Int.natAbs))::(E++[aB fv fr]))
 ok:HeapOK m.all m.places
 same:∀v,v∈m.all↔v∈m0.all
 kept:KeptC m1 m
theorem aC2{m:Mem}{met:List Bool}{l:List Int}(hn:(l.map Int.natAbs).Nodup){k:Nat}(hk:k<l.length):l[k].natAbs∉(aF m met (l.take k)).map Int.natAbs:=by
 intro h
 obtain⟨x,hx,he⟩:=List.mem_map.1 h
 have hx':=(List.mem_filter.1 hx).1
 obtain⟨j,hj⟩:=List.getElem?_of_mem hx'
 have hjl:=(List.getElem?_eq_some_iff.1 hj).1
 rw[List.length_take]at hjl
 rw[List.getElem?_take_of_lt (by omega)]at hj
 have hjx:=(List.getElem?_eq_some_iff.1 hj).2
 have:j=k:=(List.getElem_inj (h₀:=by simp;omega) (h₁:=by simpa using hk) hn).1 (by rw[List.getElem_map,List.getElem_map,hjx,he])
 omega
theorem xA(m:Mem)(met:List Bool){l:List Int}{k:Nat}(hk:k<l.length):aF m met (l.take (k+1))=aF m met (l.take k)++(if aD met l[k].natAbs=false/\m.level l[k].natAbs≠0 then [l[k]]else []):=by
 unfold aF
 rw[List.take_succ_eq_append_getElem hk,List.filter_append]
 congr 1
 rw[List.filter_cons,List.filter_nil]
 by_cases h1:aD met l[k].natAbs=false
 ·by_cases h2:m.level l[k].natAbs=0
  ·simp[h1,h2]
  ·simp[h1,h2]
 ·simp only[Bool.not_eq_false]at h1
  simp[h1]
def rU(base:Nat)(w:World)(m0:Mem)(p:Nat)(mv:Value)(met:List Bool)(E:List Row)(fr:List Int)(e:Ending)(w':World):Prop:=
 ∃m fv,e=.returned fv/\MeetAt base w m0 (m0.cell (p+1) 1) mv met E fr w' m fv
set_option maxRecDepth 100000 in
set_option maxHeartbeats 3200000 in
theorem aK8(base:Nat)(m0:Mem)(cls:List Cl)(c:Nat)(cl:Cl)(mv:Value)(met:List Bool)(E:List Row)(w:World)(hE:EAt base w m0 (aJ mv met::E))(hf:m0.store=flat cls)(hc:cls[c]?=some cl)(hwf:aM cl.lits)(hml:met.length=13)(hok:HeapOK m0.all m0.places)(hsz:m0.store.length<=9900000)(hbs:base<=w.heap.size):
  Calls Tryz.prog 160 #[.pointer (some ⟨m0.s,0,none⟩),.int .i64 (pos cls c:Int),mv] w fun e w'=>rU base w m0 (pos cls c) mv met E (aF m0 met cl.lits) e w':=by
 obtain⟨gm,cm,hmv,hgm,-,-,-⟩:=cP hE (i:=0) rfl hml
 subst hmv
 have hS:=hE.at
 have HU:=aq (zH base m0 cls c cl w hS hf hc (by omega))
 have hc0:w.cell? ⟨m0.s,0,none⟩=some m0.cl:=by rw[hS.cell 0 (by decide)];rfl
 have hlt:=(List.getElem?_eq_some_iff.1 hc).1
 have hcl:cls[c]=cl:=by rw[List.getElem?_eq_getElem hlt]at hc;simpa using hc
 have hc':(cls.set c ⟨true,cl.lits⟩)[c]?=some ⟨true,cl.lits⟩:=List.getElem?_set_self hlt
 have hp':pos (cls.set c ⟨true,cl.lits⟩) c=pos cls c:=fM cls c c _ hlt (by rw[hcl])
 have hf':(m0.cell (pos cls c+1) 1).store=flat (cls.set c ⟨true,cl.lits⟩):=by
  show m0.store.set (pos cls c+1) 1=_
  rw[hf,gB cls c hlt,hcl]
 have hsz':(m0.cell (pos cls c+1) 1).store.length<=9900000:=by show(m0.store.set _ _).length<=_;rw[List.length_set];exact hsz
 have hroom:pos cls c+2+cl.lits.length<=m0.store.length:=by have:=eK cls c hlt;rw[hcl,←hf]at this;exact this
 have HLT:Hid (∀wx,Mut base w m0 wx (m0.cell (pos cls c+1) 1)->wx.cell? ⟨m0.s,0,none⟩=some m0.cl/\Calls Tryz.prog 112 #[m0.cl,.int .i64 (pos cls c:Int)] wx fun e w'=>(∃g,e=.returned (cI g (pos cls c) cl.lits.length)/\m0.cl.ownBlock=some g)/\w'=wx):=aq (fun wx hm=>by
  refine⟨by rw[←hm.s,hm.at.cell 0 (by decide)];rfl,?_⟩
  have:=dV base (m0.cell (pos cls c+1) 1) _ c _ wx hm.at hf' hc' (by omega)
  rw[hp']at this
  exact this)
 have H0:Hid (∀wx,Mut base w m0 wx (m0.cell (pos cls c+1) 1)->MeetAt base w m0 (m0.cell (pos cls c+1) 1) (.slice (some ⟨gm,0,none⟩) 13 cm) met E [] wx (m0.cell (pos cls c+1) 1) (.slice none 0 0)):=aq (fun wx hm=>by
  have h1:=EMut.call hE hm
  exact⟨h1.trans (EMut.nil h1.eat),hok,fun _=>Iff.rfl,KeptC.refl _⟩)
 have HRD:Hid (∀k wr m fv g,k<cl.lits.length->m0.cl.ownBlock=some g->MeetAt base w m0 (m0.cell (pos cls c+1) 1) (.slice (some ⟨gm,0,none⟩) 13 cm) met E (aF m0 met (cl.lits.take k)) wr m fv->∃x,cl.lits[k]?=some x/\(x≠0/\-12<=x/\x<=12)/\wr.cell? ⟨g,pos cls c+2+k,none⟩=some (.int .i64 x)/\(wr.cell? ⟨gm,x.natAbs,none⟩=some (.bool (aD met x.natAbs))/\(∀wx,Below wr.heap.size wr wx->wx.cell? ⟨gm,x.natAbs,none⟩=some (.bool (aD met x.natAbs))/\wx.frozen? ⟨gm,x.natAbs,none⟩=false/\(wx.setCell ⟨gm,x.natAbs,none⟩ (.bool true)).cell? ⟨m0.s,7,none⟩=some (.pointer (some ⟨m0.q,0,none⟩))/\EMut base w m0 (aJ (.slice (some ⟨gm,0,none⟩) 13 cm) met::E) (wx.setCell ⟨gm,x.natAbs,none⟩ (.bool true)) m (aJ (.slice (some ⟨gm,0,none⟩) 13 cm) (bG met ((aF m0 met (cl.lits.take k)).map Int.natAbs++[x.natAbs]))::(E++[aB fv (aF m0 met (cl.lits.take k))]))))/\(∀wx,Below wr.heap.size wr wx->∃r,Calls Tryz.prog 128 #[.pointer (some ⟨m0.s,3,none⟩),.int .i64 x] wx fun e w'=>e=.returned (.agg #[.int .i64 (m.truth x.natAbs),.int .i64 (m0.level x.natAbs),.int .i64 r])/\Below wr.heap.size wr w')/\aF m0 met (cl.lits.take (k+1))=aF m0 met (cl.lits.take k)++(if aD met x.natAbs=false/\m0.level x.natAbs≠0 then [x]else [])):=aq (by
  intro k wr m fv g hk hg h
  have hx:cl.lits[k]?=some cl.lits[k]:=List.getElem?_eq_getElem hk
  have hb:=hwf.2 _ (List.mem_of_getElem? hx)
  have hSr:=h.mu.at
  have hst:m.store=flat (cls.set c ⟨true,cl.lits⟩):=by rw[h.kept];exact hf'
  have hclv:m.cl=m0.cl:=by rw[h.kept];rfl
  have hlv:m.level cl.lits[k].natAbs=m0.level cl.lits[k].natAbs:=by unfold Mem.level;rw[h.kept];rfl
  obtain⟨g',cap,hv,-,hg',-,-,-,hcell,-⟩:=cK base m _ c _ wr hSr hst hc'
  rw[hclv]at hv
  rw[hv]at hg
  cases hg
  have hck:=hcell k hk
  rw[hp']at hck
  have hmk:aD (bG met ((aF m0 met (cl.lits.take k)).map Int.natAbs)) cl.lits[k].natAbs=aD met cl.lits[k].natAbs:=by
   rw[gH _ _ (fun v hv=>?_)]
   ·have:=aC2 (m:=m0) (met:=met) hwf.1 hk
    simp[this]
   ·obtain⟨y,hy,rfl⟩:=List.mem_map.1 hv
    have:=hwf.2 y (List.mem_of_mem_take (List.mem_filter.1 hy).1)
    omega
  have hmll:(bG met ((aF m0 met (cl.lits.take k)).map Int.natAbs)).length=13:=by rw[fN,hml]
  have rd:∀wx,Below wr.heap.size wr wx->wx.cell? ⟨gm,cl.lits[k].natAbs,none⟩=some (.bool (aD met cl.lits[k].natAbs))/\wx.frozen? ⟨gm,cl.lits[k].natAbs,none⟩=false/\EMut base w m0 (aJ (.slice (some ⟨gm,0,none⟩) 13 cm) met::E) (wx.setCell ⟨gm,cl.lits[k].natAbs,none⟩ (.bool true)) m (aJ (.slice (some ⟨gm,0,none⟩) 13 cm) (bG met ((aF m0 met (cl.lits.take k)).map Int.natAbs++[cl.lits[k].natAbs]))::(E++[aB fv (aF m0 met (cl.lits.take k))])):=by
   intro wx hbx
   have hmx:=h.mu.trans (EMut.below h.mu.eat hbx)
   obtain⟨gm',cm',h1,h2,h3,h4,h5⟩:=cP hmx.eat (i:=0) rfl hmll
   cases h1
   refine⟨?_,h4 _,?_⟩
   ·have hlt2:cl.lits[k].natAbs<(bG met ((aF m0 met (cl.lits.take k)).map Int.natAbs)).length:=by omega
    have hh:=h3 _ _ (List.getElem?_eq_getElem hlt2)
    rw[hh]
    have:aD (bG met ((aF m0 met (cl.lits.take k)).map Int.natAbs)) cl.lits[k].natAbs=(bG met ((aF m0 met (cl.lits.take k)).map Int.natAbs))[cl.lits[k].natAbs]:=by unfold aD;rw[List.getElem?_eq_getElem hlt2];rfl
    rw[←this,hmk]
   ·rw[kJ]
    exact hmx.trans (h5 _ _)
  obtain⟨h3,-,-⟩:=rd wr (Below.refl _ _)
  refine⟨cl.lits[k],hx,hb,hck,⟨h3,fun wx hbx=>?_⟩,fun wx hbx=>⟨m.reason cl.lits[k].natAbs,?_⟩,xA m0 met hk⟩
  ·obtain⟨g3,g4,g5⟩:=rd wx hbx
   refine⟨g3,g4,?_,g5⟩
   rw[←g5.s,g5.at.cell 7 (by decide),←g5.q];rfl
  ·have:=dN base m cl.lits[k] wx (hSr.below hbx) hb.2.1 hb.2.2
   rw[h.mu.s,hlv]at this
   exact this.mono (fun e w' hh=>⟨hh.1,hbx.trans (hh.2.mono hbx.size)⟩))
 have HCT:Hid (∀k wr m fv (x:Int) wx,cl.lits[k]?=some x->MeetAt base w m0 (m0.cell (pos cls c+1) 1) (.slice (some ⟨gm,0,none⟩) 13 cm) met E (aF m0 met (cl.lits.take k)) wr m fv->EMut base w m0 (aJ (.slice (some ⟨gm,0,none⟩) 13 cm) met::E) wx m (aJ (.slice (some ⟨gm,0,none⟩) 13 cm) (bG met ((aF m0 met (cl.lits.take k)).map Int.natAbs++[x.natAbs]))::(E++[aB fv (aF m0 met (cl.lits.take k))]))->aF m0 met (cl.lits.take (k+1))=aF m0 met (cl.lits.take k)++[x]->Calls Tryz.prog 186 #[.pointer (some ⟨m0.q,0,none⟩),.int .i64 (x.natAbs:Int)] wx fun e w'=>e=.returned (.tuple #[])/\base<=w'.heap.size/\w'.ownsRow base 3 1 fv (aF m0 met (cl.lits.take k)).length (ints (aF m0 met (cl.lits.take k)))/\∀(wz w4:World) (g cap:Nat),Below w'.heap.size w' wz->w4.ownsRow base 3 1 (.slice (some ⟨g,0,none⟩) ((aF m0 met (cl.lits.take k)).length+1) cap) ((aF m0 met (cl.lits.take k)).length+1) (ints (aF m0 met (cl.lits.take k))++[.int .i64 x])->wz.grownBy w4 fv.ownBlock->(fv.ownBlock=some g∨g=wz.heap.size)->∃m',MeetAt base w m0 (m0.cell (pos cls c+1) 1) (.slice (some ⟨gm,0,none⟩) 13 cm) met E (aF m0 met (cl.lits.take (k+1))) w4 m' (.slice (some ⟨g,0,none⟩) ((aF m0 met (cl.lits.take k)).length+1) cap)):=aq (by
  intro k wr m fv x wx hx h hm hfs
  have hb:=hwf.2 _ (List.mem_of_getElem? hx)
  have:=aD7 base m x.natAbs wx hm.at h.ok (by omega) (by omega)
  rw[hm.q]at this
  refine this.mono (fun e w' hh=>?_)
  obtain⟨he,m',hq⟩:=hh
  have h2:=hm.trans (EMut.call hm.eat hq.mu)
  refine⟨he,Nat.le_trans hbs h2.pm.only.size,h2.eat.row (i:=E.length+1) (r:=aB fv (aF m0 met (cl.lits.take k))) (by rw[List.getElem?_cons_succ];simp),fun wz w4 g cap hz hown hgr hloc=>⟨m',?_,hq.ok,fun v=>(hq.same v).trans (h.same v),h.kept.trans hq.kept⟩⟩
  have h3:=h2.trans (EMut.below h2.eat hz)
  have hzs:=hz.size
  have h4:=EMut.last (E:=aJ (.slice (some ⟨gm,0,none⟩) 13 cm) (bG met ((aF m0 met (cl.lits.take k)).map Int.natAbs++[x.natAbs]))::E) h3.eat (r':=aB (.slice (some ⟨g,0,none⟩) ((aF m0 met (cl.lits.take k)).length+1) cap) (aF m0 met (cl.lits.take k)++[x])) (by unfold Row.ok aB;rw[cV,List.length_append];exact hown) hgr (by
   rcases hloc with hl|hl
   ·exact .inr (.inl hl.symm)
   ·exact .inr (.inr ⟨g,rfl,by omega⟩))
  rw[hfs,List.map_append]
  exact h3.trans h4)
 have HFIN:Hid (∀k wr m fv,¬k<cl.lits.length->MeetAt base w m0 (m0.cell (pos cls c+1) 1) (.slice (some ⟨gm,0,none⟩) 13 cm) met E (aF m0 met (cl.lits.take k)) wr m fv->rU base w m0 (pos cls c) (.slice (some ⟨gm,0,none⟩) 13 cm) met E (aF m0 met cl.lits) (.returned fv) wr):=aq (fun k wr m fv hk h=>⟨m,fv,rfl,by rw[List.take_of_length_le (by omega)]at h;exact h⟩)
 have HLE:Hid (cl.lits.length<=1000):=aq (by
  have h1:=cE 13 (cl.lits.map Int.natAbs) hwf.1 (fun v hv=>by obtain⟨x,hx,rfl⟩:=List.mem_map.1 hv;have:=hwf.2 x hx;omega)
  simp at h1;omega)
 have HFL:Hid (∀k,(aF m0 met (cl.lits.take k)).length<=cl.lits.length):=aq (fun k=>Nat.le_trans (List.length_filter_le _ _) (by simp;omega))
 have HB:Hid (∀wr m fv fr,MeetAt base w m0 (m0.cell (pos cls c+1) 1) (.slice (some ⟨gm,0,none⟩) 13 cm) met E fr wr m fv->∀wx,Below wr.heap.size wr wx->MeetAt base w m0 (m0.cell (pos cls c+1) 1) (.slice (some ⟨gm,0,none⟩) 13 cm) met E fr wx m fv):=aq (fun wr m fv fr h wx hb=>⟨h.mu.trans (EMut.below h.mu.eat hb),h.ok,h.same,h.kept⟩)
 clear hE hS hf hc hcl hc' hp' hf' hsz' hok hwf hlt hml
 generalize hm1:m0.cell (pos cls c+1) 1=m1 at *
 generalize pos cls c=p at *
 generalize hN:cl.lits.length=N at *
 clear hm1
 have HLE':N<=1000:=dz HLE
 go_enter Tryz.func160,Tryz.ntmps160
 go_wp2_with fail
 refine(dz HU).mono ?_
 rintro e w1 ⟨rfl,hm⟩
 obtain⟨hc1,hlit⟩:=dz HLT _ hm
 have HL1:=aq hlit
 have HM1:=aq (dz H0 _ hm)
 clear hm hlit
 go_wp2_with fail
 refine(dz HL1).mono ?_
 rintro e w2 ⟨⟨g,rfl,hg⟩,rfl⟩
 have HG:=aq hg
 clear hg
 obtain⟨off,hlv,hoff⟩:=nZ g p N
 rw[hlv]
 clear hlv
 go_wp2
 go_loopw [7,24] (fun v7 v24 wr=>∃(k:Nat) (fv:Value),k<=N/\fv=v7/\v24=.int .i64 (k:Int)/\Hid (∃m,MeetAt base w m0 m1 (.slice (some ⟨gm,0,none⟩) 13 cm) met E (aF m0 met (cl.lits.take k)) wr m fv)) (fun _ v24 _=>N-(intOf v24).toNat)
 case atStart=>exact⟨0,_,Nat.zero_le _,rfl,rfl,aq ⟨m1,dz HM1⟩⟩
 case round=>
  obtain⟨k,fv,hk,rfl,rfl,HM⟩:=hrel
  obtain⟨m,hM⟩:=dz HM
  by_cases hkN:k<N
  ·obtain⟨x,hx,hxb,hck,⟨hcm,hset⟩,hfact,hfs⟩:=dz HRD k wr m fv g (by omega) (dz HG) hM
   have hoff':=hoff (by omega)
   subst hoff'
   have HV:=aq (fun wx=>aT x wx hxb.2.1 hxb.2.2)
   have hki:(k:Int)<(N:Int):=by omega
   have hvi:(x.natAbs:Int)<13:=by omega
   have HX:=aq hx
   have HMM:=aq hM
   have HSET:=aq hset
   have HFACT:=aq hfact
   have HCTK:=aq (fun wx=>dz HCT k wr m fv x wx hx hM)
   have f1:=Tryz.field1
   clear hx hM hset hfact HM hoff
   by_cases hmk:aD met x.natAbs=true
   ·rw[hmk]at hcm hfs
    have HF:Hid (aF m0 met (cl.lits.take (k+1))=aF m0 met (cl.lits.take k)):=aq (by rw[hfs];simp)
    clear hfs
    generalize x.natAbs=v at *
    go_wp2_with fail
    refine(dz HV _).mono ?_
    rintro e w3 ⟨rfl,rfl⟩
    go_wp2
    go_roundw
    case rel=>exact⟨k+1,_,by omega,rfl,by go_num,aq ⟨m,by rw[dz HF];exact dz HMM⟩⟩
    case measure=>simp[intOf];omega
   ·have hmk':aD met x.natAbs=false:=by simpa using hmk
    rw[hmk']at hcm hfs
    obtain⟨r,hft⟩:=dz HFACT wr (Below.refl _ _)
    have HFT:=aq hft
    clear hft HFACT
    by_cases hlv:m0.level x.natAbs=0
    ·have HF:Hid (aF m0 met (cl.lits.take (k+1))=aF m0 met (cl.lits.take k)):=aq (by rw[hfs];simp[hlv])
     rw[hlv]at HFT
     clear hfs hlv
     generalize m.truth x.natAbs=t at *
     generalize x.natAbs=v at *
     go_wp2_with fail
     refine(dz HV _).mono ?_
     rintro e w3 ⟨rfl,rfl⟩
     go_wp2_with fail
     refine(dz HFT).mono ?_
     rintro e w4 ⟨rfl,hb4⟩
     have HB4:=aq (dz HB _ _ _ _ (dz HMM) _ hb4)
     clear hb4
     go_wp2
     go_roundw
     case rel=>exact⟨k+1,_,by omega,rfl,by go_num,aq ⟨m,by rw[dz HF];exact dz HB4⟩⟩
     case measure=>simp[intOf];omega
    ·have hfs':aF m0 met (cl.lits.take (k+1))=aF m0 met (cl.lits.take k)++[x]:=by rw[hfs];simp[hlv]
     have hq:(m0.level x.natAbs==0)=false:=by simpa using hlv
     have HCN:=aq (fun wx hmx=>dz HCTK wx hmx hfs')
     have hfl:(aF m0 met (cl.lits.take k)).length<=1000:=Nat.le_trans (dz HFL k) HLE'
     clear hfs hfs' hlv HCTK
     generalize m.truth x.natAbs=t at *
     generalize m0.level x.natAbs=lv at *
     generalize hv:x.natAbs=v at *
     clear hv
     generalize hfr:aF m0 met (cl.lits.take k)=fr at *
     clear hfr
     go_wp2_with fail
     refine(dz HV _).mono ?_
     rintro e w3 ⟨rfl,rfl⟩
     go_wp2_with fail
     refine(dz HFT).mono ?_
     rintro e w4 ⟨rfl,hb4⟩
     obtain⟨hcm4,hfm4,hc74,hmu4⟩:=dz HSET w4 hb4
     have HC4:=aq (dz HCN _ hmu4)
     clear hmu4 hb4
     go_wp2_with fail
     refine(dz HC4).mono ?_
     rintro e w5 ⟨rfl,hb5,hrow5,hnext⟩
     have HROW5:=aq hrow5
     have HNX:=aq hnext
     clear hrow5 hnext
     go_wp2_with (at_builtin;refine bY (base:=base) rfl _ _ 25 3 rfl Tryz.underlying25 Tryz.infoInt rfl (by decide) (dz HROW5) rfl rfl rfl (by omega) hb5 ?_;intro g' cap' w6 hown6 hgr6 hloc;have HMID:=aq (dz HNX _ _ _ _ ((Below.refl _ _).alloc (Nat.le_refl _) _) hown6 hgr6 hloc);clear hown6 hgr6 hloc)
     go_roundw
     case rel=>exact⟨k+1,_,by omega,rfl,by go_num,HMID⟩
     case measure=>simp[intOf];omega
  ·have HF:=aq (dz HFIN k wr m fv (by omega) hM)
   have hki:¬(k:Int)<(N:Int):=by omega
   clear hM HM
   go_wp2
   try go_ret
   exact dz HF
end Go.Proofs.YtekkkoipcghlmaaGreatDoor
namespace Go.Proofs.YtekkkoipcghlmaaGreatDoor
open Go.RowKit
def dbOf(cls:List Cl):List (List Int):=cls.map Cl.lits
def Seen(tr:Tr)(met:List Bool)(b:Nat)(y:Int):Prop:=∃(j:Nat) (r:Int),j<b/\tr[j]?=some (-y,r)/\(aD met y.natAbs=true∨lev tr j=0)
def mU(m:Mem)(tr:Tr)(met:List Bool)(i:Nat):Nat:=((tr.take i).filter (fun e=>aD met e.1.natAbs&&(m.level e.1.natAbs==(levels tr:Int)))).length
structure MC(m:Mem)(DB:List (List Int))(tr:Tr)(met:List Bool)(low:List Int)(left i b:Nat):Prop where
 len:met.length=13
 bd:i<=tr.length
 mtr:∀v,aD met v=true->∃(j:Nat) (e:Int×Int),tr[j]?=some e/\e.1.natAbs=v/\0<lev tr j
 lows:∀x,x∈low↔(aD met x.natAbs=true/\∃(j:Nat) (r:Int),tr[j]?=some (-x,r)/\lev tr j<levels tr)
 nd:(low.map Int.natAbs).Nodup
 cnt:left=mU m tr met i
 done:∀(j:Nat) (e:Int×Int),b<=j->tr[j]?=some e->aD met e.1.natAbs=true->lev tr j=levels tr->∃c,c∈DB/\∀y,y∈c->y=e.1∨Seen tr met j y
structure Lesson(DB:List (List Int))(tr:Tr)(lits:List Int):Prop where
 wf:aM lits
 head:∃p rest i r,lits=-p::rest/\tr[i]?=some (p,r)/\lev tr i=levels tr/\∀x,x∈rest->∃(j:Nat) (s:Int),tr[j]?=some (-x,s)/\0<lev tr j/\lev tr j<levels tr
 set:∃S:Nat->Prop,(∀i,S i->∃e,tr[i]?=some e/\(-e.1∈lits∨∃c,c∈DB/\∀y,y∈c->y=e.1∨∃j r,j<i/\S j/\tr[j]?=some (-y,r)))/\∃c,c∈DB/\∀y,y∈c->∃j r,S j/\tr[j]?=some (-y,r)
theorem Seen.mono{tr:Tr}{met met':List Bool}{b b':Nat}{y:Int}(h:Seen tr met b y)(hm:∀v,aD met v=true->aD met' v=true)(hb:b<=b'):Seen tr met' b' y:=by
 obtain⟨j,r,h1,h2,h3⟩:=h
 exact⟨j,r,by omega,h2,h3.imp (hm _) id⟩
section
variable {m:Mem}{cls:List Cl}{DB:List (List Int)}{tr:Tr}{met:List Bool}{low:List Int}{left i b:Nat}
theorem Rep.lev(hR:Rep m cls tr){j:Nat}{e:Int×Int}(h:tr[j]?=some e){v:Nat}(hv:e.1.natAbs=v):m.level v=(lev tr j:Int):=by rw[←hv];exact(hR.taken j e h).2.1
theorem nA{α:Type}(P Q:α->Bool):∀(l:List α) (j:Nat) (a:α),l[j]?=some a->P a=false->Q a=true->(∀k x,k≠j->l[k]?=some x->Q x=P x)->(l.filter Q).length=(l.filter P).length+1
 | [],j,a,h,_,_,_=>by simp at h
 | x::r,0,a,h,hp,hq,ho=>by
  simp at h;subst h
  rw[List.filter_cons,List.filter_cons,if_pos hq,if_neg (by simp[hp])]
  have:r.filter Q=r.filter P:=List.filter_congr (fun y hy=>by
   obtain⟨k,hk⟩:=List.getElem?_of_mem hy
   exact ho (k+1) y (by omega) (by rw[List.getElem?_cons_succ];exact hk))
  rw[this];rfl
 | x::r,j+1,a,h,hp,hq,ho=>by
  rw[List.getElem?_cons_succ]at h
  have ih:=nA P Q r j a h hp hq (fun k y hk hy=>ho (k+1) y (by omega) (by rw[List.getElem?_cons_succ];exact hy))
  have h0:=ho 0 x (by omega) rfl
  rw[List.filter_cons,List.filter_cons,h0]
  split<;>simp[ih]
theorem MC.mark(h:MC m DB tr met low left i b)(hR:Rep m cls tr)(hT:TrOK cls tr){x:Int}{j:Nat}{r:Int}(hx:tr[j]?=some (-x,r))(hji:j<i)(hib:i<=b)(hl0:0<lev tr j)(hm:aD met x.natAbs=false):
  MC m DB tr (met.set x.natAbs true) (if m.level x.natAbs=(levels tr:Int)then low else low++[x]) (if m.level x.natAbs=(levels tr:Int)then left+1 else left) i b:=by
 have hb:=hT.bd j _ hx
 simp only at hb
 have hvl:x.natAbs<met.length:=by rw[h.len];omega
 have hxa:((-x:Int),r).1.natAbs=x.natAbs:=by simp
 have hlv:=hR.lev hx hxa
 have ms:∀u,aD (met.set x.natAbs true) u=(aD met u||u==x.natAbs):=fun u=>dR met _ u hvl
 have up:∀u,aD met u=true->aD (met.set x.natAbs true) u=true:=fun u hu=>by rw[ms,hu];rfl
 have uniq:∀(k:Nat) (e:Int×Int),tr[k]?=some e->e.1.natAbs=x.natAbs->k=j:=fun k e hk he=>hT.one hk hx (by rw[he];simp)
 refine⟨by rw[List.length_set];exact h.len,h.bd,fun v hv=>?_,fun y=>?_,?_,?_,fun k e hk he hme hle=>?_⟩
 ·rw[ms,Bool.or_eq_true,beq_iff_eq]at hv
  rcases hv with hv|rfl
  ·exact h.mtr v hv
  ·exact⟨j,_,hx,hxa,hl0⟩
 ·by_cases ht:m.level x.natAbs=(levels tr:Int)
  ·rw[if_pos ht,h.lows,ms]
   constructor
   ·rintro⟨h1,h2⟩;exact⟨by rw[h1];rfl,h2⟩
   ·rintro⟨h1,k,q,h2,h3⟩
    rw[Bool.or_eq_true,beq_iff_eq]at h1
    rcases h1 with h1|h1
    ·exact⟨h1,k,q,h2,h3⟩
    ·have:=uniq k _ h2 (by simp[h1])
     subst this
     omega
  ·rw[if_neg ht,List.mem_append,h.lows,ms,List.mem_singleton]
   constructor
   ·rintro(⟨h1,h2⟩|rfl)
    ·exact⟨by rw[h1];rfl,h2⟩
    ·refine⟨by simp,j,r,hx,?_⟩
     have:=eX tr j
     omega
   ·rintro⟨h1,k,q,h2,h3⟩
    rw[Bool.or_eq_true,beq_iff_eq]at h1
    rcases h1 with h1|h1
    ·exact .inl ⟨h1,k,q,h2,h3⟩
    ·have:=uniq k _ h2 (by simp[h1])
     subst this
     rw[hx]at h2
     simp at h2
     exact .inr (by omega)
 ·split
  ·exact h.nd
  ·rw[List.map_append,List.nodup_append]
   refine⟨h.nd,by simp,?_⟩
   rintro a ha c hc rfl
   simp at hc
   obtain⟨y,hy,hya⟩:=List.mem_map.1 ha
   have:=((h.lows y).1 hy).1
   rw[hya,hc,hm]at this
   cases this
 ·unfold mU
  by_cases ht:m.level x.natAbs=(levels tr:Int)
  ·rw[if_pos ht,h.cnt]
   unfold mU
   refine(nA _ _ (tr.take i) j ((-x),r) (by rw[List.getElem?_take_of_lt hji];exact hx) ?_ ?_ ?_).symm
   ·simp[hm]
   ·simp[ms,ht]
   ·intro k e hk he
    have hkl:=(List.getElem?_eq_some_iff.1 he).1
    rw[List.length_take]at hkl
    rw[List.getElem?_take_of_lt (by omega)]at he
    have hne:e.1.natAbs≠x.natAbs:=fun h'=>hk (uniq k e he h')
    have:(e.1.natAbs==x.natAbs)=false:=by simpa using hne
    simp[ms,this]
  ·rw[if_neg ht,h.cnt]
   unfold mU
   congr 1
   refine List.filter_congr (fun e he=>?_)
   by_cases hne:e.1.natAbs=x.natAbs
   ·rw[hne]
    have:(m.level x.natAbs==(levels tr:Int))=false:=by simpa using ht
    rw[this,Bool.and_false,Bool.and_false]
   ·have:(e.1.natAbs==x.natAbs)=false:=by simpa using hne
    rw[ms,this,Bool.or_false]
 ·rw[ms,Bool.or_eq_true,beq_iff_eq]at hme
  rcases hme with hme|hme
  ·obtain⟨c,hc,hy⟩:=h.done k e hk he hme hle
   exact⟨c,hc,fun y hyc=>(hy y hyc).imp id (fun hs=>hs.mono up (Nat.le_refl _))⟩
  ·have:=uniq k e he hme
   omega
def cR(m:Mem)(tr:Tr)(x:Int):Bool:=m.level x.natAbs==(levels tr:Int)
theorem MC.meets(hR:Rep m cls tr)(hT:TrOK cls tr)(hib:i<=b):∀(fr:List Int) (met:List Bool) (low:List Int) (left:Nat),MC m DB tr met low left i b->(∀x,x∈fr->aD met x.natAbs=false/\∃j r,j<i/\tr[j]?=some (-x,r)/\0<lev tr j)->(fr.map Int.natAbs).Nodup->
  MC m DB tr (bG met (fr.map Int.natAbs)) (low++fr.filter (fun x=>!cR m tr x)) (left+(fr.filter (cR m tr)).length) i b
 | [],met,low,left,h,_,_=>by simpa [bG] using h
 | x::fr,met,low,left,h,hx,hn=>by
  obtain⟨h1,j,r,h2,h3,h4⟩:=hx x (by simp)
  have h5:=h.mark hR hT h3 h2 hib h4 h1
  simp only[List.map_cons,List.nodup_cons]at hn
  have hvl:x.natAbs<met.length:=by have:=hT.bd j _ h3;simp only at this;rw[h.len];omega
  have h6:=MC.meets hR hT hib fr _ _ _ h5 (fun y hy=>by
   obtain⟨g1,g2⟩:=hx y (by simp[hy])
   refine⟨?_,g2⟩
   rw[dR _ _ _ hvl,g1]
   have:y.natAbs≠x.natAbs:=fun e=>hn.1 (by rw[←e];exact List.mem_map.2 ⟨y,hy,rfl⟩)
   simpa using this) hn.2
  have e1:bG met ((x::fr).map Int.natAbs)=bG (met.set x.natAbs true) (fr.map Int.natAbs):=rfl
  rw[e1]
  by_cases ht:m.level x.natAbs=(levels tr:Int)
  ·have ht':cR m tr x=true:=by unfold cR;simpa using ht
   rw[if_pos ht,if_pos ht]at h6
   rw[List.filter_cons,List.filter_cons,if_neg (by simp[ht']),if_pos ht']
   simp only[List.length_cons]
   rw[show left+((fr.filter (cR m tr)).length+1)=left+1+(fr.filter (cR m tr)).length from by omega]
   exact h6
  ·have ht':cR m tr x=false:=by unfold cR;simpa using ht
   rw[if_neg ht,if_neg ht]at h6
   rw[List.filter_cons,List.filter_cons,if_pos (by simp[ht']),if_neg (by simp[ht'])]
   rw[List.append_assoc]at h6
   exact h6
end
end Go.Proofs.YtekkkoipcghlmaaGreatDoor
