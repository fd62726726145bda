import Derived.Test.YtekkkoipcghlmaaGreatDoorU34
import Derived.Test.YtekkkoipcghlmaaGreatDoorU01
import Derived.Test.YtekkkoipcghlmaaGreatDoorU33
import Derived.Deep.QuietTactic
import Derived.BigQuiet
set_option linter.all false
namespace Go.Proofs.YtekkkoipcghlmaaGreatDoor
open Go.RowKit
attribute [local go_sem ↓] Go.wp_at_zero Go.wp_at_succ
def SolveRes(base x:Nat)(kv:Value)(ms:List Nat)(pv:Value)(pb:List UInt8)(A:List Int)(B:Int)(w:World)(kind:Int)(vm vc:Value)(cf:Int)(w':World):Prop:=
 ∃S D pv' core,WD base w x kv ms pv pb (aP S++if kind=2 then Sp.told (Sp.litsOf (aK (Sp.maskOf core)))else []) w' pv'/\Chain ms (bH S) D/\(∀s,s∈S->aM s.2)/\S.length<=7000000/\0<=cf/\(0<B->cf<=B)/\
  ((kind=1/\vc=.slice none 0 0/\∃b,b<4096/\(∀x,x∈A->tru b x=true)/\(∀g,g∈ms->cU b g)/\w'.ownsRow w.heap.size 3 1 vm 12 (ints (dF b)))∨
   (kind=2/\vm=.slice none 0 0/\(∃p:Int->Bool,core=A.filter p)/\w'.ownsRow w.heap.size 3 1 vc core.length (ints core)/\Sp.Fol (ms++D) (Sp.maskOf (core.map (fun x=>-x))))∨
   (kind=3/\vm=.slice none 0 0/\vc=.slice none 0 0/\0<B/\cf=B))
section
variable {base b0 x:Nat}{kv pv v:Value}{ms:List Nat}{pb:List UInt8}{A:List Int}{B:Int}{w0 wN wr:World}{m0:Mem}
theorem qE{F:Nat->Prop}{w w':World}{b:Nat}{e:TypeId}{s:Nat}{v:Value}{n:Nat}{xs:List Value}(h:w.ownsRow b e s v n xs)(ho:Only F w w')(hn:∀k,v.ownBlock=some k->¬F k):w'.ownsRow b e s v n xs:=aH h (fun g hg=>ho.block g (h.lt g hg).2 (hn g hg))
theorem aN7(hX:XAt base w0 x kv ms pv pb)(hbw:w0.heap.size=b0)(hb:Below b0 w0 wN)(hS0:SAt b0 wN m0)(hbs:b0<=wN.heap.size)(hA:∀y,y∈A->y≠0/\-12<=y/\y<=12)(hAl:A.length<=10000000)(he:EnvFrom base w0)(hpb:pb.length<=140000000000000)(hR:sD b0 wN m0 ms A B v wr):
  Below b0 w0 wr/\∃kind ao n c ao2 n2 c2 cf spo spn spc,v=.agg #[.int .i64 kind,.slice ao n c,.slice ao2 n2 c2,.int .i64 cf]/\(∀wz,Below wr.heap.size wr wz->Calls Tryz.prog 44 #[.pointer (some ⟨m0.s,0,none⟩)] wz fun e w'=>e=.returned (.slice spo spn spc)/\w'=wz)/\
   ∀wz,Below wr.heap.size wr wz->Calls Tryz.prog 43 #[.pointer (some ⟨x,0,none⟩),.slice spo spn spc,.agg #[.int .i64 kind,.slice ao n c,.slice ao2 n2 c2,.int .i64 cf]] wz fun e w'=>e=.returned (.tuple #[])/\SolveRes base x kv ms pv pb A B w0 kind (.slice ao n c) (.slice ao2 n2 c2) cf w'/\Only (XF x pv) wz w':=by
 obtain⟨m,S,D,kind,vm,vc,rfl,h⟩:=hR
 have hs:=h.mu.s
 have hxl:=aA hX.block
 have hb2:Below b0 w0 wr:=hb.trans (h.mu.lowly hS0 hbs)
 have hpl:∀q,pv.ownBlock=some q->q<b0:=fun q hq=>by rw[←hbw];exact(hX.prow.lt q hq).2
 have hst:=StepsIn.of h.steps h.mu.at h.swf
 obtain⟨spo,spc,hsp,-⟩:=hst.row
 have hbz0:Below w0.heap.size w0 wr:=by rw[hbw];exact hb2
 have hXr:=hX.below hbz0
 have hbase:base<=b0:=by rw[←hbw];have:=hX.le;omega
 have hnF:∀k,b0<=k->¬XF x pv k:=fun k hk hf=>by
  rcases hf with rfl|hf
  ·omega
  ·have:=hpl k hf;omega
 obtain⟨core,hvc,hcv,hcl,hcb,hvms,hend⟩:∃core:List Int,Lies wr vc (ints core)/\(∀y,y∈core->y≠0/\-12<=y/\y<=12)/\core.length<=10000000/\(∀q,vc.ownBlock=some q->b0<=q)/\((∃ao n c,vm=.slice ao n c)/\∃ao n c,vc=.slice ao n c)/\∀w',Only (XF x pv) wr w'->
   ((kind=1/\vc=.slice none 0 0/\∃b,b<4096/\(∀x,x∈A->tru b x=true)/\(∀g,g∈ms->cU b g)/\w'.ownsRow w0.heap.size 3 1 vm 12 (ints (dF b)))∨
   (kind=2/\vm=.slice none 0 0/\(∃p:Int->Bool,core=A.filter p)/\w'.ownsRow w0.heap.size 3 1 vc core.length (ints core)/\Sp.Fol (ms++D) (Sp.maskOf (core.map (fun x=>-x))))∨
   (kind=3/\vm=.slice none 0 0/\vc=.slice none 0 0/\0<B/\m.conflicts=B)):=by
  have hnil:Lies wr (.slice none 0 0) (ints []):=.inl ⟨rfl,none,0,rfl⟩
  rcases h.kinds with⟨h1,h2,b,hb1,hb2,hb3,hb4,hb5⟩|⟨h1,h2,p,hp1,hp2,hp3⟩|⟨h1,h2,h3,h4,h5⟩
  ·refine⟨[],by rw[h2];exact hnil,fun y hy=>by simp at hy,by simp,fun q hq=>by rw[h2]at hq;simp[Value.ownBlock]at hq,⟨iT hb4,by rw[h2];exact⟨_,_,_,rfl⟩⟩,fun w' ho=>.inl ⟨h1,h2,b,hb1,hb2,hb3,?_⟩⟩
   have h6:=qE hb4 ho (fun k hk=>hnF k (by have:=(hb4.lt k hk).1;omega))
   exact bC h6 (by omega)
  ·refine⟨A.filter p,aE hp1 (cA _),fun y hy=>hA y (List.mem_filter.1 hy).1,Nat.le_trans (List.length_filter_le _ _) hAl,fun q hq=>by have:=(hp1.lt q hq).1;omega,⟨by rw[h2];exact⟨_,_,_,rfl⟩,iT hp1⟩,fun w' ho=>.inr (.inl ⟨h1,h2,⟨p,rfl⟩,?_,hp3⟩)⟩
   have h6:=qE hp1 ho (fun k hk=>hnF k (by have:=(hp1.lt k hk).1;omega))
   exact bC h6 (by omega)
  ·exact⟨[],by rw[h3];exact hnil,fun y hy=>by simp at hy,by simp,fun q hq=>by rw[h3]at hq;simp[Value.ownBlock]at hq,⟨by rw[h2];exact⟨_,_,_,rfl⟩,by rw[h3];exact⟨_,_,_,rfl⟩⟩,fun w' ho=>.inr (.inr ⟨h1,h2,h3,h4,h5⟩)⟩
 obtain⟨⟨ao,n,c,rfl⟩,ao2,n2,c2,rfl⟩:=hvms
 refine⟨hb2,kind,ao,n,c,ao2,n2,c2,m.conflicts,spo,S.length,spc,rfl,fun wz hbz=>?_,fun wz hbz=>?_⟩
 ·have:=aE0 b0 m wz ((Mut.below h.mu.at hbz).at)
  rw[hs,hsp]at this
  exact this
 ·have hstz:StepsIn b0 wz (.slice spo S.length spc) S:=by
   rw[←hsp]
   exact StepsIn.of (h.steps.keep (Mut.below h.mu.at hbz).to rfl) (Mut.below h.mu.at hbz).at h.swf
  have hmost:=h.most
  have hbz2:Below w0.heap.size w0 wz:=hbz0.trans (hbz.mono hbz0.size)
  refine(qB base b0 x kv pv _ _ _ ms pb S kind m.conflicts core wz (hX.below hbz2) hstz ⟨_,_,_,rfl⟩ (hvc.below hbz) hcv hcl hcb (by omega) hpl (by omega) (by omega) (he.below (hbz2.mono (by omega)))).mono ?_
  rintro e w' ⟨rfl,pv',hW⟩
  exact⟨rfl,⟨S,D,pv',core,hW.from hbz2,h.chain,h.swf,hmost,h.conf0,h.confB,hend w' ((Only.of_below _ hbz).trans hW.2.1)⟩,hW.2.1⟩
end
theorem SolveRes.box{base x:Nat}{kv pv vm vc:Value}{ms:List Nat}{pb:List UInt8}{A:List Int}{B kind cf:Int}{w w0 wx:World}(hX:XAt base w x kv ms pv pb)(h0:w0=w.alloc bA)(h:SolveRes base x kv ms pv pb A B w0 kind vm vc cf wx):wx.heap[w.heap.size]?=some bA/\SolveRes base x kv ms pv pb A B w kind vm vc cf (cQ wx w.heap.size (.int .i64 kind) vm vc (.int .i64 cf)):=by
 obtain⟨S,D,pv',core,hW,h1,h2,h3,h4,h5,h6⟩:=h
 have hb0:Below w.heap.size w w0:=by rw[h0];exact(Below.refl _ _).alloc (Nat.le_refl _) _
 have hz0:w0.heap.size=w.heap.size+1:=by rw[h0];simp
 have hzz:w0.heap[w.heap.size]?=some bA:=by rw[h0];exact heap_alloc_new w bA
 have hxl:=aA hX.block
 have hnb:¬XF x pv w.heap.size:=fun hf=>by
  rcases hf with e|hf
  ·omega
  ·have:=(hX.prow.lt _ hf).2;omega
 have hz:wx.heap[w.heap.size]?=some bA:=(hW.2.1.block w.heap.size (by omega) hnb).trans hzz
 refine⟨hz,?_⟩
 have ho:=((dJ hz).2.2 (.int .i64 kind) vm vc (.int .i64 cf)).2
 have hkv:kv.ownBlock≠some w.heap.size:=fun e=>by have:=(hX.row.lt _ e).2;omega
 have hpv:pv'.ownBlock≠some w.heap.size:=fun e=>by
  rcases hW.2.2 _ e with e|e
  ·have:=(hX.prow.lt _ e).2;omega
  ·omega
 refine⟨S,D,pv',core,⟨⟨?_,hW.1.le,aH hW.1.row (fun g hg=>ho.block g (hW.1.row.lt g hg).2 (fun e=>hkv (e▸hg))),aH hW.1.prow (fun g hg=>ho.block g (hW.1.prow.lt g hg).2 (fun e=>hpv (e▸hg)))⟩,?_,fun g hg=>?_⟩,h1,h2,h3,h4,h5,?_⟩
 ·exact(ho.block x hW.lt (by omega)).trans hW.1.block
 ·have hs:=hW.2.1.size
  have hs2:=ho.size
  refine⟨ho.os.trans (hW.2.1.os.trans hb0.os),ho.tape.trans (hW.2.1.tape.trans hb0.tape),ho.output.trans (hW.2.1.output.trans hb0.output),by omega,fun k hk hn=>?_⟩
  rw[ho.block k (by omega) (by omega),hW.2.1.block k (by omega) hn,hb0.block k hk]
 ·rcases hW.2.2 g hg with e|e
  ·exact .inl e
  ·exact .inr (by omega)
 ·have hmv:∀{v:Value} {n:Nat} {xs:List Value},wx.ownsRow w0.heap.size 3 1 v n xs->(cQ wx w.heap.size (.int .i64 kind) vm vc (.int .i64 cf)).ownsRow w.heap.size 3 1 v n xs:=fun {v n xs} hv=>bC (aH hv (fun g hg=>ho.block g (hv.lt g hg).2 (fun e=>by have:=(hv.lt g hg).1;omega))) (by omega)
  rcases h6 with⟨a1,a2,b,a3,a4,a5,a6⟩|⟨a1,a2,a3,a4,a5⟩|h6
  ·exact .inl ⟨a1,a2,b,a3,a4,a5,hmv a6⟩
  ·exact .inr (.inl ⟨a1,a2,a3,hmv a4,a5⟩)
  ·exact .inr (.inr h6)
def aI9(base x:Nat)(kv:Value)(ms:List Nat)(pv:Value)(pb:List UInt8)(A0:List Int)(B:Int)(w:World)(e:Ending)(w':World):Prop:=
 (bD A0=false/\e=.returned (.tuple #[.agg #[.int .i64 0,.slice none 0 0,.slice none 0 0,.int .i64 0],.int .i64 1])/\Below w.heap.size w w')∨
 (bD A0=true/\B<0/\e=.returned (.tuple #[.agg #[.int .i64 0,.slice none 0 0,.slice none 0 0,.int .i64 0],.int .i64 3])/\Below w.heap.size w w')∨
 (bD A0=true/\0<=B/\∃kind vm vc cf,e=.returned (.tuple #[.agg #[.int .i64 kind,vm,vc,.int .i64 cf],.int .i64 0])/\SolveRes base x kv ms pv pb (once A0) B w kind vm vc cf w')
set_option maxRecDepth 100000 in
set_option maxHeartbeats 3200000 in
theorem aA2(base x:Nat)(kv pv av:Value)(ms:List Nat)(pb:List UInt8)(A0:List Int)(B:Int)(w:World)(hX:XAt base w x kv ms pv pb)(hms:wY ms)(he:EnvFrom base w)(hv:Lies w av (ints A0))(hal:A0.length<=10000000)(hB0:-9223372036854775808<=B)(hB2:B<=9223372036854775807)(hpb:pb.length<=140000000000000):
  Calls Tryz.prog 18 #[.pointer (some ⟨x,0,none⟩),av,.int .i64 B] w fun e w'=>aI9 base x kv ms pv pb A0 B w e w':=by
 obtain⟨vo,vc,hvs,-⟩:=cT hv
 obtain⟨w0,hw0⟩:∃w0,w0=w.alloc bA:=⟨_,rfl⟩
 have hb0:Below w.heap.size w w0:=by rw[hw0];exact(Below.refl _ _).alloc (Nat.le_refl _) _
 have hz0:w0.heap.size=w.heap.size+1:=by rw[hw0];simp
 have hbx:w0.heap[w.heap.size]?=some bA:=by rw[hw0];exact heap_alloc_new w bA
 have hX0:=hX.below hb0
 have hv0:=hv.below hb0
 have hxw:=aA hX.block
 have hbase:base<=w.heap.size:=by have:=hX.le;omega
 have he0:=he.below (hb0.mono hbase)
 have HF:=aq (fK av A0 w0 hal hv0)
 obtain⟨ko,kc,hks⟩:=aC hX.row
 have hc0:w0.cell? ⟨x,0,none⟩=some kv:=by simp[World.cell?,hX0.block]
 have hx0:=aA hX0.block
 obtain⟨⟨q0,q1,q2,q3⟩,⟨p0,p1,p2,p3⟩,hfin⟩:=dJ hbx
 have HNEW:=aq (aO9 w0)
 have HFIN:Hid (∀wx kind vm vc cf,SolveRes base x kv ms pv pb (once A0) B w0 kind vm vc cf wx->wx.heap[w.heap.size]?=some bA/\SolveRes base x kv ms pv pb (once A0) B w kind vm vc cf (cQ wx w.heap.size (.int .i64 kind) vm vc (.int .i64 cf))):=aq (fun wx kind vm vc cf h=>h.box hX hw0)
 have HE1:=aq (hfin (.int .i64 0) (.slice none 0 0) (.slice none 0 0) (.int .i64 0))
 have HB0:=aq hb0
 subst hvs hks
 clear hX hv hfin hb0
 unfold bA at hw0
 go_enter Tryz.func18,Tryz.ntmps18
 go_wp2_with fail
 rw[←hw0]
 clear hw0
 refine(dz HF).mono ?_
 rintro e w1 ⟨rfl,⟨h1,rfl⟩|⟨h1,rfl⟩⟩
 ·have HA:=aq h1
  clear h1 HNEW HFIN HF
  go_wp2
  obtain⟨⟨e0,e1,e2,e3⟩,ho⟩:=dz HE1
  unfold cQ at e0 e1 e2 e3 ho
  refine bodyPost_ret (v:=.tuple #[.agg #[.int .i64 0,.slice none 0 0,.slice none 0 0,.int .i64 0],.int .i64 1]) (by simp[results,Tryz.results18,go_sem,e0,e1,e2,e3]) rfl ?_
  exact .inl ⟨dz HA,rfl,(dz HB0).trans (ho.below (fun k hk=>by omega) (by omega))⟩
 ·have HA:=aq h1
  clear h1 HF
  by_cases hneg:B<0
  ·clear HNEW HFIN
   go_wp2
   obtain⟨⟨e0,e1,e2,e3⟩,ho⟩:=dz HE1
   unfold cQ at e0 e1 e2 e3 ho
   refine bodyPost_ret (v:=.tuple #[.agg #[.int .i64 0,.slice none 0 0,.slice none 0 0,.int .i64 0],.int .i64 3]) (by simp[results,Tryz.results18,go_sem,e0,e1,e2,e3]) rfl ?_
   exact .inr (.inl ⟨dz HA,hneg,rfl,(dz HB0).trans (ho.below (fun k hk=>by omega) (by omega))⟩)
  ·have hnn:0<=B:=by omega
   clear HE1
   go_wp2_with fail
   refine(dz HNEW).mono ?_
   rintro e wN hN
   obtain⟨s,qq,qb,wl,fa,al,co,pl,rfl,hS,hbN⟩:=hN
   obtain⟨m0,hm0⟩:∃m0,m0=eB s qq qb wl fa al co pl:=⟨_,rfl⟩
   have hms0:m0.s=s:=by rw[hm0];rfl
   have HLD0:Hid (Loaded w1.heap.size wN m0 ms 0 wN):=aq (by
    rw[hm0]
    exact⟨_,[],_,[],AAt.init hS,rfl,rfl⟩)
   rw[←hm0]at hS
   have hbs:=hbN.size
   have HLOW:Hid (∀k wr,Loaded w1.heap.size wN m0 ms k wr->Below w1.heap.size w1 wr/\EnvFrom base wr):=aq (by
    rintro k wr ⟨m,cls,wat,tr,h,-⟩
    have:=hbN.trans (h.mu.lowly hS hbs)
    exact⟨this,he0.below (this.mono (by omega))⟩)
   have hcN:wN.cell? ⟨x,0,none⟩=some (.slice ko ms.length kc):=(hbN.cell (p:=⟨x,0,none⟩) hx0).trans hc0
   have hxN:x<wN.heap.size:=by omega
   have HEL:Hid (∀k (h:k<ms.length) wr,Below w1.heap.size w1 wr->∃g,ko=some ⟨g,0,none⟩/\wr.cell? ⟨g,k,none⟩=some (.int .u32 (ms[k]:Nat))):=aq (by
    intro k hk wr hb
    rcases hX0.row.2 with⟨-,h0⟩|⟨g,cap,cur,hv,hbg,hg,-⟩
    ·omega
    ·cases hv
     refine⟨g,rfl,(hb.cell (p:=⟨g,k,none⟩) (aA hg)).trans ?_⟩
     have:=hX0.row.cells (g:=g) rfl k (.int .u32 (ms[k]:Nat)) (by simp[us,hk])
     rwa [Addr.add_lit,Nat.zero_add]at this)
   have HNX:Hid (∀k (h:k<ms.length) wr,Loaded w1.heap.size wN m0 ms k wr->Calls Tryz.prog 41 #[.int .u32 (ms[k]:Nat)] wr fun e w1'=>∃ao n c,e=.returned (.slice ao n c)/\Calls Tryz.prog 40 #[.pointer (some ⟨s,0,none⟩),.slice ao n c] w1' fun e w2=>e=.returned (.tuple #[])/\Loaded w1.heap.size wN m0 ms (k+1) w2):=aq (fun k hk wr hL=>by
    have:=hL.next hk hms hbs (dz HLOW k wr hL).2.at
    rw[hms0]at this
    exact this)
   have HRUN:Hid (∀wr,Loaded w1.heap.size wN m0 ms ms.length wr->Calls Tryz.prog 42 #[.pointer (some ⟨s,0,none⟩),.slice vo A0.length vc,.int .i64 B] wr fun e w'=>∃v,e=.returned v/\Below w1.heap.size w1 w'/\∃kind ao n c ao2 n2 c2 cf spo spn spc,v=.agg #[.int .i64 kind,.slice ao n c,.slice ao2 n2 c2,.int .i64 cf]/\(∀wz,Below w'.heap.size w' wz->Calls Tryz.prog 44 #[.pointer (some ⟨s,0,none⟩)] wz fun e w2=>e=.returned (.slice spo spn spc)/\w2=wz)/\
   ∀wz,Below w'.heap.size w' wz->Calls Tryz.prog 43 #[.pointer (some ⟨x,0,none⟩),.slice spo spn spc,.agg #[.int .i64 kind,.slice ao n c,.slice ao2 n2 c2,.int .i64 cf]] wz fun e w2=>e=.returned (.tuple #[])/\SolveRes base x (.slice ko ms.length kc) ms pv pb (once A0) B w1 kind (.slice ao n c) (.slice ao2 n2 c2) cf w2/\(w'.heap.size<wz.heap.size->∀j,w2.cell? ⟨w'.heap.size,j,none⟩=wz.cell? ⟨w'.heap.size,j,none⟩)):=aq (fun wr hL=>by
    have hlits:∀y,y∈A0->y≠0/\-12<=y/\y<=12:=fun y hy=>by
     have:=dz HA
     rw[bD,List.all_eq_true]at this
     exact cJ.1 (this y hy)
    have:=hL.run hms hbs (hv0.below (dz HLOW _ wr hL).1) hlits hal hnn hB2
    rw[hms0]at this
    refine this.mono ?_
    rintro e w' ⟨v,rfl,hR⟩
    have hra:=aN7 hX0 rfl hbN hS hbs (fun y hy=>hlits y ((fH A0 y).1 hy)) (by have:=lG A0;omega) he0 hpb hR
    rw[hms0]at hra
    obtain⟨hbr,kind,ao,n,c,ao2,n2,c2,cf,spo,spn,spc,hve,hst,hwd⟩:=hra
    refine⟨v,rfl,hbr,kind,ao,n,c,ao2,n2,c2,cf,spo,spn,spc,hve,hst,fun wz hbz=>(hwd wz hbz).mono (fun e w2 h=>⟨h.1,h.2.1,fun hlt j=>World.cell?_of_block (a:=⟨w'.heap.size,j,none⟩) (h.2.2.block w'.heap.size hlt (fun hf=>?_))⟩)⟩
    have hsz:=hbr.size
    rcases hf with e|hf
    ·omega
    ·have:=(hX0.prow.lt _ hf).2;omega)
   have hml:=hms.2.2
   clear hm0 hS hX0 hv0 he0 hms hms0 HNEW
   go_wp2_with fail
   go_loopw [31] (fun r wr=>∃(k:Nat),k<=ms.length/\r=.int .i64 k/\Hid (Loaded w1.heap.size wN m0 ms k wr)) (fun r _=>ms.length-(intOf r).toNat)
   case atStart=>exact⟨0,Nat.zero_le _,rfl,HLD0⟩
   case round=>
    obtain⟨k,hk,rfl,HL⟩:=hrel
    by_cases hlt:k<ms.length
    ·obtain⟨g,rfl,hcg⟩:=dz HEL k hlt wr (dz HLOW k wr (dz HL)).1
     have HN:=aq (dz HNX k hlt wr (dz HL))
     generalize ms[k]=mk at *
     clear HEL HNX HRUN HFIN HL
     go_wp2_with fail
     refine(dz HN).mono ?_
     rintro e w2 ⟨ao,n,c,rfl,hadd⟩
     have HAD:=aq hadd
     clear hadd HN
     go_wp2_with fail
     refine(dz HAD).mono ?_
     rintro e w3 ⟨rfl,hL3⟩
     have HL3:=aq hL3
     clear hL3 HAD
     go_wp2_with fail
     go_roundw
     case rel=>exact⟨k+1,by omega,by go_num,HL3⟩
     case measure=>simp[intOf];omega
    ·have HRR:=aq (dz HRUN wr (by have:=dz HL;rwa [show k=ms.length from by omega]at this))
     clear HEL HNX HRUN HL HLD0
     go_wp2_with fail
     refine(dz HRR).mono ?_
     rintro e w2 ⟨v,rfl,hb2,kind,ao,n,c,ao2,n2,c2,cf,spo,spn,spc,rfl,hsteps,hwd⟩
     have HST:=aq hsteps
     have HWD:=aq hwd
     clear hsteps hwd HRR HLOW hbN hcN hxN
     go_wp2_with fail
     have hb3:Below w2.heap.size w2 (w2.alloc (.cells #[.int .i64 kind,.slice ao n c,.slice ao2 n2 c2,.int .i64 cf] 34)):=(Below.refl _ _).alloc (Nat.le_refl _) _
     have hbox3:=heap_alloc_new w2 (.cells #[.int .i64 kind,.slice ao n c,.slice ao2 n2 c2,.int .i64 cf] 34)
     have hz3:(w2.alloc (.cells #[.int .i64 kind,.slice ao n c,.slice ao2 n2 c2,.int .i64 cf] 34)).heap.size=w2.heap.size+1:=by simp
     generalize w2.alloc (.cells #[.int .i64 kind,.slice ao n c,.slice ao2 n2 c2,.int .i64 cf] 34)=w3 at *
     have c30:w3.cell? ⟨w2.heap.size,0,none⟩=some (.int .i64 kind):=by simp[World.cell?,hbox3]
     have c31:w3.cell? ⟨w2.heap.size,1,none⟩=some (.slice ao n c):=by simp[World.cell?,hbox3]
     have c32:w3.cell? ⟨w2.heap.size,2,none⟩=some (.slice ao2 n2 c2):=by simp[World.cell?,hbox3]
     have c33:w3.cell? ⟨w2.heap.size,3,none⟩=some (.int .i64 cf):=by simp[World.cell?,hbox3]
     have HST3:Hid (∀wz,Below w3.heap.size w3 wz->Calls Tryz.prog 44 #[.pointer (some ⟨s,0,none⟩)] wz fun e w'=>e=.returned (.slice spo spn spc)/\w'=wz):=aq (fun wz hbz=>dz HST wz (hb3.trans (hbz.mono (by omega))))
     have HWD3:Hid (∀wz,Below w3.heap.size w3 wz->Calls Tryz.prog 43 #[.pointer (some ⟨x,0,none⟩),.slice spo spn spc,.agg #[.int .i64 kind,.slice ao n c,.slice ao2 n2 c2,.int .i64 cf]] wz fun e w'=>e=.returned (.tuple #[])/\SolveRes base x (.slice ko ms.length kc) ms pv pb (once A0) B w1 kind (.slice ao n c) (.slice ao2 n2 c2) cf w'/\w'.cell? ⟨w2.heap.size,0,none⟩=some (.int .i64 kind)/\w'.cell? ⟨w2.heap.size,1,none⟩=some (.slice ao n c)/\w'.cell? ⟨w2.heap.size,2,none⟩=some (.slice ao2 n2 c2)/\w'.cell? ⟨w2.heap.size,3,none⟩=some (.int .i64 cf)):=aq (fun wz hbz=>(dz HWD wz (hb3.trans (hbz.mono (by omega)))).mono (fun e w' h=>by
      have hs:=hbz.size
      have hcc:∀j,w'.cell? ⟨w2.heap.size,j,none⟩=w3.cell? ⟨w2.heap.size,j,none⟩:=fun j=>(h.2.2 (by omega) j).trans (hbz.cell (p:=⟨w2.heap.size,j,none⟩) (by show w2.heap.size<w3.heap.size;omega))
      exact⟨h.1,h.2.1,by rw[hcc];exact c30,by rw[hcc];exact c31,by rw[hcc];exact c32,by rw[hcc];exact c33⟩))
     clear HST HWD hbox3
     go_region_with first|(go_at_call 44;refine(dz HST3 _ (by go_grown)).mono ?_;rintro e w4 ⟨rfl,rfl⟩)|(go_at_call 43;refine(dz HWD3 _ (by go_grown)).mono ?_;rintro e w5 ⟨rfl,hres,r0,r1,r2,r3⟩)
     all_goals (
      obtain⟨hzz,hfinal⟩:=dz HFIN _ _ _ _ _ hres
      obtain⟨⟨y0,y1,y2,y3⟩,⟨t0,t1,t2,t3⟩,hbf⟩:=dJ hzz
      obtain⟨⟨e0,e1,e2,e3⟩,-⟩:=hbf (.int .i64 kind) (.slice ao n c) (.slice ao2 n2 c2) (.int .i64 cf)
      have HFI:=aq hfinal
      have HE4:=aq (And.intro e0 (And.intro e1 (And.intro e2 e3)))
      clear hfinal e0 e1 e2 e3 hbf hres hzz HST3 HWD3 HFIN
      go_wp2
      obtain⟨e0,e1,e2,e3⟩:=dz HE4
      unfold cQ at e0 e1 e2 e3
      refine bodyPost_ret (v:=.tuple #[.agg #[.int .i64 kind,.slice ao n c,.slice ao2 n2 c2,.int .i64 cf],.int .i64 0]) (by simp[results,Tryz.results18,go_sem,e0,e1,e2,e3]) rfl ?_
      exact .inr (.inr ⟨dz HA,hnn,kind,_,_,cf,rfl,dz HFI⟩))
end Go.Proofs.YtekkkoipcghlmaaGreatDoor
namespace Go.Proofs.YtekkkoipcghlmaaGreatDoor
open Go.RowKit
section
variable {P:Program}
theorem nM{ao:Option Addr}{cap:Nat}(t ty e:TypeId)(w:World){z:Value}{bytes:Nat}(ht:P.underlying t=some (.slice e))(hinfo:(P.info? e).map (fun i=>(i.zero,i.size,i.bytes))=some (some z,1,bytes)):
  (Builtin.append_ #[t,t] ty #[.slice none 0 0,.slice ao 0 cap]).run P w=.ok (.slice none 0 0) w:=by
 obtain⟨i,hi,hz0,hz1,hz2⟩:=info_parts hinfo
 cases ao<;>simp[Builtin.append_,run_underlying ht,sizeOf,typeInfo,hi,Builtin.lenOf,Builtin.firstCells,loadCells,loadCellsFrom]
theorem vT{ops:Array Oper}{rest:List Oper}{o:Oper}{a:Act}{Q:Exit->Act->World->Prop}{w0 wr:World}{base bytes:Nat}{z lv:Value}{vs:List Value}
  (hgd:o.guard=none) (s x:Operand) (t e:TypeId)
  (ho:o.op=.call { callee:=.builtin .append,args:=#[s,x],argTypes:=#[t,t] })
  (ht:P.underlying t=some (.slice e)) (hinfo:(P.info? e).map (fun i=>(i.zero,i.size,i.bytes))=some (some z,1,bytes)) (hzs:z.cells.size=1) (hby:bytes<=24)
  (hs:a.eval s=.slice none 0 0) (hx:a.eval x=lv) (hl:Lies wr lv vs) (h1:∀u∈vs,u.oneCell'=true)
  (hn:vs.length<=5000000000000) (hb:base<=w0.heap.size) (hbel:Below base w0 wr)
  (h:∀v' w',w'.ownsRow base e 1 v' vs.length vs->Below base w0 w'->Below wr.heap.size wr w'->wpList P ops Q rest (a.put o.dst v') w'):
  wpList P ops Q (o::rest) a wr:=by
 have hsz:=hbel.size
 rcases hl with⟨h0,ao,cap,rfl⟩|⟨b,off,cap,hp,rfl,hbb,hc⟩
 ·subst h0
  refine wpList_plain hgd fun K hK=>?_
  have hr:=nM (P:=P) (ao:=ao) (cap:=cap) t o.type e wr ht hinfo
  unfold Oper.wp execOp
  simp only[ho,resolve,invoke,builtin,Sem.run_bind,Sem.run_pure,Result.andThen_ok,List.map_toArray,List.map_cons,List.map_nil,hs,hx,hr]
  exact hK _ _ (h _ _ (World.ownsRow_nil _ _ _ _) hbel (Below.refl _ _))
 ·obtain⟨i0,hi,hz0,hz1,hz2⟩:=info_parts hinfo
  have hnb:(0+vs.length)*bytes<=140737488355328:=Nat.le_trans (Nat.mul_le_mul (show 0+vs.length<=5000000000000 by omega) hby) (by omega)
  refine wpList_append_own _ hgd s x t ho base e i0 z 1 bytes ht hi hz0 hz1 hz2 hzs (by decide) (.slice none 0 0) 0 [] hs (World.ownsRow_nil _ _ _ _) ⟨b,off,none⟩ vs.length cap vs hx (by omega) (fun j u hu=>by rw[Addr.add_lit];exact hc j u hu) h1 (by unfold maxLen;omega) hnb (by omega) ?_
  intro v' w' ho' hg _
  have hbw:∀{n:Nat} {v0:World},n<=v0.heap.size->Below n v0 wr->Below n v0 w':=fun hle hbl=>hbl.grown hg (by have:=hbl.size;omega) (fun j hj=>by cases hj)
  exact h v' w' (by simpa using ho') (hbw hb hbel) (hbw (Nat.le_refl _) (Below.refl _ _))
end
end Go.Proofs.YtekkkoipcghlmaaGreatDoor
namespace Go.Proofs.YtekkkoipcghlmaaGreatDoor
open Go.RowKit
theorem wE{x:Int}(h:x≠0):Sp.litAt (Sp.bitIx x)=x:=by
 unfold Sp.litAt Sp.bitIx
 by_cases hp:0<x
 ·rw[if_pos hp,if_pos (by omega)];omega
 ·rw[if_neg hp,if_neg (by omega)];omega
theorem aI4{c:List Int}(hc:∀x,x∈c->x≠0){i:Nat}(h:(Sp.maskOf c).testBit i=true):Sp.litAt i∈c:=by
 unfold Sp.maskOf at h
 rw[Sp.maskFrom_testBit]at h
 simp only[Nat.zero_testBit,Bool.false_or,List.any_eq_true]at h
 obtain⟨x,hx,hi⟩:=h
 have:Sp.bitIx x=i:=by simpa using hi
 rw[←this,wE (hc x hx)]
 exact hx
theorem mR{b:Nat}{c:List Int}(hc:∀x,x∈c->x≠0):cU b (Sp.maskOf c)↔bL b c=true:=by
 refine⟨fun h=>?_,nR hc⟩
 obtain⟨i,h1,h2⟩:=h
 exact jX.2 ⟨_,aI4 hc h1,h2⟩
end Go.Proofs.YtekkkoipcghlmaaGreatDoor
