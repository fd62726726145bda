import Derived.Test.YtekkkoipcghlmaaGreatDoorU31
import Derived.Test.YtekkkoipcghlmaaGreatDoorU33
set_option linter.all false
namespace Go.Proofs.YtekkkoipcghlmaaGreatDoor
open Go.RowKit
attribute [local go_sem ↓] Go.wp_at_zero Go.wp_at_succ
def EnvFrom(base:Nat)(w:World):Prop:=∃w0,EnvT w0/\w0.heap.size<=base/\Below w0.heap.size w0 w
theorem EnvFrom.at{base:Nat}{w:World}(h:EnvFrom base w):EnvT w:=by
 obtain⟨w0,h1,-,h3⟩:=h
 exact h1.below h3
theorem EnvFrom.below{base:Nat}{w w':World}(h:EnvFrom base w)(hb:Below base w w'):EnvFrom base w':=by
 obtain⟨w0,h1,h2,h3⟩:=h
 exact⟨w0,h1,h2,h3.trans (hb.mono h2)⟩
def WD(base:Nat)(w:World)(x:Nat)(kv:Value)(ms:List Nat)(pv:Value)(pb T:List UInt8)(wr:World)(pv':Value):Prop:=
 XAt base wr x kv ms pv' (pb++T)/\Only (XF x pv) w wr/\∀g,pv'.ownBlock=some g->pv.ownBlock=some g∨w.heap.size<=g
section
variable {base x:Nat}{w wr w1 w2:World}{kv pv pv' v':Value}{ms:List Nat}{pb T s:List UInt8}
theorem WD.init(h:XAt base w x kv ms pv pb):WD base w x kv ms pv pb [] w pv:=⟨by rw[List.append_nil];exact h,Only.refl _ _,fun g hg=>.inl hg⟩
theorem WD.below(h:WD base w x kv ms pv pb T wr pv')(hb:Below wr.heap.size wr w1):WD base w x kv ms pv pb T w1 pv':=⟨h.1.below hb,h.2.1.trans (Only.of_below _ hb),h.2.2⟩
theorem WD.cell(h:WD base w x kv ms pv pb T wr pv'):wr.cell? ⟨x,2,none⟩=some pv':=by simp[World.cell?,h.1.block]
theorem WD.free(h:WD base w x kv ms pv pb T wr pv'):wr.frozen? ⟨x,2,none⟩=false:=frozen_of_row wr _ _ _ _ h.1.block
theorem WD.lt(h:WD base w x kv ms pv pb T wr pv'):x<wr.heap.size:=aA h.1.block
theorem WD.grown(h:WD base w x kv ms pv pb T wr pv')(hg:wr.grownBy w2 pv'.ownBlock):w2.heap[x]?=some (.cells #[kv,.int .i64 (aW ms:Int),pv'] 77 (0,0)):=by
 have hne:pv'.ownBlock≠some x:=aZ h.1.prow h.1.block (by decide)
 rw[hg.block x h.lt (fun e=>hne e.symm)]
 exact h.1.block
theorem WD.cell2(h:WD base w x kv ms pv pb T wr pv')(hg:wr.grownBy w2 pv'.ownBlock):w2.cell? ⟨x,2,none⟩=some pv':=by simp[World.cell?,h.grown hg]
theorem WD.free2(h:WD base w x kv ms pv pb T wr pv')(hg:wr.grownBy w2 pv'.ownBlock):w2.frozen? ⟨x,2,none⟩=false:=frozen_of_row w2 _ _ _ _ (h.grown hg)
theorem WD.add(h:WD base w x kv ms pv pb T wr pv')(hown:w2.ownsRow base 5 1 v' (pb++T++s).length (dX (pb++T++s)))(hg:wr.grownBy w2 pv'.ownBlock)(hl:∀q,v'.ownBlock=some q->pv'.ownBlock=some q∨wr.heap.size<=q)(hxw:x<w.heap.size):WD base w x kv ms pv pb (T++s) (w2.setCell ⟨x,2,none⟩ v') v':=by
 have hb:=h.grown hg
 have h0:=heap_setCell_same w2 x 2 _ _ v' hb
 have hvx:v'.ownBlock≠some x:=aZ hown hb (by decide)
 have hkx:kv.ownBlock≠some x:=aZ h.1.row h.1.block (by decide)
 have hws:=h.2.1.size
 have hF:∀k,pv'.ownBlock=some k->k<w.heap.size->XF x pv k:=fun k hk hlt=>by
  rcases h.2.2 k hk with h1|h1
  ·exact .inr h1
  ·omega
 refine⟨⟨by rw[h0];rfl,h.1.le,?_,?_⟩,?_,fun g hg'=>?_⟩
 ·exact ownsRow_setCell_other (h.1.row.kept hg (eY (by decide) h.1.row h.1.prow)) (a:=⟨x,2,none⟩) hkx _
 ·have:=ownsRow_setCell_other hown (a:=⟨x,2,none⟩) hvx v'
  rwa [List.append_assoc]at this
 ·refine⟨hg.os.trans h.2.1.os,hg.tape.trans h.2.1.tape,hg.output.trans h.2.1.output,by simp;have:=hg.size;omega,fun k hk hn=>?_⟩
  rw[Below.heap_setCell _ _ _ _ (fun e=>hn (.inl e)),hg.block k (by omega) (fun e=>hn (hF k e.symm hk)),h.2.1.block k hk hn]
 ·rcases hl g hg' with h1|h1
  ·exact h.2.2 g h1
  ·exact .inr (Nat.le_trans hws h1)
end
def aP(S:List (Bool×List Int)):List UInt8:=S.flatMap (fun s=>eA s.1 s.2)
theorem oM(S:List (Bool×List Int))(s:Bool×List Int):aP (S++[s])=aP S++eA s.1 s.2:=by simp[aP]
theorem lJ(g:Bool)(l:List Int):(eA g l).length<=100:=by
 have h1:=dA (Sp.litsOf (Sp.maskOf l))
 have h2:=eG (Sp.maskOf l)
 unfold eA Sp.told
 cases g<;>simp<;>omega
theorem gE(S:List (Bool×List Int)):(aP S).length<=100*S.length:=by
 induction S with
 | nil=>simp[aP]
 | cons s S ih=>
  have:=lJ s.1 s.2
  unfold aP at *
  simp only[List.flatMap_cons,List.length_append,List.length_cons]
  omega
structure StepsIn(b0:Nat)(w:World)(sp:Value)(S:List (Bool×List Int)):Prop where
 row:∃ao cap,sp=.slice ao S.length cap/\(0<S.length->∃g,ao=some ⟨g,0,none⟩/\b0<=g/\g<w.heap.size/\∀k (h:k<S.length),∃v,w.cell? ⟨g,2*k,none⟩=some v/\w.cell? ⟨g,2*k+1,none⟩=some (.bool S[k].1)/\Lies w v (ints S[k].2)/\(∀q,v.ownBlock=some q->b0<=q)/\∃vo vc,v=.slice vo S[k].2.length vc)
 wf:∀s,s∈S->aM s.2
theorem StepsIn.of{base:Nat}{w:World}{m:Mem}{S:List (Bool×List Int)}(h:StepsAt base w m S)(hS:SAt base w m)(hwf:∀s,s∈S->aM s.2):StepsIn base w m.sp S:=by
 refine⟨?_,hwf⟩
 obtain⟨vs,h1,h2,h3⟩:=h.vs
 have hrow:w.ownsRow base 131 2 m.sp m.nsteps m.steps:=hS.pack.rows 12 _ rfl
 have hn:=h.n
 rw[hn]at hrow
 have hcells:∀k (hk:k<S.length),m.steps[2*k]?=vs[k]?/\m.steps[2*k+1]?=some (.bool S[k].1):=by
  rw[h2]
  clear h2 h3 hrow hn h hS hwf
  induction S generalizing vs with
  | nil=>intro k hk;simp at hk
  | cons s S ih=>
   cases vs with
   | nil=>simp at h1
   | cons v vs=>
    intro k hk
    cases k with
    | zero=>simp
    | succ k=>
     have:=ih vs (by simpa using h1) k (by simpa using hk)
     simp only[List.zip_cons_cons,List.flatMap_cons,List.getElem_cons_succ,List.getElem?_cons_succ]
     rw[show 2*(k+1)=2*k+2 from by omega,show 2*k+2+1=(2*k+1)+2 from by omega]
     simpa using this
 rcases hrow.2 with⟨hv,h0⟩|⟨g,cap,cur,hv,hbg,hg,hle,hcm,hcs,htake⟩
 ·exact⟨none,0,by rw[hv,←h0],fun h=>absurd h (by omega)⟩
 ·refine⟨some ⟨g,0,none⟩,cap,hv,fun _=>⟨g,rfl,hbg,aA hg,fun k hk=>?_⟩⟩
  obtain⟨c1,c2⟩:=hcells k hk
  have hk':k<vs.length:=by omega
  rw[List.getElem?_eq_getElem hk']at c1
  have hca:∀j u,m.steps[j]?=some u->w.cell? ⟨g,j,none⟩=some u:=fun j u hu=>by
   have:=hrow.cells (g:=g) (by rw[hv];rfl) j u hu
   rwa [Addr.add_lit,Nat.zero_add]at this
  have hst:=h3 k vs[k] S[k] (List.getElem?_eq_getElem hk') (List.getElem?_eq_getElem hk)
  obtain⟨vo,vc,hsh,-⟩:=cT hst.lies
  exact⟨vs[k],hca _ _ c1,hca _ _ c2,hst.lies,hst.low,vo,vc,hsh⟩
theorem lL(m:Nat):aK m<2 ^ 24:=by
 unfold aK
 have h1:m &&& 5592405<=5592405:=Nat.and_le_right
 have h2:m / 2 &&& 5592405<=5592405:=Nat.and_le_right
 exact Nat.or_lt_two_pow (by omega) (by omega)
theorem iT{w:World}{base:Nat}{e:TypeId}{v:Value}{n:Nat}{xs:List Value}(h:w.ownsRow base e 1 v n xs):∃ao k c,v=.slice ao k c:=by
 obtain⟨a,c,h⟩:=aC h
 exact⟨a,_,c,h⟩
theorem qG{F:Nat->Prop}{w w':World}{v:Value}{vs:List Value}(h:Lies w v vs)(ho:Only F w w')(hn:∀k,v.ownBlock=some k->¬F k):Lies w' v vs:=by
 rcases h with h|⟨b,off,cap,hp,e,hb,hc⟩
 ·exact .inl h
 ·refine .inr ⟨b,off,cap,hp,e,Nat.lt_of_lt_of_le hb ho.size,fun j u hu=>?_⟩
  rw[←hc j u hu]
  exact World.cell?_of_block (ho.block b hb (hn b (by rw[e];rfl)))
theorem WD.from{base x:Nat}{w w1 wr:World}{kv pv pv':Value}{ms:List Nat}{pb T:List UInt8}(h:WD base w1 x kv ms pv pb T wr pv')(hb:Below w.heap.size w w1):WD base w x kv ms pv pb T wr pv':=
 ⟨h.1,(Only.of_below _ hb).trans h.2.1,fun g hg=>by
  rcases h.2.2 g hg with h1|h1
  ·exact .inl h1
  ·exact .inr (Nat.le_trans hb.size h1)⟩
theorem WD.env{base x:Nat}{w wr:World}{kv pv pv':Value}{ms:List Nat}{pb T:List UInt8}(h:WD base w x kv ms pv pb T wr pv')(hX:XAt base w x kv ms pv pb)(he:EnvFrom base w):EnvFrom base wr:=
 he.below (h.2.1.below (fun k hk=>by
  rcases hk with rfl|hk
  ·exact hX.le
  ·exact(hX.prow.lt k hk).1) (Nat.le_trans hX.le (Nat.le_of_lt (aA hX.block))))
def WMid(base:Nat)(w:World)(x:Nat)(kv:Value)(ms:List Nat)(pv:Value)(pb T:List UInt8)(w2:World)(u v':Value):Prop:=w2.cell? ⟨x,2,none⟩=some u/\w2.frozen? ⟨x,2,none⟩=false/\WD base w x kv ms pv pb T (w2.setCell ⟨x,2,none⟩ v') v'
theorem WD.mid{base x:Nat}{w wr wz w2:World}{kv pv pv' v':Value}{ms:List Nat}{pb T s:List UInt8}(h:WD base w x kv ms pv pb T wr pv')(hb:Below wr.heap.size wr wz)(hown:w2.ownsRow base 5 1 v' (pb++T++s).length (dX (pb++T++s)))(hg:wz.grownBy w2 pv'.ownBlock)(hl:∀q,v'.ownBlock=some q->pv'.ownBlock=some q∨wz.heap.size<=q)(hxw:x<w.heap.size):WMid base w x kv ms pv pb (T++s) w2 pv' v':=
 ⟨(h.below hb).cell2 hg,(h.below hb).free2 hg,(h.below hb).add hown hg hl hxw⟩
set_option maxRecDepth 100000 in
set_option maxHeartbeats 1600000 in
theorem qB(base b0 x:Nat)(kv pv sp vm vc:Value)(ms:List Nat)(pb:List UInt8)(S:List (Bool×List Int))(kind cf:Int)(core:List Int)(w:World)(hX:XAt base w x kv ms pv pb)(hS:StepsIn b0 w sp S)(hvm:∃ao n c,vm=.slice ao n c)(hvc:Lies w vc (ints core))(hcore:∀y,y∈core->y≠0/\-12<=y/\y<=12)(hcl:core.length<=10000000)(hcb:∀q,vc.ownBlock=some q->b0<=q)(hxb:x<b0)(hpvb:∀q,pv.ownBlock=some q->q<b0)
  (hSl:S.length<=10000000) (hlen:pb.length+100*S.length+100<=140737488355328) (he:EnvFrom base w):
  Calls Tryz.prog 43 #[.pointer (some ⟨x,0,none⟩),sp,.agg #[.int .i64 kind,vm,vc,.int .i64 cf]] w fun e w'=>e=.returned (.tuple #[])/\∃pv',WD base w x kv ms pv pb (aP S++if kind=2 then Sp.told (Sp.litsOf (aK (Sp.maskOf core)))else []) w' pv':=by
 obtain⟨spo,spc,rfl,hsp⟩:=hS.row
 obtain⟨mo,mn,mc,rfl⟩:=hvm
 obtain⟨co,cc,hcs,-⟩:=cT hvc
 subst hcs
 have hxw:=aA hX.block
 have hb1:Below w.heap.size w (w.alloc (.cells #[.int .i64 kind,.slice mo mn mc,.slice co core.length cc,.int .i64 cf] 34)):=(Below.refl _ _).alloc (Nat.le_refl _) _
 have hz1:(w.alloc (.cells #[.int .i64 kind,.slice mo mn mc,.slice co core.length cc,.int .i64 cf] 34)).heap.size=w.heap.size+1:=by simp
 have hbox:=heap_alloc_new w (.cells #[.int .i64 kind,.slice mo mn mc,.slice co core.length cc,.int .i64 cf] 34)
 go_enter Tryz.func43,Tryz.ntmps43
 go_wp2_with fail
 generalize w.alloc (.cells #[.int .i64 kind,.slice mo mn mc,.slice co core.length cc,.int .i64 cf] 34)=w1 at *
 have hX1:=hX.below hb1
 have he1:=he.below (hb1.mono (Nat.le_trans hX.le (Nat.le_of_lt hxw)))
 have hvc1:=hvc.below hb1
 have hnF:∀k,b0<=k->¬XF x pv k:=fun k hk hf=>by
  rcases hf with rfl|hf
  ·omega
  ·have:=hpvb k hf;omega
 have hnB:¬XF x pv w.heap.size:=fun hf=>by
  rcases hf with h|hf
  ·omega
  ·have:=(hX.prow.lt _ hf).2;omega
 have HSP:Hid (∀k (h:k<S.length) wr T pv',WD base w1 x kv ms pv pb T wr pv'->∃g v vo vc,spo=some ⟨g,0,none⟩/\wr.cell? ⟨g,2*k,none⟩=some v/\wr.cell? ⟨g,2*k+1,none⟩=some (.bool S[k].1)/\v=.slice vo S[k].2.length vc/\∀wz,Below wr.heap.size wr wz->Calls Tryz.prog 83 #[.agg #[v,.bool S[k].1]] wz fun e w'=>e=.returned (.string (bs (eA S[k].1 S[k].2)))/\Below wz.heap.size wz w'):=aq (by
  intro k hk wr T pv' hW
  obtain⟨g,hg,hbg,hgl,hc⟩:=hsp (by omega)
  obtain⟨v,c1,c2,hl,hlow,vo,vc,hv⟩:=hc k hk
  have hg1:g<w1.heap.size:=by omega
  have hgc:∀j,wr.cell? ⟨g,j,none⟩=w.cell? ⟨g,j,none⟩:=fun j=>(World.cell?_of_block (a:=⟨g,j,none⟩) (hW.2.1.block g hg1 (hnF g hbg))).trans (hb1.cell (p:=⟨g,j,none⟩) hgl)
  refine⟨g,v,vo,vc,hg,(hgc _).trans c1,(hgc _).trans c2,hv,fun wz hbz=>?_⟩
  have hl2:=qG (hl.below hb1) hW.2.1 (fun q hq=>hnF q (hlow q hq))
  have hwf:=hS.wf S[k] (List.getElem_mem hk)
  have hln:=gF hwf
  exact sM v S[k].1 S[k].2 wz (by omega) (fun y hy=>hwf.2 y hy) (hl2.below hbz) ((hW.env hX1 he1).below (hbz.mono (by have:=hW.1.le;have:=hW.lt;omega))).at)
 have hx1:x<w1.heap.size:=by omega
 have HCO:Hid (∀wr T pv',WD base w1 x kv ms pv pb T wr pv'->(∀j,wr.cell? ⟨w.heap.size,j,none⟩=w1.cell? ⟨w.heap.size,j,none⟩)/\w.heap.size<wr.heap.size/\Lies wr (.slice co core.length cc) (ints core)/\EnvFrom base wr):=aq (fun wr T pv' hW=>⟨fun j=>World.cell?_of_block (a:=⟨w.heap.size,j,none⟩) (hW.2.1.block w.heap.size (by omega) hnB),Nat.lt_of_lt_of_le (by omega) hW.2.1.size,qG hvc1 hW.2.1 (fun q hq=>hnF q (hcb q hq)),hW.env hX1 he1⟩)
 have HEND:Hid (∀wr T pv',WD base w1 x kv ms pv pb T wr pv'->WD base w x kv ms pv pb T wr pv'):=aq (fun wr T pv' h=>h.from hb1)
 have HW0:=aq (WD.init hX1)
 have hbw:base<=w1.heap.size:=by have:=hX.le;omega
 clear hX hX1 hS hvc hvc1 hcb hxb hpvb he he1 hsp hnF hnB hb1
 go_loopw [10] (fun r wr=>∃(k:Nat),k<=S.length/\r=.int .i64 k/\Hid (∃pv',WD base w1 x kv ms pv pb (aP (S.take k)) wr pv')) (fun r _=>S.length-(intOf r).toNat)
 case atStart=>exact⟨0,Nat.zero_le _,rfl,aq ⟨pv,dz HW0⟩⟩
 case round=>
  obtain⟨k,hk,rfl,HW⟩:=hrel
  obtain⟨pv',hW⟩:=dz HW
  by_cases hlt:k<S.length
  ·obtain⟨g,v,vo,vc,rfl,c1,c2,rfl,hsl⟩:=dz HSP k hlt wr _ pv' hW
   rw[Nat.mul_comm]at c1 c2
   have HSL:=aq hsl
   have hLT:(aP (S.take k)).length<=100*k:=by
    have:=gE (S.take k)
    rw[List.length_take]at this
    omega
   have hT1:=lJ S[k].1 S[k].2
   have HT2:Hid (aP (S.take (k+1))=aP (S.take k)++eA S[k].1 S[k].2):=aq (by rw[List.take_succ_eq_append_getElem hlt,oM])
   generalize aP (S.take k)=T at *
   generalize eA S[k].1 S[k].2=s at *
   generalize S[k].1=gb at *
   generalize S[k].2.length=sn at *
   have hcx:=hW.cell
   have hfx:=hW.free
   have hxr:=hW.lt
   have HWW:=aq hW
   clear hsl hW HW
   go_upto_region 4 with fail
   have hb3:Below wr.heap.size wr (wr.alloc (.cells #[.slice vo sn vc,.bool gb] 131)):=(Below.refl _ _).alloc (Nat.le_refl _) _
   have hbox3:=heap_alloc_new wr (.cells #[.slice vo sn vc,.bool gb] 131)
   have hz3:(wr.alloc (.cells #[.slice vo sn vc,.bool gb] 131)).heap.size=wr.heap.size+1:=by simp
   generalize wr.alloc (.cells #[.slice vo sn vc,.bool gb] 131)=w3 at *
   have c30:w3.cell? ⟨wr.heap.size,0,none⟩=some (.slice vo sn vc):=by simp[World.cell?,hbox3]
   have c31:w3.cell? ⟨wr.heap.size,1,none⟩=some (.bool gb):=by simp[World.cell?,hbox3]
   have HW3:=aq ((dz HWW).below hb3)
   have hc3:=(dz HW3).cell
   have hf3:=(dz HW3).free
   have hx3:=(dz HW3).lt
   have HS3:Hid (∀wz,Below w3.heap.size w3 wz->Calls Tryz.prog 83 #[.agg #[.slice vo sn vc,.bool gb]] wz fun e w'=>e=.returned (.string (bs s))/\Below w3.heap.size w3 w'/\w'.cell? ⟨x,2,none⟩=some pv'/\x<w'.heap.size):=aq (fun wz hbz=>(dz HSL wz (hb3.trans (hbz.mono (by omega)))).mono (fun e w' h=>⟨h.1,hbz.trans (h.2.mono hbz.size),((dz HW3).below (hbz.trans (h.2.mono hbz.size))).cell,((dz HW3).below (hbz.trans (h.2.mono hbz.size))).lt⟩))
   have HROWB:Hid (∀wz,Below w3.heap.size w3 wz->wz.ownsRow base 5 1 pv' (pb++T).length (dX (pb++T))/\base<=wz.heap.size):=aq (fun wz hbz=>⟨((dz HW3).below hbz).1.prow,by have:=hbz.size;have:=(dz HW3).1.le;omega⟩)
   have HMID:Hid (∀wz w5 v',Below w3.heap.size w3 wz->w5.ownsRow base 5 1 v' (pb++T++s).length (dX (pb++T++s))->wz.grownBy w5 pv'.ownBlock->(∀q,v'.ownBlock=some q->pv'.ownBlock=some q∨wz.heap.size<=q)->WMid base w1 x kv ms pv pb (T++s) w5 pv' v'):=aq (fun wz w5 v' hbz ho hg hl=>(dz HW3).mid hbz ho hg hl hx1)
   have HCB:Hid (∀wz,Below w3.heap.size w3 wz->wz.cell? ⟨x,2,none⟩=some pv'/\x<wz.heap.size):=aq (fun wz hbz=>⟨((dz HW3).below hbz).cell,((dz HW3).below hbz).lt⟩)
   obtain⟨po,pn,pc,hps⟩:∃po pn pc,pv'=.slice po pn pc:=by
    obtain⟨po,pc,h⟩:=aC (dz HW3).1.prow
    exact⟨po,_,pc,h⟩
   have hpl:(pb++T).length+s.length<=140737488355328:=by rw[List.length_append];omega
   have hb3w:base<=w3.heap.size:=by have:=(dz HW3).1.le;omega
   clear hbox3 HSL HWW hcx hfx c1 c2 HSP HCO HEND HW0 hcore hbox hLT hT1
   subst hps
   go_region_law (first|(refine step_go (by rfl) 83 _ _ (by rfl) (.agg #[.slice vo sn vc,.bool gb]) (by rfl) _ Tryz.func83 Tryz.nmStepLine Tryz.bdStepLine ((dz HS3 _ ?_).mono ?_);go_grown;rintro e w4 ⟨rfl,hb4,hc4,hx4⟩;refine⟨_,rfl,?_⟩)|(refine rH (by rfl) _ _ 75 9 (by rfl) base 5 Tryz.infoByteS Tryz.underlying75 Tryz.underString _ (pb++T) (by rfl) (dz HROWB _ (by go_grown)).1 s (by rfl) hpl (dz HROWB _ (by go_grown)).2 ?_;intro v5 w5 hown5 hgr5 hloc5;obtain⟨ao5,n5,cp5,rfl⟩:=iT hown5;have HM5:=aq (dz HMID _ _ _ (by go_grown) hown5 hgr5 hloc5);clear hown5 hgr5 hloc5;have hc5:=(dz HM5).1;have hf5:=(dz HM5).2.1))
   all_goals go_wp2_with fail
   all_goals go_roundw
   all_goals first|exact⟨k+1,by omega,by go_num,by rw[dz HT2];exact aq ⟨_,(dz HM5).2.2⟩⟩|(simp[intOf];omega)
  ·rw[show S.take k=S from List.take_of_length_le (by omega)]at hW
   obtain⟨hbc,hbz,hvc,he⟩:=dz HCO wr _ pv' hW
   have q0:wr.cell? ⟨w.heap.size,0,none⟩=some (.int .i64 kind):=by rw[hbc 0];simp[World.cell?,hbox]
   have q2:wr.cell? ⟨w.heap.size,2,none⟩=some (.slice co core.length cc):=by rw[hbc 2];simp[World.cell?,hbox]
   by_cases hk2:kind=2
   ·subst hk2
    have hpls:=gE S
    have hm24:Sp.maskOf core<2 ^ 24:=Sp.maskOf_lt _ (fun y hy=>(hcore y hy).2)
    have ho24:aK (Sp.maskOf core)<2 ^ 24:=lL _
    have hl1:=dA (Sp.litsOf (aK (Sp.maskOf core)))
    have hl2:=eG (aK (Sp.maskOf core))
    have hls:(Sp.told (Sp.litsOf (aK (Sp.maskOf core)))).length<=100:=by unfold Sp.told;simp;omega
    have HSO:Hid (∀wz,Below wr.heap.size wr wz->Calls Tryz.prog 84 #[.slice co core.length cc] wz fun e w'=>e=.returned (.int .u32 (Sp.maskOf core:Int))/\w'=wz):=aq (fun wz hbz=>qH _ core wz hcl hcore (hvc.below hbz))
    have HOP:Hid (∀wz,Calls Tryz.prog 85 #[.int .u32 (Sp.maskOf core:Int)] wz fun e w'=>e=.returned (.int .u32 (aK (Sp.maskOf core):Nat))/\w'=wz):=aq (fun wz=>gD _ wz hm24)
    have hbr:base<=wr.heap.size:=by have:=hW.1.le;have:=hW.lt;omega
    have HLI:Hid (∀wz,Below wr.heap.size wr wz->Calls Tryz.prog 86 #[.int .u32 (aK (Sp.maskOf core):Nat)] wz fun e w'=>e=.returned (.string (bs (Sp.told (Sp.litsOf (aK (Sp.maskOf core))))))/\Below wr.heap.size wr w'/\w'.cell? ⟨x,2,none⟩=some pv'/\x<w'.heap.size):=aq (fun wz hbz=>(nQ _ wz ho24 (he.below (hbz.mono hbr)).at).mono (fun e w' h=>⟨h.1,hbz.trans (h.2.mono hbz.size),(hW.below (hbz.trans (h.2.mono hbz.size))).cell,(hW.below (hbz.trans (h.2.mono hbz.size))).lt⟩))
    have HROWB:Hid (∀wz,Below wr.heap.size wr wz->wz.ownsRow base 5 1 pv' (pb++aP S).length (dX (pb++aP S))/\base<=wz.heap.size):=aq (fun wz hbz=>⟨(hW.below hbz).1.prow,by have:=hbz.size;omega⟩)
    have HMID:Hid (∀wz w5 v',Below wr.heap.size wr wz->w5.ownsRow base 5 1 v' (pb++aP S++Sp.told (Sp.litsOf (aK (Sp.maskOf core)))).length (dX (pb++aP S++Sp.told (Sp.litsOf (aK (Sp.maskOf core)))))->wz.grownBy w5 pv'.ownBlock->(∀q,v'.ownBlock=some q->pv'.ownBlock=some q∨wz.heap.size<=q)->w5.cell? ⟨x,2,none⟩=some pv'/\w5.frozen? ⟨x,2,none⟩=false/\WD base w x kv ms pv pb (aP S++Sp.told (Sp.litsOf (aK (Sp.maskOf core)))) (w5.setCell ⟨x,2,none⟩ v') v'):=aq (fun wz w5 v' hbz ho hg hl=>by
     obtain⟨h1,h2,h3⟩:=hW.mid hbz ho hg hl hx1
     exact⟨h1,h2,dz HEND _ _ _ h3⟩)
    have hcx:=hW.cell
    have hfx:=hW.free
    have hxr:=hW.lt
    obtain⟨po,pn,pc,hps⟩:=iT hW.1.prow
    have hpl:(pb++aP S).length+(Sp.told (Sp.litsOf (aK (Sp.maskOf core)))).length<=140737488355328:=by rw[List.length_append];omega
    subst hps
    clear hW HW HSP HCO HEND HW0 hbc hvc he hl1 hl2 hls hcore hbox
    obtain⟨s,hs⟩:∃s,s=Sp.told (Sp.litsOf (aK (Sp.maskOf core))):=⟨_,rfl⟩
    obtain⟨om,hom⟩:∃s,s=aK (Sp.maskOf core):=⟨_,rfl⟩
    obtain⟨cm,hcm⟩:∃s,s=Sp.maskOf core:=⟨_,rfl⟩
    obtain⟨T,hT⟩:∃s,s=aP S:=⟨_,rfl⟩
    rw[←hs,←hom]at HLI
    rw[←hcm]at HSO
    rw[←hom,←hcm]at HOP
    rw[←hT]at HROWB
    rw[←hT,←hs]at HMID hpl
    have HSS:=aq hs
    have HTT:=aq hT
    clear hs hom hcm hT hm24 ho24 hpls
    go_upto_region 7 with fail
    go_region_law (first|(refine step_go (by rfl) 84 _ _ (by rfl) (.slice co core.length cc) (by rfl) _ Tryz.func84 Tryz.nmSetOf Tryz.bdSetOf ((dz HSO _ ?_).mono ?_);go_grown;rintro e w4 ⟨rfl,rfl⟩;refine⟨_,rfl,?_⟩)|(refine step_go (by rfl) 85 _ _ (by rfl) (.int .u32 (cm:Int)) (by rfl) _ Tryz.func85 Tryz.nmOpps Tryz.bdOpps ((dz HOP _).mono ?_);rintro e w4 ⟨rfl,rfl⟩;refine⟨_,rfl,?_⟩)|(refine step_go (by rfl) 86 _ _ (by rfl) (.int .u32 (om:Nat)) (by rfl) _ Tryz.func86 Tryz.nmLine Tryz.bdLine ((dz HLI _ ?_).mono ?_);go_grown;rintro e w4 ⟨rfl,hb4,hc4,hx4⟩;refine⟨_,rfl,?_⟩)|(refine rH (by rfl) _ _ 75 9 (by rfl) base 5 Tryz.infoByteS Tryz.underlying75 Tryz.underString _ (pb++T) (by rfl) (dz HROWB _ (by go_grown)).1 s (by rfl) hpl (dz HROWB _ (by go_grown)).2 ?_;intro v5 w5 hown5 hgr5 hloc5;obtain⟨ao5,n5,cp5,rfl⟩:=iT hown5;have HM5:=aq (dz HMID _ _ _ (by go_grown) hown5 hgr5 hloc5);clear hown5 hgr5 hloc5;have hc5:=(dz HM5).1;have hf5:=(dz HM5).2.1))
    all_goals go_wp2
    all_goals go_end0
    all_goals exact⟨rfl,_,by have:=(dz HM5).2.2;rw[dz HSS,dz HTT]at this;exact this⟩
   ·have hkq:(kind==2)=false:=by simpa using hk2
    have HE:=aq (dz HEND _ _ _ hW)
    have HK2:=aq hk2
    clear hW HW HSP HCO HEND HW0 hk2 hbc
    go_wp2
    go_end0
    exact⟨rfl,pv',dz HE⟩
end Go.Proofs.YtekkkoipcghlmaaGreatDoor
