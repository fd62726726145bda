import Derived.Test.YtekkkoipcghlmaaGreatDoorU16
import Derived.Lib.QuietBelow
import Derived.Test.YtekkkoipcghlmaaGreatDoorU15
import Derived.Test.YtekkkoipcghlmaaGreatDoorU03
set_option linter.all false
namespace Go.Proofs.YtekkkoipcghlmaaGreatDoor
open Go.RowKit
attribute [local go_sem ↓] Go.wp_at_zero Go.wp_at_succ
def lS(base:Nat)(w:World)(m:Mem)(lv:Value)(x0:Int)(rest:List Int)(e:Ending)(w':World):Prop:=
 ∃rest' lvl,e=.returned (.int .i64 lvl)/\EMut base w m [aB lv (x0::rest)] w' m [aB lv (x0::rest')]/\rest'.Perm rest/\((rest'=[]/\lvl=0)∨∃y r,rest'=y::r/\lvl=m.level y.natAbs/\∀z,z∈r->m.level z.natAbs<=m.level y.natAbs)
theorem aE6{l:List Int}{h:Nat}{a b:Int}(ha:l[0]?=some a)(hb:l[h]?=some b):((l.set 0 b).set h a).Perm l:=by
 cases l with
 | nil=>simp at ha
 | cons x r=>
  simp at ha;subst ha
  simp only[List.set_cons_zero]
  cases h with
  | zero=>
   simp at hb;subst hb
   simp
  | succ k=>
   rw[List.getElem?_cons_succ]at hb
   simp only[List.set_cons_succ]
   exact pB r k hb
set_option maxRecDepth 100000 in
set_option maxHeartbeats 32000000 in
theorem aM5(base:Nat)(m:Mem)(g cap:Nat)(x0:Int)(rest:List Int)(w:World)(hE:EAt base w m [aB (.slice (some ⟨g,0,none⟩) (rest.length+1) cap) (x0::rest)])(hb:∀x,x∈x0::rest->x≠0/\-12<=x/\x<=12)(hl:rest.length<=12):
  Calls Tryz.prog 121 #[.pointer (some ⟨m.s,0,none⟩),.slice (some ⟨g,0,none⟩) (rest.length+1) cap] w fun e w'=>lS base w m (.slice (some ⟨g,0,none⟩) (rest.length+1) cap) x0 rest e w':=by
 cases hrest:rest with
 | nil=>
  subst hrest
  have HR:Hid (lS base w m (.slice (some ⟨g,0,none⟩) 1 cap) x0 [] (.returned (.int .i64 0)) w):=aq ⟨[],0,rfl,EMut.refl hE,List.Perm.refl _,.inl ⟨rfl,rfl⟩⟩
  clear hE hb hl
  go_enter Tryz.func121,Tryz.ntmps121
  go_wp2
  try go_ret
  exact dz HR
 | cons y0 r0=>
  rw[←hrest]
  have hpos:1<=rest.length:=by rw[hrest];simp
  have HRD:Hid (∀wr,Below w.heap.size w wr->∀q x,(x0::rest)[q]?=some x->(x≠0/\-12<=x/\x<=12)/\wr.cell? ⟨g,q,none⟩=some (.int .i64 x)/\wr.frozen? ⟨g,q,none⟩=false):=aq (by
   intro wr hbx q x hx
   have hrow:=(EMut.below hE hbx).eat.row (i:=0) rfl
   unfold Row.ok aB at hrow
   simp only[List.length_cons]at hrow
   have hq:=(List.getElem?_eq_some_iff.1 hx).1
   rw[List.length_cons]at hq
   refine⟨hb x (List.mem_of_getElem? hx),?_,hrow.frozenAt _⟩
   rw[hrow.cellAt q (by omega)]
   unfold ints
   rw[List.getElem?_map,hx]
   rfl)
  have HFC:Hid (∀x,(x≠0/\-12<=x/\x<=12)->∀wx,Below w.heap.size w wx->Calls Tryz.prog 128 #[.pointer (some ⟨m.s,3,none⟩),.int .i64 x] wx fun e w'=>e=.returned (.agg #[.int .i64 (m.truth x.natAbs),.int .i64 (m.level x.natAbs),.int .i64 (m.reason x.natAbs)])/\Below wx.heap.size wx w'):=aq (fun x hx wx hbx=>dN base m x wx (hE.at.below hbx) hx.2.1 hx.2.2)
  have HFIN:Hid (∀wr (h:Nat) (y a:Int),Below w.heap.size w wr->rest[0]?=some a->rest[h]?=some y->(∀(q:Nat) (z:Int),rest[q]?=some z->m.level z.natAbs<=m.level y.natAbs)->((wr.setCell ⟨g,1,none⟩ (.int .i64 y)).setCell ⟨g,h+1,none⟩ (.int .i64 a)).cell? ⟨g,1,none⟩=some (.int .i64 y)/\∀w',Below ((wr.setCell ⟨g,1,none⟩ (.int .i64 y)).setCell ⟨g,h+1,none⟩ (.int .i64 a)).heap.size ((wr.setCell ⟨g,1,none⟩ (.int .i64 y)).setCell ⟨g,h+1,none⟩ (.int .i64 a)) w'->lS base w m (.slice (some ⟨g,0,none⟩) (rest.length+1) cap) x0 rest (.returned (.int .i64 (m.level y.natAbs))) w'):=aq (by
   intro wr h y a hbx ha hh hmax
   have h1:=EMut.below hE hbx
   have h2:=EMut.store h1.eat (i:=0) (r:=aB (.slice (some ⟨g,0,none⟩) (rest.length+1) cap) (x0::rest)) rfl (g:=g) (cap:=cap) rfl 1 (.int .i64 y)
   have h3:=EMut.store h2.eat (i:=0) rfl (g:=g) (cap:=cap) rfl (h+1) (.int .i64 a)
   have e:((ints (x0::rest)).set 1 (.int .i64 y)).set (h+1) (.int .i64 a)=ints (x0::(rest.set 0 y).set h a):=by
    rw[←dT,←dT]
    simp
   have hlen:((rest.set 0 y).set h a).length=rest.length:=by simp
   have h4:EMut base w m [aB (.slice (some ⟨g,0,none⟩) (rest.length+1) cap) (x0::rest)] ((wr.setCell ⟨g,1,none⟩ (.int .i64 y)).setCell ⟨g,h+1,none⟩ (.int .i64 a)) m [aB (.slice (some ⟨g,0,none⟩) (rest.length+1) cap) (x0::(rest.set 0 y).set h a)]:=by
    have h5:=h1.trans (h2.trans h3)
    have e2:(⟨3,1,.slice (some ⟨g,0,none⟩) (rest.length+1) cap,(x0::rest).length,((ints (x0::rest)).set 1 (.int .i64 y)).set (h+1) (.int .i64 a)⟩:Row)=aB (.slice (some ⟨g,0,none⟩) (rest.length+1) cap) (x0::(rest.set 0 y).set h a):=by
     unfold aB
     rw[e]
     simp[hlen]
    rw[←e2]
    exact h5
   have hhl:=(List.getElem?_eq_some_iff.1 hh).1
   have hfirst:∃r,(rest.set 0 y).set h a=y::r:=by
    rw[hrest]
    cases h with
    | zero=>
     rw[hrest]at ha hh
     simp at ha hh
     subst ha hh
     exact⟨r0,by simp⟩
    | succ k=>exact⟨_,by simp;rfl⟩
   obtain⟨r,hr⟩:=hfirst
   have hperm:=aE6 ha hh
   rw[hr]at h4 hperm
   refine⟨?_,fun w' hw'=>⟨y::r,_,rfl,h4.trans (EMut.below h4.eat hw'),hperm,.inr ⟨y,r,rfl,rfl,fun z hz=>?_⟩⟩⟩
   ·have hrow:=h4.eat.row (i:=0) rfl
    unfold Row.ok aB at hrow
    have hl2:(x0::y::r).length=rest.length+1:=by have:=hperm.length_eq;simp at this⊢;omega
    simp only[hl2]at hrow
    rw[hrow.cellAt 1 (by omega)]
    rfl
   ·have hz2:z∈rest:=hperm.mem_iff.1 (List.mem_cons_of_mem _ hz)
    obtain⟨q,hq⟩:=List.getElem?_of_mem hz2
    exact hmax q z hq)
  have HFIN2:Hid (∀wr (H:Nat) (y a:Int),Below w.heap.size w wr->1<=H->(x0::rest)[1]?=some a->(x0::rest)[H]?=some y->(∀(j:Nat) (z:Int),1<=j->(x0::rest)[j]?=some z->m.level z.natAbs<=m.level y.natAbs)->
    ((wr.setCell ⟨g,1,none⟩ (.int .i64 y)).setCell ⟨g,H,none⟩ (.int .i64 a)).cell? ⟨g,1,none⟩=some (.int .i64 y)/\(∀wx,Below ((wr.setCell ⟨g,1,none⟩ (.int .i64 y)).setCell ⟨g,H,none⟩ (.int .i64 a)).heap.size ((wr.setCell ⟨g,1,none⟩ (.int .i64 y)).setCell ⟨g,H,none⟩ (.int .i64 a)) wx->Calls Tryz.prog 128 #[.pointer (some ⟨m.s,3,none⟩),.int .i64 y] wx fun e w'=>e=.returned (.agg #[.int .i64 (m.truth y.natAbs),.int .i64 (m.level y.natAbs),.int .i64 (m.reason y.natAbs)])/\Below wx.heap.size wx w')/\
    (∀w',Below ((wr.setCell ⟨g,1,none⟩ (.int .i64 y)).setCell ⟨g,H,none⟩ (.int .i64 a)).heap.size ((wr.setCell ⟨g,1,none⟩ (.int .i64 y)).setCell ⟨g,H,none⟩ (.int .i64 a)) w'->lS base w m (.slice (some ⟨g,0,none⟩) (rest.length+1) cap) x0 rest (.returned (.int .i64 (m.level y.natAbs))) w')/\(wr.setCell ⟨g,1,none⟩ (.int .i64 y)).cell? ⟨g,H,none⟩=some (.int .i64 y)):=aq (by
   intro wr H y a hbx hH ha hy hmax
   obtain⟨h,rfl⟩:∃h,H=h+1:=⟨H-1,by omega⟩
   rw[List.getElem?_cons_succ]at ha hy
   obtain⟨f1,f2⟩:=dz HFIN wr h y a hbx ha hy (fun q z hz=>hmax (q+1) z (by omega) (by rw[List.getElem?_cons_succ];exact hz))
   refine⟨f1,fun wx hwx=>?_,f2,?_⟩
   rotate_left
   ·have h2:=EMut.store (EMut.below hE hbx).eat (i:=0) (r:=aB (.slice (some ⟨g,0,none⟩) (rest.length+1) cap) (x0::rest)) rfl (g:=g) (cap:=cap) rfl 1 (.int .i64 y)
    have hrow:=h2.eat.row (i:=0) rfl
    have hl2:=(List.getElem?_eq_some_iff.1 hy).1
    rw[World.ownsRow.cellAt hrow (h+1) (by simp[aB];omega)]
    show((ints (x0::rest)).set 1 (.int .i64 y))[h+1]?=_
    rw[←dT]
    unfold ints
    rw[List.getElem?_map,List.getElem?_set]
    split
    ·rw[if_pos (by simp;omega)];rfl
    ·rw[List.getElem?_cons_succ,hy];rfl
   obtain⟨_,_,_,hem,_⟩:=f2 wx hwx
   have hyb:=hb y (List.mem_cons_of_mem _ (List.mem_of_getElem? hy))
   exact dN base m y wx hem.at hyb.2.1 hyb.2.2)
  have f1:=Tryz.field1
  have hgl:g<w.heap.size:=by
   have hrow:=hE.row (i:=0) rfl
   exact((hrow:w.ownsRow base 3 1 (.slice (some ⟨g,0,none⟩) (rest.length+1) cap) _ _).lt g rfl).2
  clear hE hb hrest
  generalize hn:rest.length=n at *
  have HN:=aq hn
  clear hn
  go_enter Tryz.func121,Tryz.ntmps121
  have hne1:(((n:Int)+1)==1)=false:=by simp;omega
  have hne2:((((n+1:Nat)):Int)==1)=false:=by simp;omega
  go_wp2
  go_loopw [5,6] (fun v5 v6 wr=>∃(H Q:Nat),1<=H/\H<=n/\H<Q/\Q<=n+1/\v5=.int .i64 (H:Int)/\v6=.int .i64 (Q:Int)/\Hid (Below w.heap.size w wr)/\Hid (∀y,(x0::rest)[H]?=some y->∀(j:Nat) (z:Int),1<=j->j<Q->(x0::rest)[j]?=some z->m.level z.natAbs<=m.level y.natAbs)) (fun _ v6 _=>n+1-(intOf v6).toNat)
  case atStart=>exact⟨1,2,by omega,by omega,by omega,by omega,rfl,rfl,aq (Below.refl _ _),aq (fun y hy j z hj1 hj hz=>by
   have:j=1:=by omega
   subst this
   rw[hy]at hz;cases hz
   exact Int.le_refl _)⟩
  case round=>
   obtain⟨H,Q,hH1,hHn,hHQ,hQ,rfl,rfl,HB,HMX⟩:=hrel
   have HLL:Hid ((x0::rest).length=n+1):=aq (by rw[List.length_cons,dz HN])
   have hhx:(x0::rest)[H]?=some ((x0::rest)[H]'(by rw[dz HLL];omega)):=List.getElem?_eq_getElem _
   obtain⟨hyb,hcy,hfy⟩:=dz HRD _ (dz HB) H _ hhx
   have HHX:=aq hhx
   clear hhx
   generalize ((x0::rest)[H]'(by rw[dz HLL];omega))=y at *
   have HHi:(H:Int)<(n:Int)+1:=by omega
   have HHi2:(H:Int)<((n+1:Nat):Int):=by omega
   by_cases hqn:Q<n+1
   ·have hqx:(x0::rest)[Q]?=some ((x0::rest)[Q]'(by rw[dz HLL];omega)):=List.getElem?_eq_getElem _
    obtain⟨hxb,hcx,hfx⟩:=dz HRD _ (dz HB) Q _ hqx
    have HQX:=aq hqx
    clear hqx
    generalize ((x0::rest)[Q]'(by rw[dz HLL];omega))=x at *
    have HFX:Hid (∀d os,Calls Tryz.prog 128 #[.pointer (some ⟨m.s,3,none⟩),.int .i64 x] (Go.Sort.grow (redrawn wr d) os) fun e w''=>e=.returned (.agg #[.int .i64 (m.truth x.natAbs),.int .i64 (m.level x.natAbs),.int .i64 (m.reason x.natAbs)])/\∃p:Regrown,w''=Go.Sort.grow (redrawn wr p.d) p.os):=aq (fun d os=>Calls.regrown_of (dz HFC x hxb _ ((dz HB).trans ((below_regrown wr d os).mono (dz HB).size))))
    have HFY:Hid (∀d os,Calls Tryz.prog 128 #[.pointer (some ⟨m.s,3,none⟩),.int .i64 y] (Go.Sort.grow (redrawn wr d) os) fun e w''=>e=.returned (.agg #[.int .i64 (m.truth y.natAbs),.int .i64 (m.level y.natAbs),.int .i64 (m.reason y.natAbs)])/\∃p:Regrown,w''=Go.Sort.grow (redrawn wr p.d) p.os):=aq (fun d os=>Calls.regrown_of (dz HFC y hyb _ ((dz HB).trans ((below_regrown wr d os).mono (dz HB).size))))
    have hqi:(Q:Int)<(n:Int)+1:=by omega
    have hqi2:(Q:Int)<((n+1:Nat):Int):=by omega
    have HUP:Hid (∀y',(x0::rest)[H]?=some y'->∀(j:Nat) (z:Int),1<=j->j<Q+1->(x0::rest)[j]?=some z->m.level x.natAbs<=m.level y'.natAbs->m.level z.natAbs<=m.level y'.natAbs):=aq (fun y' hy' j z h1 h2 hz hle=>by
     by_cases hjQ:j=Q
     ·subst hjQ
      rw[dz HQX]at hz;cases hz
      exact hle
     ·exact dz HMX y' hy' j z h1 (by omega) hz)
    clear HRD HFC HFIN
    by_cases hlt:m.level y.natAbs<m.level x.natAbs
    ·have HNX:Hid (∀y',(x0::rest)[Q]?=some y'->∀(j:Nat) (z:Int),1<=j->j<Q+1->(x0::rest)[j]?=some z->m.level z.natAbs<=m.level y'.natAbs):=aq (fun y' hy' j z h1 h2 hz=>by
      rw[dz HQX]at hy';cases hy'
      by_cases hjQ:j=Q
      ·subst hjQ
       rw[dz HQX]at hz;cases hz
       exact Int.le_refl _
      ·have:=dz HMX y (dz HHX) j z h1 (by omega) hz
       omega)
     clear HUP HMX
     generalize m.truth x.natAbs=tx at *
     generalize m.level x.natAbs=lx at *
     generalize m.reason x.natAbs=rx at *
     generalize m.truth y.natAbs=ty at *
     generalize m.level y.natAbs=ly at *
     generalize m.reason y.natAbs=ry at *
     go_wp2_with fail
     have k0:=cell_regrown hcx
     have k1:=cell_regrown hcy
     refine wp_region_quiet_below (by kernel_rfl) (by kernel_rfl) ?_
     iterate 9 (quiet_step (exact dz HFX _ _))
     iterate 10 (quiet_step (exact dz HFY _ _))
     refine wpQuiet_nil ?_
     intro _ hw'
     obtain⟨⟨dq,osq⟩,hw''⟩:=hw'
     subst hw''
     have HBQ:Hid (Below w.heap.size w (Go.Sort.grow (redrawn wr dq) osq)):=aq ((dz HB).trans ((below_regrown wr dq osq).mono (dz HB).size))
     go_wp2
     refine⟨⟨Q,Q+1,by omega,by omega,by omega,by omega,rfl,by go_num,HBQ,HNX⟩,?_⟩
     simp only[intOf]
     omega
    ·have HLE:Hid (m.level x.natAbs<=m.level y.natAbs):=aq (by omega)
     have HUP2:Hid (∀y',(x0::rest)[H]?=some y'->∀(j:Nat) (z:Int),1<=j->j<Q+1->(x0::rest)[j]?=some z->m.level z.natAbs<=m.level y'.natAbs):=aq (fun y' hy' j z h1 h2 hz=>dz HUP y' hy' j z h1 h2 hz (by
      rw[dz HHX]at hy'
      cases hy'
      exact dz HLE))
     clear HMX HUP HLE
     generalize m.truth x.natAbs=tx at *
     generalize m.level x.natAbs=lx at *
     generalize m.reason x.natAbs=rx at *
     generalize m.truth y.natAbs=ty at *
     generalize m.level y.natAbs=ly at *
     generalize m.reason y.natAbs=ry at *
     go_wp2_with fail
     have k0:=cell_regrown hcx
     have k1:=cell_regrown hcy
     refine wp_region_quiet_below (by kernel_rfl) (by kernel_rfl) ?_
     iterate 9 (quiet_step (exact dz HFX _ _))
     iterate 10 (quiet_step (exact dz HFY _ _))
     refine wpQuiet_nil ?_
     intro _ hw'
     obtain⟨⟨dq,osq⟩,hw''⟩:=hw'
     subst hw''
     have HBQ:Hid (Below w.heap.size w (Go.Sort.grow (redrawn wr dq) osq)):=aq ((dz HB).trans ((below_regrown wr dq osq).mono (dz HB).size))
     go_wp2
     refine⟨⟨H,Q+1,by omega,by omega,by omega,by omega,rfl,by go_num,HBQ,HUP2⟩,?_⟩
     simp only[intOf]
     omega
   ·have hqe:Q=n+1:=by omega
    subst hqe
    have hax:(x0::rest)[1]?=some ((x0::rest)[1]'(by rw[dz HLL];omega)):=List.getElem?_eq_getElem _
    obtain⟨hab,hca,hfa⟩:=dz HRD _ (dz HB) 1 _ hax
    have HFI:=aq (dz HFIN2 wr H y _ (dz HB) hH1 hax (dz HHX) (fun j z h1 hz=>dz HMX y (dz HHX) j z h1 (by have:=(List.getElem?_eq_some_iff.1 hz).1;rw[dz HLL]at this;omega) hz))
    clear hax
    generalize ((x0::rest)[1]'(by rw[dz HLL];omega))=a at *
    have hc1:=(dz HFI).1
    have hc2:=(dz HFI).2.2.2
    have HFC2:Hid (∀wx,Below ((wr.setCell ⟨g,1,none⟩ (.int .i64 y)).setCell ⟨g,H,none⟩ (.int .i64 a)).heap.size ((wr.setCell ⟨g,1,none⟩ (.int .i64 y)).setCell ⟨g,H,none⟩ (.int .i64 a)) wx->Calls Tryz.prog 128 #[.pointer (some ⟨m.s,3,none⟩),.int .i64 y] wx fun e w'=>e=.returned (.agg #[.int .i64 (m.truth y.natAbs),.int .i64 (m.level y.natAbs),.int .i64 (m.reason y.natAbs)])/\Below wx.heap.size wx w'):=aq (fun wx hwx=>(dz HFI).2.1 wx hwx)
    clear HFC HRD HFIN HFIN2 HMX HHX
    go_wp2_with fail
    go_region
    go_wp2_with fail
    have HQ:Hid (∀d os,Below ((wr.setCell ⟨g,1,none⟩ (.int .i64 y)).setCell ⟨g,H,none⟩ (.int .i64 a)).heap.size ((wr.setCell ⟨g,1,none⟩ (.int .i64 y)).setCell ⟨g,H,none⟩ (.int .i64 a)) (Go.Sort.grow (redrawn ((wr.setCell ⟨g,1,none⟩ (.int .i64 y)).setCell ⟨g,H,none⟩ (.int .i64 a)).drew d) os)):=aq (fun d os=>(Below.refl _ _).drew.trans ((below_regrown ((wr.setCell ⟨g,1,none⟩ (.int .i64 y)).setCell ⟨g,H,none⟩ (.int .i64 a)).drew d os).mono (Nat.le_refl _)))
    have HFX:Hid (∀d os,Calls Tryz.prog 128 #[.pointer (some ⟨m.s,3,none⟩),.int .i64 y] (Go.Sort.grow (redrawn ((wr.setCell ⟨g,1,none⟩ (.int .i64 y)).setCell ⟨g,H,none⟩ (.int .i64 a)).drew d) os) fun e w''=>e=.returned (.agg #[.int .i64 (m.truth y.natAbs),.int .i64 (m.level y.natAbs),.int .i64 (m.reason y.natAbs)])/\∃p:Regrown,w''=Go.Sort.grow (redrawn ((wr.setCell ⟨g,1,none⟩ (.int .i64 y)).setCell ⟨g,H,none⟩ (.int .i64 a)).drew p.d) p.os):=aq (fun d os=>Calls.regrown_of (dz HFC2 _ (dz HQ d os)))
    have HRS:Hid (∀d os,lS base w m (.slice (some ⟨g,0,none⟩) (n+1) cap) x0 rest (.returned (.int .i64 (m.level y.natAbs))) (Go.Sort.grow (redrawn ((wr.setCell ⟨g,1,none⟩ (.int .i64 y)).setCell ⟨g,H,none⟩ (.int .i64 a)).drew d) os)):=aq (fun d os=>(dz HFI).2.2.1 _ (dz HQ d os))
    have hc1':((wr.setCell ⟨g,1,none⟩ (.int .i64 y)).setCell ⟨g,H,none⟩ (.int .i64 a)).drew.cell? ⟨g,1,none⟩=some (.int .i64 y):=hc1
    have h1n:(1:Int)<(n:Int)+1:=by omega
    clear HFI HFC2 HQ hc1 hc2 hca hcy hfa hfy
    generalize ((wr.setCell ⟨g,1,none⟩ (.int .i64 y)).setCell ⟨g,H,none⟩ (.int .i64 a)).drew=W at *
    generalize m.truth y.natAbs=ty at *
    generalize m.level y.natAbs=ly at *
    generalize m.reason y.natAbs=ry at *
    have k0:=cell_regrown hc1'
    refine wp_region_quiet_below (by kernel_rfl) (by kernel_rfl) ?_
    iterate 9 (quiet_step (exact dz HFX _ _))
    refine wpQuiet_nil ?_
    intro _ hw'
    obtain⟨⟨dq,osq⟩,hw''⟩:=hw'
    subst hw''
    go_wp2
    try go_ret
    exact dz HRS _ _
end Go.Proofs.YtekkkoipcghlmaaGreatDoor
namespace Go.Proofs.YtekkkoipcghlmaaGreatDoor
open Go.RowKit
section
variable {cls cls':List Cl}{cl:Cl}{wat:Int->List Int}{tr:Tr}{n:Nat}{l p:Int}
theorem lA:Watcher (cls++[cl]) l p↔Watcher cls l p∨(p=((flat cls).length:Int)/\eF l cl.lits):=by
 constructor
 ·rintro⟨c,d,hc,hp,hw⟩
  by_cases h:c<cls.length
  ·rw[List.getElem?_append_left h]at hc
   exact .inl ⟨c,d,hc,by rw[hp,bQ _ _ (by omega)],hw⟩
  ·have hlt:=(List.getElem?_eq_some_iff.1 hc).1
   simp at hlt
   have:c=cls.length:=by omega
   subst this
   simp at hc
   subst hc
   exact .inr ⟨by rw[hp,bQ _ _ (Nat.le_refl _),cS _ (Nat.le_refl _)],hw⟩
 ·rintro(⟨c,d,hc,hp,hw⟩|⟨hp,hw⟩)
  ·have hlt:=(List.getElem?_eq_some_iff.1 hc).1
   exact⟨c,d,by rw[List.getElem?_append_left hlt];exact hc,by rw[bQ _ _ (by omega)];exact hp,hw⟩
  ·exact⟨cls.length,cl,by simp,by rw[hp,bQ _ _ (Nat.le_refl _),cS _ (Nat.le_refl _)],hw⟩
theorem yN(h:Watcher cls l p):p<((flat cls).length:Int):=by
 obtain⟨c,d,hc,hp,-⟩:=h
 have hlt:=(List.getElem?_eq_some_iff.1 hc).1
 have:=eK cls c hlt
 omega
def eR(wat:Int->List Int)(lits:List Int)(p:Int):Int->List Int:=fun l=>match lits with
 | a::b::_=>if l=a∨l=b then wat l++[p]else wat l
 | _=>wat l
theorem kL(h:∀l,(wat l).Nodup/\∀p,p∈wat l↔Watcher cls l p)(cl:Cl):∀l,(eR wat cl.lits ((flat cls).length:Int) l).Nodup/\∀p,p∈eR wat cl.lits ((flat cls).length:Int) l↔Watcher (cls++[cl]) l p:=by
 intro l
 obtain⟨h1,h2⟩:=h l
 have hno:((flat cls).length:Int)∉wat l:=fun hm=>by
  have:=yN ((h2 _).1 hm);omega
 have none:¬eF l cl.lits->eR wat cl.lits ((flat cls).length:Int) l=wat l->(eR wat cl.lits ((flat cls).length:Int) l).Nodup/\∀p,p∈eR wat cl.lits ((flat cls).length:Int) l↔Watcher (cls++[cl]) l p:=by
  intro hn he
  rw[he]
  refine⟨h1,fun p=>?_⟩
  rw[lA,h2]
  constructor
  ·exact .inl
  ·rintro(h|⟨-,h⟩)
   ·exact h
   ·exact absurd h hn
 cases hl:cl.lits with
 | nil=>rw[←hl];exact none (by rw[hl];rintro⟨a,b,r,h,-⟩;cases h) (by unfold eR;rw[hl])
 | cons a t=>
  cases t with
  | nil=>rw[←hl];exact none (by rw[hl];rintro⟨a,b,r,h,-⟩;cases h) (by unfold eR;rw[hl])
  | cons b r=>
   by_cases e:l=a∨l=b
   ·unfold eR
    simp only[if_pos e]
    refine⟨List.nodup_append.2 ⟨h1,by simp,?_⟩,fun p=>?_⟩
    ·rintro x hx y hy rfl
     simp at hy
     subst hy
     exact hno hx
    ·rw[List.mem_append,h2,lA,hl,bX]
     simp[e]
   ·rw[←hl]
    exact none (by rw[hl,bX];exact e) (by unfold eR;rw[hl];simp only[if_neg e])
theorem mL{m m':Mem}{lits:List Int}(hW:eJ m wat)(h:Watched m m' lits p)(hwf:aM lits)(hl:m.lists.length=25):eJ m' (eR wat lits p):=by
 intro l h0 h1
 cases lits with
 | nil=>unfold Watched at h;subst h;exact hW l h0 h1
 | cons a t=>
  cases t with
  | nil=>unfold Watched at h;subst h;exact hW l h0 h1
  | cons b r=>
   obtain⟨v1,v2,rfl⟩:=h
   have ha:=hwf.2 a (by simp)
   have hb:=hwf.2 b (by simp)
   have hab:a≠b:=by
    have:=hwf.1
    simp only[List.map_cons,List.nodup_cons,List.mem_cons,not_or]at this
    exact fun e=>this.1.1 (by rw[e])
   have wa:=hW a ha.2.1 ha.2.2
   have wb:=hW b hb.2.1 hb.2.2
   have wl:=hW l h0 h1
   have hk:(a+12).toNat≠(b+12).toNat:=by omega
   have hka:(a+12).toNat<m.lists.length:=by omega
   have hkb:(b+12).toNat<m.lists.length:=by omega
   have eb:(m.lists.set (a+12).toNat ((m.lists[(a+12).toNat]?).getD []++[p]))[(b+12).toNat]?=some (wat b):=by rw[List.getElem?_set_ne hk];exact wb
   show((m.lists.set (a+12).toNat ((m.lists[(a+12).toNat]?).getD []++[p])).set (b+12).toNat (((m.lists.set (a+12).toNat ((m.lists[(a+12).toNat]?).getD []++[p]))[(b+12).toNat]?).getD []++[p]))[(l+12).toNat]?=some (if l=a∨l=b then wat l++[p]else wat l)
   rw[eb]
   by_cases e2:l=b
   ·rw[if_pos (.inr e2),e2,List.getElem?_set_self (by rw[List.length_set];exact hkb)]
    rfl
   ·rw[List.getElem?_set_ne (by omega)]
    by_cases e1:l=a
    ·rw[if_pos (.inl e1),e1,List.getElem?_set_self hka,wa]
     rfl
    ·rw[List.getElem?_set_ne (by omega),wl,if_neg (by rintro(h|h)<;>contradiction)]
theorem Watcher.same{a b:List Cl}(he:dbOf a=dbOf b){l p:Int}(h:Watcher a l p):Watcher b l p:=by
 obtain⟨c,d,hc,hp,hw⟩:=h
 obtain⟨d',h1,h2⟩:=kG he hc
 exact⟨c,d',h1,by rw[hp,oW he],by rw[h2];exact hw⟩
theorem Struck.same{a b:List Cl}{bad:Int}(h:Struck a wat tr n bad)(he:dbOf a=dbOf b):Struck b wat tr n bad:=by
 refine⟨h.trok.same he,fun c cl hc=>?_,fun l=>⟨(h.lists l).1,fun p=>?_⟩,h.lt,h.top,fun c cl hc=>?_,?_⟩
 ·obtain⟨d,h1,h2⟩:=kG he.symm hc
  rw[←h2];exact h.wf c d h1
 ·rw[(h.lists l).2]
  exact⟨fun h=>h.same he,fun h=>h.same he.symm⟩
 ·obtain⟨d,h1,h2⟩:=kG he.symm hc
  rw[←h2];exact h.ok c d h1
 ·obtain⟨c,cl,h1,h2,h3⟩:=h.falls
  obtain⟨d,h4,h5⟩:=kG he h1
  exact⟨c,d,h4,by rw[h2,oW he],by rw[h5];exact h3⟩
theorem Struck.cut{bad:Int}(h:Struck cls wat tr n bad){lv s:Nat}(hs:(bB tr)[lv]?=some s):s<=n/\Rest s cls wat (tr.take s):=by
 obtain⟨hlt,-,hl,-⟩:=cO hs
 have hlv:lv<levels tr:=by
  have:=(List.getElem?_eq_some_iff.1 hs).1
  rw[dB]at this
  exact this
 have hsn:s<=n:=by
  rcases Nat.lt_or_ge n s with hn|hn
  ·have:=(jM hs n).1 hn
   have:=h.top
   omega
  ·exact hn
 have hlen:(tr.take s).length=s:=by rw[List.length_take];omega
 exact⟨hsn,h.trok.cut s,h.wf,h.lists,fun c cl hc=>(h.ok c cl hc).cut hs hsn,by omega,fun i h1 h2=>by omega⟩
theorem Rest.cut(h:Rest n cls wat tr){lv s:Nat}(hs:(bB tr)[lv]?=some s):min n s=s/\Rest s cls wat (tr.take s):=by
 obtain⟨hlt,-,hl,-⟩:=cO hs
 have hlv:lv<levels tr:=by
  have:=(List.getElem?_eq_some_iff.1 hs).1
  rw[dB]at this
  exact this
 have hsn:s<=n:=by
  rcases Nat.lt_or_ge n s with hn|hn
  ·have h1:=(jM hs n).1 hn
   have h2:=h.top n (Nat.le_refl _) (by omega)
   omega
  ·exact hn
 have hlen:(tr.take s).length=s:=by rw[List.length_take];omega
 exact⟨by omega,h.trok.cut s,h.wf,h.lists,fun c cl hc=>(h.ok c cl hc).cut hs hsn,by omega,fun i h1 h2=>by omega⟩
theorem Rest.learn{x:Int}{rest:List Int}(h:Rest n cls wat tr)(hn:n=tr.length)(hl:cl.lits=x::rest)(hwf:aM cl.lits)(h1:¬Tru tr x)(h2:¬Tru tr (-x))(hr:∀y,y∈rest->Tru tr (-y))(h0:rest=[]->levels tr=0)(hb:∀b r,rest=b::r->∀(j:Nat) (q:Int),tr[j]?=some (-b,q)->levels tr<=lev tr j):
  Rest n (cls++[cl]) (eR wat cl.lits ((flat cls).length:Int)) (tr++[(x,((flat cls).length:Int))]):=by
 have hx:=hwf.2 x (by rw[hl];simp)
 have hd:dec (x,((flat cls).length:Int))=false:=by simp[dec]
 have hlev:levels (tr++[(x,((flat cls).length:Int))])=levels tr:=by
  rw[bM]
  simp[levels,hd]
 have hll:lev (tr++[(x,((flat cls).length:Int))]) tr.length=levels tr:=by rw[gR,hlev]
 have hget:(tr++[(x,((flat cls).length:Int))])[tr.length]?=some (x,((flat cls).length:Int)):=by simp
 refine⟨?_,fun c d hc=>?_,kL h.lists cl,fun c d hc=>?_,by simp;omega,fun i h3 h4=>?_⟩
 ·have:=(h.trok.more [cl]).take (c:=cls.length) (cl:=cl) hx h1 h2 (by simp) hl hr
  rw[bQ _ _ (Nat.le_refl _),cS _ (Nat.le_refl _)]at this
  exact this
 ·by_cases hlt:c<cls.length
  ·rw[List.getElem?_append_left hlt]at hc;exact h.wf c d hc
  ·have hlt':=(List.getElem?_eq_some_iff.1 hc).1
   simp at hlt'
   have:c=cls.length:=by omega
   subst this
   simp at hc
   subst hc
   exact hwf
 ·by_cases hlt:c<cls.length
  ·rw[List.getElem?_append_left hlt]at hc
   exact(h.ok c d hc).append h.le _
  ·have hlt':=(List.getElem?_eq_some_iff.1 hc).1
   simp at hlt'
   have:c=cls.length:=by omega
   subst this
   simp at hc
   subst hc
   rw[hl]
   cases hrest:rest with
   | nil=>exact .inl ⟨x,rfl,tr.length,_,hget,by rw[hll];exact h0 hrest⟩
   | cons b r=>
    refine .inr ⟨x,b,r,rfl,fun i q hi hq=>?_,fun i q hi hq=>?_⟩
    ·rw[List.getElem?_append_left (by omega)]at hq
     exact absurd ⟨i,q,hq⟩ h2
    ·rw[List.getElem?_append_left (by omega)]at hq
     exact⟨tr.length,_,hget,by rw[hll,eH (by omega)];exact hb b r hrest i q hq⟩
 ·simp at h4
  have:i=tr.length:=by omega
  subst this
  rw[hll,hlev]
theorem Struck.fresh{bad:Int}(h:Struck cls wat tr n bad){DB:List (List Int)}{lits:List Int}(ht:Taught DB tr lits){c:Nat}{d:Cl}(hc:cls[c]?=some d)(hsame:∀x,x∈d.lits↔x∈lits):False:=by
 obtain⟨p,rest,i,r,hl,hi,hlv,hr⟩:=ht.head
 have hfalse:∀x,x∈d.lits->Tru tr (-x):=fun x hx=>by
  have:=(hsame x).1 hx
  rw[hl]at this
  rcases List.mem_cons.1 this with rfl|hx'
  ·rw[Int.neg_neg];exact⟨i,r,hi⟩
  ·obtain⟨j,s,hj,-⟩:=hr x hx'
   exact⟨j,s,hj⟩
 have hlow:∀x,x∈d.lits->x≠-p->∃j s,j<n/\tr[j]?=some (-x,s):=fun x hx hne=>by
  have:=(hsame x).1 hx
  rw[hl]at this
  rcases List.mem_cons.1 this with rfl|hx'
  ·exact absurd rfl hne
  ·obtain⟨j,s,hj,-,hlt⟩:=hr x hx'
   refine⟨j,s,?_,hj⟩
   rcases Nat.lt_or_ge j n with h'|h'
   ·exact h'
   ·have:=gN tr h'
    have:=h.top
    omega
 rcases h.ok c d hc with⟨x,he,j,s,hj,-⟩|⟨a,b,q,he,w1,w2⟩
 ·exact h.trok.not_both ⟨j,s,hj⟩ (hfalse x (by rw[he];simp))
 ·have hne:a≠b:=by
   have:=(h.wf c d hc).1
   rw[he]at this
   simp only[List.map_cons,List.nodup_cons,List.mem_cons,not_or]at this
   exact fun e=>this.1.1 (by rw[e])
  by_cases ea:a=-p
  ·obtain⟨j,s,hj,hjs⟩:=hlow b (by rw[he];simp) (fun e=>hne (by rw[ea,e]))
   obtain⟨k,t,hk,-⟩:=w2 j s hj hjs
   exact h.trok.not_both ⟨k,t,hk⟩ (hfalse a (by rw[he];simp))
  ·obtain⟨j,s,hj,hjs⟩:=hlow a (by rw[he];simp) ea
   obtain⟨k,t,hk,-⟩:=w1 j s hj hjs
   exact h.trok.not_both ⟨k,t,hk⟩ (hfalse b (by rw[he];simp))
end
end Go.Proofs.YtekkkoipcghlmaaGreatDoor
namespace Go.Proofs.YtekkkoipcghlmaaGreatDoor
theorem wf_inj{l:List Int}(h:aM l){x y:Int}(hx:x∈l)(hy:y∈l)(he:x.natAbs=y.natAbs):x=y:=by
 obtain⟨i,hi⟩:=List.getElem?_of_mem hx
 obtain⟨j,hj⟩:=List.getElem?_of_mem hy
 have hi':=(List.getElem?_eq_some_iff.1 hi).1
 have hj':=(List.getElem?_eq_some_iff.1 hj).1
 have:i=j:=(List.getElem_inj (h₀:=by simpa using hi') (h₁:=by simpa using hj') h.1).1 (by
  rw[List.getElem_map,List.getElem_map]
  rw[List.getElem?_eq_getElem hi']at hi
  rw[List.getElem?_eq_getElem hj']at hj
  simp at hi hj
  rw[hi,hj,he])
 subst this
 rw[hi]at hj
 simpa using hj
theorem wf_opp{l:List Int}(h:aM l){x:Int}(hx:x∈l)(hy:-x∈l):False:=by
 have:=wf_inj h hx hy (by simp)
 have:=(h.2 x hx).1
 omega
theorem gF{l:List Int}(h:aM l):l.length<=12:=by
 have hb:∀v,v∈l.map Int.natAbs->0<v/\v<13:=by
  intro v hv
  obtain⟨x,hx,rfl⟩:=List.mem_map.1 hv
  have:=h.2 x hx
  omega
 have:=cE 13 (0::l.map Int.natAbs) (List.nodup_cons.2 ⟨fun h0=>by have:=hb 0 h0;omega,h.1⟩) (fun x hx=>by
  rcases List.mem_cons.1 hx with rfl|hx
  ·omega
  ·exact(hb x hx).2)
 simp at this
 omega
def dig(l:List Int)(v:Nat):Nat:=if (v:Int)∈l then 1 else if -(v:Int)∈l then 2 else 0
def eO(l:List Int):Nat->Nat
 | 0=>0
 | n+1=>eO l n+3 ^ n*dig l (n+1)
theorem dig_le(l:List Int)(v:Nat):dig l v<=2:=by
 unfold dig
 split
 ·omega
 ·split<;>omega
theorem kX(l:List Int):∀n,eO l n<3 ^ n
 | 0=>by simp[eO]
 | n+1=>by
  have h1:=kX l n
  have h2:3 ^ n*dig l (n+1)<=3 ^ n*2:=Nat.mul_le_mul_left _ (dig_le l _)
  rw[eO,Nat.pow_succ]
  omega
theorem rA(a b:List Int):∀n,eO a n=eO b n->∀v,0<v->v<=n->dig a v=dig b v
 | 0,_,v,h0,h1=>by omega
 | n+1,h,v,h0,h1=>by
  have ha:=kX a n
  have hb:=kX b n
  rw[eO,eO]at h
  have hp:0<3 ^ n:=Nat.pow_pos (by decide)
  have e1:(eO a n+3 ^ n*dig a (n+1)) % 3 ^ n=eO a n:=by rw[Nat.add_mul_mod_self_left,Nat.mod_eq_of_lt ha]
  have e2:(eO b n+3 ^ n*dig b (n+1)) % 3 ^ n=eO b n:=by rw[Nat.add_mul_mod_self_left,Nat.mod_eq_of_lt hb]
  have e3:eO a n=eO b n:=by rw[←e1,←e2,h]
  by_cases hv:v=n+1
  ·subst hv
   have e4:3 ^ n*dig a (n+1)=3 ^ n*dig b (n+1):=by omega
   exact Nat.eq_of_mul_eq_mul_left hp e4
  ·exact rA a b n e3 v h0 (by omega)
def code(l:List Int):Nat:=eO l 12
theorem aR5(l:List Int):code l<531441:=kX l 12
theorem wS{a b:List Int}(ha:aM a)(h:code a=code b){x:Int}(hx:x∈a):x∈b:=by
 have hb:=ha.2 x hx
 have hd:=rA a b 12 h x.natAbs (by omega) (by omega)
 rcases Int.lt_or_lt_of_ne hb.1 with hn|hp
 ·have e:-(x.natAbs:Int)=x:=by omega
  have e':(x.natAbs:Int)=-x:=by omega
  unfold dig at hd
  rw[e,e',if_neg (fun h=>wf_opp ha hx h),if_pos hx]at hd
  by_cases h1:-x∈b
  ·rw[if_pos h1]at hd;omega
  ·rw[if_neg h1]at hd
   by_cases h2:x∈b
   ·exact h2
   ·rw[if_neg h2]at hd;omega
 ·have e:(x.natAbs:Int)=x:=by omega
  unfold dig at hd
  rw[e,if_pos hx]at hd
  by_cases h1:x∈b
  ·exact h1
  ·rw[if_neg h1]at hd
   split at hd<;>omega
theorem aC5{a b:List Int}(h:∀x,x∈a↔x∈b):code a=code b:=by
 have hd:∀v,dig a v=dig b v:=fun v=>by unfold dig;simp only[h]
 have:∀n,eO a n=eO b n:=by
  intro n
  induction n with
  | zero=>rfl
  | succ n ih=>rw[eO,eO,ih,hd]
 exact this 12
theorem aD0{D:List (List Int)}(h:(D.map code).Nodup):D.length<=531441:=by
 have:=cE 531441 (D.map code) h (fun x hx=>by
  obtain⟨l,-,rfl⟩:=List.mem_map.1 hx
  exact aR5 l)
 simpa using this
theorem xS{cls:List Cl}(h:∀(c:Nat) cl,cls[c]?=some cl->aM cl.lits):(flat cls).length<=14*cls.length:=by
 induction cls with
 | nil=>simp[flat]
 | cons a r ih=>
  rw[dI,List.length_append,Cl.cells_len,List.length_cons]
  have h1:=gF (h 0 a rfl)
  have h2:=ih (fun c cl hc=>h (c+1) cl (by simpa using hc))
  omega
structure Rounds(conf rlen rmet:Int)(nl:Nat):Prop where
 fin:∃fin:Int,conf=fin+rmet/\0<=fin/\fin<=3*rlen
 met0:0<=rmet
 met:rmet<=(nl:Int)
 lt:rmet<rlen
 four:4<=rlen
 most:rlen<=800000
theorem Rounds.bound{conf rlen rmet:Int}{nl:Nat}(h:Rounds conf rlen rmet nl):0<=conf/\conf<3200000:=by
 obtain⟨f,h1,h2,h3⟩:=h.fin
 have:=h.met0
 have:=h.lt
 have:=h.most
 omega
theorem Rounds.begin(nl:Nat):Rounds 0 4 0 nl:=⟨⟨0,by omega,by omega,by omega⟩,by omega,by omega,by omega,by omega,by omega⟩
theorem Rounds.on{conf rlen rmet:Int}{nl:Nat}(h:Rounds conf rlen rmet nl)(hn:¬rlen<=rmet+1):Rounds (conf+1) rlen (rmet+1) (nl+1):=by
 obtain⟨f,h1,h2,h3⟩:=h.fin
 have:=h.met0
 have:=h.met
 exact⟨⟨f,by omega,h2,h3⟩,by omega,by omega,by omega,h.four,h.most⟩
theorem Rounds.next{conf rlen rmet:Int}{nl nl':Nat}(h:Rounds conf rlen rmet nl)(hn:rlen<=rmet+1)(hl:nl+1<=531441):Rounds (conf+1) (rlen+rlen / 2) 0 nl':=by
 obtain⟨f,h1,h2,h3⟩:=h.fin
 have:=h.met0
 have:=h.met
 have:=h.lt
 have:=h.four
 exact⟨⟨f+rlen,by omega,by omega,by omega⟩,by omega,by omega,by omega,by omega,by omega⟩
end Go.Proofs.YtekkkoipcghlmaaGreatDoor
