import Derived.Test.YtekkkoipcghlmaaGreatDoorU32
import Derived.Test.YtekkkoipcghlmaaGreatDoorU01
import Derived.Test.YtekkkoipcghlmaaGreatDoorU31
import Derived.Test.YtekkkoipcghlmaaGreatDoorU28
import Derived.Test.YtekkkoipcghlmaaGreatDoorU04
import Derived.Test.YtekkkoipcghlmaaGreatDoorU29
import Derived.Deep.AppendLies
import Derived.Deep.RegionWith
import Derived.WalkSmall
set_option linter.all false
namespace Go.Proofs.YtekkkoipcghlmaaGreatDoor
open Go.RowKit
def fJ(xs:List Int):Bool:=xs.any fun x=>xs.contains (-x)
def jC(xs ys:List Int):Bool:=decide (xs=ys)
set_option maxRecDepth 100000 in
set_option maxHeartbeats 400000 in
theorem oK(v:Value)(xs:List Int)(w:World)(hl:xs.length<=10000000)(hx:∀x,x∈xs->-12<=x/\x<=12)(hv:Lies w v (ints xs)):
  Calls Tryz.prog 99 #[v] w fun e w'=>e=.returned (.bool (fJ xs))/\w'=w:=by
 have hv0:=hv
 rcases hv with⟨h0,ao,cap,rfl⟩|⟨b,off,cap,hp,rfl,hb,hc⟩
 ·have hx0:xs=[]:=by simpa [ints] using h0
  subst hx0
  go_enter Tryz.func99,Tryz.ntmps99
  go_wp2
  refine wp_loop_rounds 1 ?_
  rw[rounds_succ]
  go_wp2
  go_ret
  exact⟨rfl,rfl⟩
 ·have hlen:(ints xs).length=xs.length:=by simp[ints]
  rw[hlen]at hp hv0⊢
  have HV:=aq hv0
  clear hv0
  go_enter Tryz.func99,Tryz.ntmps99
  go_wp2
  go_loop [3] (fun i=>∃k:Nat,k<=xs.length/\i=.int .i64 k/\Hid ((xs.take k).any (fun x=>xs.contains (-x))=false)) (fun i=>xs.length-(intOf i).toNat)
  case atStart=>exact⟨0,Nat.zero_le _,rfl,rfl⟩
  case round=>
   obtain⟨k,hk,rfl,HA⟩:=hrel
   by_cases hlt:k<xs.length
   ·have hcell:=hc k (.int .i64 xs[k]) (by simp[ints,hlt])
    have hxb:=hx xs[k] (List.getElem_mem hlt)
    have HM:Hid (xs[k]∈xs):=aq (List.getElem_mem hlt)
    have HS:Hid (xs.take (k+1)=xs.take k++[xs[k]]):=aq (List.take_succ_eq_append_getElem hlt)
    generalize xs[k]=x at hcell HM HS hxb
    clear hc hx
    have HI:=aq (nW _ xs (-x) w hl (dz HV))
    cases hcc:xs.contains (-x)
    ·rw[hcc]at HI
     have HCC:=aq hcc
     clear hcc
     go_wp2_with fail
     refine(dz HI).mono ?_
     rintro e w1 ⟨rfl,rfl⟩
     go_wp2
     go_round
     case rel=>exact⟨k+1,by omega,by go_num,aq (by rw[dz HS,List.any_append,dz HA];simp only[List.any_cons,List.any_nil,dz HCC];rfl)⟩
     case measure=>simp[intOf];omega
    ·rw[hcc]at HI
     have HCC:=aq hcc
     clear hcc
     go_wp2_with fail
     refine(dz HI).mono ?_
     rintro e w1 ⟨rfl,rfl⟩
     go_wp2
     go_ret
     have:fJ xs=true:=List.any_eq_true.2 ⟨x,dz HM,dz HCC⟩
     exact⟨by rw[this];rfl,rfl⟩
   ·have HT:Hid (xs.take k=xs):=aq (List.take_of_length_le (by omega))
    go_wp2
    go_ret
    have:fJ xs=false:=by have:=dz HA;rw[dz HT]at this;exact this
    exact⟨by rw[this];rfl,rfl⟩
set_option maxRecDepth 100000 in
set_option maxHeartbeats 400000 in
theorem aN1(v u:Value)(xs ys:List Int)(w:World)(hl:xs.length<=10000000)(hl2:ys.length<=10000000)(hv:Lies w v (ints xs))(hu:Lies w u (ints ys)):
  Calls Tryz.prog 182 #[v,u] w fun e w'=>e=.returned (.bool (jC xs ys))/\Below w.heap.size w w':=by
 have shape:∀{v:Value} {xs:List Int},Lies w v (ints xs)->∃ao cap,v=.slice ao xs.length cap:=by
  intro v xs h
  rcases h with⟨h0,ao,cap,rfl⟩|⟨b,off,cap,hp,rfl,hb,hc⟩
  ·have hx0:xs=[]:=by simpa [ints] using h0
   subst hx0;exact⟨_,_,rfl⟩
  ·exact⟨some ⟨b,off,none⟩,cap,by simp[ints]⟩
 by_cases hle:xs.length=ys.length
 ·rcases hv with⟨h0,ao,cap,rfl⟩|⟨b,off,cap,hp,rfl,hb,hc⟩
  ·have hx0:xs=[]:=by simpa [ints] using h0
   subst hx0
   have hy0:ys=[]:=List.length_eq_zero_iff.1 hle.symm
   subst hy0
   obtain⟨ao',cap',rfl⟩:=shape hu
   clear hu hle
   go_enter Tryz.func182,Tryz.ntmps182
   go_wp2
   refine wp_loop_rounds 1 ?_
   rw[rounds_succ]
   go_wp2
   go_ret
   exact⟨rfl,Below.refl _ _⟩
  ·rcases hu with⟨h0,ao,cap2,rfl⟩|⟨b2,off2,cap2,hp2,rfl,hb2,hc2⟩
   ·exfalso
    have hy0:ys=[]:=by simpa [ints] using h0
    subst hy0;simp[ints]at hp hle;rw[hle]at hp;simp at hp
   ·have hlen:(ints xs).length=xs.length:=by simp[ints]
    have hlen2:(ints ys).length=ys.length:=by simp[ints]
    rw[hlen]at hp⊢
    rw[hlen2,←hle]
    have HLE:=aq hle
    clear hle hp2 hlen2
    go_enter Tryz.func182,Tryz.ntmps182
    go_wp2
    go_loopw [5] (fun i wr=>∃k:Nat,k<=xs.length/\i=.int .i64 k/\Hid (xs.take k=ys.take k)/\∃q,wr=w.drewN q) (fun i _=>xs.length-(intOf i).toNat)
    case atStart=>exact⟨0,Nat.zero_le _,rfl,rfl,0,rfl⟩
    case round=>
     obtain⟨k,hk,rfl,HA,q,rfl⟩:=hrel
     by_cases hlt:k<xs.length
     ·have hlt2:k<ys.length:=by rw[←dz HLE];exact hlt
      have hc1:=hc k (.int .i64 xs[k]) (by simp[ints,hlt])
      have hc2':=hc2 k (.int .i64 ys[k]) (by simp[ints,hlt2])
      have HS:Hid (xs.take (k+1)=xs.take k++[xs[k]]):=aq (List.take_succ_eq_append_getElem hlt)
      have HS2:Hid (ys.take (k+1)=ys.take k++[ys[k]]):=aq (List.take_succ_eq_append_getElem hlt2)
      have HG:Hid (xs=ys->xs[k]=ys[k]):=aq (fun h=>by subst h;rfl)
      generalize xs[k]=x at hc1 HS HG
      generalize ys[k]=y at hc2' HS2 HG
      clear hc hc2 hlt2
      by_cases hxy:x=y
      ·subst hxy
       go_wp2
       go_quiet (fail)
       go_wp2
       go_roundw
       case rel=>exact⟨k+1,by omega,by go_num,aq (by rw[dz HS,dz HS2,dz HA]),_,rfl⟩
       case measure=>simp[intOf];omega
      ·have hq:(x==y)=false:=by simpa using hxy
       have HX:=aq hxy
       clear hxy
       go_wp2
       go_quiet (fail)
       go_wp2
       go_ret
       have:jC xs ys=false:=by unfold jC;simp;exact fun h=>dz HX (dz HG h)
       exact⟨by rw[this];rfl,below_drewN (below_drewN (Below.refl _ _) _) _⟩
     ·have HT:Hid (xs=ys):=aq (by
       have:=dz HA
       rw[List.take_of_length_le (by omega),List.take_of_length_le (by rw[←dz HLE];omega)]at this
       exact this)
      go_wp2
      go_ret
      exact⟨by rw[show jC xs ys=true from decide_eq_true (dz HT)];rfl,below_drewN (Below.refl _ _) _⟩
 ·obtain⟨ao,cap,rfl⟩:=shape hv
  obtain⟨ao',cap',rfl⟩:=shape hu
  clear hv hu
  have hq:((xs.length:Int)==(ys.length:Int))=false:=by rw[beq_eq_false_iff_ne];omega
  have HD:Hid (jC xs ys=false):=aq (by unfold jC;simp;intro h;subst h;exact hle rfl)
  clear hle
  go_enter Tryz.func182,Tryz.ntmps182
  go_wp2
  go_ret
  exact⟨by rw[dz HD];rfl,Below.refl _ _⟩
end Go.Proofs.YtekkkoipcghlmaaGreatDoor
namespace Go.Proofs.YtekkkoipcghlmaaGreatDoor
open Go.RowKit
def RowsIn(w:World)(vs:List Value)(L:List Nat):Prop:=vs.length=L.length/\∀(i:Nat) (x:Value) (m:Nat),vs[i]?=some x->L[i]?=some m->Lies w x (ints (Sp.litsOf m))
def RowsOf(w:World)(v:Value)(L:List Nat):Prop:=∃vs,Lies w v vs/\RowsIn w vs L
theorem RowsIn.below{w w':World}{vs:List Value}{L:List Nat}(h:RowsIn w vs L)(hb:Below w.heap.size w w'):RowsIn w' vs L:=⟨h.1,fun i x m hx hm=>(h.2 i x m hx hm).below hb⟩
theorem RowsOf.below{w w':World}{v:Value}{L:List Nat}(h:RowsOf w v L)(hb:Below w.heap.size w w'):RowsOf w' v L:=by
 obtain⟨vs,h1,h2⟩:=h
 exact⟨vs,h1.below hb,h2.below hb⟩
theorem RowsIn.nil(w:World):RowsIn w [] []:=⟨rfl,fun i x m hx _=>by simp at hx⟩
theorem RowsIn.snoc{w:World}{vs:List Value}{L:List Nat}{x:Value}{m:Nat}(h:RowsIn w vs L)(hx:Lies w x (ints (Sp.litsOf m))):RowsIn w (vs++[x]) (L++[m]):=by
 refine⟨by simp[h.1],fun i y d hy hd=>?_⟩
 by_cases hi:i<vs.length
 ·rw[List.getElem?_append_left hi]at hy
  rw[List.getElem?_append_left (by rw[←h.1];exact hi)]at hd
  exact h.2 i y d hy hd
 ·have hi':i=vs.length:=by
   rcases Nat.lt_or_ge vs.length i with hh|hh
   ·rw[List.getElem?_eq_none (by simp;omega)]at hy;cases hy
   ·omega
  subst hi'
  rw[List.getElem?_append_right (Nat.le_refl _)]at hy
  rw[h.1,List.getElem?_append_right (Nat.le_refl _)]at hd
  simp at hy hd
  subst hy hd
  exact hx
theorem aY{w:World}{v:Value}{vs:List Value}(h:Lies w v vs):∃ao cap,v=.slice ao vs.length cap:=by
 rcases h with⟨h0,ao,cap,rfl⟩|⟨b,off,cap,hp,rfl,hb,hc⟩
 ·subst h0;exact⟨_,_,rfl⟩
 ·exact⟨_,_,rfl⟩
theorem yT{m m':Nat}(h1:m<2 ^ 24)(h2:m'<2 ^ 24):jC (Sp.litsOf m) (Sp.litsOf m')=decide (m=m'):=by
 unfold jC
 rw[Bool.eq_iff_iff,decide_eq_true_iff,decide_eq_true_iff]
 exact⟨fun h=>Sp.litsOf_inj h1 h2 h,fun h=>by rw[h]⟩
theorem kP(l:List Nat)(x m:Nat):(l++[x]).erase m=if m∈l then l.erase m++[x]else if x=m then l else l++[x]:=by
 rw[List.erase_append]
 by_cases h:m∈l
 ·rw[if_pos h,if_pos h]
 ·rw[if_neg h,if_neg h]
  by_cases hx:x=m
  ·rw[if_pos hx,hx];simp
  ·rw[if_neg hx]
   congr 1
   simp[hx]
theorem bO(m:Nat):(Sp.litsOf m).length<=24:=by
 unfold Sp.litsOf
 rw[List.length_map]
 exact Nat.le_trans (List.length_filter_le _ _) (by simp)
set_option maxRecDepth 100000 in
set_option maxHeartbeats 800000 in
theorem wP(v u:Value)(L:List Nat)(m:Nat)(w:World)(hl:L.length<=4000000000000)(hL:∀c,c∈L->c<2 ^ 24)(hm:m<2 ^ 24)(hv:RowsOf w v L)(hu:Lies w u (ints (Sp.litsOf m))):
  Calls Tryz.prog 152 #[v,u] w fun e w'=>∃v',e=.returned (.tuple #[v',.bool (L.contains m)])/\RowsOf w' v' (L.erase m)/\Below w.heap.size w w':=by
 obtain⟨vs,hvs,hrows⟩:=hv
 have hlenv:=hrows.1
 rcases hvs with⟨h0,ao,cap,rfl⟩|⟨b,off,cap,hp,rfl,hb,hc⟩
 ·subst h0
  have hL0:L=[]:=List.length_eq_zero_iff.1 hlenv.symm
  subst hL0
  go_enter Tryz.func152,Tryz.ntmps152
  go_wp2
  refine wp_loop_rounds 1 ?_
  rw[rounds_succ]
  go_wp2
  go_ret2
  exact⟨_,rfl,⟨[],Lies.nil _,RowsIn.nil _⟩,Below.refl _ _⟩
 ·rw[hlenv]at hp⊢
  have HR:=aq hrows
  have HLV:=aq hlenv
  clear hrows hlenv
  go_enter Tryz.func152,Tryz.ntmps152
  go_wp2
  go_loopw [6,7,8] (fun o g i wr=>∃(k:Nat) (ys:List Value),k<=L.length/\i=.int .i64 k/\g=.bool ((L.take k).contains m)/\wr.ownsRow w.heap.size 25 1 o ys.length ys/\Hid (RowsIn w ys ((L.take k).erase m))/\Below w.heap.size w wr) (fun _ _ i _=>L.length-(intOf i).toNat)
  case atStart=>exact⟨0,[],Nat.zero_le _,rfl,rfl,World.ownsRow_nil _ _ _ _,RowsIn.nil _,Below.refl _ _⟩
  case round=>
   obtain⟨k,ys,hk,rfl,rfl,hown,HY,hbel⟩:=hrel
   have hyl:ys.length<=4000000000000:=by
    have h1:=(dz HY).1
    have h2:=List.length_erase_le (a:=m) (l:=L.take k)
    have h3:(L.take k).length<=k:=List.length_take_le _ _
    omega
   by_cases hlt:k<L.length
   ·have hkv:k<vs.length:=by rw[dz HLV];exact hlt
    have hcell:wr.cell? ⟨b,off+k,none⟩=some vs[k]:=(hbel.cell (p:=⟨b,off+k,none⟩) hb).trans (hc k vs[k] (List.getElem?_eq_getElem hkv))
    have hli:=(dz HR).2 k vs[k] L[k] (List.getElem?_eq_getElem hkv) (List.getElem?_eq_getElem hlt)
    have hcm:=hL L[k] (List.getElem_mem hlt)
    have HS:Hid (L.take (k+1)=L.take k++[L[k]]):=aq (List.take_succ_eq_append_getElem hlt)
    obtain⟨ao3,c3,hsh⟩:=aY hli
    generalize L[k]=c at *
    generalize vs[k]=x at *
    subst hsh
    rw[show(ints (Sp.litsOf c)).length=(Sp.litsOf c).length from by simp[ints]]at hcell hli
    have hl24:=bO c
    have hl24m:=bO m
    have HLI:=aq hli
    have HSA:=aq (aN1 _ u (Sp.litsOf c) (Sp.litsOf m) wr (by omega) (by omega) (hli.below hbel) (hu.below hbel))
    rw[yT hcm hm]at HSA
    clear hc hL hli
    generalize (Sp.litsOf c).length=nc at *
    cases hg:(L.take k).contains m
    ·have hg':m∉L.take k:=by simpa using hg
     by_cases hcmm:c=m
     ·rw[decide_eq_true hcmm]at HSA
      have HM:=aq hcmm
      have HG:=aq hg'
      clear hcmm hg hg'
      go_wp2_with fail
      refine(dz HSA).mono ?_
      rintro e w1 ⟨rfl,hb1⟩
      have hown1:=aR hown hb1
      have hbel1:=hbel.trans (hb1.mono hbel.size)
      go_wp2
      go_roundw
      case rel=>exact⟨k+1,ys,by omega,by go_num,by rw[dz HS];simp[dz HM],hown1,aq (by rw[dz HS,kP,if_neg (dz HG),if_pos (dz HM)];have:=dz HY;rwa [List.erase_of_not_mem (dz HG)]at this),hbel1⟩
      case measure=>simp[intOf];omega
     ·rw[decide_eq_false hcmm]at HSA
      have HM:=aq hcmm
      have HG:=aq hg'
      clear hcmm hg hg'
      go_wp2_with fail
      refine(dz HSA).mono ?_
      rintro e w1 ⟨rfl,hb1⟩
      have hown1:=aR hown hb1
      have hbel1:=hbel.trans (hb1.mono hbel.size)
      have hcell1:w1.cell? ⟨b,off+k,none⟩=some (.slice ao3 nc c3):=(hb1.cell (p:=⟨b,off+k,none⟩) (Nat.lt_of_lt_of_le hb hbel.size)).trans hcell
      go_wp2_with (at_builtin;refine fS rfl _ _ 27 25 rfl Tryz.underlying27 Tryz.infoInts rfl (by decide) hown1 rfl rfl rfl (by omega) (Nat.le_refl _) hbel1 ?_;intro v' w4 hown' hbel' hgr)
      go_roundw
      case rel=>exact⟨k+1,ys++[.slice ao3 nc c3],by omega,by go_num,by rw[dz HS];simp;exact⟨dz HG,fun h=>dz HM h.symm⟩,by simpa using hown',aq (by rw[dz HS,kP,if_neg (dz HG),if_neg (dz HM)];have:=dz HY;rw[List.erase_of_not_mem (dz HG)]at this;exact this.snoc (dz HLI)),hbel'⟩
      case measure=>simp[intOf];omega
    ·have hg':m∈L.take k:=by simpa using hg
     have HG:=aq hg'
     clear hg hg'
     go_wp2_with fail
     refine(dz HSA).mono ?_
     rintro e w1 ⟨rfl,hb1⟩
     have hown1:=aR hown hb1
     have hbel1:=hbel.trans (hb1.mono hbel.size)
     have hcell1:w1.cell? ⟨b,off+k,none⟩=some (.slice ao3 nc c3):=(hb1.cell (p:=⟨b,off+k,none⟩) (Nat.lt_of_lt_of_le hb hbel.size)).trans hcell
     cases decide (c=m)
     all_goals
      go_wp2_with (at_builtin;refine fS rfl _ _ 27 25 rfl Tryz.underlying27 Tryz.infoInts rfl (by decide) hown1 rfl rfl rfl (by omega) (Nat.le_refl _) hbel1 ?_;intro v' w4 hown' hbel' hgr)
      go_roundw
      case rel=>exact⟨k+1,ys++[.slice ao3 nc c3],by omega,by go_num,by rw[dz HS];simp[dz HG],by simpa using hown',aq (by rw[dz HS,kP,if_pos (dz HG)];exact(dz HY).snoc (dz HLI)),hbel'⟩
      case measure=>simp[intOf];omega
   ·have HT:Hid (L.take k=L):=aq (List.take_of_length_le (by omega))
    have HO:=aq hown
    clear hown
    go_wp2
    go_ret2
    have hy:=dz HY
    rw[dz HT]at hy
    exact⟨_,by rw[dz HT];rfl,⟨ys,aE (dz HO) rfl,hy.below hbel⟩,hbel⟩
end Go.Proofs.YtekkkoipcghlmaaGreatDoor
namespace Go.Proofs.YtekkkoipcghlmaaGreatDoor
open Go.RowKit
theorem tT(w:World):
  Calls Tryz.prog 23 #[] w fun e w'=>e=.returned (.pointer (some ⟨w.heap.size,0,none⟩))/\w'=w.alloc (.cells #[.slice none 0 0,.int .i64 0,.slice none 0 0] 77):=by
 go_enter Tryz.func23,Tryz.ntmps23
 go_wp2
 go_ret
 exact⟨rfl,rfl⟩
theorem aA1:∀a:Fin 256,Lib.onesCount a.val=((List.range 8).filter (fun i=>a.val.testBit i)).length:=by decide +kernel
theorem iH(m s:Nat):((List.range 8).map (· + s)).filter (fun i=>m.testBit i)=((List.range 8).filter (fun i=>(m / 2 ^ s % 256).testBit i)).map (· + s):=by
 rw[List.filter_map]
 congr 1
 apply List.filter_congr
 intro i hi
 have hi8:i<8:=by simpa using hi
 simp only[Function.comp]
 rw[show(256:Nat)=2 ^ 8 from rfl,Nat.testBit_mod_two_pow,Nat.testBit_div_two_pow]
 simp[hi8]
theorem zY{m:Nat}:dY m=(Sp.litsOf m).length:=by
 have e:List.range 24=(List.range 8).map (· + 0)++(List.range 8).map (· + 8)++(List.range 8).map (· + 16):=by decide
 have b:=fun(x:Nat) (h:x<256)=>aA1 ⟨x,h⟩
 unfold Sp.litsOf dY
 rw[List.length_map,e,List.filter_append,List.filter_append,iH,iH,iH]
 simp only[List.length_append,List.length_map]
 have h1:=b (m / 65536 % 256) (by omega)
 have h2:=b (m / 256 % 256) (by omega)
 have h3:=b (m % 256) (by omega)
 simp only at h1 h2 h3
 rw[h1,h2,h3]
 simp only[Nat.pow_zero,Nat.div_one,show(2:Nat) ^ 8=256 from rfl,show(2:Nat) ^ 16=65536 from rfl]
 omega
theorem wF(ms:List Nat):aW ms<=24*ms.length:=by
 induction ms with
 | nil=>simp[aW]
 | cons a r ih=>
  have:=bO a
  simp only[aW,List.map_cons,List.sum_cons,List.length_cons]at ih⊢
  omega
def addTo(ms:List Nat)(xs:List Int):Int×List Nat:=
 if bD xs=false then(1,ms)else if aO (Sp.maskOf xs)=true then(0,ms)else if 400<aW ms+(Sp.litsOf (Sp.maskOf xs)).length then(2,ms)else(0,ms++[Sp.maskOf xs])
theorem Tryz.infoClauseK:(Tryz.prog.info? 69).map (fun i=>(i.zero,i.size,i.bytes))=some (some (.int .u32 0),1,4):=by kernel_rfl
def XF(x:Nat)(kv:Value)(k:Nat):Prop:=k=x∨kv.ownBlock=some k
def AddX(base x:Nat)(kv:Value)(ms:List Nat)(xs:List Int)(pv:Value)(pb:List UInt8)(w w':World):Prop:=
 ∃kv',XAt base w' x kv' (addTo ms xs).2 pv pb/\Only (XF x kv) w w'/\∀g,kv'.ownBlock=some g->kv.ownBlock=some g∨w.heap.size<=g
theorem XAt.below{base:Nat}{w w':World}{x:Nat}{kv pv:Value}{ms:List Nat}{pb:List UInt8}(h:XAt base w x kv ms pv pb)(hb:Below w.heap.size w w'):XAt base w' x kv ms pv pb:=
 ⟨(hb.block x (aA h.block)).trans h.block,h.le,aH h.row (fun g hg=>hb.block g (h.row.lt g hg).2),aH h.prow (fun g hg=>hb.block g (h.prow.lt g hg).2)⟩
theorem AddX.stay{base x:Nat}{kv pv:Value}{ms:List Nat}{xs:List Int}{pb:List UInt8}{w w':World}(h:XAt base w x kv ms pv pb)(hb:Below w.heap.size w w')(ha:(addTo ms xs).2=ms):AddX base x kv ms xs pv pb w w':=
 ⟨kv,by rw[ha];exact h.below hb,Only.of_below _ hb,fun g hg=>.inl hg⟩
theorem aQ3(ms:List Nat)(m:Nat):us (ms++[m])=us ms++[.int .u32 (m:Int)]:=by simp[us]
structure Mid(base x:Nat)(kv:Value)(ms:List Nat)(pv:Value)(pb:List UInt8)(m:Nat)(w w4:World)(g' cap':Nat):Prop where
 block:w4.heap[x]?=some (.cells #[kv,.int .i64 (aW ms:Int),pv] 77 (0,0))
 prow:w4.ownsRow base 5 1 pv pb.length (dX pb)
 row:w4.ownsRow base 69 1 (.slice (some ⟨g',0,none⟩) (ms.length+1) cap') (ms.length+1) (us ms++[.int .u32 (m:Int)])
 only:Only (XF x kv) w w4
 loc:kv.ownBlock=some g'∨w.heap.size<=g'
 ne:g'≠x
theorem mid_of{base x:Nat}{kv pv:Value}{ms:List Nat}{pb:List UInt8}{m:Nat}{w wz w4:World}{g' cap':Nat}{o:Obj}(hX:XAt base w x kv ms pv pb)(hz:Below w.heap.size w wz)
  (hown:w4.ownsRow base 69 1 (.slice (some ⟨g',0,none⟩) (ms.length+1) cap') (ms.length+1) (us ms++[.int .u32 (m:Int)])) (hgr:(wz.alloc o).grownBy w4 kv.ownBlock) (hloc:kv.ownBlock=some g'∨g'=(wz.alloc o).heap.size):
  Mid base x kv ms pv pb m w w4 g' cap':=by
 have hlt:=aA hX.block
 have hzs:=hz.size
 have hne:kv.ownBlock≠some x:=aZ hX.row hX.block (by decide)
 have hb1:(wz.alloc o).heap[x]?=some (.cells #[kv,.int .i64 (aW ms:Int),pv] 77 (0,0)):=by
  rw[Below.heap_alloc _ _ _ (by omega),hz.block x hlt];exact hX.block
 have hp1:(wz.alloc o).ownsRow base 5 1 pv pb.length (dX pb):=(aH hX.prow (fun g hg=>hz.block g (hX.prow.lt g hg).2)).alloc o
 have hp4:w4.ownsRow base 5 1 pv pb.length (dX pb):=hp1.kept hgr (eY (by decide) hX.prow hX.row)
 refine⟨by rw[hgr.block x (aA hb1) (fun e=>hne e.symm)];exact hb1,hp4,hown,(Only.of_below _ hz).trans ((Only.alloc _ wz o).trans (Only.grown hgr (fun k hk=>.inr hk))),?_,?_⟩
 ·rcases hloc with h|h
  ·exact .inl h
  ·exact .inr (by rw[h];simp;omega)
 ·rcases hloc with h|h
  ·intro e;subst e;exact hne h
  ·rw[h];simp;omega
theorem Mid.cell0{base x:Nat}{kv pv:Value}{ms:List Nat}{pb:List UInt8}{m:Nat}{w w4:World}{g' cap':Nat}(h:Mid base x kv ms pv pb m w w4 g' cap'):w4.cell? ⟨x,0,none⟩=some kv:=by simp[World.cell?,h.block]
theorem Mid.cell1{base x:Nat}{kv pv:Value}{ms:List Nat}{pb:List UInt8}{m:Nat}{w w4:World}{g' cap':Nat}(h:Mid base x kv ms pv pb m w w4 g' cap'):w4.cell? ⟨x,1,none⟩=some (.int .i64 (aW ms:Int)):=by simp[World.cell?,h.block]
theorem Mid.free{base x:Nat}{kv pv:Value}{ms:List Nat}{pb:List UInt8}{m:Nat}{w w4:World}{g' cap':Nat}(h:Mid base x kv ms pv pb m w w4 g' cap')(j:Nat):w4.frozen? ⟨x,j,none⟩=false:=frozen_of_row w4 _ _ _ _ h.block
theorem nX{w:World}{base:Nat}{e:TypeId}{s:Nat}{v:Value}{n:Nat}{xs:List Value}(h:w.ownsRow base e s v n xs)(q:Nat):(w.drewN q).ownsRow base e s v n xs:=aH h (fun _ _=>rfl)
theorem Mid.fin{base x:Nat}{kv pv:Value}{ms:List Nat}{pb:List UInt8}{m:Nat}{w w4 wm:World}{g' cap':Nat}(h:Mid base x kv ms pv pb m w w4 g' cap')(hle:base<=x)(hm:Below (w4.setCell ⟨x,0,none⟩ (.slice (some ⟨g',0,none⟩) (ms.length+1) cap')).heap.size (w4.setCell ⟨x,0,none⟩ (.slice (some ⟨g',0,none⟩) (ms.length+1) cap')) wm)
  {n:Int} (hn:n=(aW (ms++[m]):Nat)) (_hlt:x<w.heap.size):XAt base (wm.setCell ⟨x,1,none⟩ (.int .i64 n)) x (.slice (some ⟨g',0,none⟩) (ms.length+1) cap') (ms++[m]) pv pb/\Only (XF x kv) w (wm.setCell ⟨x,1,none⟩ (.int .i64 n)):=by
 subst hn
 have h0:=heap_setCell_same w4 x 0 _ _ (.slice (some ⟨g',0,none⟩) (ms.length+1) cap') h.block
 have hlt4:=aA h0
 have h1:=(hm.block x hlt4).trans h0
 have h2:=heap_setCell_same wm x 1 _ _ (.int .i64 (aW (ms++[m]):Nat)) h1
 have hpn:pv.ownBlock≠some x:=aZ h.prow h.block (by decide)
 refine⟨⟨by rw[h2];rfl,hle,?_,?_⟩,?_⟩
 ·rw[List.length_append,aQ3]
  have r1:=ownsRow_setCell_other h.row (a:=⟨x,0,none⟩) (by simp[Value.ownBlock];exact h.ne) (.slice (some ⟨g',0,none⟩) (ms.length+1) cap')
  have r2:=aR r1 hm
  exact ownsRow_setCell_other r2 (a:=⟨x,1,none⟩) (by simp[Value.ownBlock];exact h.ne) _
 ·have r1:=ownsRow_setCell_other h.prow (a:=⟨x,0,none⟩) hpn (.slice (some ⟨g',0,none⟩) (ms.length+1) cap')
  have r2:=aR r1 hm
  exact ownsRow_setCell_other r2 (a:=⟨x,1,none⟩) hpn _
 ·exact h.only.trans ((Only.setCell (F:=XF x kv) (p:=⟨x,0,none⟩) (.inl rfl) _ _).trans ((Only.of_below _ hm).trans (Only.setCell (F:=XF x kv) (p:=⟨x,1,none⟩) (.inl rfl) _ _)))
theorem AddX.grow{base x:Nat}{kv pv:Value}{ms:List Nat}{pb:List UInt8}{m:Nat}{xs:List Int}{w w4 w':World}{g' cap':Nat}(h:Mid base x kv ms pv pb m w w4 g' cap')(hx:XAt base w' x (.slice (some ⟨g',0,none⟩) (ms.length+1) cap') (ms++[m]) pv pb)(ho:Only (XF x kv) w w')(ha:(addTo ms xs).2=ms++[m]):AddX base x kv ms xs pv pb w w':=
 ⟨_,by rw[ha];exact hx,ho,fun g hg=>by simp[Value.ownBlock]at hg;subst hg;exact h.loc⟩
set_option maxRecDepth 100000 in
set_option maxHeartbeats 1600000 in
theorem aM0(base x:Nat)(kv v:Value)(ms:List Nat)(xs:List Int)(w:World)(pv:Value)(pb:List UInt8)(hX:XAt base w x kv ms pv pb)(hms:ms.length<=10000000)(hl:xs.length<=10000000)(hv:Lies w v (ints xs)):
  Calls Tryz.prog 24 #[.pointer (some ⟨x,0,none⟩),v] w fun e w'=>e=.returned (.int .i64 (addTo ms xs).1)/\AddX base x kv ms xs pv pb w w':=by
 have HF:=aq (fK v xs w hl hv)
 have hszl:=wF ms
 obtain⟨ao,cp,hsh⟩:=aC hX.row
 subst hsh
 have hc0:w.cell? ⟨x,0,none⟩=some (.slice ao ms.length cp):=by simp[World.cell?,hX.block]
 have hc1:w.cell? ⟨x,1,none⟩=some (.int .i64 (aW ms:Int)):=by simp[World.cell?,hX.block]
 have HX:=aq hX
 clear hX hv
 cases ha:bD xs
 ·have HT:Hid (addTo ms xs=(1,ms)):=aq (by unfold addTo;rw[if_pos ha])
  have HA:=aq ha
  clear ha
  go_enter Tryz.func24,Tryz.ntmps24
  go_wp2_with fail
  refine(dz HF).mono ?_
  rintro e w1 ⟨rfl,⟨h1,rfl⟩|⟨h1,rfl⟩⟩
  ·clear h1
   go_wp2
   go_ret
   exact⟨by rw[dz HT];rfl,AddX.stay (dz HX) (Below.refl _ _) (by rw[dz HT])⟩
  ·rw[dz HA]at h1;cases h1
 ·have hbd:∀y,y∈xs->y≠0/\-12<=y/\y<=12:=fun y hy=>cJ.1 (by rw[bD,List.all_eq_true]at ha;exact ha y hy)
  have hm:Sp.maskOf xs<2 ^ 24:=Sp.maskOf_lt _ (fun y hy=>(hbd y hy).2)
  have HAL:=aq (fun wx=>iQ (Sp.maskOf xs) wx hm)
  have HSI:=aq (fun wx=>tR (Sp.maskOf xs) wx hm)
  rw[zY]at HSI
  have h24:=bO (Sp.maskOf xs)
  have HT0:Hid (aO (Sp.maskOf xs)=true->addTo ms xs=(0,ms)):=aq (fun h=>by unfold addTo;rw[if_neg (by rw[ha];decide),if_pos h])
  have HT2:Hid (aO (Sp.maskOf xs)=false->400<aW ms+(Sp.litsOf (Sp.maskOf xs)).length->addTo ms xs=(2,ms)):=aq (fun h h2=>by unfold addTo;rw[if_neg (by rw[ha];decide),if_neg (by rw[h];decide),if_pos h2])
  have HT3:Hid (aO (Sp.maskOf xs)=false->¬400<aW ms+(Sp.litsOf (Sp.maskOf xs)).length->addTo ms xs=(0,ms++[Sp.maskOf xs])):=aq (fun h h2=>by unfold addTo;rw[if_neg (by rw[ha];decide),if_neg (by rw[h];decide),if_neg h2])
  have HSN:=aq (gY ms (Sp.maskOf xs))
  have HA:=aq ha
  clear ha hbd
  generalize hsz:(Sp.litsOf (Sp.maskOf xs)).length=sz at *
  clear hsz
  generalize hmm:Sp.maskOf xs=m at *
  have HMM:=aq hmm
  clear hmm
  generalize hal:aO m=al at *
  clear hal
  generalize hai:bD xs=ai at *
  clear hai
  have hwr:IntKind.i64.wrap ((aW ms:Int)+(sz:Int))=(aW ms:Int)+(sz:Int):=by rw[IntKind.wrap_i64];omega
  cases al
  ·by_cases h4:400<aW ms+sz
   ·have HT:=aq (dz HT2 rfl h4)
    clear HT0 HT2 HT3
    go_enter Tryz.func24,Tryz.ntmps24
    go_wp2_with fail
    refine(dz HF).mono ?_
    rintro e w1 ⟨rfl,⟨h1,rfl⟩|⟨h1,rfl⟩⟩
    ·rw[dz HA]at h1;cases h1
    ·clear h1
     go_wp2_with fail
     refine(dz HAL _).mono ?_
     rintro e w2 ⟨rfl,q,rfl⟩
     go_wp2
     go_region_with (go_at_call 47;refine(dz HSI _).mono ?_;rintro e w3 ⟨rfl,q2,rfl⟩)
     all_goals go_wp2
     all_goals go_ret
     all_goals exact⟨by rw[dz HT];rfl,AddX.stay (dz HX) (aG (Below.refl _ _) _) (by rw[dz HT])⟩
   ·have HT:=aq (dz HT3 rfl h4)
    clear HT0 HT2 HT3
    go_enter Tryz.func24,Tryz.ntmps24
    go_wp2_with fail
    refine(dz HF).mono ?_
    rintro e w1 ⟨rfl,⟨h1,rfl⟩|⟨h1,rfl⟩⟩
    ·rw[dz HA]at h1;cases h1
    ·clear h1
     have hbase:base<=w1.heap.size:=Nat.le_trans (dz HX).le (Nat.le_of_lt (aA (dz HX).block))
     go_wp2_with fail
     refine(dz HAL _).mono ?_
     rintro e w2 ⟨rfl,q,rfl⟩
     go_wp2
     go_region_with (go_at_call 47;refine(dz HSI _).mono ?_;rintro e w3 ⟨rfl,q2,rfl⟩)
     all_goals go_wp2_with (at_builtin;refine bY (base:=base) rfl _ _ 74 69 rfl Tryz.underlying74 Tryz.infoClauseK rfl (by decide) (nX (dz HX).row _) rfl rfl rfl (by omega) hbase ?_;intro g' cap' w4 hown4 hgr4 hloc;have HMID:=aq (mid_of (dz HX) (aG (Below.refl _ _) _) hown4 hgr4 hloc);clear hown4 hgr4 hloc;have hc04:=(dz HMID).cell0;have hc14:=(dz HMID).cell1;have hf04:=(dz HMID).free 0;have hf14:=(dz HMID).free 1)
     all_goals go_region_with (go_at_call 47;refine(dz HSI _).mono ?_;rintro e w5 ⟨rfl,q3,rfl⟩)
     all_goals go_wp2
     all_goals go_ret
     all_goals exact⟨by rw[dz HT];rfl,AddX.grow (dz HMID) (Mid.fin (dz HMID) (dz HX).le (aG (Below.refl _ _) _) (by rw[dz HSN];omega) (aA (dz HX).block)).1 (Mid.fin (dz HMID) (dz HX).le (aG (Below.refl _ _) _) (by rw[dz HSN];omega) (aA (dz HX).block)).2 (by rw[dz HT])⟩
  ·have HT:=aq (dz HT0 rfl)
   clear HT0 HT2 HT3
   go_enter Tryz.func24,Tryz.ntmps24
   go_wp2_with fail
   refine(dz HF).mono ?_
   rintro e w1 ⟨rfl,⟨h1,rfl⟩|⟨h1,rfl⟩⟩
   ·rw[dz HA]at h1;cases h1
   ·clear h1
    go_wp2_with fail
    refine(dz HAL _).mono ?_
    rintro e w2 ⟨rfl,q,rfl⟩
    go_wp2
    go_ret
    exact⟨by rw[dz HT];rfl,AddX.stay (dz HX) (aG (Below.refl _ _) q) (by rw[dz HT])⟩
end Go.Proofs.YtekkkoipcghlmaaGreatDoor
