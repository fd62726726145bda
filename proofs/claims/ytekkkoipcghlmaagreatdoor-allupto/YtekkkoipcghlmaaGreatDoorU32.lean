import Derived.Test.YtekkkoipcghlmaaGreatDoorU29
import Derived.Test.YtekkkoipcghlmaaGreatDoorU31
import Derived.Test.YtekkkoipcghlmaaGreatDoorU30
set_option linter.all false
namespace Go.Proofs.YtekkkoipcghlmaaGreatDoor
open Go.RowKit
theorem bP{k:IntKind}{a b:Int}(h:a=b):Ending.returned (.int k a)=.returned (.int k b):=by rw[h]
set_option maxRecDepth 100000 in
set_option maxHeartbeats 1600000 in
theorem aG6(a:UInt8)(r:List UInt8)(w:World)(ha:¬a=45)(hl:r.length<=10000000):
  Calls Tryz.prog 181 #[.string (bs (a::r))] w fun e w'=>e=.returned (.int .i64 (Sp.num (a::r)))/\w'=w:=by
 have hab:=UInt8.toNat_lt a
 have ht:((a.toNat:Int)==45)=false:=kY (by decide) ha
 rcases r with _|⟨b,_|⟨c,r⟩⟩
 ·have hemp:(bs ([a])).toList.isEmpty=false:=bK (by simp)
  have hsz:(bs ([a])).size=1:=by rw[aN];simp
  have h0:0<(bs ([a])).size:=by omega
  have hg0:(bs ([a]))[0]=a:=dZ (l:=[a]) (k:=0) (by simp)
  by_cases ha48:a.toNat=48
  ·have hq:((a.toNat:Int)==48)=true:=by rw[beq_iff_eq];omega
   have HA:=aq ha48
   clear ha48
   go_enter Tryz.func181,Tryz.ntmps181
   go_wp2
   go_ret
   exact⟨bP (by have:=dz HA;unfold Sp.num;simp only[];rw[if_neg (by omega)]),rfl⟩
  have hq:((a.toNat:Int)==48)=false:=by rw[beq_eq_false_iff_ne];omega
  by_cases hlo:a.toNat<48
  ·have hlo':(a.toNat:Int)<48:=by omega
   go_enter Tryz.func181,Tryz.ntmps181
   go_wp2
   refine wp_loop_rounds 2 ?_
   rw[rounds_succ]
   go_wp2
   go_ret
   exact⟨bP (by unfold Sp.num;simp only[];rw[if_neg (by omega)]),rfl⟩
  by_cases hhi:57<a.toNat
  ·have hhi':(57:Int)<a.toNat:=by omega
   have hlo':¬(a.toNat:Int)<48:=by omega
   go_enter Tryz.func181,Tryz.ntmps181
   go_wp2
   refine wp_loop_rounds 2 ?_
   rw[rounds_succ]
   go_wp2
   go_ret
   exact⟨bP (by unfold Sp.num;simp only[];rw[if_neg (by omega)]),rfl⟩
  have hlo':¬(a.toNat:Int)<48:=by omega
  have hhi':¬(57:Int)<a.toNat:=by omega
  go_enter Tryz.func181,Tryz.ntmps181
  go_wp2
  refine wp_loop_rounds 3 ?_
  rw[rounds_succ]
  go_wp2
  rw[rounds_succ]
  go_wp2
  go_ret
  exact⟨bP (by unfold Sp.num;simp only[];rw[if_pos (by omega)]),rfl⟩
 ·have hemp:(bs ([a,b])).toList.isEmpty=false:=bK (by simp)
  have hsz:(bs ([a,b])).size=2:=by rw[aN];simp
  have h0:0<(bs ([a,b])).size:=by omega
  have hg0:(bs ([a,b]))[0]=a:=dZ (l:=[a,b]) (k:=0) (by simp)
  have hbb:=UInt8.toNat_lt b
  have h1:1<(bs [a,b]).size:=by omega
  have hg1:(bs [a,b])[1]=b:=dZ (l:=[a,b]) (k:=1) (by simp)
  by_cases ha48:a.toNat=48
  ·have hq:((a.toNat:Int)==48)=true:=by rw[beq_iff_eq];omega
   have HA:=aq ha48
   clear ha48
   go_enter Tryz.func181,Tryz.ntmps181
   go_wp2
   go_ret
   exact⟨bP (by have:=dz HA;unfold Sp.num;simp only[];rw[if_neg (by omega)]),rfl⟩
  have hq:((a.toNat:Int)==48)=false:=by rw[beq_eq_false_iff_ne];omega
  by_cases hlo:a.toNat<48
  ·have hlo':(a.toNat:Int)<48:=by omega
   go_enter Tryz.func181,Tryz.ntmps181
   go_wp2
   refine wp_loop_rounds 2 ?_
   rw[rounds_succ]
   go_wp2
   go_ret
   exact⟨bP (by unfold Sp.num;simp only[];rw[if_neg (by omega)]),rfl⟩
  by_cases hhi:57<a.toNat
  ·have hhi':(57:Int)<a.toNat:=by omega
   have hlo':¬(a.toNat:Int)<48:=by omega
   go_enter Tryz.func181,Tryz.ntmps181
   go_wp2
   refine wp_loop_rounds 2 ?_
   rw[rounds_succ]
   go_wp2
   go_ret
   exact⟨bP (by unfold Sp.num;simp only[];rw[if_neg (by omega)]),rfl⟩
  have hlo':¬(a.toNat:Int)<48:=by omega
  have hhi':¬(57:Int)<a.toNat:=by omega
  by_cases hblo:b.toNat<48
  ·have hblo':(b.toNat:Int)<48:=by omega
   go_enter Tryz.func181,Tryz.ntmps181
   go_wp2
   refine wp_loop_rounds 3 ?_
   rw[rounds_succ]
   go_wp2
   rw[rounds_succ]
   go_wp2
   go_ret
   exact⟨bP (by unfold Sp.num;simp only[];rw[if_neg (by omega)]),rfl⟩
  by_cases hbhi:57<b.toNat
  ·have hbhi':(57:Int)<b.toNat:=by omega
   have hblo':¬(b.toNat:Int)<48:=by omega
   go_enter Tryz.func181,Tryz.ntmps181
   go_wp2
   refine wp_loop_rounds 3 ?_
   rw[rounds_succ]
   go_wp2
   rw[rounds_succ]
   go_wp2
   go_ret
   exact⟨bP (by unfold Sp.num;simp only[];rw[if_neg (by omega)]),rfl⟩
  have hblo':¬(b.toNat:Int)<48:=by omega
  have hbhi':¬(57:Int)<b.toNat:=by omega
  by_cases hsum:(12:Int)<10*((a.toNat:Int)-48)+((b.toNat:Int)-48)
  ·go_enter Tryz.func181,Tryz.ntmps181
   go_wp2
   refine wp_loop_rounds 3 ?_
   rw[rounds_succ]
   go_wp2
   rw[rounds_succ]
   go_wp2
   rw[rounds_succ]
   go_wp2
   go_ret
   exact⟨bP (by unfold Sp.num;simp only[];rw[if_neg (by omega)]),rfl⟩
  go_enter Tryz.func181,Tryz.ntmps181
  go_wp2
  refine wp_loop_rounds 3 ?_
  rw[rounds_succ]
  go_wp2
  rw[rounds_succ]
  go_wp2
  rw[rounds_succ]
  go_wp2
  go_ret
  exact⟨bP (by unfold Sp.num;simp only[];rw[if_pos (by omega)];omega),rfl⟩
 ·have hemp:(bs (a::b::c::r)).toList.isEmpty=false:=bK (by simp)
  have hsz:(bs (a::b::c::r)).size=r.length+3:=by rw[aN];simp
  have h0:0<(bs (a::b::c::r)).size:=by omega
  have hg0:(bs (a::b::c::r))[0]=a:=dZ (l:=a::b::c::r) (k:=0) (by simp)
  have hbig:(2:Int)<(r.length:Int)+3:=by omega
  go_enter Tryz.func181,Tryz.ntmps181
  go_wp2
  go_ret
  exact⟨bP (by simp[Sp.num]),rfl⟩
set_option maxRecDepth 100000 in
set_option maxHeartbeats 1600000 in
theorem xF(a:UInt8)(r:List UInt8)(w:World)(hl:r.length<=10000000):
  Calls Tryz.prog 181 #[.string (bs (45::a::r))] w fun e w'=>e=.returned (.int .i64 (-Sp.num (a::r)))/\w'=w:=by
 have hab:=UInt8.toNat_lt a
 rcases r with _|⟨b,_|⟨c,r⟩⟩
 ·have hemp:(bs ([a])).toList.isEmpty=false:=bK (by simp)
  have hsz:(bs ([a])).size=1:=by rw[aN];simp
  have h0:0<(bs ([a])).size:=by omega
  have hg0:(bs ([a]))[0]=a:=dZ (l:=[a]) (k:=0) (by simp)
  have hempF:(bs ([45,a])).toList.isEmpty=false:=bK (by simp)
  have hszF:(bs ([45,a])).size=1+1:=by rw[aN];simp
  have h0F:0<(bs ([45,a])).size:=by omega
  have hgF:(bs ([45,a]))[0]=45:=dZ (l:=[45,a]) (k:=0) (by simp)
  have hslF:∀wx,(Instr.slice 9 (.string (bs ([45,a]))) (some (.int .i64 1)) none none).run Tryz.prog wx=.ok (.string (bs ([a]))) wx:=fun wx=>dG (P:=Tryz.prog) 9 Tryz.underlying9 ([45,a]) 1 1 rfl (by simp) wx
  by_cases ha48:a.toNat=48
  ·have hq:((a.toNat:Int)==48)=true:=by rw[beq_iff_eq];omega
   have HA:=aq ha48
   clear ha48
   go_enter Tryz.func181,Tryz.ntmps181
   go_wp2
   go_ret
   exact⟨bP (by have:=dz HA;unfold Sp.num;simp only[];rw[if_neg (by omega)];rfl),rfl⟩
  have hq:((a.toNat:Int)==48)=false:=by rw[beq_eq_false_iff_ne];omega
  by_cases hlo:a.toNat<48
  ·have hlo':(a.toNat:Int)<48:=by omega
   go_enter Tryz.func181,Tryz.ntmps181
   go_wp2
   refine wp_loop_rounds 2 ?_
   rw[rounds_succ]
   go_wp2
   go_ret
   exact⟨bP (by unfold Sp.num;simp only[];rw[if_neg (by omega)];rfl),rfl⟩
  by_cases hhi:57<a.toNat
  ·have hhi':(57:Int)<a.toNat:=by omega
   have hlo':¬(a.toNat:Int)<48:=by omega
   go_enter Tryz.func181,Tryz.ntmps181
   go_wp2
   refine wp_loop_rounds 2 ?_
   rw[rounds_succ]
   go_wp2
   go_ret
   exact⟨bP (by unfold Sp.num;simp only[];rw[if_neg (by omega)];rfl),rfl⟩
  have hlo':¬(a.toNat:Int)<48:=by omega
  have hhi':¬(57:Int)<a.toNat:=by omega
  go_enter Tryz.func181,Tryz.ntmps181
  go_wp2
  refine wp_loop_rounds 3 ?_
  rw[rounds_succ]
  go_wp2
  rw[rounds_succ]
  go_wp2
  go_ret
  exact⟨bP (by unfold Sp.num;simp only[];rw[if_pos (by omega)]),rfl⟩
 ·have hemp:(bs ([a,b])).toList.isEmpty=false:=bK (by simp)
  have hsz:(bs ([a,b])).size=2:=by rw[aN];simp
  have h0:0<(bs ([a,b])).size:=by omega
  have hg0:(bs ([a,b]))[0]=a:=dZ (l:=[a,b]) (k:=0) (by simp)
  have hempF:(bs ([45,a,b])).toList.isEmpty=false:=bK (by simp)
  have hszF:(bs ([45,a,b])).size=2+1:=by rw[aN];simp
  have h0F:0<(bs ([45,a,b])).size:=by omega
  have hgF:(bs ([45,a,b]))[0]=45:=dZ (l:=[45,a,b]) (k:=0) (by simp)
  have hslF:∀wx,(Instr.slice 9 (.string (bs ([45,a,b]))) (some (.int .i64 1)) none none).run Tryz.prog wx=.ok (.string (bs ([a,b]))) wx:=fun wx=>dG (P:=Tryz.prog) 9 Tryz.underlying9 ([45,a,b]) 1 1 rfl (by simp) wx
  have hbb:=UInt8.toNat_lt b
  have h1:1<(bs [a,b]).size:=by omega
  have hg1:(bs [a,b])[1]=b:=dZ (l:=[a,b]) (k:=1) (by simp)
  by_cases ha48:a.toNat=48
  ·have hq:((a.toNat:Int)==48)=true:=by rw[beq_iff_eq];omega
   have HA:=aq ha48
   clear ha48
   go_enter Tryz.func181,Tryz.ntmps181
   go_wp2
   go_ret
   exact⟨bP (by have:=dz HA;unfold Sp.num;simp only[];rw[if_neg (by omega)];rfl),rfl⟩
  have hq:((a.toNat:Int)==48)=false:=by rw[beq_eq_false_iff_ne];omega
  by_cases hlo:a.toNat<48
  ·have hlo':(a.toNat:Int)<48:=by omega
   go_enter Tryz.func181,Tryz.ntmps181
   go_wp2
   refine wp_loop_rounds 2 ?_
   rw[rounds_succ]
   go_wp2
   go_ret
   exact⟨bP (by unfold Sp.num;simp only[];rw[if_neg (by omega)];rfl),rfl⟩
  by_cases hhi:57<a.toNat
  ·have hhi':(57:Int)<a.toNat:=by omega
   have hlo':¬(a.toNat:Int)<48:=by omega
   go_enter Tryz.func181,Tryz.ntmps181
   go_wp2
   refine wp_loop_rounds 2 ?_
   rw[rounds_succ]
   go_wp2
   go_ret
   exact⟨bP (by unfold Sp.num;simp only[];rw[if_neg (by omega)];rfl),rfl⟩
  have hlo':¬(a.toNat:Int)<48:=by omega
  have hhi':¬(57:Int)<a.toNat:=by omega
  by_cases hblo:b.toNat<48
  ·have hblo':(b.toNat:Int)<48:=by omega
   go_enter Tryz.func181,Tryz.ntmps181
   go_wp2
   refine wp_loop_rounds 3 ?_
   rw[rounds_succ]
   go_wp2
   rw[rounds_succ]
   go_wp2
   go_ret
   exact⟨bP (by unfold Sp.num;simp only[];rw[if_neg (by omega)];rfl),rfl⟩
  by_cases hbhi:57<b.toNat
  ·have hbhi':(57:Int)<b.toNat:=by omega
   have hblo':¬(b.toNat:Int)<48:=by omega
   go_enter Tryz.func181,Tryz.ntmps181
   go_wp2
   refine wp_loop_rounds 3 ?_
   rw[rounds_succ]
   go_wp2
   rw[rounds_succ]
   go_wp2
   go_ret
   exact⟨bP (by unfold Sp.num;simp only[];rw[if_neg (by omega)];rfl),rfl⟩
  have hblo':¬(b.toNat:Int)<48:=by omega
  have hbhi':¬(57:Int)<b.toNat:=by omega
  by_cases hsum:(12:Int)<10*((a.toNat:Int)-48)+((b.toNat:Int)-48)
  ·go_enter Tryz.func181,Tryz.ntmps181
   go_wp2
   refine wp_loop_rounds 3 ?_
   rw[rounds_succ]
   go_wp2
   rw[rounds_succ]
   go_wp2
   rw[rounds_succ]
   go_wp2
   go_ret
   exact⟨bP (by unfold Sp.num;simp only[];rw[if_neg (by omega)];rfl),rfl⟩
  go_enter Tryz.func181,Tryz.ntmps181
  go_wp2
  refine wp_loop_rounds 3 ?_
  rw[rounds_succ]
  go_wp2
  rw[rounds_succ]
  go_wp2
  rw[rounds_succ]
  go_wp2
  go_ret
  exact⟨bP (by unfold Sp.num;simp only[];rw[if_pos (by omega)];omega),rfl⟩
 ·have hemp:(bs (a::b::c::r)).toList.isEmpty=false:=bK (by simp)
  have hsz:(bs (a::b::c::r)).size=r.length+3:=by rw[aN];simp
  have h0:0<(bs (a::b::c::r)).size:=by omega
  have hg0:(bs (a::b::c::r))[0]=a:=dZ (l:=a::b::c::r) (k:=0) (by simp)
  have hempF:(bs (45::a::b::c::r)).toList.isEmpty=false:=bK (by simp)
  have hszF:(bs (45::a::b::c::r)).size=r.length+3+1:=by rw[aN];simp
  have h0F:0<(bs (45::a::b::c::r)).size:=by omega
  have hgF:(bs (45::a::b::c::r))[0]=45:=dZ (l:=45::a::b::c::r) (k:=0) (by simp)
  have hslF:∀wx,(Instr.slice 9 (.string (bs (45::a::b::c::r))) (some (.int .i64 1)) none none).run Tryz.prog wx=.ok (.string (bs (a::b::c::r))) wx:=fun wx=>dG (P:=Tryz.prog) 9 Tryz.underlying9 (45::a::b::c::r) 1 1 rfl (by simp) wx
  have hbig:(2:Int)<(r.length:Int)+3:=by omega
  go_enter Tryz.func181,Tryz.ntmps181
  go_wp2
  go_ret
  exact⟨bP (by simp[Sp.num]),rfl⟩
end Go.Proofs.YtekkkoipcghlmaaGreatDoor
namespace Go.Proofs.YtekkkoipcghlmaaGreatDoor
open Go.RowKit
set_option maxRecDepth 100000 in
theorem aA5(w:World):Calls Tryz.prog 181 #[.string (bs [])] w fun e w'=>e=.returned (.int .i64 0)/\w'=w:=by
 have hemp:(bs []).toList.isEmpty=true:=by rw[cF];rfl
 go_enter Tryz.func181,Tryz.ntmps181
 go_wp2
 go_ret
 exact⟨rfl,rfl⟩
set_option maxRecDepth 100000 in
theorem aA6(w:World):Calls Tryz.prog 181 #[.string (bs [45])] w fun e w'=>e=.returned (.int .i64 0)/\w'=w:=by
 have hempF:(bs [45]).toList.isEmpty=false:=bK (by simp)
 have hemp:(bs []).toList.isEmpty=true:=by rw[cF];rfl
 have hszF:(bs [45]).size=1:=by rw[aN];simp
 have h0F:0<(bs [45]).size:=by omega
 have hgF:(bs [45])[0]=45:=dZ (l:=[45]) (k:=0) (by simp)
 have hslF:∀wx,(Instr.slice 9 (.string (bs [45])) (some (.int .i64 1)) none none).run Tryz.prog wx=.ok (.string (bs [])) wx:=fun wx=>dG (P:=Tryz.prog) 9 Tryz.underlying9 [45] 1 1 rfl (by simp) wx
 go_enter Tryz.func181,Tryz.ntmps181
 go_wp2
 go_ret
 exact⟨rfl,rfl⟩
theorem aL2(s:List UInt8)(w:World)(hl:s.length<=10000000):
  Calls Tryz.prog 181 #[.string (bs s)] w fun e w'=>e=.returned (.int .i64 (Sp.lit s))/\w'=w:=by
 rcases s with _|⟨a,r⟩
 ·exact aA5 w
 ·by_cases ha:a=45
  ·subst ha
   rcases r with _|⟨b,r⟩
   ·exact aA6 w
   ·have:=xF b r w (by simp at hl;omega)
    simpa [Sp.lit] using this
  ·have:=aG6 a r w ha (by simp at hl;omega)
   simpa [Sp.lit,ha] using this
set_option maxRecDepth 100000 in
set_option maxHeartbeats 800000 in
theorem kH(v:Value)(ws:List (List UInt8))(w:World)(hl:ws.length<=10000000)(hw:∀x,x∈ws->x.length<=10000000)(hv:Lies w v (strs ws)):
  Calls Tryz.prog 151 #[v] w fun e w'=>∃v',e=.returned (.tuple #[v',.bool (bZ ws)])/\Below w.heap.size w w'/\
   (bZ ws=false->v'=.slice none 0 0)/\(bZ ws=true->w'.ownsRow w.heap.size 3 1 v' (Sp.sorted (ws.map Sp.lit)).length (ints (Sp.sorted (ws.map Sp.lit)))):=by
 rcases hv with⟨h0,ao,cap,rfl⟩|⟨b,off,cap,hp,rfl,hb,hc⟩
 ·have hx0:ws=[]:=by simpa [strs] using h0
  subst hx0
  go_enter Tryz.func151,Tryz.ntmps151
  go_wp2
  refine wp_loop_rounds 1 ?_
  rw[rounds_succ]
  go_wp2_with fail
  refine(gZ (.slice none 0 0) [] w (by simp) (Lies.nil w)).mono ?_
  rintro e w1 ⟨v1,rfl,hown1,hb1⟩
  go_wp2
  go_ret2
  exact⟨_,rfl,hb1,fun h=>(by cases h),fun _=>hown1⟩
 ·have hlen:(strs ws).length=ws.length:=by simp[strs]
  rw[hlen]at hp⊢
  go_enter Tryz.func151,Tryz.ntmps151
  go_wp2
  go_loopw [4,5] (fun o i wr=>∃k:Nat,k<=ws.length/\i=.int .i64 k/\wr.ownsRow w.heap.size 3 1 o k (ints ((ws.take k).map Sp.lit))/\Below w.heap.size w wr/\Hid (bZ (ws.take k)=true)) (fun _ i _=>ws.length-(intOf i).toNat)
  case atStart=>exact⟨0,Nat.zero_le _,rfl,World.ownsRow_nil _ _ _ _,Below.refl _ _,rfl⟩
  case round=>
   obtain⟨k,hk,rfl,hown,hbel,HA⟩:=hrel
   by_cases hlt:k<ws.length
   ·have hcell:wr.cell? ⟨b,off+k,none⟩=some (.string (bs ws[k])):=(hbel.cell (p:=⟨b,off+k,none⟩) hb).trans (hc k (.string (bs ws[k])) (by simp[strs,hlt]))
    have hxl:=hw ws[k] (List.getElem_mem hlt)
    have HM:Hid (ws[k]∈ws):=aq (List.getElem_mem hlt)
    have HS:Hid (ws.take (k+1)=ws.take k++[ws[k]]):=aq (List.take_succ_eq_append_getElem hlt)
    generalize ws[k]=x at hcell HS hxl HM
    clear hc hw
    have HW:=aq (aL2 x wr hxl)
    have hbd:=Sp.lit_bd x
    by_cases hz:Sp.lit x=0
    ·rw[hz]at HW hbd
     have HZ:=aq hz
     clear hz
     go_wp2_with fail
     refine(dz HW).mono ?_
     rintro e w1 ⟨rfl,rfl⟩
     go_wp2
     go_ret2
     have hfalse:bZ ws=false:=by
      rw[bZ,List.all_eq_false]
      exact⟨x,dz HM,by simp[dz HZ]⟩
     exact⟨_,by rw[hfalse];rfl,hbel,fun _=>rfl,fun h=>by rw[hfalse]at h;cases h⟩
    ·have hzq:(Sp.lit x==0)=false:=by simpa using hz
     have HZ:=aq hz
     clear hz
     go_wp2_with fail
     refine(dz HW).mono ?_
     rintro e w1 ⟨rfl,rfl⟩
     go_wp2_with (at_builtin;refine bR rfl _ _ 25 3 rfl Tryz.underlying25 Tryz.infoIntW rfl (by decide) hown rfl rfl rfl (by omega) (Nat.le_refl _) hbel ?_;intro v' w1 hown' hbel' _)
     go_roundw
     case rel=>exact⟨k+1,by omega,by go_num,by rw[dz HS];simpa [ints] using hown',hbel',aq (by rw[dz HS];have:=dz HA;simp[bZ]at this⊢;exact⟨this,dz HZ⟩)⟩
     case measure=>simp[intOf];omega
   ·have HT:Hid (ws.take k=ws):=aq (List.take_of_length_le (by omega))
    have hlie:Lies wr _ (ints ((ws.take k).map Sp.lit)):=aE hown (by simp[ints];omega)
    have HL:=aq hlie
    clear hlie
    go_wp2_with fail
    refine(gZ _ ((ws.take k).map Sp.lit) wr (by simp;omega) (dz HL)).mono ?_
    rintro e w1 ⟨v1,rfl,hown1,hb1⟩
    go_wp2
    go_ret2
    rw[dz HT]at hown1
    have htrue:bZ ws=true:=by rw[←dz HT];exact dz HA
    exact⟨_,by rw[htrue];rfl,hbel.trans (hb1.mono hbel.size),fun h=>(by rw[htrue]at h;cases h),fun _=>bC hown1 hbel.size⟩
end Go.Proofs.YtekkkoipcghlmaaGreatDoor
namespace Go.Proofs.YtekkkoipcghlmaaGreatDoor
open Go.RowKit
theorem jU(s:List UInt8)(w:World)(hs:s.length<=10000000):
  Calls Tryz.prog 150 #[.string (bs s)] w fun e w'=>∃v,e=.returned v/\w'.ownsRow w.heap.size 9 1 v (Sp.words s).length (strs (Sp.words s))/\Below w.heap.size w w':=by
 by_cases h:s=[]
 ·subst h
  refine(aF4 w).mono ?_
  rintro e w' ⟨rfl,rfl⟩
  exact⟨_,rfl,World.ownsRow_nil _ _ _ _,Below.refl _ _⟩
 ·exact aD8 s w hs h
theorem tB(l:List UInt8):∀cur x,x∈Sp.wordsAux cur l->x.length<=cur.length+l.length:=by
 induction l with
 | nil=>intro cur x hx;simp[Sp.wordsAux]at hx;subst hx;simp
 | cons c r ih=>
  intro cur x hx
  unfold Sp.wordsAux at hx
  split at hx
  ·rcases List.mem_cons.1 hx with rfl|hx
   ·simp
   ·have:=ih [] x hx;simp at this⊢;omega
  ·have:=ih _ x hx;simp at this⊢;omega
theorem jO(l x:List UInt8)(hx:x∈Sp.words l):x.length<=l.length:=by
 unfold Sp.words at hx
 split at hx
 ·simp at hx
 ·simpa using tB l [] x hx
theorem sY(l:List UInt8):∀cur x,x∈Sp.linesAux cur l->x.length<=cur.length+l.length:=by
 induction l with
 | nil=>
  intro cur x hx;unfold Sp.linesAux at hx
  split at hx
  ·simp at hx
  ·simp at hx;subst hx;simp
 | cons c r ih=>
  intro cur x hx
  unfold Sp.linesAux at hx
  split at hx
  ·rcases List.mem_cons.1 hx with rfl|hx
   ·simp
   ·have:=ih [] x hx;simp at this⊢;omega
  ·have:=ih _ x hx;simp at this⊢;omega
theorem rB(l x:List UInt8)(hx:x∈Sp.lines l):x.length<=l.length:=by simpa using sY l [] x hx
theorem Tryz.infoInts:(Tryz.prog.info? 25).map (fun i=>(i.zero,i.size,i.bytes))=some (some (.slice none 0 0),1,24):=by kernel_rfl
def RowsAt(w:World)(base:Nat)(vs:List Value)(cs:List (List Int)):Prop:=vs.length=cs.length/\∀(i:Nat) (x:Value) (c:List Int),vs[i]?=some x->cs[i]?=some c->w.ownsRow base 3 1 x c.length (ints c)
theorem RowsAt.below{w w':World}{base:Nat}{vs:List Value}{cs:List (List Int)}(h:RowsAt w base vs cs)(hb:Below w.heap.size w w'):RowsAt w' base vs cs:=
 ⟨h.1,fun i x c hx hc=>aR (h.2 i x c hx hc) hb⟩
theorem RowsAt.grown{w w':World}{base b2 m:Nat}{vs ys:List Value}{cs:List (List Int)}{y:Value}(h:RowsAt w base vs cs)(hy:w.ownsRow b2 25 1 y m ys)(hg:w.grownBy w' y.ownBlock):RowsAt w' base vs cs:=
 ⟨h.1,fun i x c hx hc=>(h.2 i x c hx hc).kept hg (eY (by decide) (h.2 i x c hx hc) hy)⟩
theorem RowsAt.snoc{w:World}{base:Nat}{vs:List Value}{cs:List (List Int)}{x:Value}{c:List Int}(h:RowsAt w base vs cs)(hx:w.ownsRow base 3 1 x c.length (ints c)):RowsAt w base (vs++[x]) (cs++[c]):=by
 refine⟨by simp[h.1],fun i y d hy hd=>?_⟩
 by_cases hi:i<vs.length
 ·rw[List.getElem?_append_left hi]at hy
  rw[List.getElem?_append_left (by rw[←h.1];exact hi)]at hd
  exact h.2 i y d hy hd
 ·have hi':i=vs.length:=by
   rcases Nat.lt_or_ge vs.length i with hh|hh
   ·rw[List.getElem?_eq_none (by simp;omega)]at hy;cases hy
   ·omega
  subst hi'
  rw[List.getElem?_append_right (Nat.le_refl _)]at hy
  rw[h.1,List.getElem?_append_right (Nat.le_refl _)]at hd
  simp at hy hd
  subst hy hd
  exact hx
theorem aD5(e:Bool)(L:List (List UInt8))(k:Nat)(h:k<L.length):
  Sp.scan e k (L.drop k)=if !Sp.okLine L[k]||(!e&&decide (k+1=L.length))then some (k+1)else Sp.scan e (k+1) (L.drop (k+1)):=by
 rw[List.drop_eq_getElem_cons h,Sp.scan]
 have:(L.drop (k+1)).isEmpty=decide (k+1=L.length):=by
  by_cases hk:k+1=L.length
  ·simp[hk]
  ·have h1:k+1<L.length:=by omega
   simp[hk];omega
 rw[this]
def Parsed(w w':World)(s:List UInt8)(e:Ending):Prop:=
 ∃v,Below w.heap.size w w'/\
  ((∃n,Sp.scan (Sp.ended s) 0 (Sp.lines s)=some n/\e=.returned (.tuple #[.slice none 0 0,.int .i64 5,.int .i64 n]))∨
  (Sp.scan (Sp.ended s) 0 (Sp.lines s)=none/\e=.returned (.tuple #[v,.int .i64 0,.int .i64 0])/\
   ∃vs,w'.ownsRow w.heap.size 25 1 v (Sp.lines s).length vs/\RowsAt w' w.heap.size vs ((Sp.lines s).map Sp.clauseOf)))
set_option maxRecDepth 100000 in
set_option maxHeartbeats 1600000 in
theorem rL(s:List UInt8)(w:World)(hs:s.length<=6000):
  Calls Tryz.prog 142 #[.string (bs s)] w fun e w'=>Parsed w w' s e:=by
 have hsz:=aN s
 have hLl:=Sp.lines_len s []
 have HL:=aq (lV s w (by omega) (Nat.le_trans (Sp.lines_len s []) (by omega)))
 have HM:=aq (rB s)
 have HE0:Hid (Sp.linesAux [] s=Sp.lines s):=rfl
 rw[dz HE0]at hLl
 go_enter Tryz.func142,Tryz.ntmps142
 go_wp2_with fail
 refine(dz HL).mono ?_
 rintro e w1 ⟨v,rfl,hownL,hb1⟩
 have hlies:Lies w1 v (strs (Sp.lines s)):=aE hownL (by simp[strs])
 clear hownL HL HE0
 rcases hlies with⟨h0,ao,cap,rfl⟩|⟨b,off,cap,hp,rfl,hb,hc⟩
 ·have hx0:Sp.lines s=[]:=by simpa [strs] using h0
  have HX:=aq hx0
  clear h0 hx0
  go_wp2
  refine wp_loop_rounds 1 ?_
  rw[rounds_succ]
  go_wp2
  go_ret3
  exact⟨_,hb1,.inr ⟨by rw[dz HX];rfl,rfl,[],by rw[dz HX];exact World.ownsRow_nil _ _ _ _,by rw[dz HX];exact⟨rfl,fun i x c hx _=>by simp at hx⟩⟩⟩
 ·have hlen:(strs (Sp.lines s)).length=(Sp.lines s).length:=by simp[strs]
  rw[hlen]at hp⊢
  clear hlen
  generalize hLs:Sp.lines s=L at *
  generalize hEe:Sp.ended s=E at *
  have HLS:=aq hLs
  have HEE:=aq hEe
  clear hLs hEe
  go_wp2
  go_loopw [7,8] (fun o i wr=>∃(k:Nat) (vs:List Value),k<=L.length/\i=.int .i64 k/\wr.ownsRow w1.heap.size 25 1 o k vs/\RowsAt wr w1.heap.size vs ((L.take k).map Sp.clauseOf)/\Below w1.heap.size w1 wr/\Hid (Sp.scan E k (L.drop k)=Sp.scan E 0 L)) (fun _ i _=>L.length-(intOf i).toNat)
  case atStart=>exact⟨0,[],Nat.zero_le _,rfl,World.ownsRow_nil _ _ _ _,⟨rfl,fun i x c hx _=>by simp at hx⟩,Below.refl _ _,rfl⟩
  case round=>
   obtain⟨k,vs,hk,rfl,hown,hrows,hbel,HS⟩:=hrel
   by_cases hlt:k<L.length
   ·have hcell:wr.cell? ⟨b,off+k,none⟩=some (.string (bs L[k])):=(hbel.cell (p:=⟨b,off+k,none⟩) hb).trans (hc k (.string (bs L[k])) (by simp[strs,hlt]))
    have hxl:L[k].length<=6000:=Nat.le_trans (dz HM L[k] (List.getElem_mem hlt)) hs
    have HT:Hid (L.take (k+1)=L.take k++[L[k]]):=aq (List.take_succ_eq_append_getElem hlt)
    have HN:=aq (aD5 E L k hlt)
    generalize L[k]=x at hcell HT hxl HN
    clear hc
    have hwl:=Sp.words_len' x
    have HW:=aq (jU x wr (by omega))
    have HMM:=aq (jO x)
    have HR:=aq hrows
    have HO:=aq hown
    clear hrows hown
    go_wp2_with fail
    refine(dz HW).mono ?_
    rintro e w2 ⟨v2,rfl,hown2,hb2⟩
    have HL2:=aq (aE hown2 (by simp[strs]))
    clear hown2
    go_wp2_with fail
    refine(kH v2 (Sp.words x) w2 (by omega) (fun y hy=>by have:=dz HMM y hy;omega) (dz HL2)).mono ?_
    rintro e w3 ⟨v3,rfl,hb3,hno,hyes⟩
    have HNO:=aq hno
    have HYES:=aq hyes
    clear hno hyes
    have hb13:Below wr.heap.size wr w3:=hb2.trans (hb3.mono hb2.size)
    have hbel3:Below w1.heap.size w1 w3:=hbel.trans (hb13.mono hbel.size)
    have hok:bZ (Sp.words x)=Sp.okLine x:=rfl
    have HOK:=aq hok
    clear hok
    generalize bZ (Sp.words x)=ok at HOK HNO HYES⊢
    cases ok
    ·have hv3:=dz HNO rfl
     subst hv3
     have HOK':=(dz HOK).symm
     have HOK':=aq HOK'
     go_wp2
     go_ret3
     exact⟨.bool true,hb1.trans (hbel3.mono hb1.size),.inl ⟨k+1,by rw[dz HLS,dz HEE,←dz HS,dz HN];simp[dz HOK'],by go_num⟩⟩
    ·have HOK':=aq (dz HOK).symm
     cases E
     ·by_cases hlast:k+1=L.length
      ·have hq:((k:Int)==(L.length:Int)-1)=true:=by rw[beq_iff_eq];omega
       have HLA:=aq hlast
       clear hlast
       go_wp2
       go_ret3
       exact⟨.bool true,hb1.trans (hbel3.mono hb1.size),.inl ⟨k+1,by rw[dz HLS,dz HEE,←dz HS,dz HN];simp[dz HOK',dz HLA],by go_num⟩⟩
      ·have hq:((k:Int)==(L.length:Int)-1)=false:=by rw[beq_eq_false_iff_ne];omega
       have HLA:=aq hlast
       clear hlast
       obtain⟨ao3,c3,hv3s⟩:=aC (dz HYES rfl)
       subst hv3s
       generalize hn3:(Sp.sorted (List.map Sp.lit (Sp.words x))).length=n3 at *
       have HN3:=aq hn3
       clear hn3
       have HOW:=aq (dz HYES rfl)
       have hown:=aR (dz HO) hb13
       have hrows:=aq ((dz HR).below hb13)
       have hk1:k<=6001:=by omega
       go_wp2_with (at_builtin;refine bR rfl _ _ 27 25 rfl Tryz.underlying27 Tryz.infoInts rfl (by decide) hown rfl rfl rfl (by omega) (Nat.le_refl _) hbel3 ?_;intro v' w4 hown' hbel' hgr)
       go_roundw
       case rel=>
        have hr1:=(dz hrows).below ((Below.refl _ w3).alloc (Nat.le_refl _) (.cells #[.slice ao3 n3 c3] 25))
        have hr2:=hr1.grown (hown.alloc _) hgr
        have hv3:=bC (aR (dz HOW) ((Below.refl _ w3).alloc (Nat.le_refl _) (.cells #[.slice ao3 n3 c3] 25))) (Nat.le_trans hbel.size hb2.size)
        have hv4:=hv3.kept hgr (eY (by decide) hv3 (hown.alloc _))
        have hv4':w4.ownsRow w1.heap.size 3 1 (.slice ao3 n3 c3) (Sp.clauseOf x).length (ints (Sp.clauseOf x)):=by rw[show(Sp.clauseOf x).length=n3 from dz HN3];exact hv4
        exact⟨k+1,vs++[.slice ao3 n3 c3],by omega,by go_num,hown',by rw[dz HT];rw[List.map_append];exact hr2.snoc hv4',hbel',aq (by rw[←dz HS,dz HN];simp[dz HOK',dz HLA])⟩
       case measure=>simp[intOf];omega
     ·obtain⟨ao3,c3,hv3s⟩:=aC (dz HYES rfl)
      subst hv3s
      generalize hn3:(Sp.sorted (List.map Sp.lit (Sp.words x))).length=n3 at *
      have HN3:=aq hn3
      clear hn3
      have HOW:=aq (dz HYES rfl)
      have hown:=aR (dz HO) hb13
      have hrows:=aq ((dz HR).below hb13)
      have hk1:k<=6001:=by omega
      go_wp2_with (at_builtin;refine bR rfl _ _ 27 25 rfl Tryz.underlying27 Tryz.infoInts rfl (by decide) hown rfl rfl rfl (by omega) (Nat.le_refl _) hbel3 ?_;intro v' w4 hown' hbel' hgr)
      go_roundw
      case rel=>
       have hr1:=(dz hrows).below ((Below.refl _ w3).alloc (Nat.le_refl _) (.cells #[.slice ao3 n3 c3] 25))
       have hr2:=hr1.grown (hown.alloc _) hgr
       have hv3:=bC (aR (dz HOW) ((Below.refl _ w3).alloc (Nat.le_refl _) (.cells #[.slice ao3 n3 c3] 25))) (Nat.le_trans hbel.size hb2.size)
       have hv4:=hv3.kept hgr (eY (by decide) hv3 (hown.alloc _))
       have hv4':w4.ownsRow w1.heap.size 3 1 (.slice ao3 n3 c3) (Sp.clauseOf x).length (ints (Sp.clauseOf x)):=by rw[show(Sp.clauseOf x).length=n3 from dz HN3];exact hv4
       exact⟨k+1,vs++[.slice ao3 n3 c3],by omega,by go_num,hown',by rw[dz HT];rw[List.map_append];exact hr2.snoc hv4',hbel',aq (by rw[←dz HS,dz HN];simp[dz HOK'])⟩
      case measure=>simp[intOf];omega
   ·have HT:Hid (L.take k=L):=aq (List.take_of_length_le (by omega))
    have HK:Hid (k=L.length):=aq (by omega)
    have HD:Hid (L.drop k=[]):=aq (List.drop_eq_nil_of_le (by omega))
    have HR:=aq hrows
    have HO:=aq hown
    clear hrows hown
    go_wp2
    go_ret3
    have hown:=dz HO
    have hrows:=dz HR
    rw[dz HT]at hrows
    rw[dz HK]at hown
    exact⟨_,hb1.trans (hbel.mono hb1.size),.inr ⟨by rw[dz HLS,dz HEE,←dz HS,dz HD];rfl,rfl,vs,by rw[dz HLS];exact bC hown hb1.size,by rw[dz HLS];exact⟨hrows.1,fun i x c hx hc=>bC (hrows.2 i x c hx hc) hb1.size⟩⟩⟩
theorem nL(s:List UInt8)(w:World)(hs:6000<s.length)(hs2:s.length<=9223372036854775807):
  Calls Tryz.prog 142 #[.string (bs s)] w fun e w'=>e=.returned (.tuple #[.slice none 0 0,.int .i64 4,.int .i64 0])/\w'=w:=by
 have hsz:=aN s
 go_enter Tryz.func142,Tryz.ntmps142
 go_wp2
 go_ret3
 exact⟨rfl,rfl⟩
end Go.Proofs.YtekkkoipcghlmaaGreatDoor
