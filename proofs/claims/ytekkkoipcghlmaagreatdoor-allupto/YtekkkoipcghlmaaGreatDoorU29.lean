import Derived.Test.YtekkkoipcghlmaaGreatDoorU01
import Derived.Lib.AtoiAll
import Derived.Lib.ItoaNum
import Derived.Test.YtekkkoipcghlmaaGreatDoorU28
import Derived.Test.YtekkkoipcghlmaaGreatDoorShelf
import Derived.Test.YtekkkoipcghlmaaGreatDoorProg
set_option linter.all false
namespace Go.Proofs.YtekkkoipcghlmaaGreatDoor.Sp
theorem aS4(u:Nat)(h1:1<=u)(h2:u<=12):Lib.decDigits u=digs u:=by
 by_cases h:u<10
 ·rw[Lib.decDigits,dif_pos h,digs,if_pos h]
 ·rw[Lib.decDigits,dif_neg h,Lib.decDigits,dif_pos (by omega),digs,if_neg h,show u / 10=1 from by omega,show 48+u % 10=38+u from by omega];rfl
theorem itoa_lw(x:Int)(h0:x≠0)(h1:-12<=x)(h2:x<=12):Lib.itoa x=lw x:=by
 unfold Lib.itoa lw
 split
 ·rw[aS4 _ (by omega) (by omega)]
 ·rw[aS4 _ (by omega) (by omega),show x.toNat=x.natAbs from by omega]
theorem aS2(p:Int->Prop)(h:∀k:Fin 12,p ((k.val:Int)+1)/\p (-((k.val:Int)+1)))(x:Int)(h0:x≠0)(h1:-12<=x)(h2:x<=12):p x:=by
 by_cases hp:0<x
 ·have:=(h ⟨(x-1).toNat,by omega⟩).1
  simp only at this
  rwa [show(((x-1).toNat:Nat):Int)+1=x from by omega]at this
 ·have:=(h ⟨(-x-1).toNat,by omega⟩).2
  simp only at this
  rwa [show -((((-x-1).toNat:Nat):Int)+1)=x from by omega]at this
theorem lit_lw(x:Int)(h0:x≠0)(h1:-12<=x)(h2:x<=12):lit (lw x)=x:=aS2 (fun x=>lit (lw x)=x) (by decide) x h0 h1 h2
theorem sT(x:Int)(h0:x≠0)(h1:-12<=x)(h2:x<=12):Lib.atoiAll (lw x)=.ok x:=aS2 (fun x=>Lib.atoiAll (lw x)=.ok x) (by decide) x h0 h1 h2
theorem wC(r:List UInt8)(h:num r≠0):r=digs (num r).toNat:=by
 unfold num at h⊢
 split at h
 ·rename_i a
  split at h
  ·rename_i hh
   simp only[hh,and_self,if_true]
   rw[digs,if_pos (by omega)]
   congr 1
   apply UInt8.toNat_inj.1
   rw[UInt8.toNat_ofNat']
   omega
  ·exact absurd rfl h
 ·rename_i a b
  split at h
  ·rename_i hh
   simp only[hh,and_self,if_true]
   rw[digs,if_neg (by omega)]
   congr 1
   ·apply UInt8.toNat_inj.1
    rw[hh.1];rfl
   ·congr 1
    apply UInt8.toNat_inj.1
    rw[UInt8.toNat_ofNat']
    omega
  ·exact absurd rfl h
 ·exact absurd rfl h
theorem yC(s:List UInt8)(h:lit s≠0):s=lw (lit s):=by
 rcases s with _|⟨a,r⟩
 ·exact absurd rfl h
 ·have hb:=tD r
  have hb2:=tD (a::r)
  unfold lit at h⊢
  simp only at h⊢
  split at h
  ·rename_i ha
   subst ha
   simp only[if_true]
   have hn:num r≠0:=by omega
   unfold lw
   rw[if_pos (by omega),show(-num r).natAbs=(num r).toNat from by omega,←wC r hn]
  ·rename_i ha
   rw[if_neg ha]
   unfold lw
   rw[if_neg (by omega),show(num (a::r)).natAbs=(num (a::r)).toNat from by omega]
   exact wC (a::r) h
theorem fromWord_ok(s:List UInt8)(v:Int)(h:Lib.atoiAll s=.ok v)(hi:Lib.itoa v=s):lit s=if -12<=v/\v<=12 then v else 0:=by
 split
 ·rename_i hr
  by_cases h0:v=0
  ·subst h0
   rw[←hi]
   show lit (Lib.itoa 0)=0
   unfold Lib.itoa
   rw[if_neg (by omega),Lib.decDigits,dif_pos (by decide)]
   decide
  ·rw[←hi,itoa_lw v h0 hr.1 hr.2,lit_lw v h0 hr.1 hr.2]
 ·rename_i hr
  by_cases h0:lit s=0
  ·exact h0
  ·exfalso
   have hb:=lit_bd s
   have:=yC s h0
   have ha:=sT (lit s) h0 hb.1 hb.2
   rw[←this,h]at ha
   injection ha with ha
   exact hr (by omega)
theorem fromWord_other(s:List UInt8)(v:Int)(h:Lib.atoiAll s=.ok v)(hi:¬Lib.itoa v=s):lit s=0:=by
 by_cases h0:lit s=0
 ·exact h0
 ·exfalso
  have hb:=lit_bd s
  have hs:=yC s h0
  have ha:=sT (lit s) h0 hb.1 hb.2
  rw[←hs,h]at ha
  injection ha with ha
  rw[ha,itoa_lw _ h0 hb.1 hb.2]at hi
  exact hi hs.symm
theorem fromWord_bad(s:List UInt8)(h:∀v,Lib.atoiAll s≠.ok v):lit s=0:=by
 by_cases h0:lit s=0
 ·exact h0
 ·exfalso
  have hb:=lit_bd s
  have hs:=yC s h0
  have ha:=sT (lit s) h0 hb.1 hb.2
  rw[←hs]at ha
  exact h _ ha
end Go.Proofs.YtekkkoipcghlmaaGreatDoor.Sp
namespace Go.Proofs.YtekkkoipcghlmaaGreatDoor
open Go.RowKit
theorem lZ{P:Program}{w w':World}{n:String}{g:Nat}{cs:Array Value}(hg:P.globalNamed n=some g)(hv:w.var? P n=some cs)(hb:Below w.heap.size w w'):w'.var? P n=some cs:=by
 unfold World.var? at hv⊢
 rw[hg]at hv⊢
 simp only[Option.bind_some]at hv⊢
 have hlt:g<w.heap.size:=by
  rcases Nat.lt_or_ge g w.heap.size with h'|h'
  ·exact h'
  ·rw[Array.getElem?_eq_none h']at hv;cases hv
 rw[hb.block g hlt]
 exact hv
structure EnvT(w:World):Prop where
 tab:Lib.TabIs Tryz.prog w "internal/strconv.uint64pow10" .u64 Lib.pow10Tab
 brj:0<w.heap.size/\TabAt 0 Lib.deBruijn32tab w
structure Env(w:World):Prop extends EnvT w where
 syn:∃tp p,w.var? Tryz.prog "strconv.ErrSyntax" = some #[.iface tp p]
 rng:∃tp p,w.var? Tryz.prog "strconv.ErrRange" = some #[.iface tp p]
 len:2<w.heap.size/\∃m,w.cell? ⟨2,0,none⟩=some (.int .i64 m)
theorem Tryz.gTab:Tryz.prog.globalNamed "internal/strconv.uint64pow10" = some 1:=by kernel_rfl
theorem Tryz.gSyn:Tryz.prog.globalNamed "strconv.ErrSyntax" = some 4:=by kernel_rfl
theorem Tryz.gRng:Tryz.prog.globalNamed "strconv.ErrRange" = some 5:=by kernel_rfl
theorem EnvT.below{w w':World}(h:EnvT w)(hb:Below w.heap.size w w'):EnvT w':=
 ⟨lZ Tryz.gTab h.tab hb,⟨Nat.lt_of_lt_of_le h.brj.1 hb.size,fun j hj=>(hb.cell (p:=⟨0,j,none⟩) h.brj.1).trans (h.brj.2 j hj)⟩⟩
theorem Env.below{w w':World}(h:Env w)(hb:Below w.heap.size w w'):Env w':=by
 obtain⟨t,p,hs⟩:=h.syn
 obtain⟨t2,p2,hr⟩:=h.rng
 obtain⟨hl,m,hm⟩:=h.len
 exact⟨h.toEnvT.below hb,⟨t,p,lZ Tryz.gSyn hs hb⟩,⟨t2,p2,lZ Tryz.gRng hr hb⟩,
  ⟨Nat.lt_of_lt_of_le hl hb.size,m,(hb.cell (p:=⟨2,0,none⟩) hl).trans hm⟩⟩
theorem jV(l:List UInt8):(bs l).data.toList=l:=by simp[bs]
theorem tL(w:World)(k:Nat)(os:Array Obj):Below w.heap.size w (Sort.grow (w.drewN k) os):=
 ⟨rfl,rfl,rfl,by show w.heap.size<=(w.heap++os).size;simp,fun j hj=>by show(w.heap++os)[j]?=w.heap[j]?;rw[Array.getElem?_append_left hj]⟩
theorem uX(n:Int)(h0:-9223372036854775808<=n)(h1:n<=9223372036854775807)(w:World)(he:EnvT w):
  Calls Tryz.prog 90 #[.int .i64 n] w fun e w'=>e=.returned (.string (bs (Lib.itoa n)))/\Below w.heap.size w w':=by
 refine(Tryz.strconv_Itoa n h0 h1 w he.tab).mono ?_
 rintro e w' ⟨rfl,k,os,rfl⟩
 exact⟨rfl,tL w k os⟩
theorem aH4(s:List UInt8)(w:World)(hs:s.length<=6000)(he:Env w):
  Calls Tryz.prog 194 #[.string (bs s)] w fun e w'=>Below w.heap.size w w'/\
   ((∃v,Lib.atoiAll s=.ok v/\e=.returned (.tuple #[.int .i64 v,.nilIface]))∨
   ((∀v,Lib.atoiAll s≠.ok v)/\∃(v:Int) (N:Nat),e=.returned (.tuple #[.int .i64 v,.iface 249 (.pointer (some ⟨N,0,none⟩))]))):=by
 have hd:=jV s
 have hz:=aN s
 rcases h:Lib.atoiAll s with v|_|_
 ·refine(Any.strconv_Atoi_ok Tryz.laysC172 (bs s) (by omega) v (by rw[hd];exact h) w).mono ?_
  rintro e w' ⟨rfl,rfl|⟨t,rfl⟩⟩
  ·exact⟨Below.refl _ _,.inl ⟨v,rfl,rfl⟩⟩
  ·exact⟨Lib.bytesWorld_below _ _ _,.inl ⟨v,rfl,rfl⟩⟩
 ·obtain⟨tp,p,hv⟩:=he.syn
  refine(Any.strconv_Atoi_syntax_var Tryz.laysC172 (bs s) (by omega) (by rw[hd];exact h) tp p w hv).mono ?_
  rintro e w' ⟨N,rfl,_,_,hb⟩
  exact⟨hb,.inr ⟨fun v hv=>(by cases hv),0,N,rfl⟩⟩
 ·obtain⟨tp,p,hv⟩:=he.rng
  refine(Any.strconv_Atoi_range_var Tryz.laysC172 (bs s) (by omega) (by rw[hd];exact h) tp p w hv).mono ?_
  rintro e w' ⟨N,rfl,_,_,hb⟩
  exact⟨hb,.inr ⟨fun v hv=>(by cases hv),_,N,rfl⟩⟩
theorem aQ9{s:List UInt8}{v:Int}(h:Lib.atoiAll s=.ok v):-9223372036854775808<=v/\v<=9223372036854775807:=by
 unfold Lib.atoiAll at h
 split at h
 ·cases h
 ·simp only at h
  split at h
  ·cases h
  ·cases h
  ·split at h
   ·cases h
   ·split at h
    ·cases h
    ·injection h with h
     subst h
     split<;>omega
def fw(s:List UInt8):Int:=if Sp.lit s=0 then 0 else(Sp.bit (Sp.lit s):Int)
def fwOk(s:List UInt8):Bool:=Sp.lit s != 0
theorem kA{s:List UInt8}(h:Sp.lit s=0):fw s=0/\fwOk s=false:=by unfold fw fwOk;rw[h];exact⟨rfl,rfl⟩
theorem sO{s:List UInt8}(h:Sp.lit s≠0):fw s=(Sp.bit (Sp.lit s):Int)/\fwOk s=true:=by unfold fw fwOk;exact⟨if_neg h,by simpa using h⟩
set_option maxRecDepth 100000 in
set_option maxHeartbeats 400000 in
theorem rW(s:List UInt8)(w:World)(hs:s.length<=6000)(he:Env w):
  Calls Tryz.prog 177 #[.string (bs s)] w fun e w'=>Below w.heap.size w w'/\
   e=.returned (.tuple #[.int .u32 (fw s),.bool (fwOk s)]):=by
 have HA:=aq (aH4 s w hs he)
 go_enter Tryz.func177,Tryz.ntmps177
 go_wp2_with fail
 refine(dz HA).mono ?_
 rintro e w1 ⟨hb1,⟨v,hv,rfl⟩|⟨hno,v,N,rfl⟩⟩
 ·have HE:=aq (he.below hb1)
  have hbd:=aQ9 hv
  have HV:=aq hv
  clear hv
  go_wp2_with fail
  refine(uX v hbd.1 hbd.2 w1 (dz HE).toEnvT).mono ?_
  rintro e w2 ⟨rfl,hb2⟩
  by_cases hi:Lib.itoa v=s
  ·have ht:((bs (Lib.itoa v)).toList==(bs s).toList)=true:=by rw[hi];simp
   have HI:=aq hi
   have HF:=aq (Sp.fromWord_ok s v (dz HV) hi)
   clear hi
   by_cases hr:-12<=v/\v<=12
   ·rw[if_pos hr]at HF
    by_cases h0:v=0
    ·have HO:=aq (aN2 v w2 (.inl h0))
     have HZ:=aq ((dz HF).trans h0)
     clear h0
     go_wp2_with fail
     refine(dz HO).mono ?_
     rintro e w3 ⟨rfl,rfl⟩
     go_wp2
     go_ret2
     exact⟨hb1.trans (hb2.mono hb1.size),by rw[(kA (dz HZ)).1,(kA (dz HZ)).2];rfl⟩
    ·have HO:=aq (aH1 v w2 hr.1 hr.2 h0)
     have HZ:Hid (Sp.lit s≠0):=aq (by rw[dz HF];exact h0)
     clear h0
     go_wp2_with fail
     refine(dz HO).mono ?_
     rintro e w3 ⟨rfl,rfl⟩
     go_wp2
     go_ret2
     exact⟨hb1.trans (hb2.mono hb1.size),by rw[(sO (dz HZ)).1,(sO (dz HZ)).2,dz HF];rfl⟩
   ·rw[if_neg hr]at HF
    have HO:=aq (aN2 v w2 (by omega))
    clear hr
    go_wp2_with fail
    refine(dz HO).mono ?_
    rintro e w3 ⟨rfl,rfl⟩
    go_wp2
    go_ret2
    exact⟨hb1.trans (hb2.mono hb1.size),by rw[(kA (dz HF)).1,(kA (dz HF)).2];rfl⟩
  ·have ht:((bs (Lib.itoa v)).toList==(bs s).toList)=false:=by rw[cF,cF];simpa using hi
   have HF:=aq (Sp.fromWord_other s v (dz HV) hi)
   clear hi
   go_wp2
   go_ret2
   exact⟨hb1.trans (hb2.mono hb1.size),by rw[(kA (dz HF)).1,(kA (dz HF)).2];rfl⟩
 ·have HF:=aq (Sp.fromWord_bad s hno)
  clear hno
  go_wp2
  go_ret2
  exact⟨hb1,by rw[(kA (dz HF)).1,(kA (dz HF)).2];rfl⟩
end Go.Proofs.YtekkkoipcghlmaaGreatDoor
namespace Go.Proofs.YtekkkoipcghlmaaGreatDoor
open Go.RowKit
theorem fV(a b:Nat)(ha:a<4294967296)(hb:b<4294967296):bits .or .u32 (a:Int) (b:Int)=((a ||| b:Nat):Int):=by
 have hx:a ||| b<2 ^ 32:=Nat.or_lt_two_pow (by omega) (by omega)
 have h1:(BitVec.ofInt 32 (a:Int)).toNat=a:=by
  rw[BitVec.ofInt_natCast,BitVec.toNat_ofNat];exact Nat.mod_eq_of_lt (by omega)
 have h2:(BitVec.ofInt 32 (b:Int)).toNat=b:=by
  rw[BitVec.ofInt_natCast,BitVec.toNat_ofNat];exact Nat.mod_eq_of_lt (by omega)
 show IntKind.u32.wrap ((BitVec.ofInt 32 (a:Int) ||| BitVec.ofInt 32 (b:Int)).toNat:Int)=_
 rw[BitVec.toNat_or,h1,h2,wrap_u32']
 omega
set_option maxRecDepth 100000 in
set_option maxHeartbeats 400000 in
theorem xY(v:Value)(ws:List (List UInt8))(w:World)(hl:ws.length<=10000000)(hw:∀x,x∈ws->x.length<=6000)(hv:Lies w v (strs ws))(he:Env w):
  Calls Tryz.prog 176 #[v,.func (.func 177) #[] #[]] w fun e w'=>Below w.heap.size w w'/\
   ((bZ ws=false/\e=.returned (.tuple #[.int .u32 0,.bool false]))∨(bZ ws=true/\e=.returned (.tuple #[.int .u32 (Sp.maskOf (ws.map Sp.lit):Int),.bool true]))):=by
 rcases hv with⟨h0,ao,cap,rfl⟩|⟨b,off,cap,hp,rfl,hb,hc⟩
 ·have hx0:ws=[]:=by simpa [strs] using h0
  subst hx0
  go_enter Tryz.func176,Tryz.ntmps176
  go_wp2
  refine wp_loop_rounds 1 ?_
  rw[rounds_succ]
  go_wp2
  go_ret2
  exact⟨Below.refl _ _,.inr ⟨rfl,rfl⟩⟩
 ·have hlen:(strs ws).length=ws.length:=by simp[strs]
  rw[hlen]at hp⊢
  go_enter Tryz.func176,Tryz.ntmps176
  go_wp2
  go_loopw [6,13] (fun m i wr=>∃k:Nat,k<=ws.length/\i=.int .i64 k/\m=.int .u32 (Sp.maskOf ((ws.take k).map Sp.lit):Int)/\Below w.heap.size w wr/\Hid (bZ (ws.take k)=true)) (fun _ i _=>ws.length-(intOf i).toNat)
  case atStart=>exact⟨0,Nat.zero_le _,rfl,rfl,Below.refl _ _,rfl⟩
  case round=>
   obtain⟨k,hk,rfl,rfl,hbel,HA⟩:=hrel
   by_cases hlt:k<ws.length
   ·have hcell:wr.cell? ⟨b,off+k,none⟩=some (.string (bs ws[k])):=(hbel.cell (p:=⟨b,off+k,none⟩) hb).trans (hc k (.string (bs ws[k])) (by simp[strs,hlt]))
    have hxl:=hw ws[k] (List.getElem_mem hlt)
    have HM:Hid (ws[k]∈ws):=aq (List.getElem_mem hlt)
    have HS:Hid (ws.take (k+1)=ws.take k++[ws[k]]):=aq (List.take_succ_eq_append_getElem hlt)
    generalize ws[k]=x at hcell HS hxl HM
    clear hc hw
    have HW:=aq (rW x wr hxl (he.below hbel))
    have hbd:=Sp.lit_bd x
    by_cases hz:Sp.lit x=0
    ·rw[(kA hz).1,(kA hz).2]at HW
     have HZ:=aq hz
     clear hz
     go_wp2_with fail
     refine(dz HW).mono ?_
     rintro e w1 ⟨hb1,rfl⟩
     go_wp2
     go_ret2
     have hfalse:bZ ws=false:=by
      rw[bZ,List.all_eq_false]
      exact⟨x,dz HM,by simp[dz HZ]⟩
     exact⟨hbel.trans (hb1.mono hbel.size),.inl ⟨hfalse,rfl⟩⟩
    ·rw[(sO hz).1,(sO hz).2]at HW
     have HZ:=aq hz
     clear hz
     have HMB:Hid (Sp.maskOf ((ws.take (k+1)).map Sp.lit)=Sp.maskOf ((ws.take k).map Sp.lit) ||| Sp.bit (Sp.lit x)):=aq (by rw[dz HS,List.map_append,←Sp.maskOf_snoc];rfl)
     have hm1:Sp.maskOf ((ws.take k).map Sp.lit)<2 ^ 24:=Sp.maskOf_lt _ (fun y hy=>by obtain⟨z,_,rfl⟩:=List.mem_map.1 hy;exact Sp.lit_bd z)
     have hm2:Sp.bit (Sp.lit x)<2 ^ 24:=Nat.pow_lt_pow_right (by decide) (Sp.bitIx_lt _ hbd)
     generalize Sp.maskOf ((ws.take k).map Sp.lit)=m1 at *
     generalize Sp.bit (Sp.lit x)=m2 at *
     have HOR:Hid (bits BinOp.or IntKind.u32 (m1:Int) (m2:Int)=((m1 ||| m2:Nat):Int)):=aq (fV m1 m2 (Nat.lt_trans hm1 (by decide)) (Nat.lt_trans hm2 (by decide)))
     go_wp2_with fail
     refine(dz HW).mono ?_
     rintro e w1 ⟨hb1,rfl⟩
     go_wp2
     go_roundw
     case rel=>exact⟨k+1,by omega,by go_num,by rw[dz HMB,←dz HOR],hbel.trans (hb1.mono hbel.size),aq (by rw[dz HS];have:=dz HA;simp[bZ]at this⊢;exact⟨this,dz HZ⟩)⟩
     case measure=>simp[intOf];omega
   ·have HT:Hid (ws.take k=ws):=aq (List.take_of_length_le (by omega))
    go_wp2
    go_ret2
    have htrue:bZ ws=true:=by rw[←dz HT];exact dz HA
    exact⟨hbel,.inr ⟨htrue,by rw[dz HT];rfl⟩⟩
set_option maxRecDepth 100000 in
set_option maxHeartbeats 400000 in
theorem fB(v:Value)(ws:List (List UInt8))(w:World)(hl:ws.length<=10000000)(hw:∀x,x∈ws->x.length<=6000)(hv:Lies w v (strs ws))(he:Env w):
  Calls Tryz.prog 135 #[v] w fun e w'=>Below w.heap.size w w'/\
   ((bZ ws=false/\e=.returned (.tuple #[.int .u32 0,.bool false]))∨(bZ ws=true/\e=.returned (.tuple #[.int .u32 (Sp.maskOf (ws.map Sp.lit):Int),.bool true]))):=by
 have HU:=aq (xY v ws w hl hw hv he)
 generalize bZ ws=al at *
 generalize Sp.maskOf (ws.map Sp.lit)=mk at *
 clear hw hv hl
 go_enter Tryz.func135,Tryz.ntmps135
 go_wp2_with fail
 refine(dz HU).mono ?_
 rintro e w1 ⟨hb1,⟨h1,rfl⟩|⟨h1,rfl⟩⟩
 ·have H1:=aq h1
  clear h1
  go_wp2
  go_ret2
  exact⟨hb1,.inl ⟨dz H1,rfl⟩⟩
 ·have H1:=aq h1
  clear h1
  go_wp2
  go_ret2
  exact⟨hb1,.inr ⟨dz H1,rfl⟩⟩
end Go.Proofs.YtekkkoipcghlmaaGreatDoor
namespace Go.Proofs.YtekkkoipcghlmaaGreatDoor
open Go.RowKit
def oX(x:Int):Bool:=x != 0&&decide (-12<=x)&&decide (x<=12)
theorem cJ{x:Int}:oX x=true↔x≠0/\-12<=x/\x<=12:=by simp[oX,and_assoc]
def bD(xs:List Int):Bool:=xs.all oX
set_option maxRecDepth 100000 in
set_option maxHeartbeats 400000 in
theorem yV(v:Value)(xs:List Int)(w:World)(hl:xs.length<=10000000)(hv:Lies w v (ints xs)):
  Calls Tryz.prog 61 #[v,.func (.func 62) #[] #[]] w fun e w'=>w'=w/\
   ((bD xs=false/\e=.returned (.tuple #[.int .u32 0,.bool false]))∨(bD xs=true/\e=.returned (.tuple #[.int .u32 (Sp.maskOf xs:Int),.bool true]))):=by
 rcases hv with⟨h0,ao,cap,rfl⟩|⟨b,off,cap,hp,rfl,hb,hc⟩
 ·have hx0:xs=[]:=by simpa [ints] using h0
  subst hx0
  go_enter Tryz.func61,Tryz.ntmps61
  go_wp2
  refine wp_loop_rounds 1 ?_
  rw[rounds_succ]
  go_wp2
  go_ret2
  exact⟨rfl,.inr ⟨rfl,rfl⟩⟩
 ·have hlen:(ints xs).length=xs.length:=by simp[ints]
  rw[hlen]at hp⊢
  go_enter Tryz.func61,Tryz.ntmps61
  go_wp2
  go_loop [6,13] (fun m i=>∃k:Nat,k<=xs.length/\i=.int .i64 k/\m=.int .u32 (Sp.maskOf (xs.take k):Int)/\Hid (bD (xs.take k)=true)) (fun _ i=>xs.length-(intOf i).toNat)
  case atStart=>exact⟨0,Nat.zero_le _,rfl,rfl,rfl⟩
  case round=>
   obtain⟨k,hk,rfl,rfl,HA⟩:=hrel
   by_cases hlt:k<xs.length
   ·have hcell:=hc k (.int .i64 xs[k]) (by simp[ints,hlt])
    have HM:Hid (xs[k]∈xs):=aq (List.getElem_mem hlt)
    have HS:Hid (xs.take (k+1)=xs.take k++[xs[k]]):=aq (List.take_succ_eq_append_getElem hlt)
    generalize xs[k]=x at hcell HS HM
    clear hc
    cases hz:oX x
    ·have HW:=aq (fun wx=>aN2 x wx (by
      have:¬(x≠0/\-12<=x/\x<=12):=fun h=>by rw[cJ.2 h]at hz;cases hz
      omega))
     have HZ:=aq hz
     clear hz
     go_wp2_with fail
     refine(dz HW _).mono ?_
     rintro e w1 ⟨rfl,rfl⟩
     go_wp2
     go_ret2
     have hfalse:bD xs=false:=by
      rw[bD,List.all_eq_false]
      exact⟨x,dz HM,by rw[dz HZ];decide⟩
     exact⟨rfl,.inl ⟨hfalse,rfl⟩⟩
    ·have hbd:=cJ.1 hz
     have HW:=aq (fun wx=>aH1 x wx hbd.2.1 hbd.2.2 hbd.1)
     have HZ:=aq hz
     clear hz
     have HMB:Hid (Sp.maskOf (xs.take (k+1))=Sp.maskOf (xs.take k) ||| Sp.bit x):=aq (by rw[dz HS,←Sp.maskOf_snoc])
     have hm1:Sp.maskOf (xs.take k)<2 ^ 24:=Sp.maskOf_lt _ (fun y hy=>by
      have h1:=dz HA
      rw[bD,List.all_eq_true]at h1
      have:=cJ.1 (h1 y hy)
      omega)
     have hm2:Sp.bit x<2 ^ 24:=Nat.pow_lt_pow_right (by decide) (Sp.bitIx_lt _ (by omega))
     generalize Sp.maskOf (xs.take k)=m1 at *
     generalize Sp.bit x=m2 at *
     have HOR:Hid (bits BinOp.or IntKind.u32 (m1:Int) (m2:Int)=((m1 ||| m2:Nat):Int)):=aq (fV m1 m2 (Nat.lt_trans hm1 (by decide)) (Nat.lt_trans hm2 (by decide)))
     go_wp2_with fail
     refine(dz HW _).mono ?_
     rintro e w1 ⟨rfl,rfl⟩
     go_wp2
     go_round
     case rel=>exact⟨k+1,by omega,by go_num,by rw[dz HMB,←dz HOR],aq (by rw[dz HS];have:=dz HA;simp[bD]at this⊢;exact⟨this,dz HZ⟩)⟩
     case measure=>simp[intOf];omega
   ·have HT:Hid (xs.take k=xs):=aq (List.take_of_length_le (by omega))
    go_wp2
    go_ret2
    have htrue:bD xs=true:=by rw[←dz HT];exact dz HA
    exact⟨rfl,.inr ⟨htrue,by rw[dz HT];rfl⟩⟩
set_option maxRecDepth 100000 in
set_option maxHeartbeats 400000 in
theorem fK(v:Value)(xs:List Int)(w:World)(hl:xs.length<=10000000)(hv:Lies w v (ints xs)):
  Calls Tryz.prog 38 #[v] w fun e w'=>w'=w/\
   ((bD xs=false/\e=.returned (.tuple #[.int .u32 0,.bool false]))∨(bD xs=true/\e=.returned (.tuple #[.int .u32 (Sp.maskOf xs:Int),.bool true]))):=by
 have HU:=aq (yV v xs w hl hv)
 generalize bD xs=al at *
 generalize Sp.maskOf xs=mk at *
 clear hv hl
 go_enter Tryz.func38,Tryz.ntmps38
 go_wp2_with fail
 refine(dz HU).mono ?_
 rintro e w1 ⟨rfl,⟨h1,rfl⟩|⟨h1,rfl⟩⟩
 ·have H1:=aq h1
  clear h1
  go_wp2
  go_ret2
  exact⟨rfl,.inl ⟨dz H1,rfl⟩⟩
 ·have H1:=aq h1
  clear h1
  go_wp2
  go_ret2
  exact⟨rfl,.inr ⟨dz H1,rfl⟩⟩
end Go.Proofs.YtekkkoipcghlmaaGreatDoor
namespace Go.Proofs.YtekkkoipcghlmaaGreatDoor
open Go.RowKit
theorem qS(k:Nat):Sp.litAt k=if k % 2=1 then -((k:Int) / 2+1)else(k:Int) / 2+1:=by
 unfold Sp.litAt
 by_cases h:k % 2=0
 ·rw[if_pos h,if_neg (by omega)];omega
 ·rw[if_neg h,if_pos (by omega)];omega
theorem rC{a b:Int}(h:a=b):Ending.returned (.int .i64 a)=.returned (.int .i64 b):=by rw[h]
set_option maxRecDepth 100000 in
set_option maxHeartbeats 400000 in
theorem yR(m:Nat)(w:World)(hm:m<2 ^ 24)(he:EnvT w):
  Calls Tryz.prog 70 #[.int .u32 m] w fun e w'=>e=.returned (.int .i64 (Sp.litAt (Lib.ctz 32 m)))/\w'=w:=by
 have HT:=aq (Any7.bits_TrailingZeros32 Tryz.lays7n28 m (Nat.lt_trans hm (by decide)) w (fun _=>he.brj.2))
 have HT:Hid (Calls Tryz.prog 115 #[.int .u32 m] w fun e w'=>e=.returned (.int .i64 (Lib.ctz 32 m))/\w'=w):=HT
 have HL:=aq (qS (Lib.ctz 32 m))
 have hc:Lib.ctz 32 m<=32:=by
  by_cases h0:m=0
  ·subst h0;decide
  ·exact Nat.le_of_lt (Lib.lowest_bit 32 m h0 (Nat.lt_trans hm (by decide))).2
 generalize Lib.ctz 32 m=k at *
 by_cases h1:k % 2=1
 ·have hq:((k:Int) % 2==1)=true:=by rw[beq_iff_eq];omega
  have H1:=aq h1
  clear h1
  go_enter Tryz.func70,Tryz.ntmps70
  go_wp2_with fail
  refine(dz HT).mono ?_
  rintro e w1 ⟨rfl,rfl⟩
  go_wp2
  go_ret
  exact⟨rC (by rw[dz HL,if_pos (dz H1)]),rfl⟩
 ·have hq:((k:Int) % 2==1)=false:=by rw[beq_eq_false_iff_ne];omega
  have H1:=aq h1
  clear h1
  go_enter Tryz.func70,Tryz.ntmps70
  go_wp2_with fail
  refine(dz HT).mono ?_
  rintro e w1 ⟨rfl,rfl⟩
  go_wp2
  go_ret
  exact⟨rC (by rw[dz HL,if_neg (dz H1)]),rfl⟩
end Go.Proofs.YtekkkoipcghlmaaGreatDoor
namespace Go.Proofs.YtekkkoipcghlmaaGreatDoor
open Go.RowKit
theorem Tryz.infoStr:(Tryz.prog.info? 9).map (fun i=>(i.zero,i.size,i.bytes))=some (some (.string ⟨#[]⟩),1,16):=by kernel_rfl
set_option maxRecDepth 100000 in
set_option maxHeartbeats 400000 in
theorem aD8(s:List UInt8)(w:World)(hs:s.length<=10000000)(hne:s≠[]):
  Calls Tryz.prog 150 #[.string (bs s)] w fun e w'=>∃v,e=.returned v/\w'.ownsRow w.heap.size 9 1 v (Sp.words s).length (strs (Sp.words s))/\Below w.heap.size w w':=by
 obtain⟨i0,hi,hz0,hz1,hz2⟩:=info_parts Tryz.infoStr
 have hsz:=aN s
 have hemp:(bs s).toList.isEmpty=false:=bK hne
 have HW:Hid (Sp.words s=Sp.wordsAux [] s):=aq (by simp[Sp.words,hne])
 go_enter Tryz.func150,Tryz.ntmps150
 go_wp2_with fail
 go_loopw [3,4,5] (fun v c i wr=>∃(k:Nat) (O:List (List UInt8)) (cur:List UInt8),k<=s.length/\i=.int .i64 k/\c=.string (bs cur)/\wr.ownsRow w.heap.size 9 1 v O.length (strs O)/\Below w.heap.size w wr/\O.length<=k/\cur.length<=k/\Hid (O++Sp.wordsAux cur (s.drop k)=Sp.wordsAux [] s))
  (fun _ _ i _=>s.length-(intOf i).toNat)
 case atStart=>exact⟨0,[],[],Nat.zero_le _,rfl,rfl,World.ownsRow_nil _ _ _ _,Below.refl _ _,by simp,by simp,rfl⟩
 case round=>
  obtain⟨k,O,cur,hk,rfl,rfl,hown,hbel,hO,hcur,HI⟩:=hrel
  by_cases hlt:k<s.length
  ·have hlt':k<(bs s).size:=by omega
   have HD:Hid (s.drop k=s[k]::s.drop (k+1)):=aq (List.drop_eq_getElem_cons hlt)
   have HB:Hid ((bs s)[k]=s[k]):=aq (dZ hlt)
   by_cases hc:s[k]=32
   ·have ht:(((bs s)[k].toNat:Int)==32)=true:=by rw[dz HB,hc];rfl
    have HC:=aq hc
    clear hc
    go_wp2_with (at_builtin;refine bR rfl _ _ 177 9 rfl Tryz.underlying177 Tryz.infoStr rfl (by decide) hown rfl rfl rfl (by omega) (Nat.le_refl _) hbel ?_;intro v' w1 hown' hbel' _)
    go_roundw
    case rel=>exact⟨k+1,O++[cur],[],by omega,by go_num,rfl,by simpa [strs] using hown',hbel',by simp;omega,by simp,aq (by rw[←dz HI,dz HD,dz HC];simp[Sp.wordsAux])⟩
    case measure=>simp[intOf];omega
   ·have ht:(((bs s)[k].toNat:Int)==32)=false:=by rw[dz HB];exact kY (by decide) hc
    have HC:=aq hc
    clear hc
    have hsl:=fun wx=>wR (P:=Tryz.prog) 9 Tryz.underlying9 s k (k+1) k (k+1) rfl rfl (by omega) (by omega) wx
    have e1:(s.drop k).take (k+1-k)=[s[k]]:=by rw[dz HD];simp
    rw[e1]at hsl
    clear e1
    have hadd:=fun wx=>dK (P:=Tryz.prog) cur [s[k]] (by simp;omega) wx
    go_wp2
    go_roundw
    case rel=>exact⟨k+1,O,cur++[s[k]],by omega,by go_num,rfl,hown,hbel,by omega,by simp;omega,aq (by rw[←dz HI,dz HD];simp[Sp.wordsAux,dz HC])⟩
    case measure=>simp[intOf];omega
  ·have HE:Hid (s.drop k=[]):=aq (List.drop_eq_nil_of_le (by omega))
   go_wp2_with (at_builtin;refine bR rfl _ _ 177 9 rfl Tryz.underlying177 Tryz.infoStr rfl (by decide) hown rfl rfl rfl (by omega) (Nat.le_refl _) hbel ?_;intro v' w1 hown' hbel' _)
   go_ret
   have hfin:Sp.words s=O++[cur]:=by rw[dz HW,←dz HI,dz HE];rfl
   exact⟨_,rfl,by rw[hfin];simpa [strs] using hown',hbel'⟩
theorem aF4(w:World):
  Calls Tryz.prog 150 #[.string (bs [])] w fun e w'=>e=.returned (.slice none 0 0)/\w'=w:=by
 have hemp:(bs []).toList.isEmpty=true:=by rw[cF];rfl
 go_enter Tryz.func150,Tryz.ntmps150
 go_wp2
 go_ret
 exact⟨rfl,rfl⟩
end Go.Proofs.YtekkkoipcghlmaaGreatDoor
namespace Go.Proofs.YtekkkoipcghlmaaGreatDoor
open Go.RowKit
set_option maxRecDepth 100000 in
set_option maxHeartbeats 400000 in
theorem iG(x:Int)(w:World)(h1:1<=x)(h2:x<=12):
  Calls Tryz.prog 145 #[.int .i64 x] w fun e w'=>e=.returned (.string (bs (Sp.digs x.toNat)))/\Below w.heap.size w w':=by
 obtain⟨n,rfl⟩:=Int.eq_ofNat_of_zero_le (by omega:0<=x)
 rw[Int.toNat_natCast]
 go_enter Tryz.func145,Tryz.ntmps145
 go_wp2
 go_loopw [0,3] (fun m s wr=>Below w.heap.size w wr/\((m=.int .i64 n/\s=.string (bs []))∨(10<=n/\m=.int .i64 1/\s=.string (bs [UInt8.ofNat (38+n)]))∨(m=.int .i64 0/\s=.string (bs (Sp.digs n)))))
  (fun m _ _=>(intOf m).toNat)
 case atStart=>exact⟨Below.refl _ _,.inl ⟨rfl,rfl⟩⟩
 case round=>
  obtain⟨hbel,⟨rfl,rfl⟩|⟨h10,rfl,rfl⟩|⟨rfl,rfl⟩⟩:=hrel
  ·have hcv:=fun wx=>wJ (P:=Tryz.prog) 75 9 5 Tryz.underlying75 Tryz.underlying5 Tryz.underlying9 (48+(n:Int) % 10) (by omega) (by omega) wx
   generalize hc:UInt8.ofNat (48+(n:Int) % 10).toNat=c at hcv
   have HC:=aq hc
   clear hc
   have hadd:=fun wx=>dK (P:=Tryz.prog) [c] [] (by simp) wx
   rw[List.append_nil]at hadd
   have hp:(0:Int)<n:=by omega
   go_wp2
   go_roundw
   case rel=>
    refine⟨hbel.alloc (by have:=hbel.size;omega) _,?_⟩
    by_cases h10:10<=n
    ·exact .inr (.inl ⟨h10,by rw[show(n:Int) / 10=1 from by omega],by rw[←dz HC,show(48+(n:Int) % 10).toNat=38+n from by omega]⟩)
    ·exact .inr (.inr ⟨by rw[show(n:Int) / 10=0 from by omega],by rw[←dz HC,Sp.digs,if_pos (by omega),show(48+(n:Int) % 10).toNat=48+n from by omega]⟩)
   case measure=>simp[intOf];omega
  ·have hcv:=fun wx=>wJ (P:=Tryz.prog) 75 9 5 Tryz.underlying75 Tryz.underlying5 Tryz.underlying9 49 (by omega) (by omega) wx
   have hadd:=fun wx=>dK (P:=Tryz.prog) [49] [UInt8.ofNat (38+n)] (by simp) wx
   have HS:Hid (Sp.digs n=[49]++[UInt8.ofNat (38+n)]):=aq (by rw[Sp.digs,if_neg (by omega)];rfl)
   generalize UInt8.ofNat (38+n)=c at hadd HS⊢
   go_wp2
   go_roundw
   case rel=>exact⟨hbel.alloc (by have:=hbel.size;omega) _,.inr (.inr ⟨rfl,by rw[dz HS];rfl⟩)⟩
   case measure=>simp[intOf]
  ·go_wp2
   go_ret
   exact⟨rfl,hbel⟩
end Go.Proofs.YtekkkoipcghlmaaGreatDoor
