import Derived.Test.YtekkkoipcghlmaaGreatDoorU28
import Derived.Test.YtekkkoipcghlmaaGreatDoorU29
import Derived.Test.YtekkkoipcghlmaaGreatDoorU30
import Derived.Test.YtekkkoipcghlmaaGreatDoorU22
import Derived.Lib.AppendStr
import Derived.Test.YtekkkoipcghlmaaGreatDoorU01
set_option linter.all false
namespace Go.Proofs.YtekkkoipcghlmaaGreatDoor
open Go.RowKit
theorem Tryz.infoByteS:(Tryz.prog.info? 5).map (fun i=>(i.zero,i.size,i.bytes))=some (some (.int .u8 0),1,1):=by kernel_rfl
theorem Tryz.underString:Tryz.prog.underlying 9=some .string:=by kernel_rfl
theorem aD2{P:Program}{w w':World}{base n:Nat}{t u ty e:TypeId}{i:TypeInfo}(ht:P.underlying t=some (.slice e))(hu:P.underlying u=some .string)(hi:P.info? e=some i)(hz:i.zero=some (.int .u8 0))(hsize:i.size=1)(hby:i.bytes=1){v v':Value}{xs:List Value}(hown:w.ownsRow base e 1 v n xs)(s:ByteArray)(h63:n+s.size<=maxLen)(hbytes:n+s.size<=140737488355328)
  (hr:(Builtin.append_ #[t,u] ty #[v,.string s]).run P w=.ok v' w'):∀q,v'.ownBlock=some q->v.ownBlock=some q∨w.heap.size<=q:=by
 intro q hq
 have h63':n+s.size<=9223372036854775807:=by simpa [maxLen] using h63
 rcases hown.2 with⟨rfl,rfl⟩|⟨g,cap,cur,rfl,hbg,hg,hle,hcm,hcs,htake⟩
 ·have hown':w.ownsRow w.heap.size e 1 (.slice none 0 0) 0 xs:=⟨hown.1,.inl ⟨rfl,rfl⟩⟩
  obtain⟨v2,w2,hr2,h2,-⟩:=Lib.run_append_own_string (P:=P) w w.heap.size t u ty e i ht hu hi hz hsize hby _ 0 xs hown' s h63 hbytes (Nat.le_refl _)
  rw[hr]at hr2
  cases hr2
  exact .inr (h2.lt q hq).1
 ·have hcs':cur.size=cap:=by simpa using hcs
  by_cases hroom:n+s.size<=cap
  ·rw[Lib.run_append_room_string (P:=P) w t u ty e i ht hu hi hsize g n cap cur hg s hroom (by omega)]at hr
   cases hr
   exact .inl hq
  ·have holds:∀j u,xs[j]?=some u->w.cell? ((⟨g,0,none⟩:Addr).add j)=some u:=hown.cells (g:=g) rfl
   have hxl:xs.length=n:=by have:=hown.1;simpa using this
   rw[Lib.run_append_grow_string (P:=P) w t u ty e i (.int .u8 0) ht hu hi hz ⟨g,0,none⟩ n cap xs (by rw[hsize];simpa using hxl) holds s (by omega) (by omega) (by rw[hby];exact growslice_fits (by omega) (by omega))]at hr
   cases hr
   simp[Value.ownBlock]at hq
   exact .inr (by omega)
theorem rH{P:Program}{w:World}{ops:Array Oper}{o:Oper}{a:Act}{K:Act->World->Prop}{Q:Exit->Act->World->Prop}{E:Prop}(hgd:o.guard=none)(sl x:Operand)(t u:TypeId)
  (ho:o.op=.call { callee:=.builtin .append,args:=#[sl,x],argTypes:=#[t,u] })
  (base:Nat) (e:TypeId) (hinfo:(P.info? e).map (fun i=>(i.zero,i.size,i.bytes))=some (some (.int .u8 0),1,1)) (ht:P.underlying t=some (.slice e)) (hu:P.underlying u=some .string)
  (v:Value) (pb:List UInt8) (hs:a.eval sl=v) (hown:w.ownsRow base e 1 v pb.length (dX pb)) (s:List UInt8) (hx:a.eval x=.string (bs s))
  (hbytes:pb.length+s.length<=140737488355328) (hbase:base<=w.heap.size)
  (h:∀v' w',w'.ownsRow base e 1 v' (pb++s).length (dX (pb++s))->w.grownBy w' v.ownBlock->(∀q,v'.ownBlock=some q->v.ownBlock=some q∨w.heap.size<=q)->K (a.put o.dst v') w'):if Region.wanted o (yielded ops a.tmps)=true then Oper.wp P o a w K Q else E:=by
 obtain⟨i,hi,hz,hsize,hby⟩:=info_parts hinfo
 have hsz:(bs s).size=s.length:=aN s
 have h63:pb.length+(bs s).size<=maxLen:=by unfold maxLen;omega
 have hcells:Lib.strCells (bs s)=dX s:=by simp[Lib.strCells,dX,bs]
 obtain⟨v',w',hr,h2,h3,-⟩:=Lib.run_append_own_string (P:=P) w base t u o.type e i ht hu hi hz hsize hby v _ _ hown (bs s) h63 (by omega) hbase
 have hpl:=aD2 (P:=P) ht hu hi hz hsize hby hown (bs s) h63 (by omega) hr
 have hw:Region.wanted o (yielded ops a.tmps)=true:=by simp[Region.wanted,hgd]
 rw[if_pos hw]
 unfold Oper.wp execOp
 simp only[ho,resolve,invoke,builtin,Sem.run_bind,Sem.run_pure,Result.andThen_ok,List.map_toArray,List.map_cons,List.map_nil,hs,hx,hr]
 refine h v' w' ?_ h3 hpl
 rw[hsz,hcells]at h2
 simpa [dX] using h2
theorem step_go{P:Program}{w:World}{ops:Array Oper}{o:Oper}{a:Act}{K:Act->World->Prop}{Q:Exit->Act->World->Prop}{E:Prop}(hgd:o.guard=none)(f:FuncId)(x:Operand)(t:TypeId)
  (ho : o.op = .call { callee := .value (.func f), args := #[x], argTypes := #[t] }) (v : Value) (hv : a.eval x = v) (fn : Func) (hf : P.funcs[f]? = some fn) (hname : (fn.name == "runtime.NumGoroutine") = false) (hb : fn.body.isNone = false) (h : Calls P f #[v] w fun e w' => ∃ r, e = .returned r ∧ K (a.put o.dst r) w') : if Region.wanted o (yielded ops a.tmps) = true then Oper.wp P o a w K Q else E := by
 have hw:Region.wanted o (yielded ops a.tmps)=true:=by simp[Region.wanted,hgd]
 rw[if_pos hw]
 have h1 : ¬ fn.name = "runtime.NumGoroutine" := by simpa using hname
 have h2:¬fn.body=none:=by cases hx:fn.body<;>simp_all
 have hr:(execOp a.eval o).run P w=.ok (.enter f #[v]) w:=by
  have ef:a.eval (.func f)=.func (.func f) #[] #[]:=rfl
  unfold execOp
  simp[ho,resolve,Deferred.ofValue,invoke,callFunc,hf,h1,h2,ef,hv]
 unfold Oper.wp
 rw[hr,Oper.upon_enter]
 refine h.mono ?_
 rintro e w' ⟨r,rfl,hk⟩
 exact hk
theorem Tryz.nmStepLine : (Tryz.f83.name == "runtime.NumGoroutine") = false := by kernel_rfl
theorem Tryz.bdStepLine:Tryz.f83.body.isNone=false:=by kernel_rfl
theorem Tryz.nmSetOf : (Tryz.f84.name == "runtime.NumGoroutine") = false := by kernel_rfl
theorem Tryz.bdSetOf:Tryz.f84.body.isNone=false:=by kernel_rfl
theorem Tryz.nmOpps : (Tryz.f85.name == "runtime.NumGoroutine") = false := by kernel_rfl
theorem Tryz.bdOpps:Tryz.f85.body.isNone=false:=by kernel_rfl
theorem Tryz.nmLine : (Tryz.f86.name == "runtime.NumGoroutine") = false := by kernel_rfl
theorem Tryz.bdLine:Tryz.f86.body.isNone=false:=by kernel_rfl
set_option maxRecDepth 100000 in
theorem qH(v:Value)(xs:List Int)(w:World)(hl:xs.length<=10000000)(hbd:∀x,x∈xs->x≠0/\-12<=x/\x<=12)(hv:Lies w v (ints xs)):
  Calls Tryz.prog 84 #[v] w fun e w'=>e=.returned (.int .u32 (Sp.maskOf xs:Int))/\w'=w:=by
 have hall:bD xs=true:=by
  rw[bD,List.all_eq_true]
  exact fun x hx=>cJ.2 (hbd x hx)
 obtain⟨vo,vc,hvs,-⟩:=cT hv
 have HF:=aq (fK v xs w hl hv)
 rw[hall]at HF
 clear hv hbd hall
 subst hvs
 generalize Sp.maskOf xs=mk at *
 go_enter Tryz.func84,Tryz.ntmps84
 go_wp2_with fail
 refine(dz HF).mono ?_
 rintro e w1 ⟨rfl,⟨h1,rfl⟩|⟨h1,rfl⟩⟩
 ·cases h1
 ·clear h1
  go_wp2
  go_ret
  exact⟨rfl,rfl⟩
def eA(g:Bool)(l:List Int):List UInt8:=(if g then [100,32]else [])++Sp.told (Sp.litsOf (Sp.maskOf l))
set_option maxRecDepth 100000 in
theorem sM(v:Value)(g:Bool)(xs:List Int)(w:World)(hl:xs.length<=10000000)(hbd:∀x,x∈xs->x≠0/\-12<=x/\x<=12)(hv:Lies w v (ints xs))(he:EnvT w):
  Calls Tryz.prog 83 #[.agg #[v,.bool g]] w fun e w'=>e=.returned (.string (bs (eA g xs)))/\Below w.heap.size w w':=by
 obtain⟨vo,vc,hvs,-⟩:=cT hv
 have hb0:∀o,Below w.heap.size w (w.alloc o):=fun o=>(Below.refl _ _).alloc (Nat.le_refl _) _
 have HS:=aq (fun o=>qH v xs (w.alloc o) hl hbd (hv.below (hb0 o)))
 have hm:Sp.maskOf xs<2 ^ 24:=Sp.maskOf_lt _ (fun y hy=>(hbd y hy).2)
 have HL:=aq (fun o=>nQ (Sp.maskOf xs) (w.alloc o) hm (he.below (hb0 o)))
 have hlen:=dA (Sp.litsOf (Sp.maskOf xs))
 have hlen2:=eG (Sp.maskOf xs)
 have hT:eA g xs=(if g then [100,32]else [])++Sp.told (Sp.litsOf (Sp.maskOf xs)):=rfl
 have hadd:∀wx,(Op.stringOp .add ⟨#[100,32]⟩ (bs (Sp.told (Sp.litsOf (Sp.maskOf xs))))).run Tryz.prog wx=.ok (.string (bs ([100,32]++Sp.told (Sp.litsOf (Sp.maskOf xs))))) wx:=fun wx=>dK [100,32] (Sp.told (Sp.litsOf (Sp.maskOf xs))) (by simp[Sp.told];omega) wx
 rw[hT]
 clear hv hbd hT he
 subst hvs
 generalize Sp.told (Sp.litsOf (Sp.maskOf xs))=T at *
 generalize Sp.maskOf xs=mk at *
 go_enter Tryz.func83,Tryz.ntmps83
 go_wp2_with fail
 refine(dz HS _).mono ?_
 rintro e w1 ⟨rfl,rfl⟩
 have hcb:(w.alloc (.cells #[.slice vo xs.length vc,.bool g] 131)).cell? ⟨w.heap.size,1,none⟩=some (.bool g):=by
  unfold World.cell?
  simp only[heap_alloc_new]
  rfl
 have HL1:=aq (dz HL (.cells #[.slice vo xs.length vc,.bool g] 131))
 have hb1:=hb0 (.cells #[.slice vo xs.length vc,.bool g] 131)
 have hsz:w.heap.size<(w.alloc (.cells #[.slice vo xs.length vc,.bool g] 131)).heap.size:=by simp
 generalize w.alloc (.cells #[.slice vo xs.length vc,.bool g] 131)=w1 at *
 clear HL HS hb0
 go_wp2_with fail
 refine(dz HL1).mono ?_
 rintro e w2 ⟨rfl,hb2⟩
 have hc2:w2.cell? ⟨w.heap.size,1,none⟩=some (.bool g):=(hb2.cell (p:=⟨w.heap.size,1,none⟩) hsz).trans hcb
 have hbb:=hb1.trans (hb2.mono (Nat.le_of_lt hsz))
 clear HL1 hcb
 cases g
 ·go_wp2
  go_ret
  exact⟨rfl,hbb⟩
 ·go_wp2
  go_ret
  exact⟨rfl,hbb⟩
end Go.Proofs.YtekkkoipcghlmaaGreatDoor
namespace Go.Proofs.YtekkkoipcghlmaaGreatDoor
open Go.RowKit
theorem mE(a:Nat)(h:a<256):Lib.onesCount a=0->a=0:=by
 have:∀k:Fin 256,Lib.onesCount k.val=0->k.val=0:=by decide +kernel
 exact this ⟨a,h⟩
theorem oB(a:Nat)(h:a<256):Lib.onesCount a=1->∃j:Fin 8,a=2 ^ j.val:=by
 have:∀k:Fin 256,Lib.onesCount k.val=1->∃j:Fin 8,k.val=2 ^ j.val:=by decide +kernel
 exact this ⟨a,h⟩
theorem wK{m:Nat}(hm:m<2 ^ 24):dY m=1↔∃k,k<24/\m=2 ^ k:=by
 constructor
 ·intro h
  unfold dY at h
  have l16:m / 65536 % 256<256:=by omega
  have l8:m / 256 % 256<256:=by omega
  have l0:m % 256<256:=by omega
  have hd:m=m / 65536 % 256*65536+m / 256 % 256*256+m % 256:=by omega
  generalize m / 65536 % 256=a at *
  generalize m / 256 % 256=b at *
  generalize m % 256=c at *
  have hz:=mE a l16;have hz2:=mE b l8;have hz3:=mE c l0
  rcases Nat.eq_zero_or_pos (Lib.onesCount a)with ha|ha
  ·rcases Nat.eq_zero_or_pos (Lib.onesCount b)with hb|hb
   ·obtain⟨j,hj⟩:=oB c l0 (by omega)
    refine⟨j.val,by omega,?_⟩
    rw[hd,hz ha,hz2 hb,hj];simp
   ·obtain⟨j,hj⟩:=oB b l8 (by omega)
    refine⟨j.val+8,by omega,?_⟩
    rw[hd,hz ha,hz3 (by omega),hj,Nat.pow_add];simp
  ·obtain⟨j,hj⟩:=oB a l16 (by omega)
   refine⟨j.val+16,by omega,?_⟩
   rw[hd,hz2 (by omega),hz3 (by omega),hj,Nat.pow_add];simp
 ·rintro⟨k,hk,rfl⟩
  have:∀k:Fin 24,dY (2 ^ k.val)=1:=by decide +kernel
  exact this ⟨k,hk⟩
def eZ(m:Nat):Bool:=dY m==1
def aO(m:Nat):Bool:=m &&& aK m != 0
theorem iS{a b:Bool}(h:a=b):Ending.returned (.bool a)=.returned (.bool b):=by rw[h]
set_option maxRecDepth 100000 in
theorem tR(m:Nat)(w:World)(hm:m<2 ^ 24):
  Calls Tryz.prog 47 #[.int .u32 m] w fun e w'=>e=.returned (.int .i64 (dY m))/\∃q,w'=w.drewN q:=by
 have hmod:(m:Int) % 4294967296=m:=by omega
 have HO:=aq (fun wx=>aL7 m wx hm)
 generalize dY m=on at *
 go_enter Tryz.func47,Tryz.ntmps47
 go_wp2_with fail
 refine(dz HO _).mono ?_
 rintro e w1 ⟨rfl,q,rfl⟩
 go_wp2
 go_ret
 exact⟨rfl,q,rfl⟩
set_option maxRecDepth 100000 in
theorem yO(m:Nat)(w:World)(hm:m<2 ^ 24):
  Calls Tryz.prog 196 #[.int .u32 m] w fun e w'=>e=.returned (.bool (eZ m))/\∃q,w'=w.drewN q:=by
 have HO:=aq (fun wx=>tR m wx hm)
 have HB:Hid (((dY m:Int)==1)=eZ m):=aq (by
  unfold eZ
  by_cases h:dY m=1
  ·rw[h];rfl
  ·have h1:((dY m:Int)==1)=false:=by rw[beq_eq_false_iff_ne];omega
   have h2:(dY m==1)=false:=by rw[beq_eq_false_iff_ne];exact h
   rw[h1,h2])
 generalize eZ m=ob at *
 generalize dY m=on at *
 go_enter Tryz.func196,Tryz.ntmps196
 go_wp2_with fail
 refine(dz HO _).mono ?_
 rintro e w1 ⟨rfl,q,rfl⟩
 go_wp2
 go_ret
 exact⟨iS (dz HB),q,rfl⟩
set_option maxRecDepth 100000 in
theorem iQ(m:Nat)(w:World)(hm:m<2 ^ 24):
  Calls Tryz.prog 46 #[.int .u32 m] w fun e w'=>e=.returned (.bool (aO m))/\∃q,w'=w.drewN q:=by
 have hol:=kR hm
 have HO:=aq (fun wx=>gD m wx hm)
 have e1:=bits_and_u32_nat m (aK m) (by omega) (by omega)
 have HB:Hid ((!((m &&& aK m:Nat):Int)==0)=aO m):=aq (by
  unfold aO
  by_cases h:m &&& aK m=0
  ·rw[h];rfl
  ·have h1:(((m &&& aK m:Nat):Int)==0)=false:=by rw[beq_eq_false_iff_ne];omega
   have h2:(m &&& aK m != 0)=true:=by simpa using h
   rw[h1,h2];rfl)
 generalize m &&& aK m=a at *
 generalize aO m=ob at *
 generalize aK m=on at *
 go_enter Tryz.func46,Tryz.ntmps46
 go_wp2_with fail
 refine(dz HO _).mono ?_
 rintro e w1 ⟨rfl,rfl⟩
 go_wp2
 go_ret
 exact⟨iS (dz HB),0,rfl⟩
theorem eP{m:Nat}(hm:m<2 ^ 24):aO m=true↔∃i,m.testBit i=true/\m.testBit (Sp.opp i)=true:=by
 have h24:∀i,m.testBit i=true->i<24:=fun i hi=>by
  rcases Nat.lt_or_ge i 24 with h|h
  ·exact h
  ·rw[Nat.testBit_lt_two_pow (Nat.lt_of_lt_of_le hm (Nat.pow_le_pow_right (by decide) h))]at hi;cases hi
 unfold aO
 constructor
 ·intro h
  have hne:m &&& aK m≠0:=by simpa using h
  obtain⟨i,hi⟩:=Nat.exists_testBit_of_ne_zero hne
  rw[Nat.testBit_and,Bool.and_eq_true]at hi
  refine⟨i,hi.1,?_⟩
  rw[←iV hm i (h24 i hi.1)]
  exact hi.2
 ·rintro⟨i,h1,h2⟩
  have hne:m &&& aK m≠0:=by
   intro h0
   have:(m &&& aK m).testBit i=true:=by rw[Nat.testBit_and,h1,iV hm i (h24 i h1),h2];rfl
   rw[h0]at this
   simp at this
  simpa using hne
def aS(c u:Nat):Nat:=c ^^^ (c &&& u)
theorem eS(c u i:Nat):(aS c u).testBit i=(c.testBit i&&!u.testBit i):=by
 unfold aS
 rw[Nat.testBit_xor,Nat.testBit_and]
 cases c.testBit i<;>cases u.testBit i<;>rfl
theorem iO{c:Nat}(u:Nat)(hc:c<2 ^ 24):aS c u<2 ^ 24:=by
 unfold aS
 refine Nat.xor_lt_two_pow hc (Nat.lt_of_le_of_lt Nat.and_le_left hc)
theorem aA8(c u:Nat)(hc:c<4294967296)(hu:u<4294967296):bits .andNot .u32 (c:Int) (u:Int)=(aS c u:Nat):=by
 have h1:(BitVec.ofInt 32 (c:Int)).toNat=c:=by
  rw[BitVec.ofInt_natCast,BitVec.toNat_ofNat];exact Nat.mod_eq_of_lt (by omega)
 have h2:(BitVec.ofInt 32 (u:Int)).toNat=u:=by
  rw[BitVec.ofInt_natCast,BitVec.toNat_ofNat];exact Nat.mod_eq_of_lt (by omega)
 show IntKind.u32.wrap ((BitVec.ofInt 32 (c:Int) &&& ~~~ BitVec.ofInt 32 (u:Int)).toNat:Int)=_
 have h3:(BitVec.ofInt 32 (c:Int) &&& ~~~ BitVec.ofInt 32 (u:Int)).toNat=aS c u:=by
  apply Nat.eq_of_testBit_eq
  intro i
  rw[eS,←BitVec.getLsbD,BitVec.getLsbD_and,BitVec.getLsbD_not]
  unfold BitVec.getLsbD
  rw[h1,h2]
  by_cases hi:i<32
  ·simp[hi]
  ·have:c.testBit i=false:=Nat.testBit_lt_two_pow (Nat.lt_of_lt_of_le hc (by rw[show(4294967296:Nat)=2 ^ 32 from rfl];exact Nat.pow_le_pow_right (by decide) (by omega)))
   rw[this];simp
 rw[h3,wrap_u32']
 have:aS c u<4294967296:=by
  unfold aS
  exact Nat.xor_lt_two_pow (n:=32) hc (Nat.lt_of_le_of_lt Nat.and_le_left hc)
 omega
end Go.Proofs.YtekkkoipcghlmaaGreatDoor
namespace Go.Proofs.YtekkkoipcghlmaaGreatDoor
open Go.RowKit
theorem vV(k:Nat)(h:k<24):Sp.bitIx (Sp.litAt k)=k:=by
 have:∀i:Fin 24,Sp.bitIx (Sp.litAt i.val)=i.val:=by decide
 exact this ⟨k,h⟩
theorem jJ{m:Nat}(hm:m<2 ^ 24):Sp.maskOf (Sp.litsOf m)=m:=by
 apply Nat.eq_of_testBit_eq
 intro i
 have h1:(Sp.maskOf (Sp.litsOf m)).testBit i=((Sp.litsOf m).any fun x=>Sp.bitIx x==i):=by
  unfold Sp.maskOf
  rw[Sp.maskFrom_testBit]
  simp
 rw[h1,Bool.eq_iff_iff,List.any_eq_true]
 unfold Sp.litsOf
 constructor
 ·rintro⟨x,hx,hi⟩
  obtain⟨k,hk,rfl⟩:=List.mem_map.1 hx
  rw[List.mem_filter,List.mem_range]at hk
  rw[vV k hk.1,beq_iff_eq]at hi
  rw[←hi]
  exact hk.2
 ·intro hb
  have hi:i<24:=by
   rcases Nat.lt_or_ge i 24 with h|h
   ·exact h
   ·rw[Nat.testBit_lt_two_pow (Nat.lt_of_lt_of_le hm (Nat.pow_le_pow_right (by decide) h))]at hb;cases hb
  exact⟨Sp.litAt i,List.mem_map.2 ⟨i,List.mem_filter.2 ⟨List.mem_range.2 hi,hb⟩,rfl⟩,by rw[vV i hi,beq_self_eq_true]⟩
theorem qW(k:Nat)(h:k<24):(Sp.litAt k).natAbs=k / 2+1:=by
 have:∀i:Fin 24,(Sp.litAt i.val).natAbs=i.val / 2+1:=by decide
 exact this ⟨k,h⟩
theorem aP3{m:Nat}(hm:m<2 ^ 24)(ha:aO m=false):aM (Sp.litsOf m):=by
 refine⟨?_,eW m⟩
 have hno:∀i,m.testBit i=true->m.testBit (Sp.opp i)=true->False:=fun i h1 h2=>by
  rw[(eP hm).2 ⟨i,h1,h2⟩]at ha
  cases ha
 unfold Sp.litsOf
 rw[List.map_map]
 unfold List.Nodup
 rw[List.pairwise_map]
 have hp:((List.range 24).filter fun i=>m.testBit i).Pairwise (· < ·):=List.Pairwise.filter _ (List.pairwise_lt_range)
 refine List.Pairwise.imp_of_mem ?_ hp
 intro a b hma hmb hlt he
 rw[List.mem_filter,List.mem_range]at hma hmb
 simp only[Function.comp]at he
 rw[qW a hma.1,qW b hmb.1]at he
 refine hno a hma.2 ?_
 have:Sp.opp a=b:=by unfold Sp.opp;split<;>omega
 rw[this]
 exact hmb.2
def wY(ms:List Nat):Prop:=(∀m,m∈ms->m<2 ^ 24/\aO m=false)/\aW ms<=400/\ms.length<=3000000
section
variable {base:Nat}{w wr w':World}{m0 m:Mem}{G:List Nat}{cls:List Cl}{wat:Int->List Int}{tr:Tr}
theorem AAt.below(h:AAt base w m0 G wr m cls wat tr)(hb:Below wr.heap.size wr w'):AAt base w m0 G w' m cls wat tr:=
 ⟨h.mu.trans (Mut.below h.mu.at hb),h.rep,h.watAt,h.trok,h.wf,h.lists,h.zero,h.passed,h.heap,h.free,h.told,h.rounds,h.given,h.masks,h.ok⟩
theorem heap12:HeapOK (allN 12) (bT 12):=by
 refine⟨by decide,by decide,by decide,fun i v hv=>?_,fun v h0 h1 hn=>?_⟩
 ·have hi:i<12:=by have:=(List.getElem?_eq_some_iff.1 hv).1;simpa [allN] using this
  have:∀j:Fin 12,∀v,(allN 12)[j.val]?=some v->(bT 12)[v.toNat]?=some ((j.val:Int)+1):=by
   intro j v hv
   have e:∀j:Fin 12,(allN 12)[j.val]?=some ((j.val:Int)+1):=by decide
   rw[e j]at hv
   cases hv
   revert j
   decide
  exact this ⟨i,hi⟩ v hv
 ·exfalso
  have:∀j:Fin 13,0<j.val->((j.val:Nat):Int)∈allN 12:=by decide
  exact hn (this ⟨v,h1⟩ h0)
theorem AAt.init{s q qb:Nat}{wl fa al co pl:Value}(h:SAt base w (eB s q qb wl fa al co pl)):AAt base w (eB s q qb wl fa al co pl) [] w (eB s q qb wl fa al co pl) [] (fun _=>[]) []:=by
 refine⟨Mut.below h (Below.refl _ _),⟨rfl,rfl,rfl,rfl,fun i e he=>by simp at he,fun v h0 h1 _=>?_,rfl,rfl⟩,fun l h1 h2=>?_,⟨by simp,fun i e he=>by simp at he,fun i e he=>by simp at he⟩,fun c cl hc=>by simp at hc,fun l=>⟨by simp,fun p=>⟨fun hp=>by simp at hp,fun⟨c,cl,hc,_⟩=>by simp at hc⟩⟩,rfl,rfl,heap12,fun u h0 h1=>?_,⟨rfl,rfl⟩,⟨rfl,rfl,rfl⟩,rfl,rfl,.inl ⟨rfl,fun c cl hc=>by simp at hc⟩⟩
 ·have:∀j:Fin 13,(eB s q qb wl fa al co pl).truth j.val=0:=by
   intro j
   show(List.replicate 39 (0:Int)).getD _ 0=0
   rw[List.getD_eq_getElem?_getD,List.getElem?_replicate]
   split<;>rfl
  exact this ⟨v,h1⟩
 ·show(List.replicate 25 ([]:List Int))[(l+12).toNat]?=some []
  rw[List.getElem?_replicate,if_pos (by omega)]
 ·have:∀j:Fin 13,0<j.val->((j.val:Nat):Int)∈allN 12:=by decide
  exact this ⟨u,by omega⟩ h0
theorem AAt.few(h:AAt base w m0 G wr m cls wat tr)(hb:m.broken=-1){ms:List Nat}(hl:cls.map Cl.lits=ms.map Sp.litsOf)(hs:aW ms<=400)(hg:G.length=ms.length):G.length<=100000:=by
 have hw:∀(c:Nat) cl,cls[c]?=some cl->WOK tr 0 cl.lits:=by
  rcases h.ok with⟨-,h1⟩|⟨h1,-⟩
  ·exact h1
  ·exact absurd hb h1
 have hone:∀x,x∈ms->1<=(Sp.litsOf x).length:=fun x hx=>by
  have:Sp.litsOf x∈cls.map Cl.lits:=by rw[hl];exact List.mem_map.2 ⟨x,hx,rfl⟩
  obtain⟨cl,hcl,he⟩:=List.mem_map.1 this
  obtain⟨i,hi⟩:=List.getElem?_of_mem hcl
  rw[←he]
  rcases hw i cl hi with⟨y,hy,_⟩|⟨a,b,r,hy,_⟩<;>rw[hy]<;>simp
 have:∀l:List Nat,(∀x,x∈l->1<=(Sp.litsOf x).length)->l.length<=aW l:=by
  intro l
  induction l with
  | nil=>intro _;simp
  | cons a l ih=>
   intro hh
   have h1:=hh a (by simp)
   have h2:=ih (fun x hx=>hh x (by simp[hx]))
   unfold aW at *
   simp only[List.length_cons,List.map_cons,List.sum_cons]
   omega
 have:=this ms hone
 omega
end
def Loaded(base:Nat)(wN:World)(m0:Mem)(ms:List Nat)(k:Nat)(wr:World):Prop:=∃m cls wat tr,AAt base wN m0 (ms.take k) wr m cls wat tr/\m.store.length=2*k+aW (ms.take k)/\cls.map Cl.lits=(ms.take k).map Sp.litsOf
section
variable {base:Nat}{wN wr w':World}{m0:Mem}{ms:List Nat}{k:Nat}
theorem xM(h:aW ms<=400)(k:Nat):aW (ms.take k)<=400:=by
 have:aW ms=aW (ms.take k)+aW (ms.drop k):=by
  unfold aW
  rw[←List.sum_append,←List.map_append,List.take_append_drop]
 omega
theorem Mut.lowly{m:Mem}(h:Mut base wN m0 wr m)(hS:SAt base wN m0)(hb:base<=wN.heap.size):Below base wN wr:=h.to.only.below (fun _ hk=>(hS.pack.lt hk).1) hb
theorem Loaded.next(h:Loaded base wN m0 ms k wr)(hk:k<ms.length)(hms:wY ms)(hbs:base<=wN.heap.size)(he:EnvT wr):Calls Tryz.prog 41 #[.int .u32 ms[k]] wr fun e w1=>∃ao n c,e=.returned (.slice ao n c)/\Calls Tryz.prog 40 #[.pointer (some ⟨m0.s,0,none⟩),.slice ao n c] w1 fun e w2=>e=.returned (.tuple #[])/\Loaded base wN m0 ms (k+1) w2:=by
 obtain⟨m,cls,wat,tr,h,hst,hcl⟩:=h
 obtain⟨h24,hal⟩:=hms.1 ms[k] (List.getElem_mem hk)
 refine(kC ms[k] wr h24 he).mono ?_
 rintro e w1 ⟨v,rfl,hown,hb⟩
 obtain⟨ao,cp,hv⟩:=aC hown
 refine⟨ao,_,cp,by rw[hv],?_⟩
 rw[←hv]
 have h1:=h.below hb
 have hwf:=aP3 h24 hal
 have hs:=xM hms.2.1 k
 have hml:=hms.2.2
 refine(aO6 base wN m0 _ w1 m cls wat tr v (Sp.litsOf ms[k]) h1 hwf (aE hown (cA _)) (fun g hg hf=>?_) (by omega) hbs).mono ?_
 ·have h2:=(hown.lt g hg).1
  have h3:=(h.mu.at.pack.lt hf).2
  omega
 ·rintro e w2 ⟨rfl,m2,wat2,tr2,h2,hs2⟩
  refine⟨rfl,m2,cls++[⟨false,Sp.litsOf ms[k]⟩],wat2,tr2,?_,?_,?_⟩
  ·rw[List.take_succ_eq_append_getElem hk]
   rw[jJ h24]at h2
   exact h2
  ·rw[hs2,hst,List.take_succ_eq_append_getElem hk,gY]
   omega
  ·rw[List.map_append,hcl,List.take_succ_eq_append_getElem hk,List.map_append]
   rfl
theorem Loaded.run(h:Loaded base wN m0 ms ms.length wr)(hms:wY ms)(hbs:base<=wN.heap.size){av:Value}{A0:List Int}{B:Int}(hv:Lies wr av (ints A0))(hA0:∀x,x∈A0->x≠0/\-12<=x/\x<=12)(hal:A0.length<=10000000)(hB:0<=B)(hB2:B<=9223372036854775807):
  Calls Tryz.prog 42 #[.pointer (some ⟨m0.s,0,none⟩),av,.int .i64 B] wr fun e w'=>∃v,e=.returned v/\sD base wN m0 ms (once A0) B v w':=by
 obtain⟨m,cls,wat,tr,h,hst,hcl⟩:=h
 rw[List.take_length]at h hst hcl
 exact aQ0 base wN m0 ms wr m cls wat tr av A0 B h hv hA0 hal hB hB2 (fun hb=>h.few hb hcl hms.2.1 rfl) hbs
end
end Go.Proofs.YtekkkoipcghlmaaGreatDoor
namespace Go.Proofs.YtekkkoipcghlmaaGreatDoor
open Go.RowKit
section
variable {P:Program}
theorem fS{ops:Array Oper}{rest:List Oper}{o:Oper}{a:Act}{Q:Exit->Act->World->Prop}{w0 wr:World}{base n bytes:Nat}{tt:TypeId}{z v val:Value}{xs:List Value}
  (hgd:o.guard=none) (s x:Operand) (t e:TypeId)
  (ho:o.op=.call { callee:=.builtin .append,args:=#[s,x],argTypes:=#[t,t] })
  (ht:P.underlying t=some (.slice e)) (hinfo:(P.info? e).map (fun i=>(i.zero,i.size,i.bytes))=some (some z,1,bytes)) (hzs:z.cells.size=1) (hby:bytes<=24)
  (hown:wr.ownsRow base e 1 v n xs) (hs:a.eval s=v) (hx:a.eval x=.slice (some ⟨wr.heap.size,0,none⟩) 1 1) (h1:val.oneCell'=true)
  (hn:n<=5000000000000) (hb:base<=w0.heap.size) (hbel:Below base w0 wr)
  (h:∀v' w',w'.ownsRow base e 1 v' (n+1) (xs++[val])->Below base w0 w'->(wr.alloc (.cells #[val] tt)).grownBy w' v.ownBlock->wpList P ops Q rest (a.put o.dst v') w'):
  wpList P ops Q (o::rest) a (wr.alloc (.cells #[val] tt)):=by
 obtain⟨i0,hi,hz0,hz1,hz2⟩:=info_parts hinfo
 have hsz:=hbel.size
 have hnb:(n+1)*bytes<=140737488355328:=Nat.le_trans (Nat.mul_le_mul (Nat.add_le_add_right hn 1) hby) (by omega)
 refine wpList_append_own _ hgd s x t ho base e i0 z 1 bytes ht hi hz0 hz1 hz2 hzs (by decide) v n xs hs (hown.alloc _) ⟨wr.heap.size,0,none⟩ 1 1 [val] hx rfl (cell_one_new _ _ _)
  (by intro u hu;simp at hu;subst hu;exact h1) (by unfold maxLen;omega) hnb (by simp;omega) ?_
 intro v' w' ho' hg _
 exact h v' w' ho' ((hbel.alloc (by omega) _).grown hg (by simp;omega) (fun j hj=>(hown.lt j hj).1)) hg
end
end Go.Proofs.YtekkkoipcghlmaaGreatDoor
namespace Go.Proofs.YtekkkoipcghlmaaGreatDoor
open Go.RowKit
theorem aK6(s:List UInt8)(f k:Nat)(hf:f<=k)(hk:k<s.length):(s.drop f).take (k+1-f)=(s.drop f).take (k-f)++[s[k]]:=by
 rw[show k+1-f=(k-f)+1 from by omega,List.take_succ_eq_append_getElem (by simp;omega)]
 simp[show f+(k-f)=k from by omega]
set_option maxRecDepth 100000 in
set_option maxHeartbeats 400000 in
theorem lV(s:List UInt8)(w:World)(hs:s.length<=4000000000000000000)(hn:(Sp.lines s).length<=2000000000000):
  Calls Tryz.prog 149 #[.string (bs s)] w fun e w'=>∃v,e=.returned (.tuple #[v,.bool (Sp.ended s)])/\w'.ownsRow w.heap.size 9 1 v (Sp.lines s).length (strs (Sp.lines s))/\Below w.heap.size w w':=by
 have hsz:=aN s
 go_enter Tryz.func149,Tryz.ntmps149
 go_wp2_with fail
 go_loopw [4,5,6] (fun v fr i wr=>∃(k f:Nat) (O:List (List UInt8)),f<=k/\k<=s.length/\i=.int .i64 k/\fr=.int .i64 f/\wr.ownsRow w.heap.size 9 1 v O.length (strs O)/\Below w.heap.size w wr/\O.length<=k/\
   Hid (O++Sp.linesAux ((s.drop f).take (k-f)) (s.drop k)=Sp.lines s)/\Hid (Sp.endAux ((s.drop f).take (k-f)) (s.drop k)=Sp.ended s))
  (fun _ _ i _=>s.length-(intOf i).toNat)
 case atStart=>exact⟨0,0,[],Nat.le_refl _,Nat.zero_le _,rfl,rfl,World.ownsRow_nil _ _ _ _,Below.refl _ _,by simp,rfl,rfl⟩
 case round=>
  obtain⟨k,f,O,hf,hk,rfl,rfl,hown,hbel,hO,HI,HE⟩:=hrel
  have hOl:O.length<=(Sp.lines s).length:=by rw[←dz HI,List.length_append];omega
  by_cases hlt:k<s.length
  ·have hlt':k<(bs s).size:=by omega
   have HD:Hid (s.drop k=s[k]::s.drop (k+1)):=aq (List.drop_eq_getElem_cons hlt)
   have HB:Hid ((bs s)[k]=s[k]):=aq (dZ hlt)
   have HN:=aq (aK6 s f k hf hlt)
   by_cases hc:s[k]=10
   ·have ht:(((bs s)[k].toNat:Int)==10)=true:=by rw[dz HB,hc];rfl
    have HC:=aq hc
    clear hc
    have hsl:=fun wx=>wR (P:=Tryz.prog) 9 Tryz.underlying9 s f k f k rfl rfl hf (by omega) wx
    go_wp2_with (at_builtin;refine fS rfl _ _ 177 9 rfl Tryz.underlying177 Tryz.infoStr rfl (by decide) hown rfl rfl rfl (by omega) (Nat.le_refl _) hbel ?_;intro v' w1 hown' hbel' _)
    go_roundw
    case rel=>exact⟨k+1,k+1,O++[(s.drop f).take (k-f)],Nat.le_refl _,by omega,by go_num,by go_num,by simpa [strs] using hown',hbel',by simp;omega,aq (by rw[←dz HI,dz HD,dz HC];simp[Sp.linesAux]),aq (by rw[←dz HE,dz HD,dz HC];simp[Sp.endAux])⟩
    case measure=>simp[intOf];omega
   ·have ht:(((bs s)[k].toNat:Int)==10)=false:=by rw[dz HB];exact kY (by decide) hc
    have HC:=aq hc
    clear hc
    go_wp2
    go_roundw
    case rel=>exact⟨k+1,f,O,by omega,by omega,by go_num,rfl,hown,hbel,by omega,aq (by rw[←dz HI,dz HD,dz HN,Sp.linesAux,if_neg (dz HC)];rfl),aq (by rw[←dz HE,dz HD,dz HN,Sp.endAux,if_neg (dz HC)];rfl)⟩
    case measure=>simp[intOf];omega
  ·have HL:Hid (s.drop k=[]):=aq (List.drop_eq_nil_of_le (by omega))
   have HF:Hid ((s.drop f).take (k-f)=s.drop f):=aq (List.take_of_length_le (by simp;omega))
   by_cases hfl:f<s.length
   ·have HG:Hid (¬s.drop f=[]):=aq (by intro h;have:=congrArg List.length h;simp at this;omega)
    have hsl:=fun wx=>dG (P:=Tryz.prog) 9 Tryz.underlying9 s f f rfl (by omega) wx
    go_wp2_with (at_builtin;refine fS rfl _ _ 177 9 rfl Tryz.underlying177 Tryz.infoStr rfl (by decide) hown rfl rfl rfl (by omega) (Nat.le_refl _) hbel ?_;intro v' w1 hown' hbel' _)
    go_ret2
    have hfin:Sp.lines s=O++[s.drop f]:=by rw[←dz HI,dz HL,dz HF];simp only[Sp.linesAux];rw[if_neg (dz HG)]
    have hend:Sp.ended s=false:=by rw[←dz HE,dz HL,dz HF];simpa [Sp.endAux] using dz HG
    exact⟨_,by rw[hend];rfl,by rw[hfin];simpa [strs] using hown',hbel'⟩
   ·have HG:Hid (s.drop f=[]):=aq (List.drop_eq_nil_of_le (by omega))
    go_wp2
    go_ret2
    have hfin:Sp.lines s=O:=by rw[←dz HI,dz HL,dz HF,dz HG];simp[Sp.linesAux]
    have hend:Sp.ended s=true:=by rw[←dz HE,dz HL,dz HF,dz HG];simp[Sp.endAux]
    exact⟨_,by rw[hend];rfl,by rw[hfin];exact hown,hbel⟩
end Go.Proofs.YtekkkoipcghlmaaGreatDoor
