import Derived.Test.YtekkkoipcghlmaaGreatDoorU29
import Derived.Test.YtekkkoipcghlmaaGreatDoorU01
import Derived.Test.YtekkkoipcghlmaaGreatDoorProg
import Derived.Lib.Join
import Derived.Lib.BitFns
set_option linter.all false
namespace Go.Proofs.YtekkkoipcghlmaaGreatDoor
open Go.RowKit
theorem pT(l:List Int)(x:Int):Sp.toldBody (l++[x])=(if l=[]then Sp.lw x else Sp.toldBody l++32::Sp.lw x):=by
 unfold Sp.toldBody
 rw[List.map_append,List.map_singleton,Sp.join_snoc]
 simp
theorem iY(n:Nat):(Sp.digs n).length<=2:=by unfold Sp.digs;split<;>simp
theorem lw_len(x:Int):(Sp.lw x).length<=3:=by
 unfold Sp.lw;have:=iY x.natAbs;split<;>simp<;>omega
theorem dA(l:List Int):(Sp.toldBody l).length<=4*l.length:=by
 unfold Sp.toldBody
 induction l with
 | nil=>simp[Sp.join]
 | cons a r ih=>
  have:=lw_len a
  cases r with
  | nil=>simp[Sp.join];omega
  | cons b r=>simp[Sp.join]at ih⊢;omega
theorem tH{xs:List Int}{k:Nat}(h:k<xs.length):xs.take k=[]↔k=0:=by
 rw[List.take_eq_nil_iff]
 constructor
 ·rintro(h'|h')
  ·exact h'
  ·subst h';simp at h
 ·exact fun h'=>.inl h'
set_option maxRecDepth 100000 in
set_option maxHeartbeats 800000 in
theorem pD(v:Value)(xs:List Int)(w:World)(hl:xs.length<=100)(hx:∀x,x∈xs->x≠0/\-12<=x/\x<=12)(hv:Lies w v (ints xs)):
  Calls Tryz.prog 101 #[v] w fun e w'=>e=.returned (.string (bs (Sp.told xs)))/\Below w.heap.size w w':=by
 rcases hv with⟨h0,ao,cap,rfl⟩|⟨b,off,cap,hp,rfl,hb,hc⟩
 ·have hx0:xs=[]:=by simpa [ints] using h0
  subst hx0
  have hadd:=fun wx=>dK (P:=Tryz.prog) [] [10] (by simp) wx
  go_enter Tryz.func101,Tryz.ntmps101
  go_wp2
  refine wp_loop_rounds 1 ?_
  rw[rounds_succ]
  go_wp2
  go_ret
  exact⟨rfl,Below.refl _ _⟩
 ·have hlen:(ints xs).length=xs.length:=by simp[ints]
  rw[hlen]at hp⊢
  go_enter Tryz.func101,Tryz.ntmps101
  go_wp2
  go_loopw [3,4] (fun s i wr=>∃k:Nat,k<=xs.length/\i=.int .i64 k/\s=.string (bs (Sp.toldBody (xs.take k)))/\Below w.heap.size w wr) (fun _ i _=>xs.length-(intOf i).toNat)
  case atStart=>exact⟨0,Nat.zero_le _,rfl,rfl,Below.refl _ _⟩
  case round=>
   obtain⟨k,hk,rfl,rfl,hbel⟩:=hrel
   have hbl:=dA (xs.take k)
   have hbl2:(xs.take k).length<=k:=List.length_take_le _ _
   by_cases hlt:k<xs.length
   ·have hcell:wr.cell? ⟨b,off+k,none⟩=some (.int .i64 xs[k]):=(hbel.cell (p:=⟨b,off+k,none⟩) hb).trans (hc k (.int .i64 xs[k]) (by simp[ints,hlt]))
    have hxx:=hx xs[k] (List.getElem_mem hlt)
    have HS:Hid (xs.take (k+1)=xs.take k++[xs[k]]):=aq (List.take_succ_eq_append_getElem hlt)
    have HS2:=aq (pT (xs.take k) xs[k])
    have HE:Hid (xs.take k=[]↔k=0):=aq (tH hlt)
    generalize xs[k]=x at hcell HS HS2 hxx
    generalize htb:Sp.toldBody (xs.take k)=tb at HS2 hbl⊢
    have HB:=aq htb.symm
    clear htb
    clear hc hx
    by_cases hk0:0<k
    ·by_cases hn:x<0
     ·skip
      have ha0:∀wx,(Op.stringOp .add (bs tb) ⟨#[32]⟩).run Tryz.prog wx=.ok (.string (bs (tb++[32]))) wx:=fun wx=>dK tb [32] (by simp;omega) wx
      have ha1:∀wx,(Op.stringOp .add (bs (tb++[32])) ⟨#[45]⟩).run Tryz.prog wx=.ok (.string (bs (tb++[32,45]))) wx:=fun wx=>by have:=dK (P:=Tryz.prog) (tb++[32]) [45] (by simp;omega) wx;rwa [List.append_assoc]at this
      have ha2:=fun wx=>dK (P:=Tryz.prog) (tb++[32,45]) (Sp.digs (-x).toNat) (by have:=iY (-x).toNat;simp;omega) wx
      have hdg:=fun wx=>iG (-x) wx (by omega) (by omega)
      have HL:Hid (Sp.lw x=45::Sp.digs (-x).toNat):=aq (by unfold Sp.lw;rw[if_pos hn,show x.natAbs=(-x).toNat from by omega])
      generalize Sp.digs (-x).toNat=dg at ha2 hdg HL
      have HDG:=aq hdg
      clear hdg
      go_wp2_with fail
      refine(dz HDG _).mono ?_
      rintro e w1 ⟨rfl,hb1⟩
      go_wp2
      go_roundw
      case rel=>exact⟨k+1,by omega,by go_num,by rw[dz HS,dz HS2,if_neg (fun h=>absurd ((dz HE).1 h) (by omega)),dz HL],hbel.trans (hb1.mono hbel.size)⟩
      case measure=>simp[intOf];omega
     ·skip
      have ha0:∀wx,(Op.stringOp .add (bs tb) ⟨#[32]⟩).run Tryz.prog wx=.ok (.string (bs (tb++[32]))) wx:=fun wx=>dK tb [32] (by simp;omega) wx
      have ha2:=fun wx=>dK (P:=Tryz.prog) (tb++[32]) (Sp.digs x.toNat) (by have:=iY x.toNat;simp;omega) wx
      have hdg:=fun wx=>iG x wx (by omega) (by omega)
      have HL:Hid (Sp.lw x=Sp.digs x.toNat):=aq (by unfold Sp.lw;rw[if_neg hn,show x.natAbs=x.toNat from by omega])
      generalize Sp.digs x.toNat=dg at ha2 hdg HL
      have HDG:=aq hdg
      clear hdg
      go_wp2_with fail
      refine(dz HDG _).mono ?_
      rintro e w1 ⟨rfl,hb1⟩
      go_wp2
      go_roundw
      case rel=>exact⟨k+1,by omega,by go_num,by rw[dz HS,dz HS2,if_neg (fun h=>absurd ((dz HE).1 h) (by omega)),dz HL],hbel.trans (hb1.mono hbel.size)⟩
      case measure=>simp[intOf];omega
    ·have HZ:Hid (tb=[]):=aq (by
      have:=(dz HE).2 (by omega)
      rw[dz HB,this];rfl)
     by_cases hn:x<0
     ·skip
      have ha1:∀wx,(Op.stringOp .add (bs tb) ⟨#[45]⟩).run Tryz.prog wx=.ok (.string (bs (tb++[45]))) wx:=fun wx=>dK tb [45] (by simp;omega) wx
      have ha2:=fun wx=>dK (P:=Tryz.prog) (tb++[45]) (Sp.digs (-x).toNat) (by have:=iY (-x).toNat;simp;omega) wx
      have hdg:=fun wx=>iG (-x) wx (by omega) (by omega)
      have HL:Hid (Sp.lw x=45::Sp.digs (-x).toNat):=aq (by unfold Sp.lw;rw[if_pos hn,show x.natAbs=(-x).toNat from by omega])
      generalize Sp.digs (-x).toNat=dg at ha2 hdg HL
      have HDG:=aq hdg
      clear hdg
      go_wp2_with fail
      refine(dz HDG _).mono ?_
      rintro e w1 ⟨rfl,hb1⟩
      go_wp2
      go_roundw
      case rel=>exact⟨k+1,by omega,by go_num,by rw[dz HS,dz HS2,if_pos ((dz HE).2 (by omega)),dz HL,dz HZ];rfl,hbel.trans (hb1.mono hbel.size)⟩
      case measure=>simp[intOf];omega
     ·skip
      have ha2:=fun wx=>dK (P:=Tryz.prog) tb (Sp.digs x.toNat) (by have:=iY x.toNat;simp;omega) wx
      have hdg:=fun wx=>iG x wx (by omega) (by omega)
      have HL:Hid (Sp.lw x=Sp.digs x.toNat):=aq (by unfold Sp.lw;rw[if_neg hn,show x.natAbs=x.toNat from by omega])
      generalize Sp.digs x.toNat=dg at ha2 hdg HL
      have HDG:=aq hdg
      clear hdg
      go_wp2_with fail
      refine(dz HDG _).mono ?_
      rintro e w1 ⟨rfl,hb1⟩
      go_wp2
      go_roundw
      case rel=>exact⟨k+1,by omega,by go_num,by rw[dz HS,dz HS2,if_pos ((dz HE).2 (by omega)),dz HL,dz HZ];rfl,hbel.trans (hb1.mono hbel.size)⟩
      case measure=>simp[intOf];omega
   ·have HT:Hid (xs.take k=xs):=aq (List.take_of_length_le (by omega))
    have hadd:∀wx,(Op.stringOp .add (bs (Sp.toldBody (xs.take k))) ⟨#[10]⟩).run Tryz.prog wx=.ok (.string (bs (Sp.toldBody (xs.take k)++[10]))) wx:=fun wx=>dK (Sp.toldBody (xs.take k)) [10] (by simp;omega) wx
    go_wp2
    go_ret
    exact⟨by rw[dz HT];rfl,hbel⟩
end Go.Proofs.YtekkkoipcghlmaaGreatDoor
namespace Go.Proofs.YtekkkoipcghlmaaGreatDoor
open Go.RowKit
set_option maxHeartbeats 400000 in
theorem nW(v:Value)(xs:List Int)(n:Int)(w:World)(hl:xs.length<=10000000)(hv:Lies w v (ints xs)):
  Calls Tryz.prog 144 #[v,.int .i64 n] w fun e w'=>e=.returned (.bool (xs.contains n))/\w'=w:=by
 rcases hv with⟨h0,ao,cap,rfl⟩|⟨b,off,cap,hp,rfl,hb,hc⟩
 ·have hx:xs=[]:=by simpa [ints] using h0
  subst hx
  go_enter Tryz.func144,Tryz.ntmps144
  go_wp2
  refine wp_loop_rounds 1 ?_
  rw[rounds_succ]
  go_wp2
  go_ret
  exact⟨rfl,rfl⟩
 ·have hlen:(ints xs).length=xs.length:=by simp[ints]
  rw[hlen]at hp⊢
  go_enter Tryz.func144,Tryz.ntmps144
  go_wp2
  go_loop [5] (fun i=>∃k:Nat,k<=xs.length/\i=.int .i64 k/\n∉xs.take k) (fun i=>xs.length-(intOf i).toNat)
  case atStart=>exact⟨0,Nat.zero_le _,rfl,by simp⟩
  case round=>
   obtain⟨k,hk,rfl,hno⟩:=hrel
   by_cases hlt:k<xs.length
   ·have hcell:=hc k (.int .i64 xs[k]) (by simp[ints,hlt])
    have HM:Hid (xs[k]∈xs):=aq (List.getElem_mem hlt)
    have HS:Hid (xs.take (k+1)=xs.take k++[xs[k]]):=aq (List.take_succ_eq_append_getElem hlt)
    generalize xs[k]=x at hcell HM HS
    clear hc
    by_cases hx:x=n
    ·have hq:(x==n)=true:=by simpa using hx
     have HX:Hid (x=n):=aq hx
     clear hx
     go_wp2
     go_ret
     exact⟨by rw[←dz HX];simp[dz HM],rfl⟩
    ·have hq:(x==n)=false:=by simpa using hx
     have HX:Hid (¬x=n):=aq hx
     clear hx
     go_wp2
     go_round
     case rel=>exact⟨k+1,by omega,by go_num,by rw[dz HS];simp[hno];exact fun h=>dz HX h.symm⟩
     case measure=>simp[intOf];omega
   ·go_wp2
    go_ret
    have:xs.take k=xs:=List.take_of_length_le (by omega)
    rw[this]at hno
    exact⟨by simp[hno],rfl⟩
end Go.Proofs.YtekkkoipcghlmaaGreatDoor
namespace Go.Proofs.YtekkkoipcghlmaaGreatDoor
open Go.RowKit
theorem Tryz.infoIntW:(Tryz.prog.info? 3).map (fun i=>(i.zero,i.size,i.bytes))=some (some (.int .i64 0),1,8):=by kernel_rfl
set_option maxRecDepth 100000 in
set_option maxHeartbeats 800000 in
theorem gZ(v:Value)(xs:List Int)(w:World)(hl:xs.length<=10000000)(hv:Lies w v (ints xs)):
  Calls Tryz.prog 100 #[v] w fun e w'=>∃v',e=.returned v'/\w'.ownsRow w.heap.size 3 1 v' (Sp.sorted xs).length (ints (Sp.sorted xs))/\Below w.heap.size w w':=by
 go_enter Tryz.func100,Tryz.ntmps100
 go_wp2_with fail
 go_loopw [3,4] (fun o i wr=>∃(k:Nat),k<=12/\i=.int .i64 (k+1)/\wr.ownsRow w.heap.size 3 1 o (Sp.sortedTo xs k).length (ints (Sp.sortedTo xs k))/\Below w.heap.size w wr)
  (fun _ i _=>13-(intOf i).toNat)
 case atStart=>exact⟨0,by omega,rfl,World.ownsRow_nil _ _ _ _,Below.refl _ _⟩
 case round=>
  obtain⟨k,hk,rfl,hown,hbel⟩:=hrel
  have hv':=hv.below hbel
  have hlen:=Sp.sortedTo_len xs k
  by_cases hlt:k<12
  ·have HT:=aq (Sp.sortedTo_succ xs k)
   have hlt2:(k:Int)+1<=12:=by omega
   have h1:=nW v xs ((k:Int)+1) wr hl hv'
   have h2:=nW v xs (-((k:Int)+1)) wr hl hv'
   have HA:Hid (Sp.sortedAt xs k=(if xs.contains ((k:Int)+1)then [(k:Int)+1]else [])++(if xs.contains (-((k:Int)+1))then [-((k:Int)+1)]else [])):=rfl
   have H1:=aq h1
   have H2:=aq h2
   clear h1 h2
   cases hc1:xs.contains ((k:Int)+1)<;>cases hc2:xs.contains (-((k:Int)+1))
   all_goals rw[hc1]at H1 HA
   all_goals rw[hc2]at H2 HA
   all_goals clear hc1 hc2
   ·go_wp2_with fail
    refine(dz H1).mono ?_
    rintro e w1 ⟨rfl,rfl⟩
    go_wp2_with fail
    refine(dz H2).mono ?_
    rintro e w1 ⟨rfl,rfl⟩
    go_wp2
    go_roundw
    case rel=>exact⟨k+1,by omega,by go_num,by rw[dz HT,dz HA];simpa using hown,hbel⟩
    case measure=>simp[intOf];omega
   ·go_wp2_with fail
    refine(dz H1).mono ?_
    rintro e w1 ⟨rfl,rfl⟩
    go_wp2_with fail
    refine(dz H2).mono ?_
    rintro e w1 ⟨rfl,rfl⟩
    go_wp2_with (at_builtin;refine bR rfl _ _ 25 3 rfl Tryz.underlying25 Tryz.infoIntW rfl (by decide) hown rfl rfl rfl (by omega) (Nat.le_refl _) hbel ?_;intro v1 w1 hown1 hbel1 _)
    go_roundw
    case rel=>exact⟨k+1,by omega,by go_num,by rw[dz HT,dz HA];simpa [ints] using hown1,hbel1⟩
    case measure=>simp[intOf];omega
   ·go_wp2_with fail
    refine(dz H1).mono ?_
    rintro e w1 ⟨rfl,rfl⟩
    go_wp2_with fail
    refine(dz H2).mono ?_
    rintro e w1 ⟨rfl,rfl⟩
    go_wp2_with (at_builtin;refine bR rfl _ _ 25 3 rfl Tryz.underlying25 Tryz.infoIntW rfl (by decide) hown rfl rfl rfl (by omega) (Nat.le_refl _) hbel ?_;intro v1 w1 hown1 hbel1 _)
    go_roundw
    case rel=>exact⟨k+1,by omega,by go_num,by rw[dz HT,dz HA];simpa [ints] using hown1,hbel1⟩
    case measure=>simp[intOf];omega
   ·go_wp2_with fail
    refine(dz H1).mono ?_
    rintro e w1 ⟨rfl,rfl⟩
    go_wp2_with fail
    refine(dz H2).mono ?_
    rintro e w1 ⟨rfl,rfl⟩
    go_wp2_with (first|(at_builtin;refine bR rfl (.tmp 19) (.tmp 21) 25 3 rfl Tryz.underlying25 Tryz.infoIntW rfl (by decide) hown rfl rfl rfl (by omega) (Nat.le_refl _) hbel ?_;intro v1 w1 hown1 hbel1 _)|(at_builtin;refine bR rfl (.tmp 24) (.tmp 27) 25 3 rfl Tryz.underlying25 Tryz.infoIntW rfl (by decide) hown1 rfl rfl rfl (by omega) (Nat.le_refl _) hbel1 ?_;intro v2 w2 hown2 hbel2 _))
    go_roundw
    case rel=>exact⟨k+1,by omega,by go_num,by rw[dz HT,dz HA];simpa [ints] using hown2,hbel2⟩
    case measure=>simp[intOf];omega
  ·go_wp2
   go_ret
   have:k=12:=by omega
   subst this
   exact⟨_,rfl,hown,hbel⟩
end Go.Proofs.YtekkkoipcghlmaaGreatDoor
namespace Go.Proofs.YtekkkoipcghlmaaGreatDoor
open Go.RowKit
theorem vG(xs:List (List UInt8)):Lib.join xs [32]=Sp.join xs:=by
 unfold Lib.join
 induction xs with
 | nil=>rfl
 | cons a r ih=>
  cases r with
  | nil=>simp[Sp.join,List.intercalate]
  | cons b r=>
   rw[Sp.join,←ih]
   simp[List.intercalate]
theorem eG(m:Nat):(Sp.litsOf m).length<=24:=by
 unfold Sp.litsOf
 rw[List.length_map]
 exact Nat.le_trans (List.length_filter_le _ _) (by simp)
theorem wQ(k:Nat)(h:k<24):Sp.litAt k≠0/\-12<=Sp.litAt k/\Sp.litAt k<=12:=by
 rw[qS];split<;>omega
theorem wB(ws:List (List UInt8)):(ws.map bs).map (·.data.toList)=ws:=by
 induction ws with
 | nil=>rfl
 | cons a r ih=>simp only[List.map_cons,jV]at ih⊢;rw[ih]
theorem aL0(v:Value)(ws:List (List UInt8))(w:World)(base:Nat)(hown:w.ownsRow base 9 1 v ws.length (strs ws))(hlen:(Sp.join ws).length<=100000)(hn:ws.length<=100000):
  Calls Tryz.prog 131 #[v,.string ⟨#[32]⟩] w fun e w'=>e=.returned (.string (bs (Sp.join ws)))/\Below w.heap.size w w':=by
 have e2:(ByteArray.mk #[32]).data.toList=[32]:=rfl
 rcases hown.2 with⟨rfl,h0⟩|⟨g,cap,cur,rfl,_,hg,hc,_⟩
 ·have hw:ws=[]:=List.length_eq_zero_iff.1 h0
  subst hw
  refine(Tryz.strings_Join_none none 0 ⟨#[32]⟩ w).mono ?_
  rintro e w1 ⟨rfl,rfl⟩
  exact⟨rfl,Below.refl _ _⟩
 ·have hlt:=(hown.lt g rfl).2
  have hcells:∀(j:Nat) x,(ws.map bs)[j]?=some x->w.cell? ⟨g,0+j,none⟩=some (.string x):=fun j x hx=>by
   have hj:j<ws.length:=by
    have:=(List.getElem?_eq_some_iff.1 hx).1
    simpa using this
   rw[Nat.zero_add,hown.cellAt j (by omega),strs,List.getElem?_map]
   rw[List.getElem?_map]at hx
   cases hj2:ws[j]? with
   | none=>rw[hj2]at hx;cases hx
   | some y=>rw[hj2]at hx;simp at hx⊢;rw[hx]
  have:=Tryz.strings_Join g 0 cap (ws.map bs) ⟨#[32]⟩ w hcells hlt (by simp;omega) (by simpa using hc) (by rw[wB,e2,vG];omega)
  rw[wB,e2,vG,List.length_map]at this
  exact this
set_option maxRecDepth 100000 in
set_option maxHeartbeats 800000 in
theorem kC(m:Nat)(w:World)(hm:m<2 ^ 24)(he:EnvT w):
  Calls Tryz.prog 41 #[.int .u32 m] w fun e w'=>∃v,e=.returned v/\w'.ownsRow w.heap.size 3 1 v (Sp.litsOf m).length (ints (Sp.litsOf m))/\Below w.heap.size w w':=by
 go_enter Tryz.func41,Tryz.ntmps41
 go_wp2_with fail
 go_loopw [3,4] (fun v r wr=>∃(q:Nat) (L:List Int),r=.int .u32 q/\q<2 ^ 24/\wr.ownsRow w.heap.size 3 1 v L.length (ints L)/\Below w.heap.size w wr/\Hid (L++Sp.litsOf q=Sp.litsOf m))
  (fun _ r _=>(Sp.litsOf (intOf r).toNat).length)
 case atStart=>exact⟨m,[],rfl,hm,World.ownsRow_nil _ _ _ _,Below.refl _ _,rfl⟩
 case round=>
  obtain⟨q,L,rfl,hq,hown,hbel,HI⟩:=hrel
  have hLl:L.length<=24:=by have h1:=eG m;rw[←dz HI,List.length_append]at h1;omega
  have HE:=aq (he.below hbel)
  by_cases h0:q=0
  ·have hz:((q:Int)==0)=true:=by rw[beq_iff_eq];omega
   have HZ:=aq h0
   clear h0
   have HLL:Hid (L=Sp.litsOf m):=aq (by have:=dz HI;rw[dz HZ,Sp.litsOf_zero,List.append_nil]at this;exact this)
   go_wp2
   go_ret
   exact⟨_,rfl,by rw[←dz HLL];exact hown,hbel⟩
  ·have hz:((q:Int)==0)=false:=by rw[beq_eq_false_iff_ne];omega
   have hpos:1<=q:=by omega
   obtain⟨hst,hk⟩:=Sp.litsOf_step q h0 hq
   have HST:=aq hst
   have hxb:=wQ _ hk
   have HF:=aq (yR q wr hq (dz HE))
   clear hst h0
   have hand:bits BinOp.and IntKind.u32 (q:Int) ((q:Int)-1)=((q &&& (q-1):Nat):Int):=by
    have:=bits_and_u32_nat q (q-1) (Nat.lt_trans hq (by decide)) (Nat.lt_of_lt_of_le (by omega:q-1<2 ^ 24) (by decide))
    rwa [show((q-1:Nat):Int)=(q:Int)-1 from by omega]at this
   have HAND:=aq hand
   clear hand
   have hq2:q &&& (q-1)<2 ^ 24:=Nat.lt_of_le_of_lt Nat.and_le_left hq
   generalize Sp.litAt (Lib.ctz 32 q)=x at *
   generalize q &&& (q-1)=q2 at *
   go_wp2_with fail
   refine(dz HF).mono ?_
   rintro e w1 ⟨rfl,rfl⟩
   go_wp2_with (at_builtin;refine bR rfl _ _ 25 3 rfl Tryz.underlying25 Tryz.infoIntW rfl (by decide) hown rfl rfl rfl (by omega) (Nat.le_refl _) hbel ?_;intro v' w3 hown' hbel' _)
   go_roundw
   case rel=>exact⟨q2,L++[x],by rw[dz HAND],hq2,by simpa [ints] using hown',hbel',aq (by rw[←dz HI,dz HST];simp)⟩
   case measure=>rw[dz HAND];simp[intOf,dz HST]
theorem eW(m:Nat):∀x,x∈Sp.litsOf m->x≠0/\-12<=x/\x<=12:=by
 intro x hx
 unfold Sp.litsOf at hx
 obtain⟨k,hk,rfl⟩:=List.mem_map.1 hx
 have:=(List.mem_filter.1 hk).1
 exact wQ k (by simpa using this)
set_option maxRecDepth 100000 in
set_option maxHeartbeats 800000 in
theorem nQ(m:Nat)(w:World)(hm:m<2 ^ 24)(he:EnvT w):
  Calls Tryz.prog 86 #[.int .u32 m] w fun e w'=>e=.returned (.string (bs (Sp.told (Sp.litsOf m))))/\Below w.heap.size w w':=by
 have HL:=aq (kC m w hm he)
 have hLl:=eG m
 have hbdx:=eW m
 generalize Sp.litsOf m=K at *
 go_enter Tryz.func86,Tryz.ntmps86
 go_wp2_with fail
 refine(dz HL).mono ?_
 rintro e w0 ⟨v0,rfl,hown0,hb0⟩
 have hlies:=aE hown0 (by simp[ints])
 obtain⟨ao,cp,rfl⟩:=aC hown0
 clear hown0
 go_wp2_with fail
 go_loopw [3,9] (fun v r wr=>∃(k:Nat),k<=K.length/\r=.int .i64 k/\wr.ownsRow w0.heap.size 9 1 v k (strs ((K.take k).map Sp.lw))/\Below w0.heap.size w0 wr)
  (fun _ r _=>K.length-(intOf r).toNat)
 case atStart=>exact⟨0,Nat.zero_le _,rfl,World.ownsRow_nil _ _ _ _,Below.refl _ _⟩
 case round=>
  obtain⟨k,hk,rfl,hown,hbel0⟩:=hrel
  have hbel:=hb0.trans (hbel0.mono hb0.size)
  have HE:=aq (he.below hbel)
  by_cases hlt:k<K.length
  ·have hne:ints K≠[]:=by
    intro h;have:=congrArg List.length h;simp[ints]at this;rw[this]at hlt;simp at hlt
   rcases hlies with⟨h0,-⟩|⟨b,off,cap',hp,hv,hbb,hc⟩
   ·exact absurd h0 hne
   ·simp only[Value.slice.injEq]at hv
    obtain⟨rfl,hv2,rfl⟩:=hv
    clear hv2
    have hcell:wr.cell? ⟨b,off+k,none⟩=some (.int .i64 K[k]):=(hbel0.cell (p:=⟨b,off+k,none⟩) hbb).trans (hc k (.int .i64 K[k]) (by simp[ints,hlt]))
    have hxb:=hbdx K[k] (List.getElem_mem hlt)
    have HS:Hid (K.take (k+1)=K.take k++[K[k]]):=aq (List.take_succ_eq_append_getElem hlt)
    generalize K[k]=x at hcell HS hxb
    clear hc hbdx hne
    have HIT:=aq (uX x (by omega) (by omega) wr (dz HE))
    rw[Sp.itoa_lw _ hxb.1 hxb.2.1 hxb.2.2]at HIT
    go_wp2_with fail
    refine(dz HIT).mono ?_
    rintro e w2 ⟨rfl,hb2⟩
    have hown2:=aR hown hb2
    have hbel02:=hbel0.trans (hb2.mono hbel0.size)
    have hsz0:=hb0.size
    go_wp2_with (at_builtin;refine bR rfl _ _ 177 9 rfl Tryz.underlying177 Tryz.infoStr rfl (by decide) hown2 rfl rfl rfl (by omega) (Nat.le_refl _) hbel02 ?_;intro v' w3 hown' hbel' hgr)
    go_roundw
    case rel=>exact⟨k+1,by omega,by go_num,by rw[dz HS];simpa [strs] using hown',hbel'⟩
    case measure=>simp[intOf];omega
  ·have HLL:Hid (K.take k=K):=aq (List.take_of_length_le (by omega))
   have hbl:=dA K
   have HJ:=aq (aL0 _ (K.map Sp.lw) wr w0.heap.size (by rw[List.length_map];have:=hown;rw[dz HLL,show k=K.length from by omega]at this;exact this) (by unfold Sp.toldBody at hbl;omega) (by simp;omega))
   have HJ:Hid (Calls Tryz.prog 131 #[_,.string ⟨#[32]⟩] wr fun e w'=>e=.returned (.string (bs (Sp.toldBody K)))/\Below wr.heap.size wr w'):=HJ
   have hadd:∀wx,(Op.stringOp .add (bs (Sp.toldBody K)) ⟨#[10]⟩).run Tryz.prog wx=.ok (.string (bs (Sp.toldBody K++[10]))) wx:=fun wx=>dK (Sp.toldBody K) [10] (by simp;omega) wx
   clear hown hlies hbdx
   go_wp2_with fail
   refine(dz HJ).mono ?_
   rintro e w1 ⟨rfl,hb1⟩
   go_wp2
   go_ret
   exact⟨rfl,hbel.trans (hb1.mono hbel.size)⟩
end Go.Proofs.YtekkkoipcghlmaaGreatDoor
namespace Go.Proofs.YtekkkoipcghlmaaGreatDoor
open Go.RowKit
def dY(m:Nat):Nat:=Lib.onesCount (m / 65536 % 256)+Lib.onesCount (m / 256 % 256)+Lib.onesCount (m % 256)
theorem oO(x:Nat)(h:x<4294967296):bits .and .u32 (x:Int) 255=((x % 256:Nat):Int):=by
 have:=bits_and_u32_nat x 255 h (by decide)
 rw[show((255:Nat):Int)=255 from rfl]at this
 rw[this,show(255:Nat)=2 ^ 8-1 from rfl,Nat.and_two_pow_sub_one_eq_mod]
theorem pF(a:Nat)(h:a<256):∃p:Nat,Lib.pop8 (a:Int)=(p:Int)/\p<=8/\p=Lib.onesCount a:=
 ⟨Lib.onesCount a,Lib.pop8_eq ⟨a,h⟩,Lib.onesCount_le8 ⟨a,h⟩,rfl⟩
theorem aR0{a b:Int}(h:a=b):Ending.returned (.int .i64 a)=.returned (.int .i64 b):=by rw[h]
set_option maxRecDepth 100000 in
theorem aL7(m:Nat)(w:World)(hm:m<2 ^ 24):
  Calls Tryz.prog 87 #[.int .u32 m] w fun e w'=>e=.returned (.int .i64 (dY m:Nat))/\∃q,w'=w.drewN q:=by
 have h24:(m:Int) / 16777216=0:=by omega
 have e16:bits .and .u32 ((m:Int) / 65536) 255=((m / 65536 % 256:Nat):Int):=by
  have:=oO (m / 65536) (by omega)
  rwa [Int.natCast_ediv]at this
 have e8:bits .and .u32 ((m:Int) / 256) 255=((m / 256 % 256:Nat):Int):=by
  have:=oO (m / 256) (by omega)
  rwa [Int.natCast_ediv]at this
 have e0:bits .and .u32 (m:Int) 255=((m % 256:Nat):Int):=oO m (by omega)
 have HO:Hid (dY m=Lib.onesCount (m / 65536 % 256)+Lib.onesCount (m / 256 % 256)+Lib.onesCount (m % 256)):=rfl
 have l16:m / 65536 % 256<256:=by omega
 have l8:m / 256 % 256<256:=by omega
 have l0:m % 256<256:=by omega
 generalize m / 65536 % 256=a at *
 generalize m / 256 % 256=b at *
 generalize m % 256=c at *
 have p00:Lib.pop8 0=0:=by decide
 obtain⟨pa,ha,ha8,hae⟩:=pF a l16
 obtain⟨pb,hb,hb8,hbe⟩:=pF b l8
 obtain⟨pc,hc,hc8,hce⟩:=pF c l0
 rw[←hae,←hbe,←hce]at HO
 have ia:(a:Int)<=255:=by omega
 have ib:(b:Int)<=255:=by omega
 have ic:(c:Int)<=255:=by omega
 clear hae hbe hce
 go_enter Tryz.func87,Tryz.ntmps87
 go_wp2
 go_quiet (fail)
 go_wp2
 go_ret
 refine⟨aR0 ?_,_,rfl⟩
 rw[dz HO]
 omega
def aK(m:Nat):Nat:=(m &&& 5592405)*2 ||| (m / 2 &&& 5592405)
theorem jK(i:Nat)(h:i<24):(5592405:Nat).testBit i=(i % 2==0):=by
 have:∀k:Fin 24,(5592405:Nat).testBit k.val=(k.val % 2==0):=by decide
 exact this ⟨i,h⟩
theorem kR{m:Nat}(_hm:m<2 ^ 24):aK m<2 ^ 24:=by
 have h1:m &&& 5592405<=5592405:=Nat.and_le_right
 have h2:m / 2 &&& 5592405<=5592405:=Nat.and_le_right
 exact Nat.or_lt_two_pow (by omega) (by omega)
theorem iV{m:Nat}(_hm:m<2 ^ 24)(i:Nat)(hi:i<24):(aK m).testBit i=m.testBit (Sp.opp i):=by
 unfold aK
 have e1:(m &&& 5592405)*2=(m &&& 5592405) <<< 1:=by rw[Nat.shiftLeft_eq]
 have e2:m / 2=m >>> 1:=by rw[Nat.shiftRight_eq_div_pow]
 rw[e1,e2,Nat.testBit_or,Nat.testBit_shiftLeft,Nat.testBit_and,Nat.testBit_and,Nat.testBit_shiftRight]
 unfold Sp.opp
 by_cases he:i % 2=0
 ·rw[if_pos he,jK i hi]
  have:(decide (i ≥ 1)&&(m.testBit (i-1)&&(5592405:Nat).testBit (i-1)))=false:=by
   by_cases h0:i=0
   ·subst h0;simp
   ·rw[jK (i-1) (by omega)]
    have:((i-1) % 2==0)=false:=by rw[beq_eq_false_iff_ne];omega
    rw[this];simp
  rw[this]
  have he':(i % 2==0)=true:=by simpa using he
  rw[he',Nat.add_comm 1 i];simp
 ·rw[if_neg he,jK i hi,jK (i-1) (by omega)]
  have h1:(i % 2==0)=false:=by simpa using he
  have h2:((i-1) % 2==0)=true:=by rw[beq_iff_eq];omega
  rw[h1,h2]
  have h3:decide (i ≥ 1)=true:=decide_eq_true (by omega)
  rw[h3];simp
theorem nT{i:Nat}(hi:i<24):aK (2 ^ i)=2 ^ (Sp.opp i):=by
 have:∀k:Fin 24,aK (2 ^ k.val)=2 ^ (Sp.opp k.val):=by decide
 exact this ⟨i,hi⟩
set_option maxRecDepth 100000 in
theorem gD(m:Nat)(w:World)(hm:m<2 ^ 24):
  Calls Tryz.prog 85 #[.int .u32 m] w fun e w'=>e=.returned (.int .u32 (aK m:Nat))/\w'=w:=by
 have h1:m &&& 5592405<=5592405:=Nat.and_le_right
 have h2:m / 2 &&& 5592405<=5592405:=Nat.and_le_right
 have e1:bits .and .u32 (m:Int) 5592405=((m &&& 5592405:Nat):Int):=bits_and_u32_nat m 5592405 (by omega) (by decide)
 have e2:bits .and .u32 ((m:Int) / 2) 5592405=((m / 2 &&& 5592405:Nat):Int):=by
  have:=bits_and_u32_nat (m / 2) 5592405 (by omega) (by decide)
  rwa [Int.natCast_ediv]at this
 have e3:((m &&& 5592405:Nat):Int)*2 % 4294967296=(((m &&& 5592405)*2:Nat):Int):=by omega
 have e4:bits .or .u32 (((m &&& 5592405)*2:Nat):Int) ((m / 2 &&& 5592405:Nat):Int)=(aK m:Nat):=fV _ _ (by omega) (by omega)
 go_enter Tryz.func85,Tryz.ntmps85
 go_wp2_with fail
 go_ret
 refine⟨?_,rfl⟩
 show Ending.returned (.int .u32 _)=_
 rw[←e4,show(((m &&& 5592405)*2:Nat):Int)=((m &&& 5592405:Nat):Int)*2 from by omega]
end Go.Proofs.YtekkkoipcghlmaaGreatDoor
