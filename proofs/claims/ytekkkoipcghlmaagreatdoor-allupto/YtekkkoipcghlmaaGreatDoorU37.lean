import Derived.Test.YtekkkoipcghlmaaGreatDoorU36
import Derived.Test.YtekkkoipcghlmaaGreatDoorU35
import Derived.Test.YtekkkoipcghlmaaGreatDoorU01
import Derived.Lib.SplitLaws
import Derived.Test.YtekkkoipcghlmaaGreatDoorU29
set_option linter.all false
namespace Go.Proofs.YtekkkoipcghlmaaGreatDoor
open Go.RowKit
namespace Sp
def flag(e:Bool):List (List UInt8)->List (List UInt8×Bool)
 | []=>[]
 | [x]=>[(x,e)]
 | x::y::r=>(x,true)::flag e (y::r)
theorem segs_flag(r:List UInt8):∀cur,segsAux cur r=flag (endAux cur r) (linesAux cur r):=by
 induction r with
 | nil=>
  intro cur
  unfold segsAux linesAux endAux
  by_cases hc:cur=[]
  ·simp[hc,flag]
  ·have:cur.isEmpty=false:=by simpa using hc
   simp[hc,flag]
 | cons c r ih=>
  intro cur
  unfold segsAux linesAux endAux
  by_cases hc:c=10
  ·rw[if_pos hc,if_pos hc,if_pos hc,ih]
   cases hl:linesAux [] r with
   | nil=>rw[qR r [] hl];rfl
   | cons y t=>rfl
  ·rw[if_neg hc,if_neg hc,if_neg hc];exact ih _
theorem flag_len(e:Bool):∀L,(flag e L).length=L.length
 | []=>rfl
 | [_]=>rfl
 | _::y::r=>by simp[flag,flag_len e (y::r)]
theorem flag_step(e:Bool):∀(L:List (List UInt8)) (k:Nat) (h:k<L.length),(flag e L).drop k=(L[k],e||!decide (k+1=L.length))::(flag e L).drop (k+1)
 | [],_,h=>by simp at h
 | [x],k,h=>by
  have:k=0:=by simp at h;exact h
  subst this;simp[flag]
 | x::y::r,0,h=>by simp[flag]
 | x::y::r,k+1,h=>by
  have:=flag_step e (y::r) k (by simpa using h)
  simp only[flag,List.drop_succ_cons,List.getElem_cons_succ,List.length_cons]at this⊢
  rw[this]
  congr 3
  simp
theorem wordsAux_head(l:List UInt8):∀cur,∃t rest,wordsAux cur l=(cur++t)::rest:=by
 induction l with
 | nil=>intro cur;exact⟨[],[],by simp[wordsAux]⟩
 | cons c r ih=>
  intro cur
  unfold wordsAux
  split
  ·exact⟨[],wordsAux [] r,by simp⟩
  ·obtain⟨t,rest,h⟩:=ih (cur++[c])
   exact⟨c::t,rest,by rw[h];simp⟩
theorem step_other{y:List UInt8}(h:∀r,y≠100::r):stepOf y=(false,words y):=by
 unfold stepOf
 split
 ·rename_i w0 r hw
  have hne:w0≠[100]:=by
   rintro rfl
   match y,h,hw with
   | [],_,hw=>simp[words]at hw
   | c::q,h,hw=>
    have hc:c≠100:=fun e=>h q (by rw[e])
    unfold words at hw
    rw[if_neg (by simp)]at hw
    unfold wordsAux at hw
    split at hw
    ·simp at hw
    ·obtain⟨t,rest,ht⟩:=wordsAux_head q ([]++[c])
     rw[ht]at hw
     simp at hw
     exact hc hw.1.1
  rw[if_neg hne,hw]
 ·rename_i hw;rw[hw]
theorem step_d:stepOf [100]=(true,[]):=by decide
theorem step_go(r:List UInt8):stepOf (100::32::r)=(true,wordsAux [] r)/\words (100::32::r)=[100]::wordsAux [] r:=by
 have:words (100::32::r)=[100]::wordsAux [] r:=by
  unfold words;rw[if_neg (by simp)]
  simp[wordsAux]
 refine⟨?_,this⟩
 unfold stepOf
 rw[this]
 simp
theorem step_bad(c:UInt8)(r:List UInt8)(hc:c≠32)(b:Bool):stepOk (100::c::r,b)=false:=by
 obtain⟨t,rest,ht⟩:=wordsAux_head r ([]++[100]++[c])
 have hw:words (100::c::r)=(100::c::t)::rest:=by
  unfold words;rw[if_neg (by simp)]
  have h1:wordsAux [] (100::c::r)=wordsAux ([]++[100]++[c]) r:=by
   rw[wordsAux,if_neg (by decide),wordsAux,if_neg hc]
  rw[h1,ht];simp
 unfold stepOk stepOf
 simp only[hw]
 rw[if_neg (by simp)]
 have hl:lit (100::c::t)=0:=by
  unfold lit
  simp only
  rw[if_neg (by decide)]
  unfold num
  split
  ·rename_i h;simp at h
  ·rename_i a b' h
   simp at h
   obtain⟨rfl,-,-⟩:=h
   rw[if_neg (fun h'=>absurd h'.1 (by decide))]
  ·rfl
 simp[hl]
end Sp
theorem iN(y:List UInt8):Sp.stepMask y<2 ^ 24:=Sp.maskOf_lt _ fun x hx=>by
 obtain⟨s,_,rfl⟩:=List.mem_map.1 hx
 exact Sp.lit_bd s
theorem qV{w:World}{n cap:Nat}{x:Value}{xs:List Value}{b off:Nat}(h:Lies w (.slice (some ⟨b,off,none⟩) n cap) (x::xs))(c':Nat):Lies w (.slice (some ⟨b,off+1,none⟩) xs.length c') xs:=by
 rcases h with⟨h0,_⟩|⟨b',off',cap',hp,hv,hlt,hc⟩
 ·cases h0
 ·simp at hv
  obtain⟨⟨rfl,rfl⟩,-,rfl⟩:=hv
  by_cases h0:xs=[]
  ·subst h0;exact .inl ⟨rfl,_,_,rfl⟩
  ·exact .inr ⟨b,off+1,c',List.length_pos_iff.2 h0,rfl,hlt,fun k y hy=>by
    have:=hc (k+1) y (by simpa using hy)
    rwa [show off+1+k=off+(k+1)from by omega]⟩
theorem aK4{w:World}{base:Nat}{e:TypeId}{v:Value}{n:Nat}{xs:List Value}(h:w.ownsRow base e 1 v n xs)(hn:0<n):∃g cap,v=.slice (some ⟨g,0,none⟩) n cap:=by
 rcases h.2 with⟨h',h0⟩|⟨g,cap,cur,h1,_⟩
 ·omega
 ·exact⟨_,_,h1⟩
theorem pE{w:World}{base n:Nat}{v:Value}{y:List UInt8}{ys:List (List UInt8)}(h:w.ownsRow base 9 1 v n (strs (y::ys))):
  ∃(g cap:Nat) (vt:Value),v=.slice (some ⟨g,0,none⟩) n cap/\(∀wx,(Instr.slice 177 (.slice (some ⟨g,0,none⟩) n cap) (some (.int .i64 1)) none none).run Tryz.prog wx=.ok vt wx)/\Lies w vt (strs ys):=by
 have hn:n=ys.length+1:=by have:=h.1;simp[strs]at this;omega
 have hl:=aE h (by simp[strs];omega)
 obtain⟨g,cap,rfl⟩:=aK4 h (by omega)
 refine⟨g,cap,sliced (some ⟨g,0,none⟩) 1 n cap 1,rfl,fun wx=>?_,?_⟩
 ·rw[run_slice_l (P:=Tryz.prog) wx 177 (some ⟨g,0,none⟩) n cap (by kernel_rfl) .i64 1 (by omega) (by omega)]
  have:(sizeOf (Tryz.prog.elem 177)).run Tryz.prog wx=.ok 1 wx:=by
   rw[show Tryz.prog.elem 177=9 from by kernel_rfl]
   obtain⟨i,hi,hz0,hz1,hz2⟩:=info_parts Tryz.infoStr
   simp[sizeOf,typeInfo,hi,hz1]
  rw[this]
  rfl
 ·unfold sliced
  rw[show n-1=(strs ys).length from by simp[strs];omega]
  by_cases hc:cap=1
  ·rw[if_pos hc]
   have h0:ys=[]:=by
    rcases h.2 with⟨h',_⟩|⟨g',cap',cur,h',_,_,hle,_⟩
    ·cases h'
    ·simp at h'
     exact List.length_eq_zero_iff.1 (by omega)
   subst h0
   exact .inl ⟨rfl,_,_,rfl⟩
  ·rw[if_neg hc]
   exact qV (b:=g) (off:=0) hl _
def aQ4(L:List Nat)(s:List UInt8)(w:World)(e:Ending)(w':World):Prop:=∃r:Int×Int,e=.returned (.tuple #[.int .i64 r.1,.int .i64 r.2])/\Sp.Outcome L 0 (Sp.segs s) r/\Below w.heap.size w w'
def fL(L:List Nat)(S:List (List UInt8×Bool))(M:List Nat)(k:Nat):Prop:=∀r,Sp.Outcome M k (S.drop k) r->Sp.Outcome L 0 S r
def Small(M:List Nat):Prop:=∀c,c∈M->c<2 ^ 24
theorem Small.erase{M:List Nat}(h:Small M)(m:Nat):Small (M.erase m):=fun c hc=>h c (List.mem_of_mem_erase hc)
theorem Small.snoc{M:List Nat}(h:Small M){m:Nat}(hm:m<2 ^ 24):Small (M++[m]):=fun c hc=>by
 rcases List.mem_append.1 hc with hc|hc
 ·exact h c hc
 ·simp at hc;subst hc;exact hm
section
theorem gK{L M:List Nat}{S:List (List UInt8×Bool)}{k:Nat}{x:List UInt8×Bool}(h:fL L S M k)(hd:S.drop k=x::S.drop (k+1))(hx:Sp.stepOk x=false):Sp.Outcome L 0 S (6,(k:Int)+1):=h _ (by rw[hd];exact .inl ⟨hx,rfl⟩)
theorem xH{L M:List Nat}{S:List (List UInt8×Bool)}{k:Nat}{x:List UInt8×Bool}(h:fL L S M k)(hd:S.drop k=x::S.drop (k+1))(hx:Sp.stepOk x=true)(hg:(Sp.stepOf x.1).1=true)(hm:Sp.stepMask x.1∉M):Sp.Outcome L 0 S (7,(k:Int)+1):=h _ (by rw[hd];exact .inr ⟨hx,.inl ⟨hg,.inr ⟨hm,rfl⟩⟩⟩)
theorem xO{L M:List Nat}{S:List (List UInt8×Bool)}{k:Nat}{x:List UInt8×Bool}(h:fL L S M k)(hd:S.drop k=x::S.drop (k+1))(hx:Sp.stepOk x=true)(hg:(Sp.stepOf x.1).1=true)(hm:Sp.stepMask x.1∈M):fL L S (M.erase (Sp.stepMask x.1)) (k+1):=fun r hr=>h _ (by rw[hd];exact .inr ⟨hx,.inl ⟨hg,.inl ⟨hm,hr⟩⟩⟩)
theorem yW{L M:List Nat}{S:List (List UInt8×Bool)}{k:Nat}{x:List UInt8×Bool}(h:fL L S M k)(hd:S.drop k=x::S.drop (k+1))(hx:Sp.stepOk x=true)(hg:(Sp.stepOf x.1).1=false)(hm:¬Sp.Fol M (Sp.stepMask x.1)):Sp.Outcome L 0 S (8,(k:Int)+1):=h _ (by rw[hd];exact .inr ⟨hx,.inr ⟨hg,.inr ⟨hm,rfl⟩⟩⟩)
theorem yY{L M:List Nat}{S:List (List UInt8×Bool)}{k:Nat}{x:List UInt8×Bool}(h:fL L S M k)(hd:S.drop k=x::S.drop (k+1))(hx:Sp.stepOk x=true)(hg:(Sp.stepOf x.1).1=false)(hm:Sp.Fol M (Sp.stepMask x.1)):fL L S (M++[Sp.stepMask x.1]) (k+1):=fun r hr=>h _ (by rw[hd];exact .inr ⟨hx,.inr ⟨hg,.inl ⟨hm,hr⟩⟩⟩)
end
theorem aB7(x:List UInt8):
  (∃(h0:0<(bs x).size) (h1:1<(bs x).size),(bs x).toList.isEmpty=false/\((((bs x)[0]'h0).toNat:Int)==100)=true/\((((bs x)[1]'h1).toNat:Int)==32)=false/\(∃y ys,Sp.words x=y::ys)/\∀b,Sp.stepOk (x,b)=false)∨
  (Sp.stepOf x=(false,Sp.words x)/\((bs x).toList.isEmpty=true∨∃(h0:0<(bs x).size),(bs x).toList.isEmpty=false/\((((bs x)[0]'h0).toNat:Int)==100)=false))∨
  (∃(h0:0<(bs x).size) (ys:List (List UInt8)),(bs x).toList.isEmpty=false/\((((bs x)[0]'h0).toNat:Int)==100)=true/\Sp.words x=[100]::ys/\Sp.stepOf x=(true,ys)/\((bs x).size=1∨∃(h1:1<(bs x).size),((((bs x)[1]'h1).toNat:Int)==32)=true)):=by
 have hsz:=aN x
 rcases x with _|⟨c,r⟩
 ·exact .inr (.inl ⟨Sp.step_other (by simp),.inl (by rw[cF];rfl)⟩)
 ·have h0:0<(bs (c::r)).size:=by rw[hsz];simp
  have hg0:(bs (c::r))[0]=c:=dZ (l:=c::r) (k:=0) (by simp)
  have hemp:(bs (c::r)).toList.isEmpty=false:=bK (by simp)
  by_cases hc:c=100
  ·subst hc
   have hq:((((bs (100::r))[0]'h0).toNat:Int)==100)=true:=by rw[hg0];rfl
   rcases r with _|⟨c,r⟩
   ·exact .inr (.inr ⟨h0,[],hemp,hq,by decide,Sp.step_d,.inl (by rw[hsz];rfl)⟩)
   ·have h1:1<(bs (100::c::r)).size:=by rw[hsz];simp
    have hg1:(bs (100::c::r))[1]=c:=dZ (l:=100::c::r) (k:=1) (by simp)
    by_cases hc:c=32
    ·subst hc
     exact .inr (.inr ⟨h0,_,hemp,hq,(Sp.step_go r).2,(Sp.step_go r).1,.inr ⟨h1,by rw[hg1];rfl⟩⟩)
    ·refine .inl ⟨h0,h1,hemp,hq,by rw[hg1];exact kY (by decide) hc,?_,fun b=>Sp.step_bad c r hc b⟩
     unfold Sp.words;rw[if_neg (by simp)]
     obtain⟨t,rest,h⟩:=Sp.wordsAux_head (100::c::r) []
     exact⟨_,_,h⟩
  ·exact .inr (.inl ⟨Sp.step_other (fun q hq=>hc (by simpa using (List.cons.inj hq).1)),.inr ⟨h0,hemp,by rw[hg0];exact kY (by decide) hc⟩⟩)
theorem mV{x:List UInt8}{ws:List (List UInt8)}{g:Bool}(h:Sp.stepOf x=(g,ws))(hok:bZ ws=true):Sp.sorted (ws.map Sp.lit)=Sp.litsOf (Sp.stepMask x):=by
 unfold Sp.stepMask
 rw[h,Sp.litsOf_maskOf]
 intro y hy
 obtain⟨z,hz,rfl⟩:=List.mem_map.1 hy
 have:=List.all_eq_true.1 hok z hz
 simpa using this
theorem fY{x:List UInt8}{ws:List (List UInt8)}{g:Bool}(h:Sp.stepOf x=(g,ws))(b:Bool):Sp.stepOk (x,b)=(bZ ws&&b):=by
 unfold Sp.stepOk;rw[h];rfl
set_option maxRecDepth 100000 in
set_option maxHeartbeats 1600000 in
theorem qL(v:Value)(L:List Nat)(s:List UInt8)(w:World)(hl:L.length<=2000000000000)(hL:Small L)(hs:s.length<=4000000000000000000)(hn:(Sp.lines s).length<=2000000000000)(hx6:∀x,x∈Sp.lines s->x.length<=6000)(hv:RowsOf w v L):
  Calls Tryz.prog 104 #[v,.string (bs s)] w fun e w'=>aQ4 L s w e w':=by
 have hsz:=aN s
 have HLN:=aq (lV s w hs hn)
 have HM:=aq hx6
 clear hx6
 have HSG:Hid (Sp.segs s=Sp.flag (Sp.ended s) (Sp.lines s)):=aq (Sp.segs_flag s [])
 have HE0:Hid (Sp.linesAux [] s=Sp.lines s):=rfl
 have HV:=aq hv
 clear hv HE0
 have HSM:=aq hL
 clear hL
 go_enter Tryz.func104,Tryz.ntmps104
 go_wp2_with fail
 refine(dz HLN).mono ?_
 rintro e w1 ⟨vl,rfl,hownL,hb1⟩
 have HLL:=aq (aE hownL (by simp[strs]))
 clear hownL HLN
 obtain⟨aoL,capL,rfl⟩:=aY (dz HLL)
 have hlen:(strs (Sp.lines s)).length=(Sp.lines s).length:=by simp[strs]
 rw[hlen]at HLL⊢
 clear hlen
 generalize hLs:Sp.lines s=N at *
 generalize hEe:Sp.ended s=E at *
 have HS0:Hid (Sp.segs s=Sp.flag E N):=HSG
 clear hLs hEe HSG
 have HV1:=aq ((dz HV).below hb1)
 go_wp2
 go_loopw [0,8] (fun l i wr=>∃(k:Nat) (M:List Nat),k<=N.length/\i=.int .i64 k/\Hid (RowsOf wr l M)/\M.length<=L.length+k/\Hid (Small M)/\Hid (fL L (Sp.flag E N) M k)/\Below w1.heap.size w1 wr) (fun _ i _=>N.length-(intOf i).toNat)
 case atStart=>exact⟨0,L,Nat.zero_le _,rfl,HV1,by omega,HSM,aq (fun r h=>h),Below.refl _ _⟩
 case round=>
  obtain⟨k,M,hk,rfl,HR,hMl,HMS,HST,hbel⟩:=hrel
  by_cases hlt:k<N.length
  ·rcases dz HLL with⟨h0,_⟩|⟨b,off,cap',hp,hsl,hb,hc⟩
   ·exfalso;have h0':N=[]:=by simpa [strs] using h0
    rw[h0']at hlt;simp at hlt
   ·simp only[Value.slice.injEq]at hsl
    obtain⟨rfl,-,rfl⟩:=hsl
    have hcell:wr.cell? ⟨b,off+k,none⟩=some (.string (bs N[k])):=(hbel.cell (p:=⟨b,off+k,none⟩) hb).trans (hc k (.string (bs N[k])) (by simp[strs,hlt]))
    have hxl:N[k].length<=6000:=dz HM N[k] (List.getElem_mem hlt)
    have HD:=aq (Sp.flag_step E N k hlt)
    generalize N[k]=x at hcell hxl HD
    have hszx:=aN x
    clear hc
    obtain⟨vs,hvs,hrows⟩:=dz HR
    obtain⟨ao,cap,rfl⟩:=aY hvs
    have hvl:=hrows.1
    rw[hvl]at hvs
    rw[hvl]
    have HVL:=aq hvl
    have HVS:=aq hvs
    have HRS:=aq hrows
    clear hvs hrows hvl HR
    have hbelw:Below w.heap.size w wr:=hb1.trans (hbel.mono hb1.size)
    have HW:=aq (jU x wr (by omega))
    have HMM:=aq (jO x)
    have hwl:=Sp.words_len' x
    have hmlt:=iN x
    rcases aB7 x with⟨h0F,h1F,hemp,hq0,hq1,hws,HBAD⟩|⟨hso,hF⟩|⟨h0F,ys,hemp,hq0,hws,hso,hT⟩
    ·have HWS:=aq hws
     clear hws hwl
     have HBAD':=aq HBAD
     clear HBAD
     go_wp2_with fail
     refine(dz HW).mono ?_
     rintro e w2 ⟨v2,rfl,hown2,hb2⟩
     clear hown2
     go_wp2_with fail
     refine(jU _ w2 (by omega)).mono ?_
     rintro e w3 ⟨v3,rfl,hown3,hb3⟩
     obtain⟨y,ys,hyy⟩:=dz HWS
     generalize (Sp.words x).length=nw at *
     rw[hyy]at hown3
     obtain⟨g3,cap3,vt,rfl,hsl3,HL3⟩:=pE hown3
     clear hown3 HL3 hyy
     go_wp2
     go_ret2
     exact⟨(6,(k:Int)+1),rfl,by rw[dz HS0];exact gK (dz HST) (dz HD) (dz HBAD' _),hbelw.trans ((hb2.trans (hb3.mono hb2.size)).mono hbelw.size)⟩
    ·have HSO:=aq hso
     have HWM:Hid (∀z,z∈Sp.words x->z.length<=10000000):=aq (fun z hz=>by have:=dz HMM z hz;omega)
     clear hso
     rcases hF with hemp|⟨h0F,hemp,hq0⟩
     all_goals
      go_wp2_with fail
      refine(dz HW).mono ?_
      rintro e w2 ⟨v2,rfl,hown2,hb2⟩
      have HL2:=aq (aE hown2 (by simp[strs]))
      clear hown2
      go_wp2_with fail
      refine(kH v2 (Sp.words x) w2 (by omega) (dz HWM) (dz HL2)).mono ?_
      rintro e w3 ⟨v3,rfl,hb3,hno,hyes⟩
      have HNO:=aq hno
      have HYES:=aq hyes
      clear hno hyes
      have hb13:Below wr.heap.size wr w3:=hb2.trans (hb3.mono hb2.size)
      have hbel3:Below w1.heap.size w1 w3:=hbel.trans (hb13.mono hbel.size)
      have hbelw3:Below w.heap.size w w3:=hbelw.trans (hb13.mono hbelw.size)
      have HOK:=aq (fY (dz HSO) (E||!decide (k+1=N.length)))
      have HCL:=aq (mV (dz HSO))
      generalize bZ (Sp.words x)=ok at HOK HCL HNO HYES⊢
      cases ok
      ·have hv3:=dz HNO rfl
       subst hv3
       have HOK':Hid (Sp.stepOk (x,E||!decide (k+1=N.length))=false):=aq (by rw[dz HOK];rfl)
       go_wp2
       go_ret2
       exact⟨(6,(k:Int)+1),rfl,by rw[dz HS0];exact gK (dz HST) (dz HD) (dz HOK'),hbelw3⟩
      ·have HYY:=aq (dz HYES rfl)
       rw[dz HCL rfl]at HYY
       have HOW:=aq (bC (dz HYY) (Nat.le_refl _))
       obtain⟨ao3,c3,hv3s⟩:=aC (dz HYY)
       subst hv3s
       have HL3:=aq (aE (dz HYY) (by simp[ints]))
       have hl24:=bO (Sp.stepMask x)
       clear HNO HYES HYY HOW HCL
       have hlast:(E=false/\k+1=N.length)∨(E=true∨k+1≠N.length):=by
        cases E
        ·by_cases h:k+1=N.length
         ·exact .inl ⟨rfl,h⟩
         ·exact .inr (.inr h)
        ·exact .inr (.inl rfl)
       rcases hlast with⟨rfl,hla⟩|hla
       ·have hq:((k:Int)==(N.length:Int)-1)=true:=by rw[beq_iff_eq];omega
        have HLA:=aq hla
        clear hla
        have HOK':Hid (Sp.stepOk (x,false||!decide (k+1=N.length))=false):=aq (by rw[dz HOK];simp[dz HLA])
        go_wp2
        go_ret2
        exact⟨(6,(k:Int)+1),rfl,by rw[dz HS0];exact gK (dz HST) (dz HD) (dz HOK'),hbelw3⟩
       ·have HOK':Hid (Sp.stepOk (x,E||!decide (k+1=N.length))=true):=aq (by rw[dz HOK];rcases hla with h|h<;>simp[h])
        have hq:E=false->((k:Int)==(N.length:Int)-1)=false:=fun h=>by
         rw[beq_eq_false_iff_ne]
         rcases hla with h'|h'
         ·rw[h]at h';cases h'
         ·omega
        have HQ:=aq hq
        clear hq hla
        have HV3:=aq ((dz HVS).below hb13)
        have HR3:=aq ((dz HRS).below hb13)
        have hk1:k<=2000000000000:=by omega
        obtain⟨mk,HMK⟩:∃mk,Hid (Sp.stepMask x=mk):=⟨_,rfl⟩
        rw[dz HMK]at HL3 hl24 hmlt⊢
        have HFO:=aq (uB (.slice ao M.length cap) (.slice ao3 (Sp.litsOf mk).length c3) M mk w3 (by omega) (dz HMS) hmlt ⟨vs,dz HV3,dz HR3⟩ (dz HL3))
        generalize (Sp.litsOf mk).length=n3 at *
        have hE:E=true∨(E=false/\((k:Int)==(N.length:Int)-1)=false):=by
         cases E
         ·exact .inr ⟨rfl,dz HQ rfl⟩
         ·exact .inl rfl
        have HN1:Hid (¬Sp.Fol M mk->Sp.Outcome L 0 (Sp.flag E N) (8,(k:Int)+1)):=aq (fun h=>yW (dz HST) (dz HD) (dz HOK') (by rw[dz HSO]) (by rw[dz HMK];exact h))
        have HN2:Hid (Sp.Fol M mk->fL L (Sp.flag E N) (M++[mk]) (k+1)):=aq (fun h=>by have:=yY (dz HST) (dz HD) (dz HOK') (by rw[dz HSO]) (by rw[dz HMK];exact h);rw[dz HMK]at this;exact this)
        have HONE:Hid (∀u∈vs,u.oneCell'=true):=aq (fun u hu=>by
         obtain⟨i,hi,rfl⟩:=List.getElem_of_mem hu
         have hiM:i<M.length:=by rw[←dz HVL];exact hi
         obtain⟨a1,c1,h1⟩:=aY ((dz HR3).2 i _ M[i] (List.getElem?_eq_getElem hi) (List.getElem?_eq_getElem hiM))
         rw[h1];rfl)
        clear HQ HOK HOK' HD
        rcases hE with rfl|⟨rfl,hq⟩
        all_goals
         go_wp2_with fail
         refine(dz HFO).mono ?_
         rintro e w4 ⟨fo,rfl,hfo,hb4⟩
         have HFOL:=aq hfo
         clear hfo
         have hbel4:Below w1.heap.size w1 w4:=hbel3.trans (hb4.mono hbel3.size)
         cases fo
         ·have HFIN:=aq (dz HN1 (fun h=>by have:=(dz HFOL).2 h;cases this))
          go_wp2
          go_ret2
          exact⟨(8,(k:Int)+1),rfl,by rw[dz HS0];exact dz HFIN,hbelw3.trans (hb4.mono hbelw3.size)⟩
         ·have HFIN:=aq (dz HN2 ((dz HFOL).1 rfl))
          have HV4:=aq ((dz HV3).below hb4)
          go_wp2_with (at_builtin;first|(refine vT rfl _ _ 27 25 rfl Tryz.underlying27 Tryz.infoInts rfl (by decide) rfl rfl (dz HV4) (dz HONE) (by rw[dz HVL];omega) (Nat.le_refl w4.heap.size) (Below.refl _ _) ?_;rw[dz HVL];intro v5 w5 hown5 hbel5 hb5)|(refine fS rfl _ _ 27 25 rfl Tryz.underlying27 Tryz.infoInts rfl (by decide) hown5 rfl rfl rfl (by omega) (Nat.le_refl _) hbel5 ?_;intro v6 w6 hown6 hbel6 hgr6))
          go_roundw
          case rel=>
           have hr6:=((dz HR3).below hb4).below hbel6
           have hx6:=((dz HL3).below hb4).below hbel6
           exact⟨k+1,M++[mk],by omega,by go_num,aq ⟨vs++[.slice ao3 n3 c3],aE hown6 (by simp[dz HVL]),hr6.snoc hx6⟩,by simp;omega,aq ((dz HMS).snoc hmlt),HFIN,hbel4.trans (hbel6.mono hbel4.size)⟩
          case measure=>simp[intOf];omega
    ·have HSO:=aq hso
     have HWM:Hid (∀z,z∈ys->z.length<=10000000):=aq (fun z hz=>by have:=dz HMM z (by rw[hws];simp[hz]);omega)
     have HWS:=aq hws
     rw[hws]at hwl
     simp only[List.length_cons]at hwl
     clear hso hws
     rcases hT with h1F|⟨h1F,hq1⟩
     all_goals
      go_wp2_with fail
      refine(dz HW).mono ?_
      rintro e wq ⟨vq,rfl,hownq,hbq⟩
      clear hownq
      go_wp2_with fail
      refine(jU _ wq (by omega)).mono ?_
      rintro e w2 ⟨vp,rfl,hown2,hb2'⟩
      have hb2:Below wr.heap.size wr w2:=hbq.trans (hb2'.mono hbq.size)
      rw[dz HWS]at hown2
      generalize ([100]::ys).length=nw at *
      obtain⟨g3,cap3,v2,rfl,hsl3,hL2⟩:=pE hown2
      have HL2:=aq hL2
      clear hown2 hL2
      go_wp2_with fail
      refine(kH v2 ys w2 (by omega) (dz HWM) (dz HL2)).mono ?_
      rintro e w3 ⟨v3,rfl,hb3,hno,hyes⟩
      have HNO:=aq hno
      have HYES:=aq hyes
      clear hno hyes
      have hb13:Below wr.heap.size wr w3:=hb2.trans (hb3.mono hb2.size)
      have hbel3:Below w1.heap.size w1 w3:=hbel.trans (hb13.mono hbel.size)
      have hbelw3:Below w.heap.size w w3:=hbelw.trans (hb13.mono hbelw.size)
      have HOK:=aq (fY (dz HSO) (E||!decide (k+1=N.length)))
      have HCL:=aq (mV (dz HSO))
      generalize bZ ys=ok at HOK HCL HNO HYES⊢
      cases ok
      ·have hv3:=dz HNO rfl
       subst hv3
       have HOK':Hid (Sp.stepOk (x,E||!decide (k+1=N.length))=false):=aq (by rw[dz HOK];rfl)
       go_wp2
       go_ret2
       exact⟨(6,(k:Int)+1),rfl,by rw[dz HS0];exact gK (dz HST) (dz HD) (dz HOK'),hbelw3⟩
      ·have HYY:=aq (dz HYES rfl)
       rw[dz HCL rfl]at HYY
       have HOW:=aq (bC (dz HYY) (Nat.le_refl _))
       obtain⟨ao3,c3,hv3s⟩:=aC (dz HYY)
       subst hv3s
       have HL3:=aq (aE (dz HYY) (by simp[ints]))
       have hl24:=bO (Sp.stepMask x)
       clear HNO HYES HYY HOW HCL
       have hlast:(E=false/\k+1=N.length)∨(E=true∨k+1≠N.length):=by
        cases E
        ·by_cases h:k+1=N.length
         ·exact .inl ⟨rfl,h⟩
         ·exact .inr (.inr h)
        ·exact .inr (.inl rfl)
       rcases hlast with⟨rfl,hla⟩|hla
       ·have hq:((k:Int)==(N.length:Int)-1)=true:=by rw[beq_iff_eq];omega
        have HLA:=aq hla
        clear hla
        have HOK':Hid (Sp.stepOk (x,false||!decide (k+1=N.length))=false):=aq (by rw[dz HOK];simp[dz HLA])
        go_wp2
        go_ret2
        exact⟨(6,(k:Int)+1),rfl,by rw[dz HS0];exact gK (dz HST) (dz HD) (dz HOK'),hbelw3⟩
       ·have HOK':Hid (Sp.stepOk (x,E||!decide (k+1=N.length))=true):=aq (by rw[dz HOK];rcases hla with h|h<;>simp[h])
        have hq:E=false->((k:Int)==(N.length:Int)-1)=false:=fun h=>by
         rw[beq_eq_false_iff_ne]
         rcases hla with h'|h'
         ·rw[h]at h';cases h'
         ·omega
        have HQ:=aq hq
        clear hq hla
        have HV3:=aq ((dz HVS).below hb13)
        have HR3:=aq ((dz HRS).below hb13)
        have hk1:k<=2000000000000:=by omega
        obtain⟨mk,HMK⟩:∃mk,Hid (Sp.stepMask x=mk):=⟨_,rfl⟩
        rw[dz HMK]at HL3 hl24 hmlt⊢
        have HWO:=aq (wP (.slice ao M.length cap) (.slice ao3 (Sp.litsOf mk).length c3) M mk w3 (by omega) (dz HMS) hmlt ⟨vs,dz HV3,dz HR3⟩ (dz HL3))
        generalize (Sp.litsOf mk).length=n3 at *
        generalize hcon:M.contains mk=con at HWO
        have HCON:=aq hcon
        clear hcon
        have hE:E=true∨(E=false/\((k:Int)==(N.length:Int)-1)=false):=by
         cases E
         ·exact .inr ⟨rfl,dz HQ rfl⟩
         ·exact .inl rfl
        clear HQ
        cases con
        ·have HNM:Hid (Sp.stepMask (x,E||!decide (k+1=N.length)).1∉M):=aq (by rw[dz HMK];simpa using dz HCON)
         have HFIN:=aq (xH (dz HST) (dz HD) (dz HOK') (by rw[dz HSO]) (dz HNM))
         clear HOK HOK' HD HNM
         rcases hE with rfl|⟨rfl,hq⟩
         all_goals
          go_wp2_with fail
          refine(dz HWO).mono ?_
          rintro e w4 ⟨v4,rfl,HR4,hb4⟩
          clear HR4
          go_wp2
          go_ret2
          exact⟨(7,(k:Int)+1),rfl,by rw[dz HS0];exact dz HFIN,hbelw3.trans (hb4.mono hbelw3.size)⟩
        ·have HNM:Hid (Sp.stepMask (x,E||!decide (k+1=N.length)).1∈M):=aq (by rw[dz HMK];simpa using dz HCON)
         have HFIN:=aq (xO (dz HST) (dz HD) (dz HOK') (by rw[dz HSO]) (dz HNM))
         clear HOK HOK' HD HNM
         have HLE:=aq (List.length_erase_le (a:=mk) (l:=M))
         rcases hE with rfl|⟨rfl,hq⟩
         all_goals
          go_wp2_with fail
          refine(dz HWO).mono ?_
          rintro e w4 ⟨v4,rfl,HR4,hb4⟩
          have HR4':=aq HR4
          clear HR4
          go_wp2
          go_roundw
          case rel=>exact⟨k+1,M.erase mk,by omega,by go_num,HR4',by have:=dz HLE;omega,aq ((dz HMS).erase mk),aq (by have:=dz HFIN;rw[dz HMK]at this;exact this),hbel3.trans (hb4.mono hbel3.size)⟩
          case measure=>simp[intOf];omega
  ·have HT:Hid ((Sp.flag E N).drop k=[]):=aq (List.drop_eq_nil_of_le (by rw[Sp.flag_len];omega))
   go_wp2
   go_ret2
   exact⟨(0,0),rfl,by rw[dz HS0];exact dz HST _ (by rw[dz HT];rfl),hb1.trans (hbel.mono hb1.size)⟩
end Go.Proofs.YtekkkoipcghlmaaGreatDoor
namespace Go.Proofs.YtekkkoipcghlmaaGreatDoor
open Go.RowKit
theorem uC(x:List UInt8):(Lib.index x [32]=-1/\∀cur,Sp.wordsAux cur x=[cur++x])∨
  ∃i:Nat,Lib.index x [32]=i/\i<x.length/\∀cur,Sp.wordsAux cur x=(cur++x.take i)::Sp.wordsAux [] (x.drop (i+1)):=by
 induction x with
 | nil=>exact .inl ⟨rfl,fun cur=>by simp[Sp.wordsAux]⟩
 | cons b l ih=>
  by_cases hb:b=32
  ·subst hb
   exact .inr ⟨0,by simp[Lib.index],by simp,fun cur=>by simp[Sp.wordsAux]⟩
  ·have hp:([32]:List UInt8).isPrefixOf (b::l)=false:=by
    simp[List.isPrefixOf];exact fun h=>hb h.symm
   rcases ih with⟨h1,h2⟩|⟨i,h1,h2,h3⟩
   ·refine .inl ⟨by unfold Lib.index;rw[hp,h1];rfl,fun cur=>?_⟩
    unfold Sp.wordsAux
    rw[if_neg hb,h2]
    simp
   ·refine .inr ⟨i+1,?_,by simp;omega,fun cur=>?_⟩
    ·unfold Lib.index
     rw[hp,h1]
     have:((i:Int)==-1)=false:=by rw[beq_eq_false_iff_ne];omega
     simp[this]
    ·conv=>lhs;unfold Sp.wordsAux
     rw[if_neg hb,h3]
     simp
theorem mI(x y:List UInt8):Lib.indexB (bs x) (bs y)=Lib.index x y:=by
 show Lib.index (bs x).data.toList (bs y).data.toList=_
 simp[bs]
theorem lN:∀(n:Nat) (x:List UInt8),x.length<=n->Lib.splitB (bs [32]) 0 (Lib.countB (bs x) (bs [32])) (bs x)=(Sp.wordsAux [] x).map bs:=by
 intro n
 have h1:1<=(bs [32]).size:=by rw[aN];simp
 have hz:(bs [32]).size=1:=by rw[aN];simp
 induction n with
 | zero=>
  intro x hx
  have:x=[]:=List.length_eq_zero_iff.1 (by omega)
  subst this
  have hi:Lib.indexB (bs []) (bs [32])=-1:=by rw[mI];rfl
  rw[Lib.countB_miss _ _ hi,Lib.splitB_miss _ _ _ _ hi];rfl
 | succ n ih=>
  intro x hx
  rcases uC x with⟨h2,h3⟩|⟨i,h2,h3,h4⟩
  ·have hi:Lib.indexB (bs x) (bs [32])=-1:=by rw[mI];exact h2
   rw[Lib.splitB_miss _ _ _ _ hi,h3]
   simp
  ·have hi:Lib.indexB (bs x) (bs [32])=i:=by rw[mI];exact h2
   have hcut:(bs x).extract (i+1) (bs x).size=bs (x.drop (i+1)):=by
    rw[fP,aN,List.take_of_length_le (by simp)]
   rw[Lib.countB_hit _ _ i h1 hi,hz,hcut,Nat.add_comm 1]
   unfold Lib.splitB
   have:((i:Int)==-1)=false:=by rw[beq_eq_false_iff_ne];omega
   rw[hi,this]
   simp only[Bool.false_eq_true,if_false,Int.toNat_natCast,Nat.add_zero,hz]
   rw[hcut,ih _ (by simp;omega),h4,fP]
   simp
end Go.Proofs.YtekkkoipcghlmaaGreatDoor
namespace Go.Proofs.YtekkkoipcghlmaaGreatDoor
open Go.RowKit
theorem qC{w:World}{vs:List Value}{t:TypeId}{cap:Nat}(h:0<vs.length):Lies (w.alloc (.cells vs.toArray t)) (.slice (some ⟨w.heap.size,0,none⟩) vs.length cap) vs:=by
 refine .inr ⟨w.heap.size,0,cap,h,rfl,by simp,fun k x hx=>?_⟩
 rw[Nat.zero_add,World.cell?_alloc_at _ _ _ _ rfl]
 simpa using hx
def bF(x:List UInt8)(e:Bool):List UInt8:=if e then x++[10]else x
theorem uO(x:List UInt8)(e:Bool)(h:e=false->x.getLast?≠some 10):Lib.trimSuffix (bF x e) [10]=x/\Lib.hasSuffix (bF x e) [10]=e:=by
 have hs:Lib.hasSuffix (bF x e) [10]=e:=by
  unfold Lib.hasSuffix bF
  cases e
  ·rw[if_neg (by simp)]
   rw[Bool.eq_false_iff]
   intro hh
   rw[List.isSuffixOf_iff_suffix]at hh
   obtain⟨t,ht⟩:=hh
   apply h rfl
   rw[←ht];simp
  ·rw[if_pos rfl,List.isSuffixOf_iff_suffix]
   exact⟨x,rfl⟩
 refine⟨?_,hs⟩
 unfold Lib.trimSuffix
 rw[hs]
 cases e
 ·simp[bF]
 ·simp[bF]
set_option maxRecDepth 100000 in
set_option maxHeartbeats 400000 in
theorem uT(x:List UInt8)(en:Bool)(w:World)(hx:x.length<=6000)(h:en=false->x.getLast?≠some 10)(he:Env w):
  Calls Tryz.prog 134 #[.string (bs (bF x en))] w fun e w'=>∃v,e=.returned (.tuple #[v,.bool en])/\Lies w' v (strs (Sp.words x))/\Below w.heap.size w w':=by
 have hll:(bF x en).length<=6001:=by unfold bF;cases en<;>simp<;>omega
 have HC:=aq (Tryz.strings_CutSuffix (bs (bF x en)) ⟨#[10]⟩ w (by rw[aN];omega))
 have hd:(bs (bF x en)).data.toList=bF x en:=jV _
 have hcut:=uO x en h
 rw[hd]at HC
 have e1:(ByteArray.mk #[10]).data.toList=[10]:=rfl
 rw[e1,hcut.1,hcut.2]at HC
 clear e1 hcut hd
 have HC:Hid (Calls Tryz.prog 174 #[.string (bs (bF x en)),.string ⟨#[10]⟩] w fun e w'=>e=.returned (.tuple #[.string (bs x),.bool en])/\w'=w):=HC
 obtain⟨m,hm⟩:=he.len.2
 generalize bs (bF x en)=line at *
 by_cases hne:x=[]
 ·have hemp:(bs x).toList.isEmpty=true:=by rw[cF,hne];rfl
  have HN:=aq hne
  clear hne
  go_enter Tryz.func134,Tryz.ntmps134
  go_wp2_with fail
  refine(dz HC).mono ?_
  rintro e w1 ⟨rfl,rfl⟩
  go_wp2
  go_ret2
  exact⟨_,rfl,by rw[dz HN];exact Lies.nil _,Below.refl _ _⟩
 ·have hemp:(bs x).toList.isEmpty=false:=bK hne
  have HN:=aq hne
  clear hne
  have HS:=aq (Tryz.strings_Split (bs x) ⟨#[32]⟩ m w (by rw[aN];omega) hm (by decide))
  go_enter Tryz.func134,Tryz.ntmps134
  go_wp2_with fail
  refine(dz HC).mono ?_
  rintro e w1 ⟨rfl,rfl⟩
  go_wp2_with fail
  refine(dz HS).mono ?_
  rintro e w2 ⟨rfl,rfl⟩
  go_wp2
  go_ret2
  have hsp:Lib.splitB ⟨#[32]⟩ 0 (Lib.countB (bs x) ⟨#[32]⟩) (bs x)=(Sp.wordsAux [] x).map bs:=lN x.length x (Nat.le_refl _)
  have hln:=Lib.splitB_all (bs [32]) (by rw[aN];simp) 0 (Lib.countB (bs x) (bs [32])) (bs x) rfl
  have hw:Sp.words x=Sp.wordsAux [] x:=by unfold Sp.words;rw[if_neg (dz HN)]
  refine⟨_,rfl,?_,(Below.refl _ _).alloc (Nat.le_refl _) _⟩
  rw[hsp,hw]
  have hc:Lib.countB (bs x) (bs [32])+1=(strs (Sp.wordsAux [] x)).length:=by
   have:=hln.symm
   rw[lN x.length x (Nat.le_refl _)]at this
   simpa [strs] using this
  rw[List.map_map]
  show Lies _ (.slice (some ⟨_,0,none⟩) (Lib.countB (bs x) (bs [32])+1) _) _
  rw[hc]
  exact qC (vs:=strs (Sp.wordsAux [] x)) (by omega)
end Go.Proofs.YtekkkoipcghlmaaGreatDoor
