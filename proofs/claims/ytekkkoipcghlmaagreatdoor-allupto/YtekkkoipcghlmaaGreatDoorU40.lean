import Derived.Test.YtekkkoipcghlmaaGreatDoorU39
import Derived.Test.YtekkkoipcghlmaaGreatDoorU37
import Derived.Test.YtekkkoipcghlmaaGreatDoorU35
import Derived.Laws.BytesArg
import Derived.Laws.IdiomStrings
set_option linter.all false
namespace Go.Proofs.YtekkkoipcghlmaaGreatDoor
open Go.RowKit
theorem iC(L:List (List UInt8×Bool)):∀n,Sp.scanSegs n L=none->∀x,x∈L->cN x:=by
 induction L with
 | nil=>intro n _ x hx;cases hx
 | cons a r ih=>
  intro n h x hx
  unfold Sp.scanSegs at h
  split at h
  ·cases h
  ·rename_i hc
   rcases List.mem_cons.1 hx with rfl|hx
   ·simp at hc;exact⟨hc.1,hc.2⟩
   ·exact ih (n+1) h x hx
theorem rD(L:List (List UInt8×Bool))(h:∀x,x∈L->cN x):aV (L.map bI)=eD ((L.map Prod.fst).map Sp.clauseOf):=by
 induction L with
 | nil=>rfl
 | cons a r ih=>
  have ha:=(h a (by simp)).1
  have e1:Sp.litsOf (bI a)=Sp.clauseOf a.1:=by
   unfold bI Sp.clauseOf
   refine Sp.litsOf_maskOf _ (fun x hx=>?_)
   obtain⟨z,hz,rfl⟩:=List.mem_map.1 hx
   unfold Sp.okLine at ha
   have:=List.all_eq_true.1 ha z hz
   simpa using this
  have:=ih (fun x hx=>h x (by simp[hx]))
  unfold aV eD at this⊢
  simp only[List.map_cons,List.flatMap_cons,e1,this]
theorem lF(s:List UInt8):(Sp.segs s).map Prod.fst=Sp.lines s:=Sp.segsAux_lines s []
theorem gJ(s:List UInt8):Sp.scanSegs 0 (Sp.segs s)=Sp.scan (Sp.ended s) 0 (Sp.lines s):=Sp.scan_segs s [] 0
set_option maxRecDepth 100000 in
set_option maxHeartbeats 800000 in
theorem vJ(s:List UInt8)(w:World)(hs2:s.length<=9223372036854775807)(he:Env w):
  Calls Tryz.prog 95 #[.string (bs s)] w fun e w'=>e=.returned (.tuple #[.string (bs (bN s).1),.int .i64 (bN s).2.1,.int .i64 (bN s).2.2])/\Below w.heap.size w w':=by
 by_cases hs:6000<s.length
 ·have HP:=aq (qT s w hs hs2)
  have HO:Hid (bN s=([],4,0)):=aq (by unfold bN;rw[if_pos hs])
  go_enter Tryz.func95,Tryz.ntmps95
  go_wp2_with fail
  refine(dz HP).mono ?_
  rintro e w1 ⟨hb1,rfl⟩
  go_wp2
  go_ret3
  exact⟨by rw[dz HO];rfl,hb1⟩
 ·have HP:=aq (lC s w (by omega) he)
  have hcnt:=Sp.segsAux_count s []
  have HC:Hid (Sp.segsAux [] s=Sp.segs s):=rfl
  rw[dz HC]at hcnt
  go_enter Tryz.func95,Tryz.ntmps95
  go_wp2_with fail
  refine(dz HP).mono ?_
  rintro e w1 ⟨hb1,⟨n,hn,rfl⟩|⟨hn,v,rfl,hli⟩⟩
  ·have HO:Hid (bN s=([],5,(n:Int))):=aq (by rw[gJ]at hn;unfold bN;rw[if_neg hs,hn])
   clear hn
   go_wp2
   go_ret3
   exact⟨by rw[dz HO];rfl,hb1⟩
  ·have HO:Hid (bN s=(aV ((Sp.segs s).map bI),0,0)):=aq (by
    rw[rD _ (iC _ 0 hn),lF]
    rw[gJ]at hn;unfold bN;rw[if_neg hs,hn])
   have HL:=aq (iK v ((Sp.segs s).map bI) w1 (by simp;omega) (fun m hm=>by
    obtain⟨x,_,rfl⟩:=List.mem_map.1 hm
    exact Sp.maskOf_lt _ (fun y hy=>by obtain⟨z,_,rfl⟩:=List.mem_map.1 hy;exact Sp.lit_bd z)) hli (he.below hb1).toEnvT)
   clear hn hli
   generalize (Sp.segs s).map bI=ms at *
   go_wp2_with fail
   refine(dz HL).mono ?_
   rintro e w2 ⟨rfl,hb2⟩
   go_wp2
   go_ret3
   exact⟨by rw[dz HO];rfl,hb1.trans (hb2.mono hb1.size)⟩
set_option maxRecDepth 100000 in
set_option maxHeartbeats 800000 in
theorem sC(s:List UInt8)(w:World)(hs2:s.length<=9223372036854775807)(he:Env w):
  Calls Tryz.prog 51 #[.string (bs s)] w fun e w'=>e=.returned (.bool true)/\Below w.heap.size w w':=by
 have HP:=aq (vJ s w hs2 he)
 have HQ:=aq (fun wx=>kU s wx hs2)
 generalize bN s=po at *
 obtain⟨t,a,b⟩:=po
 have h1:((bs t).toList==(bs t).toList)=true:=by simp
 go_enter Tryz.func51,Tryz.ntmps51
 go_wp2_with fail
 refine(dz HP).mono ?_
 rintro e w1 ⟨rfl,hb1⟩
 go_wp2_with fail
 refine(dz HQ w1).mono ?_
 rintro e w2 ⟨rfl,hb2⟩
 go_wp2
 go_ret
 exact⟨rfl,hb1.trans (hb2.mono hb1.size)⟩
end Go.Proofs.YtekkkoipcghlmaaGreatDoor
namespace Go.Proofs.YtekkkoipcghlmaaGreatDoor
open Go.RowKit
def bV(s:List UInt8):List Nat:=(Sp.segs s).map bI
theorem rI(s:List UInt8):(bV s).length<=s.length+1:=by
 unfold bV;rw[List.length_map];exact Sp.segsAux_count s []
theorem jE(s:List UInt8):Small (bV s):=fun c hc=>by
 obtain⟨x,_,rfl⟩:=List.mem_map.1 hc
 exact Sp.maskOf_lt _ (fun y hy=>by obtain⟨z,_,rfl⟩:=List.mem_map.1 hy;exact Sp.lit_bd z)
def CheckOut(s t:List UInt8)(r:Int×Int):Prop:=
 (6000<s.length/\r=(4,0))∨
 (s.length<=6000/\((∃n:Nat,Sp.scanSegs 0 (Sp.segs s)=some n/\r=(5,(n:Int)))∨
  (Sp.scanSegs 0 (Sp.segs s)=none/\((6000<t.length/\r=(4,0))∨(t.length<=6000/\Sp.Outcome (bV s) 0 (Sp.segs t) r)))))
theorem CheckOut.unique{s t:List UInt8}{r r':Int×Int}(h:CheckOut s t r)(h':CheckOut s t r'):r=r':=by
 rcases h with⟨h1,h2⟩|⟨h1,h2⟩<;>rcases h' with⟨g1,g2⟩|⟨g1,g2⟩
 ·rw[h2,g2]
 ·omega
 ·omega
 ·rcases h2 with⟨n,h3,h4⟩|⟨h3,h4⟩<;>rcases g2 with⟨n',g3,g4⟩|⟨g3,g4⟩
  ·rw[h3]at g3;cases g3;rw[h4,g4]
  ·rw[h3]at g3;cases g3
  ·rw[h3]at g3;cases g3
  ·rcases h4 with⟨h5,h6⟩|⟨h5,h6⟩<;>rcases g4 with⟨g5,g6⟩|⟨g5,g6⟩
   ·rw[h6,g6]
   ·omega
   ·omega
   ·exact Sp.Outcome.unique _ _ _ _ _ h6 g6
def iX(s t:List UInt8)(w:World)(e:Ending)(w':World):Prop:=∃r:Int×Int,e=.returned (.tuple #[.int .i64 r.1,.int .i64 r.2])/\CheckOut s t r/\Below w.heap.size w w'
theorem aC6{a:List UInt8×Bool}(h:cN a):Sp.litsOf (bI a)=Sp.clauseOf a.1:=by
 have ha:=h.1
 unfold bI Sp.clauseOf
 refine Sp.litsOf_maskOf _ (fun x hx=>?_)
 obtain⟨z,hz,rfl⟩:=List.mem_map.1 hx
 unfold Sp.okLine at ha
 have:=List.all_eq_true.1 ha z hz
 simpa using this
theorem wA{w:World}{base n:Nat}{v:Value}{vs:List Value}{s:List UInt8}(hg:∀x,x∈Sp.segs s->cN x)(hown:w.ownsRow base 25 1 v n vs)(hrows:RowsAt w base vs ((Sp.lines s).map Sp.clauseOf)):RowsOf w v (bV s):=by
 refine⟨vs,aE hown (by have:=hown.1;omega),?_,?_⟩
 ·rw[hrows.1,←lF];simp[bV]
 ·intro i x m hx hm
  unfold bV at hm
  rw[List.getElem?_map]at hm
  cases hs:(Sp.segs s)[i]? with
  | none=>rw[hs]at hm;cases hm
  | some a=>
   rw[hs]at hm
   simp at hm
   subst hm
   have hc:((Sp.lines s).map Sp.clauseOf)[i]?=some (Sp.clauseOf a.1):=by rw[←lF,List.getElem?_map,List.getElem?_map,hs];rfl
   have:=hrows.2 i x _ hx hc
   rw[aC6 (hg a (List.mem_of_getElem? hs))]
   exact aE this (by simp[ints])
set_option maxRecDepth 100000 in
set_option maxHeartbeats 800000 in
theorem sB(s t:List UInt8)(w:World)(hs2:s.length<=9223372036854775807)(ht2:t.length<=9223372036854775807):
  Calls Tryz.prog 97 #[.string (bs s),.string (bs t)] w fun e w'=>iX s t w e w':=by
 have hszt:=aN t
 by_cases hs:6000<s.length
 ·have HP:=aq (nL s w hs hs2)
  go_enter Tryz.func97,Tryz.ntmps97
  go_wp2_with fail
  refine(dz HP).mono ?_
  rintro e w1 ⟨rfl,rfl⟩
  go_wp2
  go_ret2
  exact⟨(4,0),rfl,.inl ⟨hs,rfl⟩,Below.refl _ _⟩
 ·have HP:=aq (rL s w (by omega))
  have hml:=rI s
  go_enter Tryz.func97,Tryz.ntmps97
  go_wp2_with fail
  refine(dz HP).mono ?_
  rintro e w1 ⟨v,hb1,⟨n,hn,rfl⟩|⟨hn,rfl,vs,hown,hrows⟩⟩
  ·have HN:=aq hn
   clear hn
   go_wp2
   go_ret2
   exact⟨(5,(n:Int)),rfl,.inr ⟨by omega,.inl ⟨n,by rw[gJ];exact dz HN,rfl⟩⟩,hb1⟩
  ·have HN:Hid (Sp.scanSegs 0 (Sp.segs s)=none):=aq (by rw[gJ];exact hn)
   have HR:=aq (wA (iC _ 0 (dz HN)) hown hrows)
   clear hn hown hrows
   by_cases ht:6000<t.length
   ·go_wp2
    go_ret2
    exact⟨(4,0),rfl,.inr ⟨by omega,.inr ⟨dz HN,.inl ⟨ht,rfl⟩⟩⟩,hb1⟩
   ·go_wp2_with fail
    refine(qL v (bV s) t w1 (by omega) (jE s) (by omega) (Nat.le_trans (Sp.lines_len t []) (by omega)) (fun x hx=>Nat.le_trans (rB t x hx) (by omega)) (dz HR)).mono ?_
    rintro e w2 ⟨r,rfl,ho,hb2⟩
    have HO:=aq ho
    clear ho
    go_wp2
    go_ret2
    exact⟨r,rfl,.inr ⟨by omega,.inr ⟨dz HN,.inr ⟨by omega,dz HO⟩⟩⟩,hb1.trans (hb2.mono hb1.size)⟩
end Go.Proofs.YtekkkoipcghlmaaGreatDoor
namespace Go.Proofs.YtekkkoipcghlmaaGreatDoor.Sp
def Lt(x:Int):Prop:=x≠0/\-12<=x/\x<=12
theorem vS(a:List UInt8):∀(cur r:List UInt8),(10:UInt8)∉a->segsAux cur (a++r)=segsAux (cur++a) r:=by
 induction a with
 | nil=>intro cur r _;simp
 | cons c a ih=>
  intro cur r h
  simp only[List.mem_cons,not_or]at h
  rw[List.cons_append,segsAux,if_neg (fun e=>h.1 e.symm),ih _ _ h.2]
  simp
theorem qZ(a r:List UInt8)(h:(10:UInt8)∉a):segs (a++10::r)=(a,true)::segs r:=by
 unfold segs
 rw[vS a [] _ h,List.nil_append,segsAux,if_pos rfl]
theorem iE(a:List UInt8):∀(cur r:List UInt8),(32:UInt8)∉a->wordsAux cur (a++r)=wordsAux (cur++a) r:=by
 induction a with
 | nil=>intro cur r _;simp
 | cons c a ih=>
  intro cur r h
  simp only[List.mem_cons,not_or]at h
  rw[List.cons_append,wordsAux,if_neg (fun e=>h.1 e.symm),ih _ _ h.2]
  simp
theorem kD:∀(ws:List (List UInt8)),ws≠[]->(∀w,w∈ws->(32:UInt8)∉w)->wordsAux [] (join ws)=ws
 | [],h,_=>absurd rfl h
 | [a],_,h=>by
  have:=iE a [] [] (h a (by simp))
  rw[List.append_nil,List.nil_append]at this
  rw[join,this,wordsAux]
 | a::b::r,_,h=>by
  rw[join,iE a [] _ (h a (by simp)),List.nil_append,wordsAux,if_pos rfl,kD (b::r) (by simp) (fun w hw=>h w (List.mem_cons_of_mem _ hw))]
theorem fI(x:Int)(h:Lt x):lit (lw x)=x/\(32:UInt8)∉lw x/\(10:UInt8)∉lw x/\lw x≠[]/\lw x≠[100]:=by
 have:∀k:Fin 25,(k.val:Int)-12≠0->lit (lw ((k.val:Int)-12))=(k.val:Int)-12/\(32:UInt8)∉lw ((k.val:Int)-12)/\(10:UInt8)∉lw ((k.val:Int)-12)/\lw ((k.val:Int)-12)≠[]/\lw ((k.val:Int)-12)≠[100]:=by decide
 have:=this ⟨(x+12).toNat,by have:=h.2;omega⟩
 have e:(((x+12).toNat:Nat):Int)-12=x:=by have:=h.2;omega
 simp only[e]at this
 exact this h.1
theorem zJ(a:List UInt8)(r:List (List UInt8))(h:a≠[]):join (a::r)≠[]:=by
 cases r with
 | nil=>exact h
 | cons b r=>rw[join];simp
theorem zS:∀(ws:List (List UInt8)),(∀w,w∈ws->(10:UInt8)∉w)->(10:UInt8)∉join ws
 | [],_=>by simp[join]
 | [a],h=>h a (by simp)
 | a::b::r,h=>by
  rw[join]
  simp only[List.mem_append,List.mem_cons,not_or]
  exact⟨h a (by simp),by decide,zS (b::r) (fun w hw=>h w (List.mem_cons_of_mem _ hw))⟩
theorem zP(l:List Int)(h:∀x,x∈l->Lt x):(10:UInt8)∉toldBody l:=
 zS _ (fun w hw=>by obtain⟨x,hx,rfl⟩:=List.mem_map.1 hw;exact(fI x (h x hx)).2.2.1)
theorem iB(l:List Int)(h:∀x,x∈l->Lt x):words (toldBody l)=l.map lw:=by
 unfold words toldBody
 cases l with
 | nil=>rfl
 | cons x r=>
  rw[List.map_cons,if_neg (zJ _ _ (fI x (h x (by simp))).2.2.2.1),←List.map_cons (f:=lw)]
  exact kD _ (by simp) (fun w hw=>by obtain⟨y,hy,rfl⟩:=List.mem_map.1 hw;exact(fI y (h y hy)).2.1)
theorem rE(l:List Int)(h:∀x,x∈l->Lt x):(l.map lw).map lit=l:=by
 rw[List.map_map]
 conv=>rhs;rw[←List.map_id l]
 apply List.map_congr_left
 intro x hx
 exact(fI x (h x hx)).1
theorem aQ6(l:List Int)(h:∀x,x∈l->Lt x):okLine (toldBody l)=true:=by
 unfold okLine
 rw[iB l h,List.all_eq_true]
 intro w hw
 obtain⟨x,hx,rfl⟩:=List.mem_map.1 hw
 rw[(fI x (h x hx)).1]
 simpa using (h x hx).1
theorem zZ(l:List Int)(h:∀x,x∈l->Lt x):stepOf (toldBody l)=(false,l.map lw):=by
 unfold stepOf
 rw[iB l h]
 cases l with
 | nil=>rfl
 | cons x r=>
  simp only[List.map_cons]
  rw[if_neg (fI x (h x (by simp))).2.2.2.2]
def iZ(l:List (List Int)):List UInt8:=l.flatMap told
theorem rN(l:List (List Int))(r:List UInt8)(h:∀c,c∈l->∀x,x∈c->Lt x):segs (iZ l++r)=l.map (fun c=>(toldBody c,true))++segs r:=by
 induction l with
 | nil=>rfl
 | cons c l ih=>
  have e:iZ (c::l)++r=toldBody c++10::(iZ l++r):=by simp[iZ,told]
  rw[e,qZ _ _ (zP c (h c (by simp))),ih (fun d hd=>h d (List.mem_cons_of_mem _ hd))]
  rfl
end Go.Proofs.YtekkkoipcghlmaaGreatDoor.Sp
namespace Go.Proofs.YtekkkoipcghlmaaGreatDoor
open Sp
theorem aG2(l:List (List Int))(h:∀c,c∈l->∀x,x∈c->Lt x):∀x,x∈l.map (fun c=>(toldBody c,true))->cN x:=by
 intro x hx
 obtain⟨c,hc,rfl⟩:=List.mem_map.1 hx
 exact⟨aQ6 c (h c hc),rfl⟩
theorem yP(l:List (List Int))(h:∀c,c∈l->∀x,x∈c->Lt x):bV (iZ l)=l.map maskOf:=by
 unfold bV
 have:=rN l [] h
 rw[List.append_nil]at this
 rw[this]
 simp only[segs,segsAux,if_true,List.append_nil,List.map_map]
 apply List.map_congr_left
 intro c hc
 simp only[Function.comp,bI]
 rw[iB c (h c hc),rE c (h c hc)]
theorem aD3(l:List (List Int))(h:∀c,c∈l->∀x,x∈c->Lt x):scanSegs 0 (segs (iZ l))=none:=by
 have:=rN l [] h
 rw[List.append_nil]at this
 rw[this]
 simp only[segs,segsAux,if_true,List.append_nil]
 exact rK _ 0 (aG2 l h)
end Go.Proofs.YtekkkoipcghlmaaGreatDoor
namespace Go.Proofs.YtekkkoipcghlmaaGreatDoor
open Sp
theorem Fol.mono{L M:List Nat}{m:Nat}(h:∀c,c∈L->c∈M)(hf:Fol L m):Fol M m:=by
 rcases hf with hf|hf
 ·exact .inl hf
 ·exact .inr fun U hU hs=>hf U hU (fun c hc=>hs c (h c hc))
def Runs:List (Bool×Nat)->List Nat->List Nat->Prop
 | [],L,L'=>L'=L
 | x::r,L,L'=>(x.1=true/\x.2∈L/\Runs r (L.erase x.2) L')∨(x.1=false/\Fol L x.2/\Runs r (L++[x.2]) L')
theorem Runs.append:∀{a b:List (Bool×Nat)} {L M N:List Nat},Runs a L M->Runs b M N->Runs (a++b) L N
 | [],_,_,_,_,h1,h2=>by
  have h1:_=_:=h1
  subst h1
  exact h2
 | x::r,_,_,_,_,h1,h2=>by
  rcases h1 with⟨a1,a2,a3⟩|⟨a1,a2,a3⟩
  ·exact .inl ⟨a1,a2,Runs.append a3 h2⟩
  ·exact .inr ⟨a1,a2,Runs.append a3 h2⟩
theorem Runs.more:∀{s:List (Bool×Nat)} {L L' M R:List Nat},Runs s L L'->M.Perm (L++R)->∃M',Runs s M M'/\M'.Perm (L'++R)
 | [],L,L',M,R,h,hp=>by
  have h:L'=L:=h
  subst h
  exact⟨M,rfl,hp⟩
 | x::r,L,L',M,R,h,hp=>by
  rcases h with⟨a1,a2,a3⟩|⟨a1,a2,a3⟩
  ·obtain⟨M',h1,h2⟩:=Runs.more (M:=M.erase x.2) (R:=R) a3 (by
    have:=hp.erase x.2
    rwa [List.erase_append_left _ a2]at this)
   exact⟨M',.inl ⟨a1,hp.mem_iff.2 (List.mem_append_left _ a2),h1⟩,h2⟩
  ·obtain⟨M',h1,h2⟩:=Runs.more (M:=M++[x.2]) (R:=R) a3 (by
    refine(hp.append_right [x.2]).trans ?_
    rw[List.append_assoc,List.append_assoc]
    exact List.Perm.append_left L List.perm_append_comm)
   exact⟨M',.inr ⟨a1,Fol.mono (fun c hc=>hp.mem_iff.2 (List.mem_append_left _ hc)) a2,h1⟩,h2⟩
theorem Chain.runs{G:List Nat}{s:List (Bool×Nat)}{D:List Nat}(h:Chain G s D):∀M,(∀g,g∈G->g∈M)->∃M',Runs s M M'/\M'.Perm (M++D):=by
 refine h (fun s D=>∀M,(∀g,g∈G->g∈M)->∃M',Runs s M M'/\M'.Perm (M++D)) (fun M _=>⟨M,rfl,by rw[List.append_nil]⟩) (fun s D r ih hf _ M hM=>?_) (fun s A B r ih M hM=>?_)
 ·obtain⟨M',h1,h2⟩:=ih M hM
  refine⟨M'++[r],Runs.append h1 (.inr ⟨rfl,Fol.mono (fun c hc=>?_) hf,rfl⟩),?_⟩
  ·rcases List.mem_append.1 hc with hc|hc
   ·exact h2.mem_iff.2 (List.mem_append_left _ (hM c hc))
   ·exact h2.mem_iff.2 (List.mem_append_right _ hc)
  ·rw[←List.append_assoc]
   exact h2.append_right [r]
 ·obtain⟨M',h1,h2⟩:=ih M hM
  have hr:r∈M':=h2.mem_iff.2 (by simp)
  refine⟨M'.erase r,Runs.append h1 (.inl ⟨rfl,hr,rfl⟩),?_⟩
  have hp:(M++(A++r::B)).Perm (r::(M++(A++B))):=by
   rw[←List.append_assoc,←List.append_assoc]
   exact List.perm_middle
  have:=(h2.trans hp).erase r
  rwa [List.erase_cons_head]at this
theorem Chain.pos{G:List Nat}{s:List (Bool×Nat)}{D:List Nat}(h:Chain G s D):∀x,x∈s->x.2≠0:=by
 have:(∀x,x∈s->x.2≠0)/\∀d,d∈D->d≠0:=by
  refine h (fun s D=>(∀x,x∈s->x.2≠0)/\∀d,d∈D->d≠0) ⟨fun x hx=>(by cases hx),fun x hx=>(by cases hx)⟩ (fun s D r ih _ hr=>⟨fun x hx=>?_,fun d hd=>?_⟩) (fun s A B r ih=>⟨fun x hx=>?_,fun d hd=>?_⟩)
  ·rcases List.mem_append.1 hx with hx|hx
   ·exact ih.1 x hx
   ·simp at hx;subst hx;exact hr
  ·rcases List.mem_append.1 hd with hd|hd
   ·exact ih.2 d hd
   ·simp at hd;subst hd;exact hr
  ·rcases List.mem_append.1 hx with hx|hx
   ·exact ih.1 x hx
   ·simp at hx;subst hx;exact ih.2 r (by simp)
  ·rcases List.mem_append.1 hd with hd|hd
   ·exact ih.2 d (List.mem_append_left _ hd)
   ·exact ih.2 d (List.mem_append_right _ (List.mem_cons_of_mem _ hd))
 exact this.1
def bE(s:Bool×Nat):List UInt8:=(if s.1 then [100,32]else [])++toldBody (litsOf s.2)
def aQ(s:List (Bool×Nat)):List UInt8:=s.flatMap (fun x=>bE x++[10])
def mG(x:Bool×Nat):Prop:=x.2<2 ^ 24/\(x.1=true->x.2≠0)
theorem gV(m:Nat):∀x,x∈litsOf m->Lt x:=fun x hx=>eW m x hx
theorem zF(x:Bool×Nat):(10:UInt8)∉bE x:=by
 unfold bE
 rw[List.mem_append,not_or]
 refine⟨?_,zP _ (gV _)⟩
 cases x.1<;>decide
theorem fA(a b:List (Bool×Nat)):aQ (a++b)=aQ a++aQ b:=by simp[aQ]
theorem yJ(s:List (Bool×Nat))(r:List UInt8):segs (aQ s++r)=s.map (fun x=>(bE x,true))++segs r:=by
 induction s with
 | nil=>rfl
 | cons x s ih=>
  have e:aQ (x::s)++r=bE x++10::(aQ s++r):=by simp[aQ]
  rw[e,qZ _ _ (zF x),ih]
  rfl
theorem aQ1{m:Nat}(h:m<2 ^ 24)(h0:m≠0):litsOf m≠[]:=fun e=>h0 (litsOf_inj h (by decide) (e.trans (by decide)))
theorem jT{x:Bool×Nat}(h:mG x):stepOf (bE x)=(x.1,(litsOf x.2).map lw):=by
 obtain⟨g,m⟩:=x
 cases g
 ·exact zZ _ (gV m)
 ·have hne:=aQ1 h.1 (h.2 rfl)
  have hw:words (bE (true,m))=[100]::(litsOf m).map lw:=by
   have e:bE (true,m)=[100]++32::toldBody (litsOf m):=rfl
   have hw2:=iB (litsOf m) (gV m)
   have hb:toldBody (litsOf m)≠[]:=by
    cases hl:litsOf m with
    | nil=>exact absurd hl hne
    | cons y r=>
     have hy:Lt y:=gV m y (by rw[hl];simp)
     unfold toldBody
     rw[List.map_cons]
     exact zJ _ _ (fI y hy).2.2.2.1
   unfold words at hw2⊢
   rw[if_neg hb]at hw2
   rw[e,if_neg (by simp),iE _ _ _ (by decide),List.nil_append,wordsAux,if_pos rfl,hw2]
  unfold stepOf
  rw[hw]
  simp
theorem fE{x:Bool×Nat}(h:mG x):stepMask (bE x)=x.2:=by
 unfold stepMask
 rw[jT h]
 show maskOf (((litsOf x.2).map lw).map lit)=_
 rw[rE _ (gV _),jJ h.1]
theorem vM{x:Bool×Nat}(h:mG x):stepOk (bE x,true)=true:=by
 unfold stepOk
 rw[jT h]
 simp only[Bool.and_true]
 rw[List.all_eq_true]
 intro w hw
 obtain⟨y,hy,rfl⟩:=List.mem_map.1 hw
 have hy:=gV _ y hy
 rw[(fI y hy).1]
 simpa using hy.1
theorem Runs.out:∀{s:List (Bool×Nat)} {L L':List Nat} {n:Nat} {rest:List (List UInt8×Bool)} {r:Int×Int},Runs s L L'->(∀x,x∈s->mG x)->Sp.Outcome L' (n+s.length) rest r->Sp.Outcome L n (s.map (fun x=>(bE x,true))++rest) r
 | [],L,L',n,rest,r,h,_,ho=>by
  have h:L'=L:=h
  subst h
  exact ho
 | x::s,L,L',n,rest,r,h,hs,ho=>by
  have hx:=hs x (by simp)
  have ho':Sp.Outcome L' (n+1+s.length) rest r:=by
   have:n+1+s.length=n+(x::s).length:=by rw[List.length_cons];omega
   rw[this];exact ho
  refine .inr ⟨vM hx,?_⟩
  rcases h with⟨a1,a2,a3⟩|⟨a1,a2,a3⟩
  ·exact .inl ⟨by rw[jT hx];exact a1,.inl ⟨by rw[fE hx];exact a2,by rw[fE hx];exact Runs.out a3 (fun y hy=>hs y (List.mem_cons_of_mem _ hy)) ho'⟩⟩
  ·exact .inr ⟨by rw[jT hx];exact a1,.inl ⟨by rw[fE hx];exact a2,by rw[fE hx];exact Runs.out a3 (fun y hy=>hs y (List.mem_cons_of_mem _ hy)) ho'⟩⟩
theorem uV{core:List Int}(h:∀y,y∈core->y≠0/\-12<=y/\y<=12):maskOf (core.map (fun x=>-x))=aK (maskOf core):=by
 have hm:maskOf core<2 ^ 24:=maskOf_lt _ (fun y hy=>(h y hy).2)
 have hn:∀y,y∈core.map (fun x=>-x)->y≠0/\-12<=y/\y<=12:=fun y hy=>by
  obtain⟨z,hz,rfl⟩:=List.mem_map.1 hy
  have:=h z hz
  omega
 have hm2:maskOf (core.map (fun x=>-x))<2 ^ 24:=maskOf_lt _ (fun y hy=>(hn y hy).2)
 apply Nat.eq_of_testBit_eq
 intro i
 rcases Nat.lt_or_ge i 24 with hi|hi
 ·rw[iV hm i hi,maskOf_testBit,maskOf_testBit,Bool.eq_iff_iff,List.any_eq_true,List.any_eq_true]
  have key:∀y,y≠0->(bitIx (-y)=i↔bitIx y=opp i):=fun y hy=>by
   unfold bitIx opp
   by_cases hp:0<y
   ·rw[if_pos hp,if_neg (by omega)]
    split<;>omega
   ·rw[if_neg hp,if_pos (by omega)]
    split<;>omega
  constructor
  ·rintro⟨y,hy,e⟩
   obtain⟨z,hz,rfl⟩:=List.mem_map.1 hy
   exact⟨z,hz,by rw[beq_iff_eq]at e⊢;exact(key z (h z hz).1).1 e⟩
  ·rintro⟨z,hz,e⟩
   exact⟨-z,List.mem_map.2 ⟨z,hz,rfl⟩,by rw[beq_iff_eq]at e⊢;exact(key z (h z hz).1).2 e⟩
 ·rw[Nat.testBit_lt_two_pow (Nat.lt_of_lt_of_le hm2 (Nat.pow_le_pow_right (by decide) hi)),Nat.testBit_lt_two_pow (Nat.lt_of_lt_of_le (lL _) (Nat.pow_le_pow_right (by decide) hi))]
theorem iL(S:List (Bool×List Int)):aP S=aQ (bH S):=by
 unfold aP aQ bH
 rw[List.flatMap_map]
 congr 1
 funext s
 unfold eA bE told
 rw[List.append_assoc]
theorem yS(m:Nat):told (litsOf m)=aQ [(false,m)]:=by simp[aQ,bE,told]
theorem jZ(ms:List Nat):aV ms=iZ (ms.map litsOf):=by
 unfold aV iZ
 rw[List.flatMap_map]
theorem zO(ms:List Nat):∀c,c∈ms.map litsOf->∀x,x∈c->Lt x:=fun c hc x hx=>by
 obtain⟨m,_,rfl⟩:=List.mem_map.1 hc
 exact gV m x hx
theorem oT{ms:List Nat}(h:∀m,m∈ms->m<2 ^ 24):bV (aV ms)=ms:=by
 rw[jZ,yP _ (zO ms),List.map_map]
 conv=>rhs;rw[←List.map_id ms]
 apply List.map_congr_left
 intro m hm
 exact jJ (h m hm)
theorem qA(ms:List Nat):scanSegs 0 (segs (aV ms))=none:=by
 rw[jZ]
 exact aD3 _ (zO ms)
end Go.Proofs.YtekkkoipcghlmaaGreatDoor
namespace Go.Proofs.YtekkkoipcghlmaaGreatDoor
open Go.RowKit Sp
theorem Tryz.underByteP:Tryz.prog.underlying 5=some (.int .u8):=by kernel_rfl
set_option maxRecDepth 100000 in
theorem xT(base x:Nat)(kv:Value)(ms:List Nat)(w:World)(pv:Value)(pb:List UInt8)(hX:XAt base w x kv ms pv pb):
  Calls Tryz.prog 28 #[.pointer (some ⟨x,0,none⟩)] w fun e w'=>e=.returned (.string (bs pb))/\w'=w:=by
 have hc2:w.cell? ⟨x,2,none⟩=some pv:=by simp[World.cell?,hX.block]
 have hcv:(convert 75 9 pv).run Tryz.prog w=.ok (.string (bs pb)) w:=by
  rcases hX.prow.2 with⟨rfl,h0⟩|⟨g,cap,cur,rfl,hbg,hg,hle,hcm,hcs,htake⟩
  ·have:pb=[]:=List.length_eq_zero_iff.1 h0
   subst this
   exact run_convert_bytes_nil (P:=Tryz.prog) (w:=w) 75 5 Tryz.underlying75 Tryz.underByteP 0 0 9 Tryz.underlying9
  ·exact run_convert_bytes_back (P:=Tryz.prog) w 75 9 5 ⟨g,0,none⟩ cap pb Tryz.underlying75 Tryz.underByteP Tryz.underlying9 (fun j hj=>by
    have:=hX.prow.cells (g:=g) rfl j (.int .u8 (pb[j].toNat:Int)) (by simp[dX,hj])
    exact this)
 obtain⟨po,pc,hsh⟩:=aC hX.prow
 subst hsh
 clear hX
 go_enter Tryz.func28,Tryz.ntmps28
 go_wp2
 go_ret
 exact⟨rfl,rfl⟩
theorem pU(a r:List UInt8):∀cur,(10:UInt8)∉a->linesAux cur (a++10::r)=(cur++a)::linesAux [] r/\endAux cur (a++10::r)=endAux [] r:=by
 induction a with
 | nil=>intro cur _;simp[linesAux,endAux]
 | cons c a ih=>
  intro cur h
  have hc:c≠10:=fun e=>h (by simp[e])
  obtain⟨h1,h2⟩:=ih (cur++[c]) (fun e=>h (by simp[e]))
  rw[List.cons_append,linesAux,endAux,if_neg hc,if_neg hc,h1,h2]
  simp
theorem fQ:∀s:List (Bool×Nat),lines (aQ s)=s.map bE/\ended (aQ s)=true
 | []=>⟨rfl,rfl⟩
 | x::s=>by
  have e:aQ (x::s)=bE x++10::aQ s:=by simp[aQ]
  obtain⟨h1,h2⟩:=pU (bE x) (aQ s) [] (zF x)
  obtain⟨h3,h4⟩:=fQ s
  unfold lines ended at *
  rw[e,h1,h2,h3,h4]
  exact⟨rfl,rfl⟩
theorem qN(x:Bool×Nat):(bE x).length<=6000:=by
 have h1:=dE x.2
 have e:(told (litsOf x.2)).length=(toldBody (litsOf x.2)).length+1:=by simp[told]
 unfold bE
 rw[List.length_append]
 cases x.1<;>simp<;>omega
def gA(s:List (Bool×Nat)):List UInt8:=if h:s=[]then []else bE (s.getLast h)++[10]
set_option maxRecDepth 100000 in
set_option maxHeartbeats 800000 in
theorem yZ(s:List (Bool×Nat))(w:World)(hn:s.length<=2000000000000)(hs:(aQ s).length<=4000000000000000000):
  Calls Tryz.prog 105 #[.string (bs (aQ s))] w fun e w'=>e=.returned (.string (bs (gA s)))/\Below w.heap.size w w':=by
 obtain⟨h1,h2⟩:=fQ s
 have HL:=aq (lV (aQ s) w hs (by rw[h1,List.length_map];exact hn))
 rw[h1,h2,List.length_map]at HL
 clear h1 h2 hs
 generalize aQ s=pb at *
 by_cases h0:s=[]
 ·subst h0
  go_enter Tryz.func105,Tryz.ntmps105
  go_wp2_with fail
  refine(dz HL).mono ?_
  rintro e w1 ⟨v,rfl,hown,hb⟩
  obtain⟨ao,cap,rfl⟩:=aC hown
  clear hown
  go_wp2
  go_ret
  exact⟨rfl,hb⟩
 ·have hpos:0<s.length:=List.length_pos_iff.2 h0
  have hlast:gA s=bE (s.getLast h0)++[10]:=by rw[gA,dif_neg h0]
  have hget:s.getLast h0=s[s.length-1]:=List.getLast_eq_getElem h0
  have hsh:=qN (s.getLast h0)
  have hadd:∀wx:World,(Op.stringOp .add (bs (bE (s.getLast h0))) ⟨#[10]⟩).run Tryz.prog wx=.ok (.string (bs (bE (s.getLast h0)++[10]))) wx:=fun wx=>dK (P:=Tryz.prog) (bE (s.getLast h0)) [10] (by simp;omega) wx
  rw[hlast]
  have HG:Hid (∀(w1:World) (v:Value) (ao:Option Addr) (cap:Nat),v=.slice ao s.length cap->w1.ownsRow w.heap.size 9 1 v s.length (strs (s.map bE))->∃g,ao=some ⟨g,0,none⟩/\g<w1.heap.size/\w1.cell? ⟨g,s.length-1,none⟩=some (.string (bs (bE (s.getLast h0))))):=aq (by
   intro w1 v ao cap hv hown
   subst hv
   rcases hown.2 with⟨hv,h9⟩|⟨g,cap,cur,hv,_,hg,_⟩
   ·omega
   ·cases hv
    refine⟨g,rfl,aA hg,?_⟩
    have:=hown.cells (g:=g) rfl (s.length-1) (.string (bs (bE (s.getLast h0)))) (by rw[hget];unfold strs;rw[List.map_map,List.getElem?_map,List.getElem?_eq_getElem (by omega)];rfl)
    rwa [Addr.add_lit,Nat.zero_add]at this)
  clear hlast hget
  generalize bE (s.getLast h0)=x at *
  generalize s.length=n at *
  have hz:((n:Int)==0)=false:=by rw[beq_eq_false_iff_ne];omega
  have hi0:(0:Int)<=(n:Int)-1:=by omega
  have hi1:(n:Int)-1<(n:Int):=by omega
  have hi2:((n:Int)-1).toNat=n-1:=by omega
  go_enter Tryz.func105,Tryz.ntmps105
  go_wp2_with fail
  refine(dz HL).mono ?_
  rintro e w1 ⟨v,rfl,hown,hb⟩
  obtain⟨ao,cap,rfl⟩:=aC hown
  obtain⟨g,rfl,hgl,hcell⟩:=dz HG w1 _ ao cap rfl hown
  have HB:=aq hb
  clear hown HL HG hb
  go_wp2
  go_ret
  exact⟨rfl,dz HB⟩
theorem yI{m:Nat}(hm:m<2 ^ 24):bN (told (litsOf m))=(told (litsOf m),0,0):=by
 have e:aV [m]=told (litsOf m):=by simp[aV]
 have hl:=dE m
 have h:=qA [m]
 have hk:=oT (ms:=[m]) (fun c hc=>by simp at hc;rw[hc];exact hm)
 rw[e]at h hk
 have h2:=h
 rw[gJ]at h2
 unfold bN
 unfold bV at hk
 rw[if_neg (by omega),h2]
 have h3:=rD _ (iC _ 0 h)
 rw[hk,lF]at h3
 simp only[←h3,e]
set_option maxRecDepth 100000 in
theorem uM{m:Nat}(hm:m<2 ^ 24)(w:World):
  Calls Tryz.prog 106 #[.string (bs (told (litsOf m)))] w fun e w'=>e=.returned (.string (bs (told (litsOf m))))/\Below w.heap.size w w':=by
 have HP:=aq (kU (told (litsOf m)) w (by have:=dE m;omega))
 rw[yI hm]at HP
 generalize told (litsOf m)=tx at *
 go_enter Tryz.func106,Tryz.ntmps106
 go_wp2_with fail
 refine(dz HP).mono ?_
 rintro e w1 ⟨rfl,hb⟩
 go_wp2
 go_ret
 exact⟨rfl,hb⟩
def AccN(n:Nat)(G:List Nat)(pb:List UInt8):Prop:=∃s M R,pb=aQ s/\(∀x,x∈s->mG x)/\Runs s G M/\M.Perm (G++R)/\s.length<=n
theorem AccN.nil(n:Nat)(G:List Nat):AccN n G []:=⟨[],G,[],rfl,fun x hx=>(by cases hx),rfl,by rw[List.append_nil],Nat.zero_le _⟩
theorem AccN.more{n n':Nat}{G:List Nat}{pb:List UInt8}(h:AccN n G pb)(hn:n<=n'):AccN n' G pb:=by
 obtain⟨s,M,R,h1,h2,h3,h4,h5⟩:=h
 exact⟨s,M,R,h1,h2,h3,h4,Nat.le_trans h5 hn⟩
theorem AccN.addTo{n:Nat}{G:List Nat}{pb:List UInt8}(h:AccN n G pb)(c:List Int):AccN n (addTo G c).2 pb:=by
 have key:∀H,AccN n (G++H) pb:=fun H=>by
  obtain⟨s,M,R,h1,h2,h3,h4,h9⟩:=h
  obtain⟨M',h5,h6⟩:=Runs.more (M:=G++H) (R:=H) h3 (List.Perm.refl _)
  refine⟨s,M',R,h1,h2,h5,h6.trans ((h4.append_right H).trans ?_),h9⟩
  rw[List.append_assoc,List.append_assoc]
  exact List.Perm.append_left G List.perm_append_comm
 unfold Go.Proofs.YtekkkoipcghlmaaGreatDoor.addTo
 split
 ·exact h
 ·split
  ·exact h
  ·split
   ·exact h
   ·exact key _
theorem AccN.solve{n:Nat}{G D:List Nat}{pb:List UInt8}{S:List (Bool×List Int)}{core:List Int}{kind:Int}(ha:AccN n G pb)(hch:Chain G (bH S) D)(hwf:∀s,s∈S->aM s.2)(hk:kind=2->Lits core/\Fol (G++D) (maskOf (core.map (fun x=>-x)))):
  AccN (n+S.length+1) G (pb++(aP S++if kind=2 then told (litsOf (aK (maskOf core)))else []))/\(kind=2->∃U,pb++(aP S++if kind=2 then told (litsOf (aK (maskOf core)))else [])=aQ (U++[(false,aK (maskOf core))])):=by
 obtain⟨s0,M0,R0,e0,ok0',r0,p0,l0⟩:=ha
 obtain⟨M1,r1,p1⟩:=hch.runs M0 (fun g hg=>p0.mem_iff.2 (List.mem_append_left _ hg))
 have hstep:∀x,x∈bH S->mG x:=fun x hx=>by
  have hp:=hch.pos x hx
  obtain⟨s,hs,rfl⟩:=List.mem_map.1 hx
  exact⟨maskOf_lt _ (fun y hy=>((hwf s hs).2 y hy).2),fun _=>hp⟩
 have hsl:(bH S).length=S.length:=by simp[bH]
 by_cases h2:kind=2
 ·obtain⟨hcl,hF⟩:=hk h2
  rw[uV hcl]at hF
  rw[if_pos h2]
  have eT:pb++(aP S++told (litsOf (aK (maskOf core))))=aQ (s0++bH S++[(false,aK (maskOf core))]):=by
   rw[fA,fA,e0,iL,yS,List.append_assoc]
  refine⟨⟨s0++bH S++[(false,aK (maskOf core))],M1++[aK (maskOf core)],R0++D++[aK (maskOf core)],eT,?_,?_,?_,?_⟩,fun _=>⟨_,eT⟩⟩
  ·intro y hy
   rcases List.mem_append.1 hy with hy|hy
   ·rcases List.mem_append.1 hy with hy|hy
    ·exact ok0' y hy
    ·exact hstep y hy
   ·simp at hy;subst hy
    exact⟨lL _,fun h=>by cases h⟩
  ·refine Runs.append (Runs.append r0 r1) (.inr ⟨rfl,Fol.mono (fun c hc=>?_) hF,rfl⟩)
   rcases List.mem_append.1 hc with hc|hc
   ·exact p1.mem_iff.2 (List.mem_append_left _ (p0.mem_iff.2 (List.mem_append_left _ hc)))
   ·exact p1.mem_iff.2 (List.mem_append_right _ hc)
  ·rw[←List.append_assoc,←List.append_assoc]
   exact(p1.trans (p0.append_right D)).append_right _
  ·simp only[List.length_append,List.length_singleton,hsl];omega
 ·rw[if_neg h2]
  refine⟨⟨s0++bH S,M1,R0++D,?_,?_,Runs.append r0 r1,?_,?_⟩,fun h=>absurd h h2⟩
  ·rw[List.append_nil,fA,e0,iL]
  ·intro y hy
   rcases List.mem_append.1 hy with hy|hy
   ·exact ok0' y hy
   ·exact hstep y hy
  ·rw[←List.append_assoc]
   exact p1.trans (p0.append_right D)
  ·simp only[List.length_append,hsl];omega
def sQ(ms:List Nat)(pb:List UInt8)(pr:ByteArray)(gr:Bool)(la:ByteArray)(en:Bool):Prop:=
 AccN 2000000000000 ms pb/\pb.length<=140000000000000/\(∃p0 t,pr=bs p0/\pb=p0++t/\(gr=false->p0=pb))/\(en=true->∃U m,m<2 ^ 24/\pb=aQ (U++[(false,m)])/\la=bs (told (litsOf m)))
end Go.Proofs.YtekkkoipcghlmaaGreatDoor
