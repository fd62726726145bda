import Derived.Test.YtekkkoipcghlmaaGreatDoorS32
import Derived.Test.YtekkkoipcghlmaaGreatDoorS38
import Derived.Test.YtekkkoipcghlmaaGreatDoorS01
set_option linter.all false
namespace Go.Proofs.YtekkkoipcghlmaaGreatDoor
open Go.RowKit
def plainTo(cs:List (List Int)):List UInt8:=cs.flatMap Sp.told
theorem plainTo_snoc(cs:List (List Int))(c:List Int):plainTo (cs++[c])=plainTo cs++Sp.told c:=by
 unfold plainTo;rw[List.flatMap_append];simp
theorem told_len(l:List Int):(Sp.told l).length<=4*l.length+1:=by
 have:=toldBody_len l;simp[Sp.told];omega
theorem sorted_len(l:List Int):(Sp.sorted l).length<=24:=Sp.sortedTo_len l 12
theorem plainTo_len(L:List (List UInt8)):(plainTo (L.map Sp.clauseOf)).length<=97*L.length:=by
 induction L with
 | nil=>simp[plainTo]
 | cons a r ih=>
  have h1:=told_len (Sp.clauseOf a)
  have h2:=sorted_len ((Sp.words a).map Sp.lit)
  have h3:(Sp.clauseOf a).length<=24:=h2
  simp only[plainTo,List.map_cons,List.flatMap_cons,List.length_append,List.length_cons]at ih⊢
  omega
def plainOut(s:List UInt8):List UInt8×Int×Int:=
 if 6000<s.length then([],4,0)else
 match Sp.scan (Sp.ended s) 0 (Sp.lines s)with
 | some n=>([],5,n)
 | none=>(plainTo ((Sp.lines s).map Sp.clauseOf),0,0)
set_option maxRecDepth 100000 in
set_option maxHeartbeats 800000 in
theorem refPlain_any(s:List UInt8)(w:World)(hs2:s.length<=9223372036854775807):
  Calls Tryz.prog 96 #[.string (bs s)] w fun e w'=>e=.returned (.tuple #[.string (bs (plainOut s).1),.int .i64 (plainOut s).2.1,.int .i64 (plainOut s).2.2])/\Below w.heap.size w w':=by
 by_cases hs:6000<s.length
 ·have HP:=aq (parse_long s w hs hs2)
  have HO:Hid (plainOut s=([],4,0)):=aq (by unfold plainOut;rw[if_pos hs])
  go_enter Tryz.func96,Tryz.ntmps96
  go_wp2_with fail
  refine(dz HP).mono ?_
  rintro e w1 ⟨rfl,rfl⟩
  go_wp2
  refine wp_loop_rounds 1 ?_
  rw[rounds_succ]
  go_wp2
  go_ret3
  exact⟨by rw[dz HO];rfl,Below.refl _ _⟩
 ·have HP:=aq (parse_any s w (by omega))
  have hLl:=Sp.lines_len s []
  have HE0:Hid (Sp.linesAux [] s=Sp.lines s):=rfl
  rw[dz HE0]at hLl
  go_enter Tryz.func96,Tryz.ntmps96
  go_wp2_with fail
  refine(dz HP).mono ?_
  rintro e w1 ⟨v,hb1,⟨n,hn,rfl⟩|⟨hn,rfl,vs,hown,hrows⟩⟩
  ·have HO:Hid (plainOut s=([],5,(n:Int))):=aq (by unfold plainOut;rw[if_neg hs,hn])
   clear hn
   go_wp2
   refine wp_loop_rounds 1 ?_
   rw[rounds_succ]
   go_wp2
   go_ret3
   exact⟨by rw[dz HO];rfl,hb1⟩
  ·have HO:Hid (plainOut s=(plainTo ((Sp.lines s).map Sp.clauseOf),0,0)):=aq (by unfold plainOut;rw[if_neg hs,hn])
   have hvl:vs.length=(Sp.lines s).length:=by rw[hrows.1];simp
   have hlies:Lies w1 v vs:=lies_of_owns hown hvl
   clear hn hown HE0
   have HR:=aq hrows
   clear hrows
   generalize Sp.lines s=L at *
   rcases hlies with⟨h0,ao,cap,rfl⟩|⟨b,off,cap,hp,rfl,hb,hc⟩
   ·have HX:Hid (L=[]):=aq (by rw[h0]at hvl;exact List.length_eq_zero_iff.1 hvl.symm)
    clear h0 hvl
    go_wp2
    refine wp_loop_rounds 1 ?_
    rw[rounds_succ]
    go_wp2
    go_ret3
    exact⟨by rw[dz HO,dz HX];rfl,hb1⟩
   ·rw[hvl]at hp⊢
    have HVL:=aq hvl
    clear hvl
    go_wp2
    go_loopw [8,9] (fun o i wr=>∃(k:Nat),k<=L.length/\i=.int .i64 k/\o=.string (bs (plainTo ((L.take k).map Sp.clauseOf)))/\Below w1.heap.size w1 wr) (fun _ i _=>L.length-(intOf i).toNat)
    case atStart=>exact⟨0,Nat.zero_le _,rfl,rfl,Below.refl _ _⟩
    case round=>
     obtain⟨k,hk,rfl,rfl,hbel⟩:=hrel
     have hpl:=plainTo_len (L.take k)
     have hpl2:(L.take k).length<=k:=List.length_take_le _ _
     by_cases hlt:k<L.length
     ·have hkv:k<vs.length:=by rw[dz HVL];exact hlt
      have hcell:wr.cell? ⟨b,off+k,none⟩=some vs[k]:=(hbel.cell (p:=⟨b,off+k,none⟩) hb).trans (hc k vs[k] (List.getElem?_eq_getElem hkv))
      have hrow:=(dz HR).2 k vs[k] (Sp.clauseOf L[k]) (List.getElem?_eq_getElem hkv) (by simp[hlt])
      have HT:Hid ((L.take (k+1)).map Sp.clauseOf=(L.take k).map Sp.clauseOf++[Sp.clauseOf L[k]]):=aq (by rw[List.take_succ_eq_append_getElem hlt,List.map_append];rfl)
      have hln:(Sp.clauseOf L[k]).length<=24:=sorted_len _
      have HBD:=aq (Sp.sortedTo_bd ((Sp.words L[k]).map Sp.lit) 12)
      have HLI:=aq ((lies_of_owns hrow (by simp[ints])).below hbel)
      obtain⟨ao3,c3,hsh⟩:=owns_shape hrow
      clear hrow hc
      have htl:=told_len (Sp.clauseOf L[k])
      have hbd:∀x,x∈Sp.clauseOf L[k]->x≠0/\-12<=x/\x<=12:=fun x hx=>by have:=dz HBD x hx;omega
      have HBD2:=aq hbd
      clear hbd HBD
      generalize Sp.clauseOf L[k]=c at *
      rw[hsh]at hcell HLI
      generalize vs[k]=vk at *
      subst hsh
      generalize hac:plainTo ((L.take k).map Sp.clauseOf)=acc at *
      have HAC:=aq hac.symm
      clear hac
      have hadd:=fun wx=>add_bs (P:=Tryz.prog) acc (Sp.told c) (by omega) wx
      go_wp2_with fail
      refine(told_any _ c wr (by omega) (dz HBD2) (dz HLI)).mono ?_
      rintro e w2 ⟨rfl,hb2⟩
      go_wp2
      go_roundw
      case rel=>exact⟨k+1,by omega,by go_num,by rw[dz HT,plainTo_snoc,←dz HAC],hbel.trans (hb2.mono hbel.size)⟩
      case measure=>simp[intOf];omega
     ·have HT:Hid (L.take k=L):=aq (List.take_of_length_le (by omega))
      go_wp2
      go_ret3
      exact⟨by rw[dz HO,dz HT];rfl,hb1.trans (hbel.mono hb1.size)⟩
end Go.Proofs.YtekkkoipcghlmaaGreatDoor
namespace Go.Proofs.YtekkkoipcghlmaaGreatDoor
open Go.RowKit
theorem good_of_scan(L:List (List UInt8×Bool)):∀n,Sp.scanSegs n L=none->∀x,x∈L->goodLine x:=by
 induction L with
 | nil=>intro n _ x hx;cases hx
 | cons a r ih=>
  intro n h x hx
  unfold Sp.scanSegs at h
  split at h
  ·cases h
  ·rename_i hc
   rcases List.mem_cons.1 hx with rfl|hx
   ·simp at hc;exact⟨hc.1,hc.2⟩
   ·exact ih (n+1) h x hx
theorem mask_text(L:List (List UInt8×Bool))(h:∀x,x∈L->goodLine x):maskText (L.map lineMask)=plainTo ((L.map Prod.fst).map Sp.clauseOf):=by
 induction L with
 | nil=>rfl
 | cons a r ih=>
  have ha:=(h a (by simp)).1
  have e1:Sp.litsOf (lineMask a)=Sp.clauseOf a.1:=by
   unfold lineMask Sp.clauseOf
   refine Sp.litsOf_maskOf _ (fun x hx=>?_)
   obtain⟨z,hz,rfl⟩:=List.mem_map.1 hx
   unfold Sp.okLine at ha
   have:=List.all_eq_true.1 ha z hz
   simpa using this
  have:=ih (fun x hx=>h x (by simp[hx]))
  unfold maskText plainTo at this⊢
  simp only[List.map_cons,List.flatMap_cons,e1,this]
theorem segs_fst(s:List UInt8):(Sp.segs s).map Prod.fst=Sp.lines s:=Sp.segsAux_lines s []
theorem segs_scan(s:List UInt8):Sp.scanSegs 0 (Sp.segs s)=Sp.scan (Sp.ended s) 0 (Sp.lines s):=Sp.scan_segs s [] 0
set_option maxRecDepth 100000 in
set_option maxHeartbeats 800000 in
theorem plainGo_any(s:List UInt8)(w:World)(hs2:s.length<=9223372036854775807)(he:Env w):
  Calls Tryz.prog 95 #[.string (bs s)] w fun e w'=>e=.returned (.tuple #[.string (bs (plainOut s).1),.int .i64 (plainOut s).2.1,.int .i64 (plainOut s).2.2])/\Below w.heap.size w w':=by
 by_cases hs:6000<s.length
 ·have HP:=aq (read_long s w hs hs2)
  have HO:Hid (plainOut s=([],4,0)):=aq (by unfold plainOut;rw[if_pos hs])
  go_enter Tryz.func95,Tryz.ntmps95
  go_wp2_with fail
  refine(dz HP).mono ?_
  rintro e w1 ⟨hb1,rfl⟩
  go_wp2
  go_ret3
  exact⟨by rw[dz HO];rfl,hb1⟩
 ·have HP:=aq (read_any s w (by omega) he)
  have hcnt:=Sp.segsAux_count s []
  have HC:Hid (Sp.segsAux [] s=Sp.segs s):=rfl
  rw[dz HC]at hcnt
  go_enter Tryz.func95,Tryz.ntmps95
  go_wp2_with fail
  refine(dz HP).mono ?_
  rintro e w1 ⟨hb1,⟨n,hn,rfl⟩|⟨hn,v,rfl,hli⟩⟩
  ·have HO:Hid (plainOut s=([],5,(n:Int))):=aq (by rw[segs_scan]at hn;unfold plainOut;rw[if_neg hs,hn])
   clear hn
   go_wp2
   go_ret3
   exact⟨by rw[dz HO];rfl,hb1⟩
  ·have HO:Hid (plainOut s=(maskText ((Sp.segs s).map lineMask),0,0)):=aq (by
    rw[mask_text _ (good_of_scan _ 0 hn),segs_fst]
    rw[segs_scan]at hn;unfold plainOut;rw[if_neg hs,hn])
   have HL:=aq (clausePlain_any v ((Sp.segs s).map lineMask) w1 (by simp;omega) (fun m hm=>by
    obtain⟨x,_,rfl⟩:=List.mem_map.1 hm
    exact Sp.maskOf_lt _ (fun y hy=>by obtain⟨z,_,rfl⟩:=List.mem_map.1 hy;exact Sp.lit_bd z)) hli (he.below hb1).toEnvT)
   clear hn hli
   generalize (Sp.segs s).map lineMask=ms at *
   go_wp2_with fail
   refine(dz HL).mono ?_
   rintro e w2 ⟨rfl,hb2⟩
   go_wp2
   go_ret3
   exact⟨by rw[dz HO];rfl,hb1.trans (hb2.mono hb1.size)⟩
set_option maxRecDepth 100000 in
set_option maxHeartbeats 800000 in
theorem lawPlain_any(s:List UInt8)(w:World)(hs2:s.length<=9223372036854775807)(he:Env w):
  Calls Tryz.prog 51 #[.string (bs s)] w fun e w'=>e=.returned (.bool true)/\Below w.heap.size w w':=by
 have HP:=aq (plainGo_any s w hs2 he)
 have HQ:=aq (fun wx=>refPlain_any s wx hs2)
 generalize plainOut s=po at *
 obtain⟨t,a,b⟩:=po
 have h1:((bs t).toList==(bs t).toList)=true:=by simp
 go_enter Tryz.func51,Tryz.ntmps51
 go_wp2_with fail
 refine(dz HP).mono ?_
 rintro e w1 ⟨rfl,hb1⟩
 go_wp2_with fail
 refine(dz HQ w1).mono ?_
 rintro e w2 ⟨rfl,hb2⟩
 go_wp2
 go_ret
 exact⟨rfl,hb1.trans (hb2.mono hb1.size)⟩
end Go.Proofs.YtekkkoipcghlmaaGreatDoor
namespace Go.Proofs.YtekkkoipcghlmaaGreatDoor.Sp
def UOf(T:List Int)(i:Nat):Prop:=- litAt i∈T
def Cons(T:List Int):Prop:=∀x,x∈T->-x∉T
def openOf(T:List Int)(c:List Int):List Int:=c.filter fun x=>!T.contains (-x)&&!T.contains x
def doneOf(T:List Int)(c:List Int):Bool:=c.any fun x=>T.contains x
def leftOf(T:List Int)(c:List Int):Int:=((openOf T c).getLast?).getD 0
theorem openOf_snoc(T c:List Int)(x:Int):openOf T (c++[x])=openOf T c++(if !T.contains (-x)&&!T.contains x then [x]else []):=by
 unfold openOf;rw[List.filter_append];simp[List.filter_cons]
theorem doneOf_snoc(T c:List Int)(x:Int):doneOf T (c++[x])=(doneOf T c||T.contains x):=by
 unfold doneOf;rw[List.any_append];simp
section
variable {L:List Nat}{T:List Int}{U:Nat->Prop}
theorem lit_neg_neg(i:Nat):- litAt (opp i)=litAt i:=by rw[litAt_opp,Int.neg_neg]
theorem conflict_ends(hU:∀i,i<24->UOf T i->U i){c:Nat}(hcL:c∈L)(hc:c<2 ^ 24)(hd:doneOf T (litsOf c)=false)(ho:openOf T (litsOf c)=[]):¬Stable L U:=by
 intro hs
 obtain⟨⟨i,hi,hn⟩,_⟩:=hs c hcL
 have hi24:i<24:=by
  rcases Nat.lt_or_ge i 24 with h|h
  ·exact h
  ·rw[Nat.testBit_lt_two_pow (Nat.lt_of_lt_of_le hc (Nat.pow_le_pow_right (by decide) h))]at hi;cases hi
 have hm:=(mem_litsOf c i hi24).2 hi
 have h1:=List.filter_eq_nil_iff.1 ho _ hm
 have h2:=List.any_eq_false.1 hd _ hm
 apply hn
 apply hU i hi24
 unfold UOf
 simp at h1 h2
 by_cases h3:- litAt i∈T
 ·exact h3
 ·exact absurd (h1 h3) h2
theorem unit_goes(hU:∀i,i<24->UOf T i->U i)(hs:Stable L U){c:Nat}(hcL:c∈L)(hc:c<2 ^ 24)(hd:doneOf T (litsOf c)=false){x:Int}(ho:openOf T (litsOf c)=[x]):
  ∃i,i<24/\x=litAt i/\U (opp i):=by
 have hx:x∈openOf T (litsOf c):=by rw[ho];simp
 have hxm:x∈litsOf c:=(List.mem_filter.1 hx).1
 obtain⟨i,hi24,rfl,hi⟩:=litsOf_mem hxm
 refine⟨i,hi24,rfl,?_⟩
 have others:∀j,c.testBit j=true->j≠i->U j:=by
  intro j hj hne
  have hj24:j<24:=by
   rcases Nat.lt_or_ge j 24 with h|h
   ·exact h
   ·rw[Nat.testBit_lt_two_pow (Nat.lt_of_lt_of_le hc (Nat.pow_le_pow_right (by decide) h))]at hj;cases hj
  have hm:=(mem_litsOf c j hj24).2 hj
  have h2:=List.any_eq_false.1 hd _ hm
  apply hU j hj24
  unfold UOf
  by_cases h3:- litAt j∈T
  ·exact h3
  ·exfalso
   have:litAt j∈openOf T (litsOf c):=by
    unfold openOf
    refine List.mem_filter.2 ⟨hm,?_⟩
    simp at h2⊢
    exact⟨h3,h2⟩
   rw[ho]at this
   simp at this
   exact hne (litAt_inj this)
 obtain⟨⟨k,hk,hkn⟩,hun⟩:=hs c hcL
 by_cases hki:k=i
 ·subst hki
  exact hun k hk hkn others
 ·exact absurd (others k hk hki) hkn
theorem fixed_stable(hcons:Cons T)(hL:∀c,c∈L->c<2 ^ 24)(h:∀c,c∈L->doneOf T (litsOf c)=true∨2<=(openOf T (litsOf c)).length):Stable L (fun i=>UOf T i):=by
 intro c hc
 have h24:∀j,c.testBit j=true->j<24:=fun j hj=>by
  rcases Nat.lt_or_ge j 24 with h|h
  ·exact h
  ·rw[Nat.testBit_lt_two_pow (Nat.lt_of_lt_of_le (hL c hc) (Nat.pow_le_pow_right (by decide) h))]at hj;cases hj
 rcases h c hc with hd|ho
 ·obtain⟨x,hx,hxT⟩:=List.any_eq_true.1 hd
  obtain⟨i,hi24,rfl,hi⟩:=litsOf_mem hx
  have hxT':litAt i∈T:=by simpa using hxT
  have hni:¬UOf T i:=fun h'=>hcons _ hxT' h'
  refine⟨⟨i,hi,hni⟩,fun j hj hnj hoth=>?_⟩
  have:j=i:=by
   by_cases e:j=i
   ·exact e
   ·exact absurd (hoth i hi (fun e'=>e e'.symm)) hni
  subst this
  show-litAt (opp j)∈T
  rw[lit_neg_neg]
  exact hxT'
 ·match hl:openOf T (litsOf c),ho with
  | a::b::r,_=>
   have ha:a∈openOf T (litsOf c):=by rw[hl];simp
   have hb:b∈openOf T (litsOf c):=by rw[hl];simp
   have hab:a≠b:=by
    have hnd:(openOf T (litsOf c)).Nodup:=by
     unfold openOf litsOf
     refine List.Nodup.sublist List.filter_sublist ?_
     refine List.Pairwise.map litAt (R:=(·≠·)) (fun a b h e=>h (litAt_inj e)) ?_
     exact List.Nodup.sublist List.filter_sublist List.nodup_range
    rw[hl]at hnd
    intro e
    subst e
    simp at hnd
   obtain⟨i,_,rfl,hi⟩:=litsOf_mem (List.mem_filter.1 ha).1
   obtain⟨j,_,rfl,hj⟩:=litsOf_mem (List.mem_filter.1 hb).1
   have hni:¬UOf T i:=by have:=(List.mem_filter.1 ha).2;simp at this;exact this.1
   have hnj:¬UOf T j:=by have:=(List.mem_filter.1 hb).2;simp at this;exact this.1
   refine⟨⟨i,hi,hni⟩,fun k _ _ hoth=>?_⟩
   exfalso
   by_cases e:k=i
   ·subst e;exact hnj (hoth j hj (fun e'=>hab (by rw[e'])))
   ·exact hni (hoth i hi (fun e'=>e e'.symm))
end
def freeOf(T:List Int):Nat:=((List.range 24).filter fun i=>!T.contains (litAt i)).length
theorem filter_less(p:Nat->Bool)(k:Nat):∀l:List Nat,l.Nodup->k∈l->p k=true->(l.filter fun i=>p i&&i != k).length+1=(l.filter p).length:=by
 intro l
 induction l with
 | nil=>intro _ h;cases h
 | cons a r ih=>
  intro hn hm hp
  have hn':=List.nodup_cons.1 hn
  rcases List.mem_cons.1 hm with rfl|hm
  ·have:(r.filter fun i=>p i&&i != k)=r.filter p:=by
    apply List.filter_congr
    intro x hx
    have:x≠k:=fun e=>hn'.1 (e▸hx)
    simp[this]
   simp[hp,this]
  ·have hak:a≠k:=fun e=>hn'.1 (e▸hm)
   have:=ih hn'.2 hm hp
   by_cases hpa:p a=true
   ·simp[hpa,hak];omega
   ·simp[hpa];omega
theorem free_len(T:List Int):T.Nodup->(∀x,x∈T->∃i,i<24/\x=litAt i)->T.length+freeOf T=24:=by
 induction T with
 | nil=>intro _ _;decide
 | cons x T ih=>
  intro hn hx
  have hn':=List.nodup_cons.1 hn
  have h1:=ih hn'.2 (fun y hy=>hx y (by simp[hy]))
  obtain⟨i,hi,rfl⟩:=hx x (by simp)
  have h2:=filter_less (fun j=>!T.contains (litAt j)) i (List.range 24) List.nodup_range (List.mem_range.2 hi) (by simpa using hn'.1)
  have h3:freeOf (litAt i::T)+1=freeOf T:=by
   unfold freeOf
   rw[←h2]
   congr 2
   apply List.filter_congr
   intro j _
   rw[Bool.eq_iff_iff]
   simp
   constructor
   ·rintro⟨ha,hb⟩
    exact⟨hb,fun e=>ha (by rw[e])⟩
   ·rintro⟨ha,hb⟩
    exact⟨fun e=>hb (litAt_inj e),ha⟩
  simp only[List.length_cons]
  omega
structure Taken(L:List Nat)(m:Nat)(T:List Int):Prop where
 nodup:T.Nodup
 lits:∀x,x∈T->∃i,i<24/\x=litAt i
 cons:Cons T
 has:∀i,i<24->m.testBit i=true->UOf T i
 least:∀U:Nat->Prop,(∀i,m.testBit i=true->U i)->Stable L U->∀i,i<24->UOf T i->U i
theorem Taken.len{L:List Nat}{m:Nat}{T:List Int}(h:Taken L m T):T.length<=24:=by have:=free_len T h.nodup h.lits;omega
theorem taken_start{L:List Nat}{m:Nat}(h:¬∃i,m.testBit i=true/\m.testBit (opp i)=true):Taken L m ((litsOf m).map fun x=>-x):=by
 refine⟨?_,?_,?_,?_,?_⟩
 ·refine List.Pairwise.map _ (R:=(·≠·)) (fun a b hab e=>hab (by omega)) ?_
  unfold litsOf
  refine List.Pairwise.map litAt (R:=(·≠·)) (fun a b h e=>h (litAt_inj e)) ?_
  exact List.Nodup.sublist List.filter_sublist List.nodup_range
 ·intro x hx
  obtain⟨y,hy,rfl⟩:=List.mem_map.1 hx
  obtain⟨i,hi,rfl,_⟩:=litsOf_mem hy
  exact⟨opp i,opp_lt hi,(litAt_opp i).symm⟩
 ·intro x hx hx'
  obtain⟨y,hy,rfl⟩:=List.mem_map.1 hx
  obtain⟨z,hz,hzz⟩:=List.mem_map.1 hx'
  obtain⟨i,hi,rfl,hbi⟩:=litsOf_mem hy
  obtain⟨j,hj,rfl,hbj⟩:=litsOf_mem hz
  have e:litAt j=litAt (opp i):=by rw[litAt_opp];omega
  have:=litAt_inj e
  subst this
  exact h ⟨i,hbi,hbj⟩
 ·intro i hi hb
  exact List.mem_map.2 ⟨litAt i,(mem_litsOf m i hi).2 hb,rfl⟩
 ·intro U hU _ i hi hu
  obtain⟨y,hy,he⟩:=List.mem_map.1 hu
  obtain⟨j,_,rfl,hbj⟩:=litsOf_mem hy
  have:j=i:=litAt_inj (by omega)
  subst this
  exact hU j hbj
theorem Taken.more{L:List Nat}{m:Nat}{T:List Int}(h:Taken L m T){c:Nat}(hcL:c∈L)(hc:c<2 ^ 24)(hd:doneOf T (litsOf c)=false){x:Int}(ho:openOf T (litsOf c)=[x]):Taken L m (T++[x]):=by
 have hxo:x∈openOf T (litsOf c):=by rw[ho];simp
 have hxp:=(List.mem_filter.1 hxo).2
 simp at hxp
 obtain⟨i,hi,rfl,_⟩:=litsOf_mem (List.mem_filter.1 hxo).1
 refine⟨?_,?_,?_,?_,?_⟩
 ·rw[List.nodup_append]
  refine⟨h.nodup,by simp,fun a ha b hb e=>?_⟩
  simp at hb;subst hb;subst e;exact hxp.2 ha
 ·intro y hy
  rcases List.mem_append.1 hy with hy|hy
  ·exact h.lits y hy
  ·simp at hy;exact⟨i,hi,hy⟩
 ·intro y hy hy'
  rcases List.mem_append.1 hy with hy|hy<;>rcases List.mem_append.1 hy' with hy'|hy'
  ·exact h.cons y hy hy'
  ·simp at hy'
   have:y=- litAt i:=by omega
   subst this;exact hxp.1 hy
  ·simp at hy;subst hy;exact hxp.1 hy'
  ·simp at hy hy'
   have:litAt i≠0:=by unfold litAt;split<;>omega
   omega
 ·intro j hj hb
  exact List.mem_append_left _ (h.has j hj hb)
 ·intro U hU hs j hj hu
  rcases List.mem_append.1 hu with hu|hu
  ·exact h.least U hU hs j hj hu
  ·simp at hu
   obtain⟨k,hk,hxk,hUk⟩:=unit_goes (T:=T) (fun i hi' hu'=>h.least U hU hs i hi' hu') hs hcL hc hd ho
   have:k=i:=litAt_inj hxk.symm
   subst this
   have e:litAt j=litAt (opp k):=by rw[litAt_opp];omega
   rw[litAt_inj e]
   exact hUk
theorem Taken.conflict{L:List Nat}{m:Nat}{T:List Int}(h:Taken L m T){c:Nat}(hcL:c∈L)(hc:c<2 ^ 24)(hd:doneOf T (litsOf c)=false)(ho:openOf T (litsOf c)=[]):Fol L m:=
 .inr fun U hU hs=>conflict_ends (U:=U) (fun i hi hu=>h.least U hU hs i hi hu) hcL hc hd ho hs
theorem Taken.fixed{L:List Nat}{m:Nat}{T:List Int}(h:Taken L m T)(hm:m<2 ^ 24)(hL:∀c,c∈L->c<2 ^ 24)(hno:¬∃i,m.testBit i=true/\m.testBit (opp i)=true)
  (hf:∀c,c∈L->doneOf T (litsOf c)=true∨2<=(openOf T (litsOf c)).length):¬Fol L m:=by
 rintro(hx|hx)
 ·exact hno hx
 ·refine hx (fun i=>UOf T i) (fun i hb=>?_) (fixed_stable h.cons hL hf)
  have hi:i<24:=by
   rcases Nat.lt_or_ge i 24 with h'|h'
   ·exact h'
   ·rw[Nat.testBit_lt_two_pow (Nat.lt_of_lt_of_le hm (Nat.pow_le_pow_right (by decide) h'))]at hb;cases hb
  exact h.has i hi hb
end Go.Proofs.YtekkkoipcghlmaaGreatDoor.Sp
