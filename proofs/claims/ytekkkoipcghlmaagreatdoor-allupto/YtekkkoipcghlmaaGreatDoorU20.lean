import Derived.Test.YtekkkoipcghlmaaGreatDoorU19
set_option linter.all false
namespace Go.Proofs.YtekkkoipcghlmaaGreatDoor
open Go.RowKit
theorem Rep.stored{m:Mem}{cls:List Cl}{tr:Tr}(h:Rep m cls tr)(v:Value)(l:List Int){cls':List Cl}(hl:l=flat cls'):Rep (m.stored v l) cls' tr:=⟨hl,h.order,h.starts,h.len,h.taken,h.free,h.odr,h.ordr⟩
theorem Rep.reasoned{m:Mem}{cls:List Cl}{tr:Tr}(h:Rep m cls tr){i:Nat}{x r0 r:Int}(hi:tr[i]?=some (x,r0))(hx:x≠0/\-12<=x/\x<=12)(hd:∀(j:Nat) (e:Int×Int),tr[j]?=some e->dec e=false)(hr:dec (x,r)=false)(hone:∀(j:Nat) (e:Int×Int),tr[j]?=some e->e.1.natAbs=x.natAbs->j=i):Rep (m.reasoned x.natAbs r) cls (tr.set i (x,r)):=by
 have hil:=(List.getElem?_eq_some_iff.1 hi).1
 have hd':∀(j:Nat) (e:Int×Int),(tr.set i (x,r))[j]?=some e->dec e=false:=fun j e hj=>by
  rcases eE hj with⟨rfl,_,rfl⟩|⟨_,hj⟩
  ·exact hr
  ·exact hd j e hj
 have z1:=eL hd
 have z2:=eL hd'
 have s1:bB tr=[]:=List.length_eq_zero_iff.1 (by rw[dB];exact z1)
 have s2:bB (tr.set i (x,r))=[]:=List.length_eq_zero_iff.1 (by rw[dB];exact z2)
 have l0:∀j,Go.Proofs.YtekkkoipcghlmaaGreatDoor.lev tr j=0:=fun j=>by have:=eX tr j;omega
 have l1:∀j,Go.Proofs.YtekkkoipcghlmaaGreatDoor.lev (tr.set i (x,r)) j=0:=fun j=>by have:=eX (tr.set i (x,r)) j;omega
 have hlen:=h.len
 have t0:∀v,v<13->(m.reasoned x.natAbs r).truth v=m.truth v/\(m.reasoned x.natAbs r).level v=m.level v/\(m.reasoned x.natAbs r).reason v=if v=x.natAbs then r else m.reason v:=fun v hv=>by
  show(((m.facts.set (x.natAbs*3+2) r)[v*3]?).getD 0=_)/\(((m.facts.set (x.natAbs*3+2) r)[v*3+1]?).getD 0=_)/\(((m.facts.set (x.natAbs*3+2) r)[v*3+2]?).getD 0=_)
  rw[List.getElem?_set_ne (by omega),List.getElem?_set_ne (by omega)]
  refine⟨rfl,rfl,?_⟩
  by_cases e:v=x.natAbs
  ·rw[if_pos e,e,List.getElem?_set_self (by omega)];rfl
  ·rw[if_neg e,List.getElem?_set_ne (by omega)];rfl
 refine⟨h.store,?_,?_,?_,fun j e hj=>?_,fun v a b c=>?_,h.odr,h.ordr⟩
 ·show m.order=_
  rw[h.order,List.map_set,nK]
  rw[List.getElem?_map,hi];rfl
 ·show m.starts=_
  rw[h.starts,s1,s2]
 ·show(m.facts.set _ _).length=39
  rw[List.length_set];exact hlen
 ·rcases eE hj with⟨rfl,_,rfl⟩|⟨hne,hj⟩
  ·obtain⟨a1,a2,a3⟩:=t0 x.natAbs (by omega)
   obtain⟨b1,b2,b3⟩:=h.taken j _ hi
   show(m.reasoned x.natAbs r).truth x.natAbs=x/\(m.reasoned x.natAbs r).level x.natAbs=_/\(m.reasoned x.natAbs r).reason x.natAbs=r
   rw[a1,a2,a3,if_pos rfl,l1]
   rw[l0]at b2
   exact⟨b1,b2,rfl⟩
  ·obtain⟨b1,b2,b3⟩:=h.taken j e hj
   have hne':e.1.natAbs≠x.natAbs:=fun he=>hne (hone j e hj he)
   have hlt:e.1.natAbs<13:=by
    rcases Nat.lt_or_ge e.1.natAbs 13 with h'|h'
    ·exact h'
    ·have:m.truth e.1.natAbs=0:=by
      unfold Mem.truth
      rw[List.getElem?_eq_none (by omega)];rfl
     omega
   obtain⟨a1,a2,a3⟩:=t0 e.1.natAbs hlt
   rw[a1,a2,a3,if_neg hne',l1]
   rw[l0]at b2
   exact⟨b1,b2,b3⟩
 ·obtain⟨a1,-,-⟩:=t0 v b
  rw[a1]
  refine h.free v a b (fun j e hj he=>?_)
  by_cases hji:j=i
  ·subst hji
   rw[hi]at hj
   cases hj
   exact c j (x,r) (by rw[List.getElem?_set_self hil]) he
  ·exact c j e (by rw[List.getElem?_set_ne (fun h=>hji h.symm)];exact hj) he
structure DUAt(base:Nat)(w:World)(m0:Mem)(old:List Cl)(ov:Value)(ng:Nat)(tr0:Tr)(G:List Nat)(k:Nat)(wr:World)(m:Mem)(new:List Cl)(tr:Tr)(S:List (Bool×List Int)):Prop where
 em:EMut base w m0 [] wr m [aB ov (flat old)]
 rep:Rep m new tr
 du:DU old ng tr0 k new tr
 all:m.all=m0.all
 places:m.places=m0.places
 core:m.core=m0.core
 passed:m.passed=m0.passed
 steps:StepsAt base wr m S
 chain:Chain G (bH S) (((dbOf new).drop ng).map Sp.maskOf++((dbOf old).drop (ng+k)).map Sp.maskOf)
 nst:m.nsteps+new.length=m0.nsteps+ng+k
 swf:∀s,s∈S->aM s.2
section
variable {base:Nat}{w wr wr' wr2:World}{m0 m:Mem}{old new:List Cl}{ov:Value}{ng k:Nat}{tr0 tr:Tr}{G:List Nat}{S:List (Bool×List Int)}{cl:Cl}{c:Nat}
theorem EMut.rowMut{m m':Mem}{r:Row}(h:EMut base w m [] wr m' [r]):Mut base w m wr m':=(h.trans (EMut.drop (E:=[]) h.eat)).mut
theorem DUAt.row(h:DUAt base w m0 old ov ng tr0 G k wr m new tr S):wr.ownsRow base 3 1 ov (flat old).length (ints (flat old)):=h.em.eat.row (i:=0) rfl
theorem DUAt.below(h:DUAt base w m0 old ov ng tr0 G k wr m new tr S)(hb:Below wr.heap.size wr wr'):DUAt base w m0 old ov ng tr0 G k wr' m new tr S:=
 ⟨h.em.trans (EMut.below h.em.eat hb),h.rep,h.du,h.all,h.places,h.core,h.passed,h.steps.keep (PMut.below h.em.at.pack hb) rfl,h.chain,h.nst,h.swf⟩
theorem DUAt.lits(h:DUAt base w m0 old ov ng tr0 G k wr m new tr S)(hc:old[c]?=some cl)(hn:cl.lits≠[]):∃g cap,ov=.slice (some ⟨g,0,none⟩) (flat old).length cap/\StepAt base wr m (cI g (pos old c) cl.lits.length) cl.lits:=by
 obtain⟨g,cap,hv,hcap,hg,hroom,-,-,hl⟩:=gL base ov old c cl wr h.row hc
 have hp:0<cl.lits.length:=List.length_pos_iff.2 hn
 refine⟨g,cap,hv,?_,fun k hk=>?_,fun k hk=>?_⟩
 ·unfold cI
  rw[if_neg (by omega)]
  refine .inr ⟨g,pos old c+2,cl.lits.length,by rw[cA];exact hp,by rw[cA],hg,fun j x hx=>?_⟩
  have hj:=(List.getElem?_eq_some_iff.1 hx).1
  rw[cA]at hj
  rw[hl j hj,←hx]
  unfold ints
  rw[List.getElem?_map,List.getElem?_eq_getElem hj]
  rfl
 ·have:k=g:=by
   unfold cI at hk
   split at hk<;>(simp[Value.ownBlock]at hk;exact hk.symm)
  subst this
  exact⟨fun hf=>h.em.eat.pack.not_both hf ⟨0,_,rfl,by show ov.ownBlock=_;rw[hv];rfl⟩,hg⟩
 ·have:k=g:=by
   unfold cI at hk
   split at hk<;>(simp[Value.ownBlock]at hk;exact hk.symm)
  subst this
  have hro:=h.row
  exact(hro.lt k (by rw[hv];rfl)).1
theorem uJ(hc:old[ng+k]?=some cl):((dbOf old).drop (ng+k)).map Sp.maskOf=Sp.maskOf cl.lits::((dbOf old).drop (ng+(k+1))).map Sp.maskOf:=by
 have hlt:=(List.getElem?_eq_some_iff.1 hc).1
 have hd:ng+k<(dbOf old).length:=by unfold dbOf;rw[List.length_map];exact hlt
 have he:(dbOf old)[ng+k]=cl.lits:=by
  have:(dbOf old)[ng+k]?=some cl.lits:=by unfold dbOf;rw[List.getElem?_map,hc];rfl
  rw[List.getElem?_eq_getElem hd]at this
  simpa using this
 rw[List.drop_eq_getElem_cons hd,he]
 rfl
theorem DUAt.goes(h:DUAt base w m0 old ov ng tr0 G k wr m new tr S)(hc:old[ng+k]?=some cl)(hn:¬∃(i:Nat) (e0:Int×Int),tr0[i]?=some e0/\e0.2=(pos old (ng+k):Int)){v val:Value}(hwf:aM cl.lits)(hv:StepAt base wr m val cl.lits)(hm:Mut base wr m wr' (m.stepped v (m.steps++[val,.bool true]) (m.nsteps+1))):
  DUAt base w m0 old ov ng tr0 G (k+1) wr' (m.stepped v (m.steps++[val,.bool true]) (m.nsteps+1)) new tr (S++[(true,cl.lits)]):=by
 refine⟨h.em.trans (EMut.call h.em.eat hm),⟨h.rep.store,h.rep.order,h.rep.starts,h.rep.len,h.rep.taken,h.rep.free,h.rep.odr,h.rep.ordr⟩,h.du.drop hc hn,h.all,h.places,h.core,h.passed,h.steps.add hm.to rfl rfl (hv.keep hm.to),?_,?_,fun s hs=>?_⟩
 rotate_right
 ·rcases List.mem_append.1 hs with h'|h'
  ·exact h.swf s h'
  ·simp at h';subst h';exact hwf
 ·have:=h.chain
  rw[uJ hc]at this
  rw[iW]
  exact Chain.go this
 ·show m.nsteps+1+new.length=_
  have:=h.nst
  omega
theorem uI(new:List Cl)(l:List Int):flat new++[(l.length:Int),0]++l=flat (new++[⟨false,l⟩]):=by
 rw[cD,dI,fT,List.append_nil]
 simp[Cl.cells]
theorem oA(hc:old[ng+k]?=some cl)(hng:ng<=new.length):((dbOf (new++[⟨false,cl.lits⟩])).drop ng).map Sp.maskOf++((dbOf old).drop (ng+(k+1))).map Sp.maskOf=((dbOf new).drop ng).map Sp.maskOf++((dbOf old).drop (ng+k)).map Sp.maskOf:=by
 rw[uJ hc,jP,jS (by unfold dbOf;rw[List.length_map];exact hng),List.map_append,List.append_assoc]
 rfl
theorem DUAt.stays(h:DUAt base w m0 old ov ng tr0 G k wr m new tr S)(hc:old[ng+k]?=some cl)(hn:¬∃(i:Nat) (e0:Int×Int),tr0[i]?=some e0/\e0.2=(pos old (ng+k):Int)){v:Value}(hm:Mut base wr m wr' (m.stored v (m.store++[(cl.lits.length:Int),0]++cl.lits))):
  DUAt base w m0 old ov ng tr0 G (k+1) wr' (m.stored v (m.store++[(cl.lits.length:Int),0]++cl.lits)) (new++[⟨false,cl.lits⟩]) tr S:=by
 refine⟨h.em.trans (EMut.call h.em.eat hm),h.rep.stored _ _ (by rw[h.rep.store,uI]),h.du.keep hc hn,h.all,h.places,h.core,h.passed,h.steps.keep hm.to rfl,?_,?_,h.swf⟩
 ·rw[oA hc h.du.ngle];exact h.chain
 ·show m.nsteps+(new++[(⟨false,cl.lits⟩:Cl)]).length=_
  have:=h.nst
  simp
  omega
theorem DUAt.moves(h:DUAt base w m0 old ov ng tr0 G k wr m new tr S)(hT:TrOK old tr0)(h0:levels tr0=0)(hc:old[ng+k]?=some cl){i:Nat}{x:Int}(hi:tr[i]?=some (x,(pos old (ng+k):Int))){v:Value}(hm:Mut base wr m wr' (m.stored v (m.store++[(cl.lits.length:Int),0]++cl.lits)))(hm2:Mut base wr' (m.stored v (m.store++[(cl.lits.length:Int),0]++cl.lits)) wr2 ((m.stored v (m.store++[(cl.lits.length:Int),0]++cl.lits)).reasoned x.natAbs ((flat new).length:Int))):
  DUAt base w m0 old ov ng tr0 G (k+1) wr2 ((m.stored v (m.store++[(cl.lits.length:Int),0]++cl.lits)).reasoned x.natAbs ((flat new).length:Int)) (new++[⟨false,cl.lits⟩]) (tr.set i (x,((flat new).length:Int))) S:=by
 have hm3:=hm.trans hm2
 obtain⟨e0,he0⟩:=dM h.du.len hi
 have hx:x≠0/\-12<=x/\x<=12:=by
  have h1:=h.du.fst i _ e0 hi he0
  have h2:=hT.bd i e0 he0
  simp only at h1
  rw[h1];exact h2
 refine⟨h.em.trans (EMut.call h.em.eat hm3),(h.rep.stored v _ (cls':=new++[⟨false,cl.lits⟩]) (by rw[h.rep.store,uI])).reasoned hi hx (h.du.level hT h0) (by simp[dec]) (fun j e hj he=>?_),h.du.move hT h0 hc hi,h.all,h.places,h.core,h.passed,h.steps.keep hm3.to rfl,?_,?_,h.swf⟩
 ·obtain⟨f0,hf0⟩:=dM h.du.len hj
  refine hT.one hf0 he0 ?_
  have h1:=h.du.fst i _ e0 hi he0
  have h2:=h.du.fst j e f0 hj hf0
  simp only at h1
  rw[←h1,←h2,he]
 ·rw[oA hc h.du.ngle];exact h.chain
 ·show m.nsteps+(new++[(⟨false,cl.lits⟩:Cl)]).length=_
  have:=h.nst
  simp
  omega
end
end Go.Proofs.YtekkkoipcghlmaaGreatDoor
namespace Go.Proofs.YtekkkoipcghlmaaGreatDoor
open Go.RowKit
attribute [local go_sem ↓] Go.wp_at_zero Go.wp_at_succ
theorem PMut.nils{base:Nat}{w:World}{L L':List Row}(hp:Pack base w L)(h:∀(i:Nat) r',L'[i]?=some r'->L[i]?=some r'∨(r'.v.ownBlock=none/\r'.ok base w)):PMut base w L w L':=by
 refine⟨⟨fun i r hi=>?_,fun i j r r' g hi hj hr hr'=>?_⟩,Only.refl _ _,?_⟩
 ·rcases h i r hi with h1|⟨-,h1⟩
  ·exact hp.rows i r h1
  ·exact h1
 ·rcases h i r hi with h1|⟨h1,-⟩
  ·rcases h j r' hj with h2|⟨h2,-⟩
   ·exact hp.apart i j r r' g h1 h2 hr hr'
   ·rw[h2]at hr';cases hr'
  ·rw[h1]at hr;cases hr
 ·rintro k ⟨i,r,hi,hr⟩
  rcases h i r hi with h1|⟨h1,-⟩
  ·exact .inl ⟨i,r,h1,hr⟩
  ·rw[h1]at hr;cases hr
theorem Tryz.underLists:Tryz.prog.underlying 104=some (.slice 227):=by kernel_rfl
theorem Tryz.infoList:(Tryz.prog.info? 227).map (fun i=>(i.zero,i.size,i.bytes))=some (some (.slice none 0 0),1,24):=by kernel_rfl
theorem Tryz.make25(w:World):(Instr.makeSlice 104 (.int .i64 25) (.int .i64 25)).run Tryz.prog w=.ok (.slice (some ⟨w.heap.size,0,none⟩) 25 25) (w.alloc (.cells (madeCells #[.slice none 0 0] 25) 227)):=
 run_make_row' (P:=Tryz.prog) 104 227 (.slice none 0 0) 24 Tryz.underLists Tryz.infoList rfl .i64 .i64 25 (by decide) (by decide) w
theorem made25:(madeCells #[.slice none 0 0] 25).toList=List.replicate 25 (.slice none 0 0):=by rw[toList_madeCells_one]
set_option maxRecDepth 100000 in
set_option maxHeartbeats 1600000 in
theorem jA(w:World):
  Calls Tryz.prog 63 #[.int .i64 12] w fun e w'=>∃g,e=.returned (.agg #[.int .i64 12,.slice (some ⟨g,0,none⟩) 25 25])/\w.heap.size<=g/\(∀base,base<=w.heap.size->w'.ownsRow base 227 1 (.slice (some ⟨g,0,none⟩) 25 25) 25 (List.replicate 25 (.slice none 0 0)))/\Below w.heap.size w w':=by
 have hmk:=Tryz.make25
 go_enter Tryz.func63,Tryz.ntmps63
 go_wp2
 try go_returns
 have h:=eV (w:=w.alloc (.cells #[.int .i64 12,.slice (some ⟨w.heap.size+1,0,none⟩) 25 25] 106))
 refine⟨w.heap.size+1,rfl,by omega,fun base hb=>?_,((Below.refl _ _).alloc (Nat.le_refl _) _).trans ((Below.refl _ _).alloc (by simp) _)⟩
 have h1:=h base (by simp;omega) 227 (madeCells #[.slice none 0 0] 25) 25 (by simp[madeCells]) (by omega)
 rw[made25]at h1
 simpa using h1
def KeptW(m0 m:Mem):Prop:=m={ m0 with wl:=m.wl,ws:=m.ws,lists:=m.lists }
theorem KeptW.trans{a b c:Mem}(h:KeptW a b)(h':KeptW b c):KeptW a c:=by
 unfold KeptW at h h'⊢
 rw[h]at h'
 exact h'
theorem Watched.keptW{m m':Mem}{l:List Int}{p:Int}(h:Watched m m' l p):KeptW m m':=by
 cases l with
 | nil=>unfold Watched at h;subst h;rfl
 | cons a t=>
  cases t with
  | nil=>unfold Watched at h;subst h;rfl
  | cons b r=>obtain⟨v1,v2,rfl⟩:=h;rfl
theorem KeptW.rep{a b:Mem}{cls:List Cl}{tr:Tr}(h:KeptW a b)(hR:Rep a cls tr):Rep b cls tr:=by
 unfold KeptW at h
 rw[h]
 exact⟨hR.store,hR.order,hR.starts,hR.len,hR.taken,hR.free,hR.odr,hR.ordr⟩
def Mem.noWatch(m:Mem)(v:Value):Mem:={ m with wl:=v,ws:=List.replicate 25 (.slice none 0 0),lists:=List.replicate 25 [] }
theorem Mut.noWatch{base:Nat}{w w1:World}{m:Mem}(h:SAt base w m){g:Nat}(hown:w1.ownsRow base 227 1 (.slice (some ⟨g,0,none⟩) 25 25) 25 (List.replicate 25 (.slice none 0 0)))(hg:w.heap.size<=g)(hb:Below w.heap.size w w1):
  Mut base w m ((w1.setCell ⟨m.s,1,none⟩ (.int .i64 12)).setCell ⟨m.s,2,none⟩ (.slice (some ⟨g,0,none⟩) 25 25)) (m.noWatch (.slice (some ⟨g,0,none⟩) 25 25)):=by
 have hz:∀(i:Nat) (x:Value×List Int),((List.replicate 25 (Value.slice none 0 0)).zip (List.replicate 25 ([]:List Int)))[i]?=some x->x=(.slice none 0 0,[]):=fun i x hx=>by
  rw[List.zip_replicate]at hx
  rw[List.getElem?_replicate]at hx
  split at hx
  ·simpa using hx.symm
  ·cases hx
 have h1:PMut base w m.rows w (m.rows.take 13++((List.replicate 25 (Value.slice none 0 0)).zip (List.replicate 25 ([]:List Int))).map bW):=PMut.nils h.pack (fun i r' hi=>by
  have hl:(m.rows.take 13).length=13:=rfl
  by_cases hlt:i<13
  ·rw[List.getElem?_append_left (by omega),List.getElem?_take_of_lt hlt]at hi
   exact .inl hi
  ·rw[List.getElem?_append_right (by omega),hl,List.getElem?_map]at hi
   cases hx:((List.replicate 25 (Value.slice none 0 0)).zip (List.replicate 25 ([]:List Int)))[i-13]? with
   | none=>rw[hx]at hi;cases hi
   | some x=>
    rw[hx,hz _ x hx]at hi
    simp at hi
    subst hi
    exact .inr ⟨rfl,cW _ _ _⟩)
 have h2:=PMut.row h1.pack (i:=4) (r':=⟨227,1,.slice (some ⟨g,0,none⟩) 25 25,25,List.replicate 25 (.slice none 0 0)⟩) rfl hown ⟨hb.os,hb.tape,hb.output,hb.size,fun k hk _=>hb.block k hk⟩ (.inr (.inr ⟨g,rfl,hg⟩))
 have h3:=PMut.store h2.pack (i:=0) rfl rfl 1 (.int .i64 12)
 have h4:=PMut.store h3.pack (i:=0) rfl rfl 2 (.slice (some ⟨g,0,none⟩) 25 25)
 exact⟨h1.trans (h2.trans (h3.trans h4)),rfl,rfl,h.counts,h.places,rfl,rfl,rfl⟩
structure WAt(base:Nat)(w:World)(m:Mem)(cls:List Cl)(k:Nat)(wr:World)(mk:Mem)(wat:Int->List Int):Prop where
 mu:Mut base w m wr mk
 kept:KeptW m mk
 watAt:eJ mk wat
 lists:∀l,(wat l).Nodup/\∀p,p∈wat l↔Watcher (cls.take k) l p
theorem WAt.begin{base:Nat}{w w1:World}{m:Mem}{cls:List Cl}{v:Value}(h:Mut base w m w1 (m.noWatch v)):WAt base w m cls 0 w1 (m.noWatch v) (fun _=>[]):=by
 refine⟨h,rfl,fun l h0 h1=>?_,fun l=>⟨List.nodup_nil,fun p=>⟨fun h=>(by cases h),?_⟩⟩⟩
 ·show(List.replicate 25 ([]:List Int))[(l+12).toNat]?=some []
  rw[List.getElem?_replicate,if_pos (by omega)]
 ·rintro⟨c,d,hc,-⟩
  simp at hc
theorem WAt.next{base:Nat}{w wr wr':World}{m mk m':Mem}{cls:List Cl}{k:Nat}{wat:Int->List Int}{cl:Cl}(h:WAt base w m cls k wr mk wat)(hc:cls[k]?=some cl)(hwf:aM cl.lits)(hm:Mut base wr mk wr' m')(hw:Watched mk m' cl.lits (pos cls k:Int)):WAt base w m cls (k+1) wr' m' (eR wat cl.lits (pos cls k:Int)):=by
 have hlt:=(List.getElem?_eq_some_iff.1 hc).1
 have hcl:cls[k]=cl:=by rw[List.getElem?_eq_getElem hlt]at hc;simpa using hc
 refine⟨h.mu.trans hm,h.kept.trans hw.keptW,mL h.watAt hw hwf h.mu.ls,?_⟩
 have:=kL h.lists cl
 rw[List.take_succ_eq_append_getElem hlt,hcl]
 exact this
set_option maxRecDepth 100000 in
set_option maxHeartbeats 32000000 in
theorem pN(base:Nat)(m:Mem)(cls:List Cl)(w:World)(hS:SAt base w m)(hf:m.store=flat cls)(hwf:∀(c:Nat) cl,cls[c]?=some cl->aM cl.lits)(hsz:m.store.length<=9000000)(hbs:base<=w.heap.size):
  Calls Tryz.prog 167 #[.pointer (some ⟨m.s,0,none⟩)] w fun e w'=>e=.returned (.tuple #[])/\∃mk wat,WAt base w m cls cls.length w' mk wat:=by
 have hc1:w.cell? ⟨m.s,1,none⟩=some (.int .i64 12):=by rw[hS.cell 1 (by decide)];rfl
 have hsl:=hS.lt.1
 have HNW:=aq (jA w)
 have HST:Hid (∀w1 g,w.heap.size<=g->(∀base,base<=w.heap.size->w1.ownsRow base 227 1 (.slice (some ⟨g,0,none⟩) 25 25) 25 (List.replicate 25 (.slice none 0 0)))->Below w.heap.size w w1->(∃v,w1.cell? ⟨m.s,1,none⟩=some v)/\(∃v,w1.cell? ⟨m.s,2,none⟩=some v)/\w1.frozen? ⟨m.s,1,none⟩=false/\w1.frozen? ⟨m.s,2,none⟩=false/\∃mk wat,WAt base w m cls 0 ((w1.setCell ⟨m.s,1,none⟩ (.int .i64 12)).setCell ⟨m.s,2,none⟩ (.slice (some ⟨g,0,none⟩) 25 25)) mk wat):=aq (by
  intro w1 g hg hown hb
  have hS1:=hS.below hb
  refine⟨⟨_,hS1.cell 1 (by decide)⟩,⟨_,hS1.cell 2 (by decide)⟩,hS1.free 1,hS1.free 2,_,_,WAt.begin (Mut.noWatch hS (hown base hbs) hg hb)⟩)
 have HRD:Hid (∀k wr mk wat,WAt base w m cls k wr mk wat->wr.cell? ⟨m.s,0,none⟩=some mk.cl/\∃ao cap,mk.cl=.slice ao (flat cls).length cap):=aq (by
  intro k wr mk wat h
  have e1:mk.store=m.store:=by rw[h.kept]
  refine⟨by rw[←h.mu.s,h.mu.at.cell 0 (by decide)];rfl,?_⟩
  obtain⟨ao,cp,hsh⟩:=aC (h.mu.at.pack.rows 3 _ rfl)
  refine⟨ao,cp,?_⟩
  rw[hf]at e1
  rw[←e1]
  exact hsh)
 have HWA:Hid (∀k wr mk wat cl,WAt base w m cls k wr mk wat->cls[k]?=some cl->Calls Tryz.prog 111 #[.pointer (some ⟨m.s,0,none⟩),.int .i64 (pos cls k:Int)] wr fun e w'=>e=.returned (.tuple #[])/\∃m' wat',WAt base w m cls (k+1) w' m' wat'):=aq (by
  intro k wr mk wat cl h hc
  have e1:mk.store=m.store:=by rw[h.kept]
  have hlt:=(List.getElem?_eq_some_iff.1 hc).1
  have:=qF base mk cls k cl wr h.mu.at (by rw[e1];exact hf) hc (by rw[e1];omega) (hwf k cl hc) (Nat.le_trans hbs h.mu.to.only.size) (jH h.lists h.watAt h.mu.ls (by
   have:=kI cls k
   unfold pos at this
   rw[hf]at hsz
   omega))
  rw[h.mu.s]at this
  refine this.mono (fun e w' hh=>?_)
  obtain⟨h1,m',h2,h3⟩:=hh
  exact⟨h1,m',_,h.next hc (hwf k cl hc) h2 h3⟩)
 have HBE:Hid (∀j k wr mk wat cl,WAt base w m cls j wr mk wat->cls[k]?=some cl->Calls Tryz.prog 156 #[mk.cl,.int .i64 (pos cls k:Int)] wr fun e w'=>e=.returned (.int .i64 (pos cls (k+1):Int))/\w'=wr):=aq (by
  intro j k wr mk wat cl h hc
  have e1:mk.store=m.store:=by rw[h.kept]
  have hlt:=(List.getElem?_eq_some_iff.1 hc).1
  have hcl:cls[k]=cl:=by rw[List.getElem?_eq_getElem hlt]at hc;simpa using hc
  have:=nV base mk cls k cl wr h.mu.at (by rw[e1];exact hf) hc (by rw[e1];omega)
  rw[show pos cls k+2+cl.lits.length=pos cls (k+1) by rw[fR cls k hlt,hcl];omega]at this
  exact this)
 have hPM:Hid (∀k,k<cls.length->pos cls k<pos cls (k+1)/\pos cls (k+1)<=(flat cls).length):=aq (fun k hk=>by
  have h1:=fR cls k hk
  have h2:=kI cls (k+1)
  omega)
 have hPE:Hid (pos cls cls.length=(flat cls).length):=aq (cS cls (Nat.le_refl _))
 have hP0:Hid (pos cls 0=0):=aq (oJ cls)
 have HGET:Hid (∀k,k<cls.length->∃cl,cls[k]?=some cl):=aq (fun k hk=>⟨_,List.getElem?_eq_getElem hk⟩)
 rw[hf]at hsz
 clear hS hf hwf
 generalize hn:(flat cls).length=n at *
 go_enter Tryz.func167,Tryz.ntmps167
 go_wp2_with fail
 refine(dz HNW).mono ?_
 rintro e w1 ⟨g,rfl,hg,hown,hb1⟩
 obtain⟨⟨v1,c11⟩,⟨v2,c12⟩,f11,f12,hW0⟩:=dz HST w1 g hg hown hb1
 have HW0:=aq hW0
 clear hW0 hg hown hb1 HNW HST
 go_wp2
 go_loopw [2] (fun v2 wr=>∃k:Nat,k<=cls.length/\v2=.int .i64 (pos cls k:Int)/\Hid (∃mk wat,WAt base w m cls k wr mk wat)) (fun v2 _=>n+1-(intOf v2).toNat)
 case atStart=>exact⟨0,Nat.zero_le _,by rw[dz hP0];rfl,HW0⟩
 case round=>
  obtain⟨k,hk,rfl,HW⟩:=hrel
  obtain⟨mk,wat,hW⟩:=dz HW
  obtain⟨c0,ao,cp,hsh⟩:=dz HRD k wr mk wat hW
  have HEN:=aq (nI mk.cl ao n cp wr hsh)
  by_cases hkn:k<cls.length
  ·obtain⟨cl,hcl⟩:=dz HGET k hkn
   have HWC:=aq (dz HWA k wr mk wat cl hW hcl)
   obtain⟨hp1,hp2⟩:=dz hPM k hkn
   have hki:(pos cls k:Int)<(n:Int):=by omega
   have HCL:=aq hcl
   clear hW hcl hsh HW HW0
   have HP1:=aq hp1
   have HP2:=aq hp2
   go_wp2_with fail
   refine(dz HEN).mono ?_
   rintro e w3 ⟨rfl,rfl⟩
   go_wp2_with fail
   refine(dz HWC).mono ?_
   rintro e w4 ⟨rfl,m4,wat4,hW4⟩
   obtain⟨c04,-⟩:=dz HRD (k+1) w4 m4 wat4 hW4
   have HBC:=aq (dz HBE (k+1) k w4 m4 wat4 cl hW4 (dz HCL))
   have HW4:=aq hW4
   clear hW4 HWC HEN
   go_wp2_with fail
   refine(dz HBC).mono ?_
   rintro e w5 ⟨rfl,rfl⟩
   go_wp2
   have h1:=dz HP1
   have h2:=dz HP2
   refine⟨⟨k+1,by omega,rfl,aq ⟨m4,wat4,dz HW4⟩⟩,?_⟩
   simp only[intOf,Int.toNat_natCast]
   omega
  ·have hkk:k=cls.length:=by omega
   subst hkk
   have hki:¬(pos cls cls.length:Int)<(n:Int):=by rw[dz hPE];omega
   clear hW hsh HW0
   go_wp2_with fail
   refine(dz HEN).mono ?_
   rintro e w3 ⟨rfl,rfl⟩
   go_wp2
   try go_end0
   exact⟨rfl,dz HW⟩
end Go.Proofs.YtekkkoipcghlmaaGreatDoor
