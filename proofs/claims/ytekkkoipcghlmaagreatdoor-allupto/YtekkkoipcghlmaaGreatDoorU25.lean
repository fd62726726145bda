import Derived.Test.YtekkkoipcghlmaaGreatDoorU24
set_option linter.all false
namespace Go.Proofs.YtekkkoipcghlmaaGreatDoor
open Go.RowKit Go.Shelf
attribute [local go_sem] Oper.semAt_some
def zG(w:World)(A:List Int)(DB:List (List Int))(e:Ending)(w':World):Prop:=
 ∃(v:Value) (blamed:List Int),e=.returned v/\w'.ownsRow w.heap.size 3 1 v (A.filter (fun x=>decide (x∈blamed))).length (ints (A.filter (fun x=>decide (x∈blamed))))/\Below w.heap.size w w'/\(FolI DB ((A.filter (fun x=>decide (x∈blamed))).map (fun x=>-x))∨∃x,x∈A.filter (fun x=>decide (x∈blamed))/\-x∈A.filter (fun x=>decide (x∈blamed)))
def aJ1(act:Act)(wx:World):Exit->Act->World->Prop
 | .normal,a,w=>a=act/\w=wx
 | _,_,_=>False
theorem aO1{P:Program}{c:Code}{Q:Exit->Act->World->Prop}{a:Act}{w:World}(h:∃act wx,c.wp P (aJ1 act wx) a w/\Q .normal act wx):c.wp P Q a w:=by
 obtain⟨act,wx,h1,h2⟩:=h
 refine Code.wp_mono (fun e a' w' he=>?_) h1
 cases e<;>first|exact he.elim|(obtain⟨rfl,rfl⟩:=he;exact h2)
theorem pA{F:Fence}{n:Nat}{P:Program}{c:Code}{Q:Exit->Act->World->Prop}{a:Act}{w:World}(h:∃act wx,c.wpIn F n P (aJ1 act wx) a w/\Q .normal act wx):c.wpIn F n P Q a w:=by
 obtain⟨act,wx,h1,h2⟩:=h
 refine wpIn_mono h1 (fun e a' w' he=>?_)
 cases e<;>first|exact he.elim|(obtain⟨rfl,rfl⟩:=he;exact h2)
theorem aG1(w:World)(s:Nat)(u:Int):Pack w.heap.size (((((w.alloc (.cells #[.pointer (some ⟨s,0,none⟩)] 72)).alloc (.cells #[.int .i64 u] 3)).alloc (.cells #[.slice (some ⟨w.heap.size+1,0,none⟩) 1 1] 25)).alloc (.cells (madeCells #[.bool false] 13) 4)).alloc (.cells #[.slice (some ⟨w.heap.size+1+1+1,0,none⟩) 13 13] 172))
   (bJ w.heap.size (w.heap.size+1+1) (w.heap.size+1+1+1+1) s (.slice (some ⟨w.heap.size+1,0,none⟩) 1 1) (.slice (some ⟨w.heap.size+1+1+1,0,none⟩) 13 13) [u] (List.replicate 13 false))/\
  (((((w.alloc (.cells #[.pointer (some ⟨s,0,none⟩)] 72)).alloc (.cells #[.int .i64 u] 3)).alloc (.cells #[.slice (some ⟨w.heap.size+1,0,none⟩) 1 1] 25)).alloc (.cells (madeCells #[.bool false] 13) 4)).alloc (.cells #[.slice (some ⟨w.heap.size+1+1+1,0,none⟩) 13 13] 172)).heap.size=w.heap.size+5/\
  Below w.heap.size w (((((w.alloc (.cells #[.pointer (some ⟨s,0,none⟩)] 72)).alloc (.cells #[.int .i64 u] 3)).alloc (.cells #[.slice (some ⟨w.heap.size+1,0,none⟩) 1 1] 25)).alloc (.cells (madeCells #[.bool false] 13) 4)).alloc (.cells #[.slice (some ⟨w.heap.size+1+1+1,0,none⟩) 13 13] 172)):=by
 have q0:Pack w.heap.size w []:=⟨fun i r h=>by simp at h,fun i j r r' g h=>by simp at h⟩
 have n1:=eV w.heap.size w (Nat.le_refl _) 72 #[.pointer (some ⟨s,0,none⟩)] 1 rfl (by omega)
 have q1:=q0.add (r:=aI 72 w.heap.size [.pointer (some ⟨s,0,none⟩)]) n1 ((Below.refl _ _).alloc (Nat.le_refl _) _) (fun g hg=>by simp[aI,Value.ownBlock]at hg;omega)
 have z1:(w.alloc (.cells #[.pointer (some ⟨s,0,none⟩)] 72)).heap.size=w.heap.size+1:=by simp
 have b1:Below w.heap.size w (w.alloc (.cells #[.pointer (some ⟨s,0,none⟩)] 72)):=(Below.refl _ _).alloc (Nat.le_refl _) _
 generalize w.alloc (.cells #[.pointer (some ⟨s,0,none⟩)] 72)=w1 at *
 have n2:=eV w.heap.size w1 (by omega) 3 #[.int .i64 u] 1 rfl (by omega)
 rw[z1]at n2
 have q2:=q1.add (r:=aB (.slice (some ⟨w.heap.size+1,0,none⟩) 1 1) [u]) n2 ((Below.refl _ _).alloc (Nat.le_refl _) _) (fun g hg=>by simp[aB,Value.ownBlock]at hg;omega)
 have z2:(w1.alloc (.cells #[.int .i64 u] 3)).heap.size=w.heap.size+2:=by simp;omega
 have b2:Below w.heap.size w (w1.alloc (.cells #[.int .i64 u] 3)):=b1.trans ((Below.refl _ _).alloc (by omega) _)
 generalize w1.alloc (.cells #[.int .i64 u] 3)=w2 at *
 have n3:=eV w.heap.size w2 (by omega) 25 #[.slice (some ⟨w.heap.size+1,0,none⟩) 1 1] 1 rfl (by omega)
 rw[z2]at n3
 have q3:=q2.add (r:=aI 25 (w.heap.size+2) [.slice (some ⟨w.heap.size+1,0,none⟩) 1 1]) n3 ((Below.refl _ _).alloc (Nat.le_refl _) _) (fun g hg=>by simp[aI,Value.ownBlock]at hg;omega)
 have z3:(w2.alloc (.cells #[.slice (some ⟨w.heap.size+1,0,none⟩) 1 1] 25)).heap.size=w.heap.size+3:=by simp;omega
 have b3:Below w.heap.size w (w2.alloc (.cells #[.slice (some ⟨w.heap.size+1,0,none⟩) 1 1] 25)):=b2.trans ((Below.refl _ _).alloc (by omega) _)
 generalize w2.alloc (.cells #[.slice (some ⟨w.heap.size+1,0,none⟩) 1 1] 25)=w3 at *
 have n4:=eV w.heap.size w3 (by omega) 4 (madeCells #[.bool false] 13) 13 (by simp[madeCells]) (by omega)
 rw[z3,nY]at n4
 have q4:=q3.add (r:=aJ (.slice (some ⟨w.heap.size+3,0,none⟩) 13 13) (List.replicate 13 false)) n4 ((Below.refl _ _).alloc (Nat.le_refl _) _) (fun g hg=>by simp[aJ,Value.ownBlock]at hg;omega)
 have z4:(w3.alloc (.cells (madeCells #[.bool false] 13) 4)).heap.size=w.heap.size+4:=by simp;omega
 have b4:Below w.heap.size w (w3.alloc (.cells (madeCells #[.bool false] 13) 4)):=b3.trans ((Below.refl _ _).alloc (by omega) _)
 generalize w3.alloc (.cells (madeCells #[.bool false] 13) 4)=w4 at *
 have n5:=eV w.heap.size w4 (by omega) 172 #[.slice (some ⟨w.heap.size+1+1+1,0,none⟩) 13 13] 1 rfl (by omega)
 rw[z4]at n5
 have q5:=q4.add (r:=aI 172 (w.heap.size+4) [.slice (some ⟨w.heap.size+1+1+1,0,none⟩) 13 13]) n5 ((Below.refl _ _).alloc (Nat.le_refl _) _) (fun g hg=>by simp[aI,Value.ownBlock]at hg;omega)
 refine⟨Pack.pull q5 (fun i=>match i with|0=>0|1=>2|2=>4|3=>1|4=>3|n+5=>n+5) (fun i q hq=>?_) (fun i j hi hj hij=>?_),by simp;omega,b4.trans ((Below.refl _ _).alloc (by omega) _)⟩
 ·have hl:=(List.getElem?_eq_some_iff.1 hq).1
  simp[bJ]at hl
  rcases i with _|_|_|_|_|i
  ·exact hq
  ·exact hq
  ·exact hq
  ·exact hq
  ·exact hq
  ·omega
 ·simp[bJ]at hi hj
  rcases i with _|_|_|_|_|i<;>rcases j with _|_|_|_|_|j<;>simp_all<;>omega
theorem pJ(ao:Option Addr)(n c:Nat)(w:World):
  Calls Tryz.prog 130 #[.slice ao n c] w fun e w'=>e=.returned (.func (.func 170) #[] #[.pointer (some ⟨w.heap.size,0,none⟩)])/\w'=w.alloc (.cells #[.slice ao n c] 25):=by
 go_enter Tryz.func130,Tryz.ntmps130
 go_wp2
 go_ret
 exact⟨rfl,rfl⟩
set_option maxRecDepth 100000 in
set_option maxHeartbeats 10000000 in
theorem aJ6(base:Nat)(m0:Mem)(cls:List Cl)(tr:Tr)(u:Int)(w:World)(hS:SAt base w m0)(hR:Rep m0 cls tr)(hT:TrOK cls tr)(hwf:∀(c:Nat) cl,cls[c]?=some cl->aM cl.lits)(hu:u≠0/\-12<=u/\u<=12)(hf:Tru tr (-u))(hA:u∈m0.assumed)(hdec:∀(j:Nat) (e:Int×Int),tr[j]?=some e->dec e=true->e.1∈m0.assumed)(hsz:m0.store.length<=9900000)(hal:m0.assumed.length<=10000000):
  Calls Tryz.prog 81 #[.pointer (some ⟨m0.s,0,none⟩),.int .i64 u] w fun e w'=>zG w m0.assumed (dbOf cls) e w':=by
 refine(callsIn_wide (n:=6)).1 ?_
 obtain⟨b,cap,hfa,hlt,-,hc⟩:=hS.facts
 have hc3:w.cell? ⟨m0.s,3,none⟩=some (.slice (some ⟨b,0,none⟩) 13 cap):=by rw[hS.cell 3 (by decide),←hfa];rfl
 have hc4:w.cell? ⟨m0.s,4,none⟩=some m0.od:=by rw[hS.cell 4 (by decide)];rfl
 have hsl:m0.s<w.heap.size:=hS.lt.1
 have hmk:=Tryz.make13
 have hw3:Below w.heap.size w (((w.alloc (.cells #[.pointer (some ⟨m0.s,0,none⟩)] 72)).alloc (.cells #[.int .i64 u] 3)).alloc (.cells #[.slice (some ⟨w.heap.size+1,0,none⟩) 1 1] 25)):=((((Below.refl _ w).alloc (Nat.le_refl _) _).alloc (by simp) _).alloc (by simp;omega) _)
 have hc3':=(World.cell?_of_block (a:=⟨m0.s,3,none⟩) (hw3.block m0.s hsl)).trans hc3
 have HV:=aq (fun wx=>aT u wx hu.2.1 hu.2.2)
 have hbw:Hid (∀s:Nat,s=s):=aq (fun _=>rfl)
 refine callsIn_of_wp_marks Tryz.func81 rfl trivial ?_ rfl
 simp only[Tryz.ntmps81,List.size_toArray,List.length_cons,List.length_nil,Nat.reduceAdd,Nat.reduceSub,Array.replicate_succ,Array.replicate_zero,List.push_toArray,List.append_toArray,List.nil_append,List.cons_append]
 gi_wp2_with fail
 obtain⟨hP5,hz5,hb5⟩:=aG1 w m0.s u
 have HP5:=aq hP5
 have HB5:=aq hb5
 clear hP5 hb5 hw3 hc3'
 generalize (((((w.alloc (.cells #[.pointer (some ⟨m0.s,0,none⟩)] 72)).alloc (.cells #[.int .i64 u] 3)).alloc (.cells #[.slice (some ⟨w.heap.size+1,0,none⟩) 1 1] 25)).alloc (.cells (madeCells #[.bool false] 13) 4)).alloc (.cells #[.slice (some ⟨w.heap.size+1+1+1,0,none⟩) 13 13] 172))=W5 at *
 have hv13:u.natAbs<13:=by omega
 have c54:W5.cell? ⟨w.heap.size+1+1+1+1,0,none⟩=some (.slice (some ⟨w.heap.size+1+1+1,0,none⟩) 13 13):=World.ownsRow.cellAt ((dz HP5).rows 2 _ rfl) 0 (by simp[aI])
 have r4:W5.ownsRow w.heap.size 4 1 (.slice (some ⟨w.heap.size+1+1+1,0,none⟩) 13 13) 13 (iJ (List.replicate 13 false)):=(dz HP5).rows 4 _ rfl
 have c5v:W5.cell? ⟨w.heap.size+1+1+1,u.natAbs,none⟩=some (.bool false):=by
  rw[r4.cellAt u.natAbs (by omega)]
  unfold iJ
  rw[List.getElem?_map,List.getElem?_replicate,if_pos hv13]
  rfl
 have f5v:W5.frozen? ⟨w.heap.size+1+1+1,u.natAbs,none⟩=false:=r4.frozenAt _
 have HST:Hid (PMut w.heap.size W5 (bJ w.heap.size (w.heap.size+1+1) (w.heap.size+1+1+1+1) m0.s (.slice (some ⟨w.heap.size+1,0,none⟩) 1 1) (.slice (some ⟨w.heap.size+1+1+1,0,none⟩) 13 13) [u] (List.replicate 13 false)) (W5.setCell ⟨w.heap.size+1+1+1,u.natAbs,none⟩ (.bool true)) (bJ w.heap.size (w.heap.size+1+1) (w.heap.size+1+1+1+1) m0.s (.slice (some ⟨w.heap.size+1,0,none⟩) 1 1) (.slice (some ⟨w.heap.size+1+1+1,0,none⟩) 13 13) [u] ((List.replicate 13 false).set u.natAbs true))):=aq (by
  have hs:=PMut.store (dz HP5) (i:=4) (r:=aJ (.slice (some ⟨w.heap.size+1+1+1,0,none⟩) 13 13) (List.replicate 13 false)) rfl (g:=w.heap.size+1+1+1) (cap:=13) rfl u.natAbs (.bool true)
  have e:(bJ w.heap.size (w.heap.size+1+1) (w.heap.size+1+1+1+1) m0.s (.slice (some ⟨w.heap.size+1,0,none⟩) 1 1) (.slice (some ⟨w.heap.size+1+1+1,0,none⟩) 13 13) [u] (List.replicate 13 false)).set 4 ⟨4,1,.slice (some ⟨w.heap.size+1+1+1,0,none⟩) 13 13,(List.replicate 13 false).length,(iJ (List.replicate 13 false)).set u.natAbs (.bool true)⟩=bJ w.heap.size (w.heap.size+1+1) (w.heap.size+1+1+1+1) m0.s (.slice (some ⟨w.heap.size+1,0,none⟩) 1 1) (.slice (some ⟨w.heap.size+1+1+1,0,none⟩) 13 13) [u] ((List.replicate 13 false).set u.natAbs true):=by
   unfold bJ aJ
   rw[lT,List.length_set]
   rfl
  rw[←e]
  exact hs)
 clear r4
 have hvi:(u.natAbs:Int)<13:=by omega
 refine wpIn_wide.2 (aO1 ?_)
 apply Exists.intro
 apply Exists.intro
 constructor
 ·go_region_with (go_at_call 129;refine(dz HV _).mono ?_;rintro e w3 ⟨rfl,rfl⟩)
  all_goals exact⟨rfl,rfl⟩
 have hP6:=(dz HST).trans (PMut.below (dz HST).pack ((Below.refl _ _).drew))
 have hz6:(W5.setCell ⟨w.heap.size+1+1+1,u.natAbs,none⟩ (.bool true)).drew.heap.size=w.heap.size+5:=by
  rw[←hz5]
  exact Nat.le_antisymm (by simp) (by simp)
 have hb6:Below w.heap.size w (W5.setCell ⟨w.heap.size+1+1+1,u.natAbs,none⟩ (.bool true)).drew:=(dz HB5).trans (hP6.toBelow (dz HP5) (Nat.le_refl _) (by omega))
 have HP6:=aq hP6.pack
 have HB6:=aq hb6
 clear hP6 hb6 HST HP5 HB5 c54 c5v f5v
 generalize (W5.setCell ⟨w.heap.size+1+1+1,u.natAbs,none⟩ (.bool true)).drew=W6 at *
 clear hz5
 clear W5
 have c60:W6.cell? ⟨w.heap.size,0,none⟩=some (.pointer (some ⟨m0.s,0,none⟩)):=World.ownsRow.cellAt ((dz HP6).rows 0 _ rfl) 0 (by simp[aI])
 have hN:0<tr.length:=by obtain⟨j,r,hj⟩:=hf;have:=(List.getElem?_eq_some_iff.1 hj).1;omega
 have hol:m0.order.length=tr.length:=by rw[hR.order,List.length_map]
 have hrow:=hS.pack.rows 6 _ rfl
 have hrow2:w.ownsRow base 3 1 m0.od tr.length (ints m0.order):=by
  have h:=hrow
  unfold Row.ok aB at h
  simp only at h
  rw[hR.odr,hR.ordr,hol]at h
  exact h
 obtain⟨go,co,hod,-,hgo⟩:=World.ownsRow.form hrow2 hN
 have c64:W6.cell? ⟨m0.s,4,none⟩=some (.slice (some ⟨go,0,none⟩) tr.length co):=by rw[←hod];exact(World.cell?_of_block (a:=⟨m0.s,4,none⟩) ((dz HB6).block m0.s hsl)).trans hc4
 have hsl6:m0.s<W6.heap.size:=by omega
 have HBG:=aq (pJ (some ⟨go,0,none⟩) tr.length co W6)
 have HOW:=aq hrow2
 clear hrow hrow2
 gi_wp2_with fail
 refine⟨trivial,?_⟩
 refine(callsIn_wide.2 (dz HBG)).mono ?_
 rintro e w7 ⟨rfl,rfl⟩
 have hb7:Below W6.heap.size W6 (W6.alloc (.cells #[.slice (some ⟨go,0,none⟩) tr.length co] 25)):=(Below.refl _ _).alloc (Nat.le_refl _) _
 have hP7:=(dz HP6).below hb7
 have hz7:(W6.alloc (.cells #[.slice (some ⟨go,0,none⟩) tr.length co] 25)).heap.size=w.heap.size+6:=by simp;omega
 have hbox:(W6.alloc (.cells #[.slice (some ⟨go,0,none⟩) tr.length co] 25)).cell? ⟨w.heap.size+5,0,none⟩=some (.slice (some ⟨go,0,none⟩) tr.length co):=by
  rw[←hz6];exact Boxed.cell (Boxed.new W6 25 _)
 have hnf:¬foot (bJ w.heap.size (w.heap.size+1+1) (w.heap.size+1+1+1+1) m0.s (.slice (some ⟨w.heap.size+1,0,none⟩) 1 1) (.slice (some ⟨w.heap.size+1+1+1,0,none⟩) 13 13) [u] ((List.replicate 13 false).set u.natAbs true)) (w.heap.size+5):=by
  intro hf
  have:=((dz HP6).lt hf).2
  omega
 have hcat:CAt w w.heap.size (w.heap.size+1+1) (w.heap.size+1+1+1+1) m0.s (w.heap.size+5) (W6.alloc (.cells #[.slice (some ⟨go,0,none⟩) tr.length co] 25)) [u] ((List.replicate 13 false).set u.natAbs true):=⟨(dz HB6).trans (hb7.mono (by omega)),by omega,by omega,_,_,hP7,hnf⟩
 have hord:∀j x,m0.order[j]?=some x->(W6.alloc (.cells #[.slice (some ⟨go,0,none⟩) tr.length co] 25)).cell? ⟨go,j,none⟩=some (.int .i64 x):=by
  intro j x hj
  have h1:=dz HOW
  rw[hod]at h1
  have hjl:=(List.getElem?_eq_some_iff.1 hj).1
  refine(World.cell?_of_block (a:=⟨go,j,none⟩) (hcat.bel.block go hgo)).trans ?_
  rw[h1.cellAt j (by omega)]
  unfold ints
  rw[List.getElem?_map,hj]
  rfl
 have HCAT:=aq hcat
 have HBOX:=aq hbox
 have HORD:=aq hord
 clear hcat hbox hord hnf hP7 hb7 HP6 HB6 HBG c60 c64
 rw[hz6]
 generalize W6.alloc (.cells #[.slice (some ⟨go,0,none⟩) tr.length co] 25)=W7 at *
 clear hz6 hsl6
 clear W6
 gi_wp2_with fail
 refine yB (α:=Nat×Int) rfl (by omega) (gf:=170) (lb:=#[.pointer (some ⟨w.heap.size+5,0,none⟩)]) rfl trivial (enters_of Tryz.func170 (by kernel_rfl) rfl)
  (encs:=fun x=>#[.int .i64 (x.1:Int),.int .i64 x.2]) (fun b=>b=w.heap.size+5∨b=go) (fun b hb=>by omega) (S:=fun xs=>xs.length=m0.order.length) (G:=aR6 m0.order)
  (fun l J Jx W hWB hJd hY h0=>?seq) (fun _=>rfl)
  (fun pre W=>∃blamed met,CAt w w.heap.size (w.heap.size+1+1) (w.heap.size+1+1+1+1) m0.s (w.heap.size+5) W blamed met/\CP cls tr u met blamed (tr.length-pre.length)/\pre.length<=tr.length) (fun _ _=>False) ?ownI (fun _ _ _ _ h=>h.elim) ?drewI ?startI ?a1 ?assign ?body ?done (fun _ _ _ _ h=>h.elim)
 case seq=>
  have:=sL 5 l (w.heap.size+5) go co m0.order (by have:=hT.len;omega) J Jx hJd hY W (by rw[hol];exact(World.cell?_of_block (a:=⟨w.heap.size+5,0,none⟩) (hWB _ (.inl rfl))).trans (dz HBOX)) (fun j x hj=>(World.cell?_of_block (a:=⟨go,j,none⟩) (hWB _ (.inr rfl))).trans (dz HORD j x hj)) h0
  exact this
 case ownI=>
  rintro pre W W' row ⟨bl,mt,h1,h2⟩ hg hr
  exact⟨bl,mt,h1.own _ (by omega) hg hr,h2⟩
 case drewI=>
  rintro pre W ⟨bl,mt,h1,h2⟩
  exact⟨bl,mt,(h1.below (Below.refl _ _).drew).at_,h2⟩
 case startI=>exact⟨_,_,dz HCAT,CP.begin cls tr hv13,by simp⟩
 case assign=>
  intro l x W K hK
  gi_wp2
  exact hK
 case body=>
  rintro l pre ⟨q,x⟩ W ⟨bl,mt,hC,hP,hpl⟩ ⟨hq,hx⟩
  simp only at hq hx
  have hqt:q<tr.length:=by omega
  have hpq:tr.length-pre.length=q+1:=by omega
  rw[hpq]at hP
  have he:tr[q]?=some tr[q]:=List.getElem?_eq_getElem hqt
  have hex:tr[q].1=x:=by
   rw[hR.order,List.getElem?_map,he]at hx
   simpa using hx
  have hbx:=hT.bd q _ he
  rw[hex]at hbx
  have hmx:Tryz.prog.follows .mixedOrders=true:=by kernel_rfl
  have HVX:=aq (fun wx=>aT x wx hbx.2.1 hbx.2.2)
  obtain⟨bv,g3,cap3,ao,cp,hbv,c0,c2,f2,c4,hg3,cm,fm,hown,hmark,happ⟩:=hC.cells hP.len
  have hxl:x.natAbs<mt.length:=by rw[hP.len];omega
  have hmt:mt[x.natAbs]?=some (aD mt x.natAbs):=by unfold aD;rw[List.getElem?_eq_getElem hxl];rfl
  have cmx:=cm _ _ hmt
  have hvx:(x.natAbs:Int)<13:=by have:=hP.len;omega
  have HFIN:Hid (∀W' bl' mt',CNxt w w.heap.size (w.heap.size+1+1) (w.heap.size+1+1+1+1) m0.s (w.heap.size+5) W W' bl' mt'->CP cls tr u mt' bl' q->KeepsFrom W7.heap.size W W'/\(∀b,(b=w.heap.size+5∨b=go)->W'.heap[b]?=W.heap[b]?)/\∃blamed met,CAt w w.heap.size (w.heap.size+1+1) (w.heap.size+1+1+1+1) m0.s (w.heap.size+5) W' blamed met/\CP cls tr u met blamed (tr.length-(pre++[(q,x)]).length)/\(pre++[(q,x)]).length<=tr.length):=aq (by
   intro W' bl' mt' h1 h2
   refine⟨h1.keep.from _,fun b hb=>h1.same b (hb.imp id (fun h=>by omega)),bl',mt',h1.at_,?_,by simp;omega⟩
   rw[show tr.length-(pre++[(q,x)]).length=q by simp;omega]
   exact h2)
  have HNX:=aq (CNxt.refl hC)
  have HCM:=aq hmark
  have HAP:=aq happ
  have HOB:=aq hown
  have HP:=aq hP
  have HMB:Hid (∃z,z=aD mt x.natAbs):=aq ⟨_,rfl⟩
  obtain⟨mb,hmb⟩:∃mb,mb=aD mt x.natAbs:=⟨_,rfl⟩
  rw[←hmb]at cmx
  have HMB:=aq hmb
  clear hmb
  have HCC:=aq cm
  have HFM:=aq fm
  clear hC hmark happ hown hP hmt cm fm
  gi_wp2_with fail
  refine pA ?_
  apply Exists.intro
  apply Exists.intro
  constructor
  ·gi_region_with_o (refine⟨trivial,?_⟩;gi_at_call 129;refine(CallsIn.inRound l (callsIn_wide.2 (dz HVX _))).mono ?_;rintro e w' ⟨rfl,rfl⟩)
   all_goals exact⟨rfl,rfl⟩
  have HD1:=aq ((dz HNX).at_.below (Below.refl _ _).drew)
  cases mb
  ·have HE:=aq (dz HFIN _ _ _ (dz HD1) ((dz HP).skip he (by rw[hex];exact(dz HMB).symm)))
   clear HFIN HD1 HAP HOB HCM HCC HFM HP
   gi_wp2
   exact dz HE
  ·obtain⟨t1,t2,t3⟩:=hR.taken q _ he
   rw[hex]at t3
   have HFA:=aq (fun wx (hb:Below w.heap.size w wx)=>dN base m0 x wx (hS.below hb) hbx.2.1 hbx.2.2)
   have fld:=Tryz.field2
   rw[t3]at HFA
   clear t1 t2 t3 c2 f2 c4 cmx HCC HFM HAP HCM HOB
   generalize m0.truth x.natAbs=tx at *
   generalize m0.level x.natAbs=lx at *
   have hb1:Below w.heap.size w W.drew:=(dz HD1).at_.bel
   gi_wp2_with fail
   refine⟨trivial,?_⟩
   refine(CallsIn.inRound l (callsIn_wide.2 (dz HFA _ hb1))).mono ?_
   rintro e w8 ⟨rfl,hb8⟩
   have hN8:=(dz HD1).trans ((dz HD1).at_.below hb8)
   clear hb8 hb1
   obtain⟨bv8,g38,cap38,ao8,cp8,hbv8,c08,c28,f28,c48,hg38,cm8,fm8,hown8,hmark8,happ8⟩:=hN8.at_.cells (dz HP).len
   by_cases hd:dec tr[q]=true
   ·have hr1:tr[q].2=-1:=by simpa [dec] using hd
    rw[hr1]
    have HAP:=aq happ8
    have HOB:=aq hown8
    have hbd:=(dz HP).bd
    have hb8s:=hN8.at_.bel.size
    have htl:=hT.len
    have hbl:bl.length<=1000:=by omega
    have HFI:Hid (∀W',CNxt w w.heap.size (w.heap.size+1+1) (w.heap.size+1+1+1+1) m0.s (w.heap.size+5) w8 W' (bl++[x]) mt->KeepsFrom W7.heap.size W W'/\(∀b,(b=w.heap.size+5∨b=go)->W'.heap[b]?=W.heap[b]?)/\∃blamed met,CAt w w.heap.size (w.heap.size+1+1) (w.heap.size+1+1+1+1) m0.s (w.heap.size+5) W' blamed met/\CP cls tr u met blamed (tr.length-(pre++[(q,x)]).length)/\(pre++[(q,x)]).length<=tr.length):=aq (fun W' h=>dz HFIN W' _ _ (hN8.trans h) (by
     have:=(dz HP).dec he hd
     rw[hex]at this
     exact this))
    subst hbv8
    clear hown8 hmark8 happ8 cm8 fm8 hN8 HFIN HP HD1 HNX hbd htl
    gi_wp2_with (gi_at_builtin;refine kB (base:=w.heap.size) rfl _ _ 25 3 rfl Tryz.underlying25 Tryz.infoInt rfl (by decide) (dz HOB) rfl rfl rfl (by omega) (by omega) ?_;intro g' cap' w9 hown9 hgr9 hloc9;have HMID:=aq (dz HAP _ _ _ _ _ hown9 hgr9 hloc9);clear hown9 hgr9 hloc9;have c29:=(dz HMID).1;have f29:=(dz HMID).2.1)
    exact dz HFI _ (dz HMID).2.2
   ·have hd':dec tr[q]=false:=by simpa using hd
    obtain⟨c,cl,rst,g1,g2,g3',g4⟩:=hT.reason q _ he hd'
    rw[g2]
    obtain⟨gc,capc,hcv,-,hgc,hroom,-,-,-,-⟩:=cK base m0 cls c cl w hS hR.store g1
    have HLI:=aq (dV base m0 cls c cl w8 (hS.below hN8.at_.bel) hR.store g1 (by omega))
    have HLC:Hid (∀wx,Below w.heap.size w wx->∀(k:Nat) (y:Int),cl.lits[k]?=some y->wx.cell? ⟨gc,pos cls c+2+k,none⟩=some (.int .i64 y)):=aq (fun wx hb k y hy=>by
     obtain⟨gc',capc',hcv',-,-,-,-,-,hl,-⟩:=cK base m0 cls c cl wx (hS.below hb) hR.store g1
     rw[hcv]at hcv'
     cases hcv'
     obtain⟨hk,rfl⟩:=List.getElem?_eq_some_iff.1 hy
     exact hl k hk)
    have hcs0:w8.cell? ⟨m0.s,0,none⟩=some (.slice (some ⟨gc,0,none⟩) m0.store.length capc):=by
     rw[←hcv]
     refine(World.cell?_of_block (a:=⟨m0.s,0,none⟩) (hN8.at_.bel.block m0.s hsl)).trans ?_
     rw[hS.cell 0 (by decide)];rfl
    rw[hcv]at HLI
    have hL1:0<cl.lits.length:=by rw[g3'];simp
    have hL12:=gF (hwf c cl g1)
    have HLV:Hid (cI gc (pos cls c) cl.lits.length=.slice (some ⟨gc,pos cls c+2,none⟩) cl.lits.length cl.lits.length):=aq (by unfold cI;rw[if_neg (by omega)])
    have HLB:Hid (∀(k:Nat) (y:Int),cl.lits[k]?=some y->-12<=y/\y<=12):=aq (fun k y hy=>((hwf c cl g1).2 _ (List.mem_of_getElem? hy)).2)
    have hneg:((pos cls c:Int)==-1)=false:=by rw[beq_eq_false_iff_ne];omega
    have HFI:Hid (∀W',CNxt w w.heap.size (w.heap.size+1+1) (w.heap.size+1+1+1+1) m0.s (w.heap.size+5) W W' bl (bG mt (cl.lits.map Int.natAbs))->KeepsFrom W7.heap.size W W'/\(∀b,(b=w.heap.size+5∨b=go)->W'.heap[b]?=W.heap[b]?)/\∃blamed met,CAt w w.heap.size (w.heap.size+1+1) (w.heap.size+1+1+1+1) m0.s (w.heap.size+5) W' blamed met/\CP cls tr u met blamed (tr.length-(pre++[(q,x)]).length)/\(pre++[(q,x)]).length<=tr.length):=aq (fun W' h=>dz HFIN W' _ _ h ((dz HP).reason hT hwf he hd' g1 g2))
    have HN8:=aq hN8
    have HML:=aq (dz HP).len
    have hsl8:m0.s<w8.heap.size:=by have:=hN8.at_.bel.size;omega
    clear hown8 hmark8 happ8 cm8 fm8 hN8 HFIN HP HD1 HNX c28 f28 c48 hbv8 g4 hroom
    generalize hp:pos cls c=p at *
    generalize hL:cl.lits.length=L at *
    gi_wp2_with fail
    refine⟨trivial,?_⟩
    refine(CallsIn.inRound l (callsIn_wide.2 (dz HLI))).mono ?_
    rintro e w9 ⟨⟨g9,rfl,hg9⟩,rfl⟩
    simp only[Value.ownBlock,Option.some.injEq]at hg9
    subst hg9
    rw[dz HLV]
    gi_wp2
    gi_loopw [61] (fun v61 wr=>∃k:Nat,k<=L/\v61=.int .i64 (k:Int)/\Hid (CNxt w w.heap.size (w.heap.size+1+1) (w.heap.size+1+1+1+1) m0.s (w.heap.size+5) W wr bl (bG mt ((cl.lits.take k).map Int.natAbs)))) (fun v61 _=>L-(intOf v61).toNat)
    case atStart=>exact⟨0,Nat.zero_le _,rfl,by rw[List.take_zero];exact HN8⟩
    case round=>
     obtain⟨k,hk,rfl,HC⟩:=hrel
     by_cases hkL:k<L
     ·have hgy:cl.lits[k]?=some (cl.lits[k]'(by omega)):=List.getElem?_eq_getElem _
      have hck:=dz HLC wr (dz HC).at_.bel k _ hgy
      have hlb:=dz HLB k _ hgy
      clear hgy
      have HVK:=aq (fun wx=>aT _ wx hlb.1 hlb.2)
      have HTK:Hid (cl.lits.take (k+1)=cl.lits.take k++[cl.lits[k]'(by omega)]):=aq (List.take_succ_eq_append_getElem (by omega))
      obtain⟨bvk,g3k,cap3k,aok,cpk,hbvk,c0k,c2k,f2k,c4k,hg3k,cmk,fmk,hownk,hmarkk,happk⟩:=(dz HC).at_.cells (by rw[fN];exact dz HML)
      generalize (cl.lits[k]'(by omega))=y at *
      have hyl:y.natAbs<(bG mt ((cl.lits.take k).map Int.natAbs)).length:=by rw[fN,dz HML];omega
      obtain⟨yb,hyb⟩:∃yb,(bG mt ((cl.lits.take k).map Int.natAbs))[y.natAbs]?=some yb:=⟨_,List.getElem?_eq_getElem hyl⟩
      have cyk:=cmk _ _ hyb
      have fyk:=fmk y.natAbs
      have HMK:=aq (hmarkk y.natAbs)
      have hki:(k:Int)<(L:Int):=by omega
      have hyi:(y.natAbs:Int)<13:=by omega
      clear cmk fmk hownk hmarkk happk c0k c2k f2k hbvk HN8 hyb hyl
      gi_wp2_with fail
      refine pA ?_
      apply Exists.intro
      apply Exists.intro
      constructor
      ·gi_region_with_o (refine⟨trivial,?_⟩;gi_at_call 129;refine(CallsIn.inRound l (callsIn_wide.2 (dz HVK _))).mono ?_;rintro e w' ⟨rfl,rfl⟩)
       all_goals exact⟨rfl,rfl⟩
      have hN:=(dz HC).trans ((dz HMK).trans ((dz HMK).at_.below (Below.refl _ _).drew))
      have HN:=aq hN
      clear hN HMK
      gi_wp2
      go_roundw
      case rel=>exact⟨k+1,by omega,by go_num,by rw[dz HTK,List.map_append,show [y].map Int.natAbs=[y.natAbs]from rfl,kJ];exact HN⟩
      case measure=>simp only[intOf];omega
     ·have hkk:k=L:=by omega
      have hki:¬(k:Int)<(L:Int):=by omega
      have HE:=aq (dz HFI wr (by
       have h:=dz HC
       rw[hkk,List.take_of_length_le (by omega)]at h
       exact h))
      clear HFI HC HN8
      gi_wp2
      obtain⟨e1,e2,e3⟩:=dz HE
      rw[hz7]at e1
      exact⟨e1,⟨e2 _ (.inl rfl),e2 _ (.inr rfl)⟩,e3⟩
 case done=>
  rintro D xs W hD hxs ⟨bl,mt,hC,hP,-⟩ hK
  rw[show tr.length-xs.length=0 by omega]at hP
  obtain⟨bv,mv,hpk,-⟩:=hC.rows
  have hF0:=FAt.begin hC.bel hpk hK
  obtain⟨c0,-,-,-⟩:=hF0.read
  obtain⟨aa,ca,hasm⟩:=aC (hS.pack.rows 11 _ rfl)
  have cs7:W.cell? ⟨m0.s,12,none⟩=some (.slice aa m0.assumed.length ca):=by
   refine(World.cell?_of_block (a:=⟨m0.s,12,none⟩) (hC.bel.block m0.s hsl)).trans ?_
   rw[hS.cell 12 (by decide)]
   show some m0.asm=_
   rw[show m0.asm=_ from hasm]
   rfl
  have HAS:Hid (∀wx,Below w.heap.size w wx->∀j y,m0.assumed[j]?=some y->∃ga,aa=some ⟨ga,0,none⟩/\wx.cell? ⟨ga,j,none⟩=some (.int .i64 y)):=aq (by
   intro wx hb j y hj
   have hr:wx.ownsRow base 3 1 m0.asm m0.assumed.length (ints m0.assumed):=(hS.below hb).pack.rows 11 _ rfl
   have hjl:=(List.getElem?_eq_some_iff.1 hj).1
   obtain⟨ga,ca',hv,-,-⟩:=World.ownsRow.form hr (by omega)
   have h2:=hasm
   rw[show(aB m0.asm m0.assumed).v=m0.asm from rfl,hv]at h2
   cases h2
   rw[hv]at hr
   refine⟨ga,rfl,?_⟩
   rw[hr.cellAt j (by omega)]
   unfold ints
   rw[List.getElem?_map,hj]
   rfl)
  have hslW:m0.s<W.heap.size:=by have:=hC.bel.size;omega
  have HEND:Hid (∀wr v core,FAt w w.heap.size (w.heap.size+1+1) (w.heap.size+1+1+1+1) m0.s D bv mv bl mt wr v core->core=m0.assumed.filter (fun x=>decide (x∈bl))->zG w m0.assumed (dbOf cls) (.returned v) (wr.putObj D (.deferred none))):=aq (by
   intro wr v core h hcore
   subst hcore
   have hsz:=h.bel.size
   have hDl:=(Array.getElem?_eq_some_iff.1 h.rec_).1
   refine⟨v,bl,rfl,ownsRow_putObj h.read.2.2.2 _ h.rec_ rfl,h.bel.grown (grownBy_putObj' wr D _) hsz (fun k e=>by cases e;omega),?_⟩
   obtain⟨k,r0,hk⟩:=hf
   exact aG9 hT (A:=m0.assumed) (blamed:=bl) (met:=aD mt) hk hP.mu hP.ub hA (fun j e he hm=>hP.done j e (Nat.zero_le _) he hm) hdec (fun x h1 h2=>List.mem_filter.2 ⟨h1,decide_eq_true h2⟩))
  have hblen:bl.length<=1000:=by have:=hP.bd;have:=hT.len;omega
  have HF0:=aq hF0
  clear hC hP hK hpk hF0
  generalize hAA:m0.assumed=A at *
  generalize hAN:A.length=N at *
  gi_wp2
  gi_loopw [12,75] (fun v12 v75 wr=>∃(k:Nat) (core:List Int),k<=N/\v75=.int .i64 (k:Int)/\Hid (FAt w w.heap.size (w.heap.size+1+1) (w.heap.size+1+1+1+1) m0.s D bv mv bl mt wr v12 core)/\Hid (core=(A.take k).filter (fun x=>decide (x∈bl)))) (fun _ v75 _=>N-(intOf v75).toNat)
  case atStart=>exact⟨0,[],Nat.zero_le _,rfl,HF0,aq (by simp)⟩
  case round=>
   obtain⟨k,core,hk,rfl,HF,HC⟩:=hrel
   obtain⟨-,c2k,hli,hown⟩:=(dz HF).read
   obtain⟨ac,cc,hsh⟩:=aC hown
   have hbk:=(dz HF).bel
   by_cases hkN:k<N
   ·have hgy:A[k]?=some (A[k]'(by omega)):=List.getElem?_eq_getElem _
    obtain⟨ga,haa,cyk⟩:=dz HAS wr hbk k _ hgy
    subst haa
    have HTK:Hid (A.take (k+1)=A.take k++[A[k]'(by omega)]):=aq (List.take_succ_eq_append_getElem (by omega))
    clear hgy
    generalize (A[k]'(by omega))=y at *
    have HCO:=aq (lM bv bl y wr (by omega) hli)
    have hki:(k:Int)<(N:Int):=by omega
    have HOW2:=aq hown
    have hcl:core.length<=10000000:=by
     have:=dz HC
     rw[this]
     have h1:=List.length_filter_le (fun x=>decide (x∈bl)) (A.take k)
     rw[List.length_take]at h1
     omega
    have hbks:=hbk.size
    clear hli hown hbk HF0
    subst hsh
    generalize hcn:core.length=cn at *
    gi_wp2_with fail
    refine⟨trivial,?_⟩
    refine(callsIn_wide.2 (dz HCO)).mono ?_
    rintro e w9 ⟨⟨bb,rfl,hbb⟩,rfl⟩
    cases bb
    ·have HNB:Hid (y∉bl):=aq (fun h=>by have:=hbb.2 h;cases this)
     clear hbb HCO
     gi_wp2
     go_roundw
     case rel=>exact⟨k+1,core,by omega,by go_num,HF,aq (by rw[dz HTK,List.filter_append,←dz HC];simp[dz HNB])⟩
     case measure=>simp only[intOf];omega
    ·have HYB:Hid (y∈bl):=aq (hbb.1 rfl)
     clear hbb HCO
     have HAPP:Hid (∀(g' cap':Nat) (w4:World) (tt:TypeId),w4.ownsRow w.heap.size 3 1 (.slice (some ⟨g',0,none⟩) (cn+1) cap') (cn+1) (ints core++[.int .i64 y])->(w9.alloc (.cells #[.int .i64 y] tt)).grownBy w4 (Value.slice ac cn cc).ownBlock->((Value.slice ac cn cc).ownBlock=some g'∨g'=(w9.alloc (.cells #[.int .i64 y] tt)).heap.size)->FAt w w.heap.size (w.heap.size+1+1) (w.heap.size+1+1+1+1) m0.s D bv mv bl mt w4 (.slice (some ⟨g',0,none⟩) (cn+1) cap') (core++[y])):=aq (fun g' cap' w4 tt h1 h2 h3=>by
      subst hcn
      exact(dz HF).app h1 h2 h3)
     gi_wp2_with (gi_at_builtin;refine kB (base:=w.heap.size) rfl _ _ 25 3 rfl Tryz.underlying25 Tryz.infoInt rfl (by decide) (dz HOW2) rfl rfl rfl (by omega) (by omega) ?_;intro g' cap' w10 hown10 hgr10 hloc10;have HMID:=aq (dz HAPP _ _ _ _ hown10 hgr10 hloc10);clear hown10 hgr10 hloc10)
     go_roundw
     case rel=>exact⟨k+1,core++[y],by omega,by go_num,HMID,aq (by rw[dz HTK,List.filter_append,←dz HC];simp[dz HYB])⟩
     case measure=>simp only[intOf];omega
   ·have hki:¬(k:Int)<(N:Int):=by omega
    have hkk:k=N:=by omega
    have HE:=aq (dz HEND wr _ core (dz HF) (by rw[dz HC,List.take_of_length_le (by omega)]))
    have HREC:=aq (dz HF).rec_
    clear hli hown hbk HF0 HEND
    subst hsh
    gi_wp2
    refine⟨by simp,.inl ⟨_,_,rfl,run_takeDeferred (dz HREC),?_⟩⟩
    refine⟨.slice ac core.length cc,?_,dz HE⟩
    exact results_tmp (fn:=Tryz.f81) (t:=4) Tryz.results81 _ _ _
end Go.Proofs.YtekkkoipcghlmaaGreatDoor
