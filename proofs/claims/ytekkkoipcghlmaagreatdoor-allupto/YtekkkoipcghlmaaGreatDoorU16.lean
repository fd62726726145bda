import Derived.Test.YtekkkoipcghlmaaGreatDoorU15
set_option linter.all false
namespace Go.Proofs.YtekkkoipcghlmaaGreatDoor
open Go.RowKit
attribute [local go_sem ↓] Go.wp_at_zero Go.wp_at_succ
def oU(base:Nat)(w:World)(m:Mem)(DB:List (List Int))(tr:Tr)(lv:Value)(lits:List Int)(e:Ending)(w':World):Prop:=
 ∃g cap short,e=.returned (.slice (some ⟨g,0,none⟩) short.length cap)/\EMut base w m [aB lv lits] w' m [aB (.slice (some ⟨g,0,none⟩) short.length cap) short]/\Taught DB tr short/\short.length<=lits.length
theorem mO(v:Nat):aD (List.replicate 13 false) v=false:=by
 unfold aD
 rw[List.getElem?_replicate]
 split<;>rfl
theorem CI.begin(DB:List (List Int))(tr:Tr){lits:List Int}(hb:∀x,x∈lits->x≠0/\-12<=x/\x<=12):CI DB tr lits (bG (List.replicate 13 false) (lits.map Int.natAbs)) (List.replicate 13 false):=by
 refine⟨by rw[fN];simp,by simp,fun v hv=>.inl ?_,fun v hv=>by rw[mO]at hv;cases hv⟩
 rw[gH _ _ (fun u hu=>by obtain⟨x,hx,rfl⟩:=List.mem_map.1 hu;have:=hb x hx;simp;omega),mO]at hv
 simpa using hv
theorem nB(base:Nat)(w:World)(hb:base<=w.heap.size):(aJ (.slice (some ⟨w.heap.size,0,none⟩) 13 13) (List.replicate 13 false)).ok base (w.alloc (.cells (madeCells #[.bool false] 13) 4)):=by
 have:=eV base w hb 4 (madeCells #[.bool false] 13) 13 (by rw[←Array.length_toList,nY];rfl) (by omega)
 rw[nY]at this
 exact this
structure TAt(base:Nat)(w:World)(m:Mem)(lv0:Value)(lits:List Int)(wr:World)(cv kv:Value)(comes known:List Bool)(g cap:Nat)(short:List Int):Prop where
 mu:EMut base w m [aB lv0 lits] wr m [aJ cv comes,aJ kv known,aB (.slice (some ⟨g,0,none⟩) lits.length cap) (short++lits.drop short.length)]
 le:short.length<=lits.length
theorem TAt.push{base:Nat}{w:World}{m:Mem}{lv0:Value}{lits:List Int}{wr:World}{cv kv:Value}{comes known:List Bool}{g cap:Nat}{short:List Int}(h:TAt base w m lv0 lits wr cv kv comes known g cap short){x:Int}{wz w4:World}(hlt:short.length<lits.length)(hz:Below wr.heap.size wr wz)
  (hown:w4.ownsRow base 3 1 (.slice (some ⟨g,0,none⟩) lits.length cap) lits.length ((ints (short++lits.drop short.length)).set short.length (.int .i64 x))) (hgr:wz.grownBy w4 (some g)):TAt base w m lv0 lits w4 cv kv comes known g cap (short++[x]):=by
 have h1:=h.mu.trans (EMut.below h.mu.eat hz)
 have e0:(short++lits.drop short.length).set short.length x=(short++[x])++lits.drop (short++[x]).length:=by
  have hd:lits.drop short.length=lits[short.length]::lits.drop (short.length+1):=List.drop_eq_getElem_cons hlt
  have e1:(lits.drop short.length).set 0 x=x::lits.drop (short.length+1):=by rw[hd];rfl
  rw[List.set_append,if_neg (by omega),Nat.sub_self,e1]
  simp
 have hl:((short++[x])++lits.drop (short++[x]).length).length=lits.length:=by simp;omega
 have h2:=EMut.row h1.eat (i:=2) (r':=aB (.slice (some ⟨g,0,none⟩) lits.length cap) ((short++[x])++lits.drop (short++[x]).length)) rfl (by
  unfold Row.ok aB
  simp only
  rw[hl,←e0,dT]
  exact hown) hgr (.inr (.inl rfl))
 exact⟨h1.trans h2,by simp;omega⟩
theorem TAt.ends{base:Nat}{w:World}{m:Mem}{lv0:Value}{lits:List Int}{wr:World}{cv kv:Value}{comes known:List Bool}{g cap:Nat}{short:List Int}(h:TAt base w m lv0 lits wr cv kv comes known g cap short){DB:List (List Int)}{tr:Tr}(ht:Taught DB tr short):oU base w m DB tr lv0 lits (.returned (.slice (some ⟨g,0,none⟩) short.length cap)) wr:=by
 have h3:=h.mu.trans (EMut.tail h.mu.eat)
 have h4:=h3.trans (EMut.tail h3.eat)
 have hr:=h4.eat.row (i:=0) rfl
 have hle:=h.le
 have hl:(short++lits.drop short.length).length=lits.length:=by simp;omega
 unfold Row.ok aB at hr
 simp only[hl]at hr
 have h5:=EMut.row h4.eat (i:=0) (r':=aB (.slice (some ⟨g,0,none⟩) short.length cap) short) rfl (by
  have:=vH hr hle
  unfold Row.ok aB
  simp only
  rw[Nat.mul_one]at this
  have e:(ints (short++lits.drop short.length)).take short.length=ints short:=by unfold ints;rw[←List.map_take,List.take_left'];rfl
  rw[e]at this
  exact this) (kK _ _) (.inr (.inl rfl))
 exact⟨g,cap,short,rfl,h4.trans h5,ht,hle⟩
set_option maxRecDepth 100000 in
set_option maxHeartbeats 3200000 in
theorem vU(base:Nat)(m:Mem)(cls:List Cl)(tr:Tr)(lv:Value)(lits:List Int)(w:World)(hE:EAt base w m [aB lv lits])(hR:Rep m cls tr)(hT:TrOK cls tr)(hwf:∀(c:Nat) cl,cls[c]?=some cl->aM cl.lits)(hL:Lesson (dbOf cls) tr lits)(hsz:m.store.length<=9900000)(hbs:base<=w.heap.size):
  Calls Tryz.prog 118 #[.pointer (some ⟨m.s,0,none⟩),lv] w fun e w'=>oU base w m (dbOf cls) tr lv lits e w':=by
 obtain⟨x0,rest,hlits⟩:∃x0 rest,lits=x0::rest:=by obtain⟨p,rest,i,r,h,-⟩:=hL.head;exact⟨_,rest,h⟩
 have hlw:=hL.wf
 have hl12:lits.length<=13:=by
  have h1:=cE 13 (lits.map Int.natAbs) hlw.1 (fun v hv=>by obtain⟨x,hx,rfl⟩:=List.mem_map.1 hv;have:=hlw.2 x hx;omega)
  simpa using h1
 have hlpos:0<lits.length:=by rw[hlits];simp
 have htr:=hT.len
 have htl:0<tr.length:=by obtain⟨p,rest,i,r,-,h,-⟩:=hL.head;have:=(List.getElem?_eq_some_iff.1 h).1;omega
 obtain⟨b,cap,hfa,hlt,-,-⟩:=hE.at.facts
 have hc3:w.cell? ⟨m.s,3,none⟩=some (.slice (some ⟨b,0,none⟩) 13 cap):=by rw[hE.at.cell 3 (by decide),←hfa];rfl
 have hsl:m.s<w.heap.size:=World.block_lt_of_cell? w ⟨m.s,3,none⟩ hc3
 have hrow:=hE.row (i:=0) rfl
 obtain⟨g,capl,hlv,-,-⟩:=World.ownsRow.form hrow hlpos
 have hlv':lv=.slice (some ⟨g,0,none⟩) lits.length capl:=hlv
 have hcapl:lits.length<=capl:=by
  have hrow2:w.ownsRow base 3 1 lv lits.length (ints lits):=hrow
  rw[hlv']at hrow2
  rcases hrow2.2 with⟨h0,_⟩|⟨g',cap',cur,hv',_,_,hle,_⟩
  ·cases h0
  ·cases hv';exact hle
 subst hlv'
 obtain⟨g4,cap4,hod,-,-,-,-⟩:=hR.orderAt hE.at htl
 have mk:=Tryz.make13
 have H1:Hid (EMut base w m [aB (.slice (some ⟨g,0,none⟩) lits.length capl) lits] (w.alloc (.cells (madeCells #[.bool false] 13) 4)) m [aJ (.slice (some ⟨w.heap.size,0,none⟩) 13 13) (List.replicate 13 false),aB (.slice (some ⟨g,0,none⟩) lits.length capl) lits]):=aq (EMut.addFront hE (nB base w hbs) ((Below.refl _ _).alloc (Nat.le_refl _) _) (fun k hk=>by cases hk;exact Nat.le_refl _))
 have HR1:Hid (∀q wr,q<lits.length->EMut base w m [aB (.slice (some ⟨g,0,none⟩) lits.length capl) lits] wr m [aJ (.slice (some ⟨w.heap.size,0,none⟩) 13 13) (bG (List.replicate 13 false) ((lits.take q).map Int.natAbs)),aB (.slice (some ⟨g,0,none⟩) lits.length capl) lits]->∃x bb,lits[q]?=some x/\(x≠0/\-12<=x/\x<=12)/\∀wx,Below wr.heap.size wr wx->wx.cell? ⟨g,q,none⟩=some (.int .i64 x)/\wx.cell? ⟨w.heap.size,x.natAbs,none⟩=some (.bool bb)/\wx.frozen? ⟨w.heap.size,x.natAbs,none⟩=false/\EMut base w m [aB (.slice (some ⟨g,0,none⟩) lits.length capl) lits] (wx.setCell ⟨w.heap.size,x.natAbs,none⟩ (.bool true)) m [aJ (.slice (some ⟨w.heap.size,0,none⟩) 13 13) (bG (List.replicate 13 false) ((lits.take (q+1)).map Int.natAbs)),aB (.slice (some ⟨g,0,none⟩) lits.length capl) lits]):=aq (by
  intro q wr hq h
  have hx:lits[q]?=some lits[q]:=List.getElem?_eq_getElem hq
  have hb:=hlw.2 _ (List.mem_of_getElem? hx)
  refine⟨lits[q],aD (bG (List.replicate 13 false) ((lits.take q).map Int.natAbs)) lits[q].natAbs,hx,hb,fun wx hbx=>?_⟩
  have hmx:=h.trans (EMut.below h.eat hbx)
  have hl13:(bG (List.replicate 13 false) ((lits.take q).map Int.natAbs)).length=13:=by rw[fN];simp
  obtain⟨gm',cm',h4,-,h5,h6,h7⟩:=cP hmx.eat (i:=0) rfl hl13
  cases h4
  have hv:lits[q].natAbs<(bG (List.replicate 13 false) ((lits.take q).map Int.natAbs)).length:=by omega
  have hlrow:=hmx.eat.row (i:=1) rfl
  unfold Row.ok aB at hlrow
  simp only at hlrow
  refine⟨?_,?_,h6 _,?_⟩
  ·rw[hlrow.cellAt q (by omega)]
   simp[ints,hx]
  ·rw[h5 _ _ (List.getElem?_eq_getElem hv)]
   unfold aD
   rw[List.getElem?_eq_getElem hv]
   rfl
  ·rw[List.take_succ_eq_append_getElem hq,List.map_append]
   show EMut _ _ _ _ _ _ [aJ _ (bG _ ((lits.take q).map Int.natAbs++[lits[q].natAbs])),_]
   rw[kJ]
   exact hmx.trans (h7 _ _))
 have H2:Hid (∀w1,EMut base w m [aB (.slice (some ⟨g,0,none⟩) lits.length capl) lits] w1 m [aJ (.slice (some ⟨w.heap.size,0,none⟩) 13 13) (bG (List.replicate 13 false) (lits.map Int.natAbs)),aB (.slice (some ⟨g,0,none⟩) lits.length capl) lits]->w1.cell? ⟨m.s,3,none⟩=some (.slice (some ⟨b,0,none⟩) 13 cap)/\m.s<w1.heap.size/\(w1.alloc (.cells (madeCells #[.bool false] 13) 4)).cell? ⟨m.s,4,none⟩=some (.slice (some ⟨g4,0,none⟩) tr.length cap4)/\EMut base w m [aB (.slice (some ⟨g,0,none⟩) lits.length capl) lits] (w1.alloc (.cells (madeCells #[.bool false] 13) 4)) m [aJ (.slice (some ⟨w1.heap.size,0,none⟩) 13 13) (List.replicate 13 false),aJ (.slice (some ⟨w.heap.size,0,none⟩) 13 13) (bG (List.replicate 13 false) (lits.map Int.natAbs)),aB (.slice (some ⟨g,0,none⟩) lits.length capl) lits]/\CI (dbOf cls) tr lits (bG (List.replicate 13 false) (lits.map Int.natAbs)) (List.replicate 13 false)):=aq (fun w1 h=>by
  have h2:=h.trans (EMut.addFront h.eat (nB base w1 (Nat.le_trans hbs h.pm.only.size)) ((Below.refl _ _).alloc (Nat.le_refl _) _) (fun k hk=>by cases hk;exact Nat.le_refl _))
  obtain⟨g',cap',d1,d2,-,-,-⟩:=hR.orderAt h2.at htl
  rw[hod]at d1
  cases d1
  exact⟨by rw[h.at.cell 3 (by decide),←hfa];rfl,h.at.lt.1,d2,h2,CI.begin _ _ hlw.2⟩)
 have HR2:Hid (∀q wr gc known comes,q<tr.length->EMut base w m [aB (.slice (some ⟨g,0,none⟩) lits.length capl) lits] wr m [aJ (.slice (some ⟨gc,0,none⟩) 13 13) comes,aJ (.slice (some ⟨w.heap.size,0,none⟩) 13 13) known,aB (.slice (some ⟨g,0,none⟩) lits.length capl) lits]->CI (dbOf cls) tr lits known comes->∃x,(x≠0/\-12<=x/\x<=12)/\wr.cell? ⟨g4,q,none⟩=some (.int .i64 x)/\Calls Tryz.prog 159 #[.pointer (some ⟨m.s,0,none⟩),.int .i64 x,.slice (some ⟨w.heap.size,0,none⟩) 13 13] wr fun e w'=>∃bb,e=.returned (.bool bb)/\EMut base w m [aB (.slice (some ⟨g,0,none⟩) lits.length capl) lits] w' m [aJ (.slice (some ⟨gc,0,none⟩) 13 13) comes,aJ (.slice (some ⟨w.heap.size,0,none⟩) 13 13) known,aB (.slice (some ⟨g,0,none⟩) lits.length capl) lits]/\(bb=true->∃b1 b2,∀wx,Below w'.heap.size w' wx->wx.cell? ⟨w.heap.size,x.natAbs,none⟩=some (.bool b1)/\wx.frozen? ⟨w.heap.size,x.natAbs,none⟩=false/\∀wy,Below (wx.setCell ⟨w.heap.size,x.natAbs,none⟩ (.bool true)).heap.size (wx.setCell ⟨w.heap.size,x.natAbs,none⟩ (.bool true)) wy->wy.cell? ⟨gc,x.natAbs,none⟩=some (.bool b2)/\wy.frozen? ⟨gc,x.natAbs,none⟩=false/\EMut base w m [aB (.slice (some ⟨g,0,none⟩) lits.length capl) lits] (wy.setCell ⟨gc,x.natAbs,none⟩ (.bool true)) m [aJ (.slice (some ⟨gc,0,none⟩) 13 13) (comes.set x.natAbs true),aJ (.slice (some ⟨w.heap.size,0,none⟩) 13 13) (known.set x.natAbs true),aB (.slice (some ⟨g,0,none⟩) lits.length capl) lits]/\CI (dbOf cls) tr lits (known.set x.natAbs true) (comes.set x.natAbs true))):=aq (by
  intro q wr gc known comes hq h hci
  have hf:tr[q]?=some tr[q]:=List.getElem?_eq_getElem hq
  have hb:=hT.bd q _ hf
  obtain⟨g',cap',d1,d2,-,-,d5⟩:=hR.orderAt h.at htl
  rw[hod]at d1
  cases d1
  refine⟨tr[q].1,hb,d5 q _ hf,?_⟩
  have:=tW base m cls tr _ 1 _ known q tr[q] wr h.eat rfl hci.klen hR hT hwf hf hsz
  refine this.mono (fun e w' hr=>?_)
  obtain⟨bb,he,hbt,hbb⟩:=hr
  have h':=h.trans (EMut.below h.eat hbb)
  refine⟨bb,he,h',fun ht=>⟨aD known tr[q].1.natAbs,aD comes tr[q].1.natAbs,fun wx hx=>?_⟩⟩
  obtain⟨hd,hcs⟩:=hbt ht
  have hmx:=h'.trans (EMut.below h'.eat hx)
  obtain⟨gm',cm',h4,-,h5,h6,h7⟩:=cP hmx.eat (i:=1) rfl hci.klen
  cases h4
  have hvk:tr[q].1.natAbs<known.length:=by rw[hci.klen];omega
  have hvc:tr[q].1.natAbs<comes.length:=by rw[hci.clen];omega
  refine⟨?_,h6 _,fun wy hy=>?_⟩
  ·rw[h5 _ _ (List.getElem?_eq_getElem hvk)]
   unfold aD
   rw[List.getElem?_eq_getElem hvk]
   rfl
  ·have hm2:=hmx.trans (h7 tr[q].1.natAbs true)
   have hm3:=hm2.trans (EMut.below hm2.eat hy)
   obtain⟨gm',cm',h4,-,h5,h6,h8⟩:=cP hm3.eat (i:=0) rfl hci.clen
   cases h4
   refine⟨?_,h6 _,hm3.trans (h8 _ _),hci.add hT rfl hf hd hcs⟩
   rw[h5 _ _ (List.getElem?_eq_getElem hvc)]
   unfold aD
   rw[List.getElem?_eq_getElem hvc]
   rfl)
 have HTA:Hid (∀wr gc known comes,EMut base w m [aB (.slice (some ⟨g,0,none⟩) lits.length capl) lits] wr m [aJ (.slice (some ⟨gc,0,none⟩) 13 13) comes,aJ (.slice (some ⟨w.heap.size,0,none⟩) 13 13) known,aB (.slice (some ⟨g,0,none⟩) lits.length capl) lits]->TAt base w m (.slice (some ⟨g,0,none⟩) lits.length capl) lits wr (.slice (some ⟨gc,0,none⟩) 13 13) (.slice (some ⟨w.heap.size,0,none⟩) 13 13) comes known g capl [x0]):=aq (fun wr gc known comes h=>by
  refine⟨?_,hlpos⟩
  have e:[x0]++lits.drop [x0].length=lits:=by rw[hlits];rfl
  rw[e];exact h)
 have HR3:Hid (∀j wr gc known comes short,j+1<lits.length->comes.length=13->short.length<=j+1->TAt base w m (.slice (some ⟨g,0,none⟩) lits.length capl) lits wr (.slice (some ⟨gc,0,none⟩) 13 13) (.slice (some ⟨w.heap.size,0,none⟩) 13 13) comes known g capl short->∃x,rest[j]?=some x/\(x≠0/\-12<=x/\x<=12)/\wr.cell? ⟨g,1+j,none⟩=some (.int .i64 x)/\wr.cell? ⟨gc,x.natAbs,none⟩=some (.bool (aD comes x.natAbs))/\wr.ownsRow base 3 1 (.slice (some ⟨g,0,none⟩) lits.length capl) lits.length (ints (short++lits.drop short.length))):=aq (by
  intro j wr gc known comes short hj hcl hsj h
  have hx:rest[j]?=some (rest[j]'(by rw[hlits]at hj;simpa using hj)):=List.getElem?_eq_getElem _
  have hxl:lits[j+1]?=rest[j]?:=by rw[hlits,List.getElem?_cons_succ]
  have hb:=hlw.2 _ (List.mem_of_getElem? (hxl.trans hx))
  obtain⟨gm',cm',h4,-,h5,-,-⟩:=cP h.mu.eat (i:=0) rfl hcl
  cases h4
  have hlrow:=h.mu.eat.row (i:=2) rfl
  have hl:(short++lits.drop short.length).length=lits.length:=by have:=h.le;simp;omega
  unfold Row.ok aB at hlrow
  simp only[hl]at hlrow
  refine⟨_,hx,hb,?_,?_,hlrow⟩
  ·rw[hlrow.cellAt (1+j) (by omega)]
   unfold ints
   rw[List.getElem?_map,List.getElem?_append_right (by omega),List.getElem?_drop,show short.length+(1+j-short.length)=j+1 from by omega,hxl,hx]
   rfl
  ·rw[h5 _ _ (List.getElem?_eq_getElem (by omega))]
   unfold aD
   rw[List.getElem?_eq_getElem (by omega)]
   rfl)
 have HEND:Hid (∀wr gc known comes short,CI (dbOf cls) tr lits known comes->TAt base w m (.slice (some ⟨g,0,none⟩) lits.length capl) lits wr (.slice (some ⟨gc,0,none⟩) 13 13) (.slice (some ⟨w.heap.size,0,none⟩) 13 13) comes known g capl short->short=x0::rest.filter (fun y=>!aD comes y.natAbs)->oU base w m (dbOf cls) tr (.slice (some ⟨g,0,none⟩) lits.length capl) lits (.returned (.slice (some ⟨g,0,none⟩) short.length capl)) wr):=aq (fun wr gc known comes short hci h hs=>by
  refine h.ends ?_
  rw[hs]
  rw[hlits]at hci hL
  exact hci.taught hT hL)
 have HRL:Hid (rest.length+1=lits.length):=aq (by rw[hlits];simp)
 have htl':tr.length<=12:=htr
 clear hrow hlv hE hR hT hwf hL hlits hlw hod hfa
 generalize hn:lits.length=n at *
 have HN:=aq hn
 clear hn
 go_enter Tryz.func118,Tryz.ntmps118
 go_wp2
 go_loopw [23] (fun v23 wr=>∃q:Nat,q<=n/\v23=.int .i64 (q:Int)/\Hid (EMut base w m [aB (.slice (some ⟨g,0,none⟩) n capl) lits] wr m [aJ (.slice (some ⟨w.heap.size,0,none⟩) 13 13) (bG (List.replicate 13 false) ((lits.take q).map Int.natAbs)),aB (.slice (some ⟨g,0,none⟩) n capl) lits])) (fun v23 _=>n-(intOf v23).toNat)
 case atStart=>exact⟨0,Nat.zero_le _,rfl,H1⟩
 case round=>
  obtain⟨q,hq,rfl,HM⟩:=hrel
  by_cases hqn:q<n
  ·obtain⟨x,bb,-,hxb,hrd⟩:=dz HR1 q wr hqn (dz HM)
   have HV:=aq (fun wx=>aT x wx hxb.2.1 hxb.2.2)
   have hqi:(q:Int)<(n:Int):=by omega
   have hvi:(x.natAbs:Int)<13:=by omega
   obtain⟨hcq,hcm,hfm,-⟩:=hrd wr (Below.refl _ _)
   have HRD:=aq hrd
   clear hrd HR2 H2 HTA HR3 HEND H1 HR1 HM
   generalize x.natAbs=v at *
   go_wp2_with fail
   refine(dz HV _).mono ?_
   rintro e w3 ⟨rfl,rfl⟩
   go_wp2
   go_roundw
   case rel=>exact⟨q+1,by omega,by go_num,aq (dz HRD _ (Below.refl _ _)).2.2.2⟩
   case measure=>simp[intOf];omega
  ·have HM1:Hid (EMut base w m [aB (.slice (some ⟨g,0,none⟩) n capl) lits] wr m [aJ (.slice (some ⟨w.heap.size,0,none⟩) 13 13) (bG (List.replicate 13 false) (lits.map Int.natAbs)),aB (.slice (some ⟨g,0,none⟩) n capl) lits]):=aq (by
    have h:=dz HM
    rw[List.take_of_length_le (by rw[dz HN];omega)]at h
    exact h)
   have hqi:¬(q:Int)<(n:Int):=by omega
   obtain⟨hc31,hs1,hc41,hm2,hci2⟩:=dz H2 wr (dz HM1)
   have HM2:=aq (And.intro hm2 hci2)
   obtain⟨gc,hgc⟩:∃gc,wr.heap.size=gc:=⟨_,rfl⟩
   clear hm2 hci2 HM1 HM H1 HR1 H2
   rw[hgc]at HM2
   generalize hLL:tr.length=L at *
   clear hLL
   go_wp2
   go_loopw [45] (fun v45 wr=>∃q:Nat,q<=L/\v45=.int .i64 (q:Int)/\Hid (∃known comes,EMut base w m [aB (.slice (some ⟨g,0,none⟩) n capl) lits] wr m [aJ (.slice (some ⟨gc,0,none⟩) 13 13) comes,aJ (.slice (some ⟨w.heap.size,0,none⟩) 13 13) known,aB (.slice (some ⟨g,0,none⟩) n capl) lits]/\CI (dbOf cls) tr lits known comes)) (fun v45 _=>L-(intOf v45).toNat)
   case atStart=>exact⟨0,Nat.zero_le _,rfl,aq ⟨_,_,(dz HM2).1,(dz HM2).2⟩⟩
   case round=>
    obtain⟨q2,hq2,rfl,HK⟩:=hrel
    obtain⟨known,comes,hmu,hci⟩:=dz HK
    by_cases hqL:q2<L
    ·obtain⟨x,hxb,hcx,hcomes⟩:=dz HR2 q2 _ gc known comes hqL hmu hci
     have HV:=aq (fun wx=>aT x wx hxb.2.1 hxb.2.2)
     have HCO:=aq hcomes
     have HCI:=aq hci
     have hqi2:(q2:Int)<(L:Int):=by omega
     have hvi:(x.natAbs:Int)<13:=by omega
     clear hcomes hmu hci HK HM2 HR2 HR3 HTA HEND
     generalize x.natAbs=v at *
     go_wp2_with fail
     refine(dz HCO).mono ?_
     rintro e w3 ⟨bb,rfl,hm3,hbt⟩
     cases bb
     ·have HM3:=aq hm3
      clear hm3 hbt
      go_wp2
      go_roundw
      case rel=>exact⟨q2+1,by omega,by go_num,aq ⟨known,comes,dz HM3,dz HCI⟩⟩
      case measure=>simp[intOf];omega
     ·obtain⟨b1,b2,hrd⟩:=hbt rfl
      obtain⟨hk1,hf1,hrd2⟩:=hrd w3 (Below.refl _ _)
      obtain⟨hk2,hf2,hm4,hci4⟩:=hrd2 _ (Below.refl _ _)
      have HM4:=aq (And.intro hm4 hci4)
      clear hm3 hbt hrd hrd2 hm4 hci4
      go_wp2_with fail
      refine(dz HV _).mono ?_
      rintro e w4 ⟨rfl,rfl⟩
      go_wp2_with fail
      refine(dz HV _).mono ?_
      rintro e w5 ⟨rfl,rfl⟩
      go_wp2
      go_roundw
      case rel=>exact⟨q2+1,by omega,by go_num,aq ⟨_,_,(dz HM4).1,(dz HM4).2⟩⟩
      case measure=>simp[intOf];omega
    ·have hqi2:¬(q2:Int)<(L:Int):=by omega
     have HT0:=aq (dz HTA _ _ _ _ hmu)
     have HCI:=aq hci
     clear hmu hci HK HM2 HR2 HTA
     by_cases hn1:n=1
     ·have HRES:=aq (dz HEND _ _ _ _ _ (dz HCI) (dz HT0) (by
       have h1:=dz HRL
       have h2:rest=[]:=List.length_eq_zero_iff.1 (by omega)
       rw[h2];rfl))
      have hn0:n-1=0:=by omega
      clear HEND HT0 HCI HR3 HRL HN
      subst hn1
      by_cases hc1:capl=1
      ·subst hc1
       go_wp2
       go_loopw [11,67] (fun v11 v67 wr'=>v11=.slice (some ⟨g,0,none⟩) 1 1/\v67=.int .i64 0/\Hid (wr'=wr)) (fun _ _ _=>0)
       case atStart=>exact⟨rfl,rfl,aq rfl⟩
       case round=>
        obtain⟨rfl,rfl,hwr⟩:=hrel
        have hwr':=dz hwr
        subst hwr'
        go_wp2
        try go_ret
        exact dz HRES
      ·go_wp2
       go_loopw [11,67] (fun v11 v67 wr'=>v11=.slice (some ⟨g,0,none⟩) 1 capl/\v67=.int .i64 0/\Hid (wr'=wr)) (fun _ _ _=>0)
       case atStart=>exact⟨rfl,rfl,aq rfl⟩
       case round=>
        obtain⟨rfl,rfl,hwr⟩:=hrel
        have hwr':=dz hwr
        subst hwr'
        go_wp2
        try go_ret
        exact dz HRES
     ·have hcap2:2<=capl:=by omega
      have hcl13:Hid (comes.length=13):=aq (dz HCI).clen
      go_wp2
      go_loopw [11,67] (fun v11 v67 wr=>∃(j:Nat) (short:List Int),j<=n-1/\v67=.int .i64 (j:Int)/\v11=.slice (some ⟨g,0,none⟩) short.length capl/\short.length<=j+1/\Hid (short=x0::(rest.take j).filter (fun y=>!aD comes y.natAbs))/\Hid (TAt base w m (.slice (some ⟨g,0,none⟩) n capl) lits wr (.slice (some ⟨gc,0,none⟩) 13 13) (.slice (some ⟨w.heap.size,0,none⟩) 13 13) comes known g capl short)) (fun _ v67 _=>n-1-(intOf v67).toNat)
      case atStart=>exact⟨0,[x0],Nat.zero_le _,rfl,rfl,by simp,aq (by simp),HT0⟩
      case round=>
       obtain⟨j,short,hj,rfl,rfl,hsj,HSH,HTA⟩:=hrel
       by_cases hjn:j<n-1
       ·obtain⟨x,hx,hxb,hcx,hcm,hrow⟩:=dz HR3 j _ gc known comes short (by omega) (dz hcl13) hsj (dz HTA)
        have HV:=aq (fun wx=>aT x wx hxb.2.1 hxb.2.2)
        have HROW:=aq hrow
        have hvi:(x.natAbs:Int)<13:=by omega
        have HTK:Hid (rest.take (j+1)=rest.take j++[x]):=aq (by
         obtain⟨h1,h2⟩:=List.getElem?_eq_some_iff.1 hx
         rw[List.take_succ_eq_append_getElem h1,h2])
        have hji:(j:Int)<((n-1:Nat):Int):=by omega
        have hji2:(j:Int)<(n:Int)-1:=by omega
        clear hx hrow HR3 HEND
        by_cases hm:aD comes x.natAbs=true
        ·have HN2:Hid (short=x0::(rest.take (j+1)).filter (fun y=>!aD comes y.natAbs)):=aq (by rw[dz HSH,dz HTK,List.filter_append];simp[hm])
         rw[hm]at hcm
         clear hm
         generalize x.natAbs=v at *
         go_wp2_with fail
         refine(dz HV _).mono ?_
         rintro e w3 ⟨rfl,rfl⟩
         go_wp2
         go_roundw
         case rel=>exact⟨j+1,short,by omega,by go_num,rfl,by omega,HN2,HTA⟩
         case measure=>simp[intOf];omega
        ·have hm':aD comes x.natAbs=false:=by simpa using hm
         have HN2:Hid (short++[x]=x0::(rest.take (j+1)).filter (fun y=>!aD comes y.natAbs)):=aq (by rw[dz HTK,List.filter_append,dz HSH];simp[hm'])
         have hsn:short.length<n:=by omega
         have HPU:Hid (∀(wz w4:World),Below wr.heap.size wr wz->w4.ownsRow base 3 1 (.slice (some ⟨g,0,none⟩) n capl) n ((ints (short++lits.drop short.length)).set short.length (.int .i64 x))->wz.grownBy w4 (some g)->TAt base w m (.slice (some ⟨g,0,none⟩) n capl) lits w4 (.slice (some ⟨gc,0,none⟩) 13 13) (.slice (some ⟨w.heap.size,0,none⟩) 13 13) comes known g capl (short++[x])):=aq (fun wz w4 hz ho hg=>by
          have hnn:=dz HN
          have ht:=dz HTA
          rw[←hnn]at ht ho⊢
          exact ht.push (by omega) hz ho hg)
         rw[hm']at hcm
         clear hm hm' HTA
         generalize hsl2:short.length=sl at *
         generalize x.natAbs=v at *
         go_wp2_with fail
         refine(dz HV _).mono ?_
         rintro e w3 ⟨rfl,rfl⟩
         go_wp2_with (at_builtin;refine hJ (base:=base) rfl _ _ 25 3 rfl Tryz.underlying25 Tryz.infoInt (dz HROW) hsn rfl rfl rfl ?_;intro w4 hown4 hgr4;have HM:=aq (dz HPU _ _ ((Below.refl _ _).alloc (Nat.le_refl _) _) hown4 hgr4);clear hown4 hgr4)
         go_roundw
         case rel=>exact⟨j+1,short++[x],by omega,by go_num,by simp[hsl2],by simp[hsl2];omega,HN2,HM⟩
         case measure=>simp[intOf];omega
       ·have hji:¬(j:Int)<((n-1:Nat):Int):=by omega
        have hji2:¬(j:Int)<(n:Int)-1:=by omega
        have HRES:=aq (dz HEND _ _ _ _ _ (dz HCI) (dz HTA) (by
         rw[dz HSH,List.take_of_length_le (by have:=dz HRL;omega)]))
        clear HEND HTA HCI HR3 HT0
        generalize short.length=sl at *
        go_wp2
        try go_ret
        exact dz HRES
end Go.Proofs.YtekkkoipcghlmaaGreatDoor
