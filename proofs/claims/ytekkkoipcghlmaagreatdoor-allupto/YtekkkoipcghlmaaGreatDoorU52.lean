import Derived.Test.YtekkkoipcghlmaaGreatDoorU51
import Derived.Test.YtekkkoipcghlmaaGreatDoorU44
import Derived.Test.YtekkkoipcghlmaaGreatDoorU46
import Derived.Test.YtekkkoipcghlmaaGreatDoorU45
set_option linter.all false
namespace Go.Proofs.YtekkkoipcghlmaaGreatDoor
open Go.RowKit
theorem aK7{ms:List Nat}(xs:List Int)(h:(∀m,m∈ms->m<2 ^ 24/\aO m=false)/\aW ms<=400):(∀m,m∈(addTo ms xs).2->m<2 ^ 24/\aO m=false)/\aW (addTo ms xs).2<=400:=by
 unfold addTo
 split
 ·exact h
 ·rename_i ha
  have ha:bD xs=true:=by simpa using ha
  split
  ·exact h
  ·rename_i h2
   split
   ·exact h
   ·refine⟨fun m hm=>?_,by rw[gY];omega⟩
    rcases List.mem_append.1 hm with hm|hm
    ·exact h.1 m hm
    ·simp at hm;subst hm
     exact⟨Sp.maskOf_lt _ (fun y hy=>(iU ha y hy).2),by simpa using h2⟩
theorem aC1(R:Rule)(w:World):WIs w.heap.size (w.alloc (.cells #[.slice none 0 0,.slice none 0 0] 64)) w.heap.size 0 (.slice none 0 0) (fun _=>0) (fun _ _=>False) (fun _=>[]) (eI R w.heap.size (.slice none 0 0) (fun _=>False) [] 0):=
 ⟨bU _ _,Nat.le_refl _,World.ownsRow_nil _ _ _ _,fun i hi=>by omega,fun i j hi=>by omega,fun i hi=>by omega,fun i hi=>by omega,by omega,⟨BookIs.nil _ _,Nat.le_refl _⟩,fun k hk=>hk.elim,fun i hi=>by omega,fun h=>h,fun g _ h=>h⟩
set_option maxRecDepth 100000 in
set_option maxHeartbeats 6400000 in
theorem aF9(R:Rule)(hi:Int)(hhi:hi=7∨hi=8)(a0:Option Addr)(b off len cap:Nat)(w:World)(hlen:len<=149796)(hpos:0<len->a0=some ⟨b,off,none⟩/\b<w.heap.size)(hops:tJ w b off len)(hst:aJ7 R hi w.heap.size w.heap.size w):
  Calls Tryz.prog 13 #[.slice a0 len cap,.int .i64 hi] w fun e w'=>e=.returned (.bool true)/\Below w.heap.size w w':=by
 have hi0:(6:Int)<hi:=by omega
 have hi1:hi<9:=by omega
 obtain⟨wa,hwa⟩:∃wa,w.alloc (.cells #[.slice none 0 0,.slice none 0 0] 64)=wa:=⟨_,rfl⟩
 have hba:Below w.heap.size w wa:=by rw[←hwa];exact aU _ _
 have HNEW:Hid (Calls Tryz.prog 35 #[.pointer (some ⟨w.heap.size,0,none⟩),.agg #[.int .i64 3,.int .i64 0,.int .i64 0,.string ⟨#[]⟩,.string ⟨#[]⟩,.slice none 0 0]] wa fun e w'=>e=.returned (.bool true)/\PlayInv R w.heap.size w.heap.size 1 0 w'/\Below w.heap.size wa w'):=
  aq (by
   have:=uD w.heap.size w.heap.size 0 0 0 [] [] (.slice none 0 0) (.slice none 0 0) (fun _=>0) (fun _ _=>False) (fun _=>[]) wa (by decide) (by rw[←hwa];exact aC1 R w) 0 (fun i hi=>by omega)
   exact this.mono (fun e w' h=>⟨h.1,⟨by decide,_,_,_,h.2.1⟩,h.2.2⟩))
 have HSTEP:=aq hst
 clear hst
 go_enter Tryz.func13,Tryz.ntmps13
 go_wp2_with fail
 refine(dz HNEW).mono ?_
 rintro e w1 ⟨rfl,hW1,hb1⟩
 have hbw1:=hba.trans hb1
 obtain⟨wl,hwl⟩:∃wl,w1.alloc (.cells #[.int .i64 1,.int .i64 2] 3)=wl:=⟨_,rfl⟩
 have HL1:Hid (Lies wl (.slice (some ⟨w1.heap.size,0,none⟩) 2 2) (ints [1,2])/\Below w1.heap.size w1 wl):=aq (by rw[←hwl];exact⟨vO w1 1 2,aU _ _⟩)
 go_wp2_with fail
 refine(dz HSTEP 1 0 4 0 0 [] [] _ [1,2] wl w1 (by omega) (by decide) (by decide) (by decide) (by decide) (by decide) (by decide) (by decide) (by decide) hW1 (dz HL1).2 hbw1 (dz HL1).1 (fun ao n c h=>by cases h;exact Nat.le_refl _) (fun _ g hg=>.inr (by simp[Value.ownBlock]at hg;omega))).mono ?_
 rintro e w2 ⟨rfl,n2,hW2,hbx2,-⟩
 have hbw2:=(hbw1.trans ((dz HL1).2.mono hbw1.size)).trans hbx2
 clear hwl
 obtain⟨wm,hwm⟩:∃wm,w2.alloc (.cells #[.int .i64 (-1),.int .i64 2] 3)=wm:=⟨_,rfl⟩
 have HL2:Hid (Lies wm (.slice (some ⟨w2.heap.size,0,none⟩) 2 2) (ints [-1,2])/\Below w2.heap.size w2 wm):=aq (by rw[←hwm];exact⟨vO w2 (-1) 2,aU _ _⟩)
 go_wp2_with fail
 refine(dz HSTEP n2 1 4 0 0 [] [] _ [-1,2] wm w2 (by omega) (by decide) (by decide) (by decide) (by decide) (by decide) (by decide) (by decide) (by decide) hW2 (dz HL2).2 hbw2 (dz HL2).1 (fun ao n c h=>by cases h;exact Nat.le_refl _) (fun _ g hg=>.inr (by simp[Value.ownBlock]at hg;omega))).mono ?_
 rintro e w3 ⟨rfl,n3,hW3,hbx3,-⟩
 have hbw3:=(hbw2.trans ((dz HL2).2.mono hbw2.size)).trans hbx3
 clear hwm hbx2 hbx3 hb1 hba hbw1 hbw2 hwa
 have HW3:=aq hW3
 have HBW3:=aq hbw3
 have HOPS:=aq hops
 have HPOS:=aq hpos
 clear hW1 hW2 hW3 hbw3 hops hpos
 go_wp2
 go_loopw [8,9] (fun ok i wr=>∃k n:Nat,k<=len/\i=.int .i64 k/\ok=.bool true/\Hid (PlayInv R w.heap.size w.heap.size n (2+k) wr)/\Hid (Below w.heap.size w wr)) (fun _ i _=>len-(intOf i).toNat)
 case atStart=>exact⟨0,n3,Nat.zero_le _,rfl,rfl,HW3,HBW3⟩
 case round=>
  obtain⟨k,n,hk,rfl,rfl,HWk,HBk⟩:=hrel
  by_cases hlt:k<len
  ·obtain⟨e0,hb⟩:=dz HPOS (by omega)
   subst e0
   obtain⟨kind,a,bb,s,t,v,xs,c0,c1,c2,c3,c4,c5,ha0,ha1,hsl,htl,hxl,hlv,hbb0,hbb1,hvc⟩:=dz HOPS k hlt
   have hbel:=dz HBk
   have d0:wr.cell? ⟨b,off+k*6,none⟩=some (.int .i64 kind):=(hbel.cell (p:=⟨b,off+k*6,none⟩) hb).trans c0
   by_cases h6:hi<kind
   ·clear c0 c1 c2 c3 c4 c5 hbel hvc
    go_wp2
    go_roundw
    case rel=>exact⟨k+1,n,by omega,by go_num,rfl,aq (dz HWk).more,HBk⟩
    case measure=>simp[intOf];omega
   ·have d1:wr.cell? ⟨b,off+k*6+1,none⟩=some (.int .i64 a):=(hbel.cell (p:=⟨b,off+k*6+1,none⟩) hb).trans c1
    have d2:wr.cell? ⟨b,off+k*6+2,none⟩=some (.int .i64 bb):=(hbel.cell (p:=⟨b,off+k*6+2,none⟩) hb).trans c2
    have d3:wr.cell? ⟨b,off+k*6+3,none⟩=some (.string (bs s)):=(hbel.cell (p:=⟨b,off+k*6+3,none⟩) hb).trans c3
    have d4:wr.cell? ⟨b,off+k*6+4,none⟩=some (.string (bs t)):=(hbel.cell (p:=⟨b,off+k*6+4,none⟩) hb).trans c4
    have d5:wr.cell? ⟨b,off+k*6+5,none⟩=some v:=(hbel.cell (p:=⟨b,off+k*6+5,none⟩) hb).trans c5
    have HST:=aq (fun wx (hx:Below wr.heap.size wr wx)=>dz HSTEP n (2+k) kind a bb s t v xs wx wr (by omega) ha0 ha1 hbb0 hbb1 hsl htl (by omega) (by omega) (dz HWk) hx hbel ((hlv.below hbel).below hx) hvc (fun hx g hg=>.inl (xC hlv hx hg)))
    have HBEL:=aq hbel
    clear c0 c1 c2 c3 c4 c5 hbel hlv hvc
    go_wp2_with fail
    refine(dz HST _ (Below.refl _ _)).mono ?_
    rintro e w4 ⟨rfl,n4,hW4,hb4,-⟩
    have HLK:=aq (hW4.looks (by omega))
    have HB4:Hid (Below w.heap.size w w4):=aq ((dz HBEL).trans hb4)
    have HW4:=aq hW4
    clear hW4 hb4
    go_wp2_with fail
    refine(dz HLK).mono ?_
    rintro e w5 ⟨rfl,hb5⟩
    have HW5:=aq ((dz HW4).below hb5)
    have HB5:Hid (Below w.heap.size w w5):=aq ((dz HB4).trans (hb5.mono (dz HB4).size))
    clear hb5
    go_wp2
    go_roundw
    case rel=>exact⟨k+1,n4,by omega,by go_num,by simp,HW5,HB5⟩
    case measure=>simp[intOf];omega
  ·obtain⟨wo,rfl⟩:∃wo,wo=wr:=⟨wr,rfl⟩
   have HNX:Hid (∀(wx:World) (kd:Int) (j m:Nat),kd<=hi->kd≠3->m<=20->j<=4->PlayInv R w.heap.size w.heap.size n (2+k+m) wx->Below w.heap.size w wx->Calls Tryz.prog 35 #[.pointer (some ⟨w.heap.size,0,none⟩),.agg #[.int .i64 kd,.int .i64 j,.int .i64 0,.string ⟨#[]⟩,.string ⟨#[]⟩,.slice none 0 0]] wx fun e w'=>e=.returned (.bool true)/\PlayInv R w.heap.size w.heap.size n (2+k+(m+1)) w'/\Below w.heap.size w w'):=aq (by
    intro wx kd j m h1 h2 h3 h4 h5 h6
    have:=dz HSTEP n (2+k+m) kd j 0 [] [] (.slice none 0 0) [] wx wx h1 (by omega) (by omega) (by decide) (by decide) (by decide) (by decide) (by decide) (by omega) h5 (Below.refl _ _) h6 (.inl ⟨rfl,_,_,rfl⟩) (fun ao n c h=>by cases h;exact Nat.le_refl _) (fun h=>absurd rfl h)
    refine this.mono ?_
    rintro e w' ⟨rfl,n',h7,h8,h9⟩
    rw[h9 h2]at h7
    exact⟨rfl,h7,h6.trans h8⟩)
   obtain⟨hn4,-,-⟩:=(dz HWk).cells
   clear HSTEP HOPS HPOS HW3 HBW3 HNEW
   go_wp2
   go_loopw [8,11] (fun ok i wx=>∃j:Nat,j<=n/\i=.int .i64 j/\ok=.bool true/\Hid (PlayInv R w.heap.size w.heap.size n (2+k+3*j) wx)/\Hid (Below w.heap.size w wx)) (fun _ i _=>n-(intOf i).toNat)
   case atStart=>exact⟨0,Nat.zero_le _,rfl,rfl,HWk,HBk⟩
   case round=>
    obtain⟨j,hj,rfl,rfl,HIx,HBx⟩:=hrel
    obtain⟨-,hBl,ao,cp,hcB⟩:=(dz HIx).cells
    by_cases hjn:j<n
    ·have HC:=aq (dz HNX wr 5 j (3*j) (by omega) (by decide) (by omega) (by omega) (dz HIx) (dz HBx))
     clear HWk HBk
     go_wp2_with fail
     refine(dz HC).mono ?_
     rintro e w6 ⟨rfl,hI6,hb6⟩
     have HC7:=aq (dz HNX w6 7 j (3*j+1) (by omega) (by decide) (by omega) (by omega) hI6 hb6)
     clear hI6 hb6 HC HIx HBx
     go_wp2_with fail
     refine(dz HC7).mono ?_
     rintro e w7 ⟨rfl,hI7,hb7⟩
     have HI7:=aq hI7
     have HB7:=aq hb7
     clear hI7 hb7 HC7
     rcases hhi with e8|e8
     ·subst e8
      go_wp2
      go_roundw
      case rel=>exact⟨j+1,by omega,by go_num,rfl,aq (dz HI7).more,HB7⟩
      case measure=>simp[intOf];omega
     ·subst e8
      have HC8:=aq (dz HNX w7 8 j (3*j+2) (by omega) (by decide) (by omega) (by omega) (dz HI7) (dz HB7))
      go_wp2_with fail
      refine(dz HC8).mono ?_
      rintro e w8 ⟨rfl,hI8,hb8⟩
      go_wp2
      go_roundw
      case rel=>exact⟨j+1,by omega,by go_num,rfl,aq hI8,aq hb8⟩
      case measure=>simp[intOf];omega
    ·go_wp2
     go_ret
     exact⟨rfl,dz HBx⟩
end Go.Proofs.YtekkkoipcghlmaaGreatDoor
namespace Go.Proofs.YtekkkoipcghlmaaGreatDoor
open Go.ChangeShapes Go.WideShapes Go.ChangeAt Go.RowKit Go.Deep
theorem Tryz.laidOut:laidOutB Tryz.prog=true:=by kernel_rfl
theorem fO{cs:List Value}{o:Nat}{v:Value}(h:(cs.drop o).take 1=[v]):cs[o]?=some v:=by
 have:=congrArg (·[0]?) h
 simpa [List.getElem?_take,List.getElem?_drop] using this
theorem aS1(s:ByteArray):s=bs s.data.toList:=by unfold bs;cases s;simp
end Go.Proofs.YtekkkoipcghlmaaGreatDoor
namespace Go.Proofs.YtekkkoipcghlmaaGreatDoor
open Go.ChangeShapes Go.WideShapes Go.ChangeAt Go.RowKit Go.Deep
theorem aL1{H:Type}(d:DataW H):1<=Rows.uptoBulk d:=by
 cases d with
 | lit l=>cases l<;>simp[Rows.uptoBulk]
 | _=>simp[Rows.uptoBulk]
theorem lU{H:Type}{d:DataW H}:∀{l:List (DataW H)},d∈l->Rows.uptoBulk d<=Rows.uptoBulkAll l
 | [],h=>by cases h
 | x::r,h=>by
  simp only[Rows.uptoBulkAll]
  rcases List.mem_cons.1 h with rfl|h
  ·omega
  ·have:=lU h;omega
theorem lY{H:Type}:∀(l:List (DataW H)),l.length<=Rows.uptoBulkAll l
 | []=>by simp[Rows.uptoBulkAll]
 | x::r=>by
  have:=lY r
  have:=aL1 x
  simp only[Rows.uptoBulkAll,List.length_cons];omega
theorem Tryz.cellsInts:Tryz.prog.cellsOf 25=1:=by kernel_rfl
theorem aS0{n:Int}(h:(Lit.int .i64 n).wf=true):-9223372036854775808<=n/\n<=9223372036854775807:=by
 have h1:IntKind.i64.min=-9223372036854775808:=by decide
 have h2:IntKind.i64.max=9223372036854775807:=by decide
 simp only[Lit.wf,Bool.and_eq_true,decide_eq_true_eq]at h
 rw[h1,h2]at h
 exact h
theorem aA7{H:Type}{enc:TypeId×Value->H}{W:World}{base n:Nat}{spare:Nat->Bool}{held:Bool}{v:Value}{y:DataW H×List MemPlace}
  (h:DataW.trod enc Tryz.prog W base spare held n 25 [v]=some y):∃xs:List Int,Lies W v (ints xs)/\xs.length<=Rows.uptoBulk y.1/\∀ao n c,v=.slice ao n c->n<=c:=by
 rcases open_slice1 Tryz.underlying25 Tryz.cellsInt h with⟨hcs,hx⟩|⟨a,len,cap,m,n',V,D,Pl,hcs,hab,hl,hm,hmm,hx,hel⟩
 ·simp at hcs;subst hcs
  exact⟨[],Lies.nil _,by simp,fun ao n c h=>by cases h;exact Nat.le_refl _⟩
 ·simp at hcs;subst hcs
  have hlm:len<=m:=by rw[hmm];split<;>omega
  have hV:∀i,i<len->V i=.int .i64 (intOf (V i)):=fun i hi=>by
   obtain⟨_,ht⟩:=hel i (by omega)
   obtain⟨q,e0,_,_⟩:=DataW.trod_int Tryz.underlying3 ht
   simp at e0;rw[e0];rfl
  have hbulk:len<=Rows.uptoBulk y.1:=by
   rw[hx]
   have:=lY ((List.range len).map D)
   simp only[Rows.uptoBulk,List.length_map,List.length_range]at this⊢
   omega
  refine⟨(List.range len).map (fun i=>intOf (V i)),?_,by simpa using hbulk,fun ao n c h=>by cases h;exact hl⟩
  by_cases h0:len=0
  ·subst h0;exact .inl ⟨rfl,_,_,rfl⟩
  ·obtain⟨b,off,spot⟩:=a
   have c0:=(hel 0 (by omega)).1
   have hspot:spot=none:=by simpa [Addr.add] using World.cell?_spot c0
   subst hspot
   have hb:b<W.heap.size:=by simpa [Addr.add] using World.block_lt_of_cell? W _ c0
   refine .inr ⟨b,off,cap,by simp[ints];omega,by simp[ints],hb,fun k x hk=>?_⟩
   have hkl:k<len:=by
    have:=(List.getElem?_eq_some_iff.1 hk).1
    simpa [ints] using this
   have hxk:x=.int .i64 (intOf (V k)):=by
    simp[ints,hkl]at hk;exact hk.symm
   have hc:=(hel k (by omega)).1
   rw[show(⟨b,off,none⟩:Addr).add k=⟨b,off+k,none⟩from by simp[Addr.add]]at hc
   rw[hc,hxk,←hV k hkl]
theorem aO5{H:Type}{enc:TypeId×Value->H}{W:World}{base n:Nat}{spare:Nat->Bool}{held:Bool}{cs:List Value}{x:DataW H×List MemPlace}
  (h:DataW.trod enc Tryz.prog W base spare held n 67 cs=some x):
  ∃(kind a b:Int) (s t:ByteArray) (v:Value) (xs:List Int),cs[0]?=some (.int .i64 kind)/\cs[1]?=some (.int .i64 a)/\cs[2]?=some (.int .i64 b)/\cs[3]?=some (.string s)/\cs[4]?=some (.string t)/\cs[5]?=some v/\
   (-9223372036854775808<=a/\a<=9223372036854775807)/\s.size<=maxLen/\t.size<=maxLen/\Lies W v (ints xs)/\xs.length<=Rows.uptoBulk x.1/\(-9223372036854775808<=b/\b<=9223372036854775807)/\∀ao n c,v=.slice ao n c->n<=c:=by
 obtain⟨xs,n',_,hx0,_,hxl,hf⟩:=DataW.trod_struct Tryz.underlying67 h
 have hx:∀i,i<6->∃y,xs[i]?=some y:=fun i hi=>⟨xs[i]'(by rw[hxl];exact hi),List.getElem?_eq_getElem _⟩
 have f0:DataW.trod enc Tryz.prog W base spare held n' 3 ((cs.drop 0).take (Tryz.prog.cellsOf 3))=xs[0]?:=hf 0 _ rfl
 have f1:DataW.trod enc Tryz.prog W base spare held n' 3 ((cs.drop 1).take (Tryz.prog.cellsOf 3))=xs[1]?:=hf 1 _ rfl
 have f2:DataW.trod enc Tryz.prog W base spare held n' 3 ((cs.drop 2).take (Tryz.prog.cellsOf 3))=xs[2]?:=hf 2 _ rfl
 have f3:DataW.trod enc Tryz.prog W base spare held n' 9 ((cs.drop 3).take (Tryz.prog.cellsOf 9))=xs[3]?:=hf 3 _ rfl
 have f4:DataW.trod enc Tryz.prog W base spare held n' 9 ((cs.drop 4).take (Tryz.prog.cellsOf 9))=xs[4]?:=hf 4 _ rfl
 have f5:DataW.trod enc Tryz.prog W base spare held n' 25 ((cs.drop 5).take (Tryz.prog.cellsOf 25))=xs[5]?:=hf 5 _ rfl
 obtain⟨y0,h0⟩:=hx 0 (by omega)
 obtain⟨y1,h1⟩:=hx 1 (by omega)
 obtain⟨y2,h2⟩:=hx 2 (by omega)
 obtain⟨y3,h3⟩:=hx 3 (by omega)
 obtain⟨y4,h4⟩:=hx 4 (by omega)
 obtain⟨y5,h5⟩:=hx 5 (by omega)
 rw[h0]at f0
 rw[h1]at f1
 rw[h2]at f2
 rw[h3]at f3
 rw[h4]at f4
 rw[h5]at f5
 obtain⟨kind,e0,_,_⟩:=DataW.trod_int Tryz.underlying3 f0
 obtain⟨a,e1,_,hwa⟩:=DataW.trod_int Tryz.underlying3 f1
 obtain⟨b,e2,_,hwb⟩:=DataW.trod_int Tryz.underlying3 f2
 obtain⟨s,e3,_,hs⟩:=DataW.trod_string Tryz.underlying9 f3
 obtain⟨t,e4,_,ht⟩:=DataW.trod_string Tryz.underlying9 f4
 rw[Tryz.cellsInt]at e0 e1 e2
 rw[Tryz.cellsStr]at e3 e4
 rw[Tryz.cellsInts]at f5
 have e5:∃v,(cs.drop 5).take 1=[v]:=by
  rcases open_slice Tryz.underlying25 f5 with⟨hcs,_⟩|⟨a,len,cap,m,n,D,Pl,hcs,_⟩
  ·exact⟨_,hcs⟩
  ·exact⟨_,hcs⟩
 obtain⟨v,e5⟩:=e5
 rw[e5]at f5
 obtain⟨zs,hz,hzl,hzr⟩:=aA7 f5
 refine⟨kind,a,b,s,t,v,zs,fO e0,fO e1,fO e2,fO e3,fO e4,fO e5,aS0 hwa,hs,ht,hz,Nat.le_trans hzl ?_,aS0 hwb,hzr⟩
 rw[hx0]
 simp only[Rows.uptoBulk]
 have:y5.1∈xs.map (fun y=>y.1):=List.mem_map.2 ⟨y5,List.mem_of_getElem? h5,rfl⟩
 have:=lU this
 omega
theorem aJ9{H:Type}{enc:TypeId×Value->H}{W:World}{base n m len:Nat}{spare:Nat->Bool}{held:Bool}{a:Addr}{D:Nat->DataW H}{Pl:Nat->List MemPlace}(hlen:0<len)(hm:len<=m)(hsmall:∀i,i<len->Rows.uptoBulk (D i)<=2000000)
  (hel:∀i,i<m->∃cs',W.cells? base (a.add (i*Tryz.prog.cellsOf 67)) (Tryz.prog.cellsOf 67)=some cs'/\DataW.trod enc Tryz.prog W base spare held n 67 cs'=some (D i,Pl i)):
  ∃b off,a=⟨b,off,none⟩/\b<W.heap.size/\tJ W b off len:=by
 obtain⟨b,off,spot⟩:=a
 have key:∀i,i<len->∃(kind a bb:Int) (s t:ByteArray) (v:Value) (xs:List Int),W.cell? ((⟨b,off,spot⟩:Addr).add (i*6))=some (.int .i64 kind)/\W.cell? (((⟨b,off,spot⟩:Addr).add (i*6)).add 1)=some (.int .i64 a)/\W.cell? (((⟨b,off,spot⟩:Addr).add (i*6)).add 2)=some (.int .i64 bb)/\W.cell? (((⟨b,off,spot⟩:Addr).add (i*6)).add 3)=some (.string s)/\W.cell? (((⟨b,off,spot⟩:Addr).add (i*6)).add 4)=some (.string t)/\W.cell? (((⟨b,off,spot⟩:Addr).add (i*6)).add 5)=some v/\
   (-9223372036854775808<=a/\a<=9223372036854775807)/\s.size<=maxLen/\t.size<=maxLen/\Lies W v (ints xs)/\xs.length<=2000000/\(-9223372036854775808<=bb/\bb<=9223372036854775807)/\∀ao n c,v=.slice ao n c->n<=c:=by
  intro i hi
  obtain⟨cs',hc,ht⟩:=hel i (by omega)
  rw[Tryz.cellsOp]at hc
  obtain⟨_,_,hcell⟩:=World.cells?_some hc
  obtain⟨kind,a,bb,s,t,v,xs,e0,e1,e2,e3,e4,e5,ha,hs,ht',hz,hzl,hbb,hzr⟩:=aO5 ht
  refine⟨kind,a,bb,s,t,v,xs,?_,(hcell 1 (by omega)).trans e1,(hcell 2 (by omega)).trans e2,(hcell 3 (by omega)).trans e3,(hcell 4 (by omega)).trans e4,(hcell 5 (by omega)).trans e5,ha,hs,ht',hz,Nat.le_trans hzl (hsmall i hi),hbb,hzr⟩
  have:=(hcell 0 (by omega)).trans e0
  simpa [Addr.add] using this
 obtain⟨k0,_,_,_,_,_,_,h0,_⟩:=key 0 hlen
 have hspot:spot=none:=by simpa [Addr.add] using World.cell?_spot h0
 subst hspot
 have hb:b<W.heap.size:=by simpa [Addr.add] using World.block_lt_of_cell? W _ h0
 refine⟨b,off,rfl,hb,fun k hk=>?_⟩
 obtain⟨kind,a,bb,s,t,v,xs,e0,e1,e2,e3,e4,e5,ha,hs,ht,hz,hzl,hbb,hzr⟩:=key k hk
 have add_none:∀o j:Nat,(⟨b,o,none⟩:Addr).add j=⟨b,o+j,none⟩:=fun o j=>by simp[Addr.add]
 rw[add_none]at e0 e1 e2 e3 e4 e5
 rw[add_none]at e1 e2 e3 e4 e5
 refine⟨kind,a,bb,s.data.toList,t.data.toList,v,xs,e0,e1,e2,by rw[←aS1];exact e3,by rw[←aS1];exact e4,e5,ha.1,ha.2,?_,?_,hzl,hz,hbb.1,hbb.2,hzr⟩
 ·have:=Lib.size_eq s
  unfold maxLen at hs;omega
 ·have:=Lib.size_eq t
  unfold maxLen at ht;omega
end Go.Proofs.YtekkkoipcghlmaaGreatDoor
namespace Go.Proofs.YtekkkoipcghlmaaGreatDoor
open Go.ChangeShapes Go.WideShapes Go.ChangeAt Go.RowKit Go.Deep
theorem nP{H:Type}:∀(l:List (DataW H)),(∀d,d∈l->7<=Rows.uptoBulk d)->7*l.length<=Rows.uptoBulkAll l
 | [],_=>by simp[Rows.uptoBulkAll]
 | x::r,h=>by
  have h1:=nP r (fun d hd=>h d (List.mem_cons_of_mem _ hd))
  have h2:=h x (by simp)
  simp only[Rows.uptoBulkAll,List.length_cons];omega
theorem aP1{H:Type}{enc:TypeId×Value->H}{W:World}{base n:Nat}{spare:Nat->Bool}{held:Bool}{cs:List Value}{x:DataW H×List MemPlace}
  (h:DataW.trod enc Tryz.prog W base spare held n 67 cs=some x):7<=Rows.uptoBulk x.1:=by
 obtain⟨xs,n',_,hx0,_,hxl,hf⟩:=DataW.trod_struct Tryz.underlying67 h
 rw[hx0]
 have:=lY (xs.map fun y=>y.1)
 rw[List.length_map]at this
 have h6:xs.length=6:=hxl
 simp only[Rows.uptoBulk]
 omega
theorem zK{n q:Nat}(c:Nat)(h:n<=q*c):n<=(q+1)*c:=Nat.le_trans h (Nat.mul_le_mul_right _ (Nat.le_succ q))
theorem vX{n m q:Nat}(c:Nat)(h:n<=q*c)(hm:m<=c):n+m<=(q+1)*c:=by
 rw[Nat.add_mul,Nat.one_mul]
 exact Nat.add_le_add h hm
end Go.Proofs.YtekkkoipcghlmaaGreatDoor
namespace Go.Proofs.YtekkkoipcghlmaaGreatDoor
open Go.RowKit Sp
set_option maxRecDepth 100000 in
set_option maxHeartbeats 1600000 in
theorem xZ{Z:Play}(base B n:Nat)(a b:Int)(s t:List UInt8)(v lv:Value)(p:Nat->Nat)(F:Nat->Nat->Prop)(ms:Nat->List Nat)(w:World)(h0:-9223372036854775808<=a)(h1:a<=9223372036854775807)(hn:0<n)(hW:WIs base w B n lv p F ms Z)(hL:∀i,i<n->(ms i).length<=3000000)(hI:∀ms pb pr gr la en,Z.I ms pb pr gr la en->sQ ms pb pr gr la en/\Z.I ms pb (bs pb) false la en):
  Calls Tryz.prog 35 #[.pointer (some ⟨B,0,none⟩),dO 8 a b s t v] w fun e w'=>e=.returned (.bool true)/\∃wx,Below w.heap.size w wx/\gC base wx w' (F (aL a n)) (p (aL a n)) (ms (aL a n)) Z:=by
 have hd:=eN a hn
 have HSV:Hid (∀wx,Below w.heap.size w wx->Calls Tryz.prog 59 #[.pointer (some ⟨p (aL a n),0,none⟩)] wx fun e w'=>e=.returned (.bool true)/\gC base wx w' (F (aL a n)) (p (aL a n)) (ms (aL a n)) Z):=aq (by
  intro wx hx
  obtain⟨x,kv,y,yv,vs,pv,pb,hs⟩:=(hW.keepAll hx).sides _ hd
  exact xR base _ _ x y kv yv vs _ pv pb wx hs (hL _ hd) (hI _ _))
 obtain⟨g,cp,rfl,hc0,hcd⟩:=hW.cells hn
 have h4:=hW.four
 have hBl:=aA hW.block
 have hgl:=(hW.row.lt g rfl).2
 have HP:=aq (fun wx=>gP a n wx h0 h1 hn h4)
 unfold dO
 obtain⟨w1,hw1,hop⟩:=lQ w 8 a b s t v
 have c0:=hop.c0
 have c1:=hop.c1
 have hcB:w1.cell? ⟨B,0,none⟩=some (.slice (some ⟨g,0,none⟩) n cp):=(hop.below.cell (p:=⟨B,0,none⟩) hBl).trans hc0
 have HB1:=aq hop.below
 have hcd1:w1.cell? ⟨g,aL a n,none⟩=some (.pointer (some ⟨p (aL a n),0,none⟩)):=(hop.below.cell (p:=⟨g,aL a n,none⟩) hgl).trans (hcd _ hd)
 generalize ms (aL a n)=md at *
 generalize F (aL a n)=Fd at *
 generalize p (aL a n)=pd at *
 generalize aL a n=d at *
 clear hop hc0 hcd hW hL hI
 go_enter Tryz.func35,Tryz.ntmps35
 go_wp2
 go_quiet ((go_at_call 53;refine Calls.quiet_of_same (dz HP _)))
 go_wp2_with fail
 have hb2:=aG (dz HB1) nq
 refine(dz HSV _ hb2).mono ?_
 rintro e w2 ⟨rfl,hr⟩
 have HR:=aq hr
 have HB2:=aq hb2
 clear hr hb2
 go_wp2
 go_ret
 exact⟨rfl,_,dz HB2,dz HR⟩
def tQ:Rule where
 I:=fun q ms pb pr gr la en=>(((∀m,m∈ms->m<2 ^ 24/\aO m=false)/\aW ms<=400)/\pb.length<=q*700000097)/\AccN (q*7000001) ms pb/\(∃p0 t,pr=bs p0/\pb=p0++t/\(gr=false->p0=pb))/\(en=true->∃U m,m<2 ^ 24/\pb=aQ (U++[(false,m)])/\la=bs (told (litsOf m)))
 new:=fun q=>⟨⟨⟨fun m hm=>(by cases hm),by simp[aW]⟩,by simp⟩,AccN.nil _ _,⟨[],[],rfl,rfl,fun _=>rfl⟩,fun h=>by cases h⟩
 add:=fun q ms pb pr gr la en xs h=>⟨⟨aK7 xs h.1.1,h.1.2⟩,h.2.1.addTo xs,h.2.2⟩
 reset:=fun q la=>⟨⟨⟨fun m hm=>(by cases hm),by simp[aW]⟩,by simp⟩,AccN.nil _ _,⟨[],[],rfl,rfl,fun _=>rfl⟩,fun h=>by cases h⟩
 more:=fun q ms pb pr gr la en h=>⟨⟨h.1.1,zK _ h.1.2⟩,h.2.1.more (zK _ (Nat.le_refl _)),h.2.2⟩
 ok:=fun q ms pb pr gr la en h=>h.1
 solve:=fun q ms pb pr gr la en S D core kind la' h hch hwf hS hk=>by
  obtain⟨⟨h1,h2⟩,h3,⟨p0,t,rfl,hpt,-⟩,-⟩:=h
  obtain⟨hA,hU⟩:=h3.solve hch hwf (fun e=>⟨(hk e).1,(hk e).2.1⟩)
  refine⟨⟨h1,?_⟩,hA.more ?_,⟨p0,t++(aP S++if kind=2 then told (litsOf (aK (maskOf core)))else []),rfl,by rw[hpt,List.append_assoc],fun h=>by cases h⟩,fun he=>?_⟩
  ·have h4:=gE S
   have h5:=dE (aK (maskOf core))
   rw[List.length_append]
   refine vX _ h2 ?_
   rw[List.length_append]
   split
   ·omega
   ·simp only[List.length_nil];omega
  ·rw[Nat.add_assoc]
   exact vX _ (Nat.le_refl _) (by omega)
  ·have e2:kind=2:=of_decide_eq_true he
   obtain⟨U,hU⟩:=hU e2
   obtain⟨k1,-,k3⟩:=hk e2
   refine⟨U,_,lL _,hU,?_⟩
   rw[k3,←litsOf_maskOf _ (fun y hy=>?_),uV k1]
   obtain⟨z,hz,rfl⟩:=List.mem_map.1 hy
   have:=(k1 z hz).1
   omega
theorem tX{q:Nat}(hq:q<=199000){base:Nat}{bk:Value}{G:Nat->Prop}{es:List Entry}(ms:List Nat)(pb:List UInt8)(pr:ByteArray)(gr:Bool)(la:ByteArray)(en:Bool)(h:(eI tQ base bk G es q).I ms pb pr gr la en):sQ ms pb pr gr la en/\(eI tQ base bk G es q).I ms pb (bs pb) false la en:=
 ⟨⟨h.2.1.more (Nat.le_trans (Nat.mul_le_mul_right _ hq) (by decide)),Nat.le_trans h.1.2 (Nat.le_trans (Nat.mul_le_mul_right _ hq) (by decide)),h.2.2⟩,h.1,h.2.1,⟨pb,[],rfl,by rw[List.append_nil],fun _=>rfl⟩,h.2.2.2⟩
theorem steps8(base B:Nat)(w:World)(he:Env w)(hb:w.heap.size<=base):aJ7 tQ 8 base B w:=by
 intro n q kind a bb s t v xs wx w0 hk h0 h1 hb0 hb1 hs ht hl hq hI hx hw hv hvc hvb
 by_cases h8:kind=8
 ·subst h8
  obtain⟨hn,bk,G,es,lv,p,F,ms,hW,hL⟩:=hI
  refine(xZ base B n a bb s t v lv p F ms wx h0 h1 hn (hW.keepAll hx) (fun i hi=>Nat.le_trans (hL i hi) (by omega)) (tX hq)).mono ?_
  rintro e w' ⟨rfl,wy,hy,hT⟩
  have hWy:=(hW.keepAll hx).keepAll hy
  obtain⟨⟨lv',p',F',ms',h2,hL2⟩,h3⟩:=hWy.turned (L:=q) hL (eN a hn) hT
  have hbase:=(hW.keepAll hx).base_le
  exact⟨rfl,n,⟨hn,bk,G,es,lv',p',F',ms',h2.later,hL2⟩,(hy.mono hbase).trans h3,fun _=>rfl⟩
 ·exact steps7 tQ base B w he hb n q kind a bb s t v xs wx w0 (by omega) h0 h1 hb0 hb1 hs ht hl hq hI hx hw hv hvc hvb
set_option maxRecDepth 100000 in
theorem oP(a0:Option Addr)(b off len cap:Nat)(w:World)(hlen:len<=149796)(hpos:0<len->a0=some ⟨b,off,none⟩/\b<w.heap.size)(hops:tJ w b off len)(he:Env w):
  Calls Tryz.prog 7 #[.slice a0 len cap] w fun e w'=>e=.returned (.bool true)/\Below w.heap.size w w':=by
 have HP:=aq (aF9 tQ 8 (.inr rfl) a0 b off len cap w hlen hpos hops (steps8 w.heap.size w.heap.size w he (Nat.le_refl _)))
 clear hpos hops
 go_enter Tryz.func7,Tryz.ntmps7
 go_wp2_with fail
 refine(dz HP).mono ?_
 rintro e w1 ⟨rfl,hb1⟩
 go_wp2
 go_ret
 exact⟨rfl,hb1⟩
end Go.Proofs.YtekkkoipcghlmaaGreatDoor
namespace Go.Proofs.YtekkkoipcghlmaaGreatDoor
open Go.ChangeShapes Go.WideShapes Go.ChangeAt Go.RowKit Go.Deep
set_option maxRecDepth 100000 in
theorem sN(H:Type)(enc:TypeId×Value->H)(W:World)(base:Nat)(args:Array Value)(ds gs:List (DataW H))(before:List MemPlace)
  (hval:∀(j:Nat) t v,Tryz.f7.params[j]?=some t->args[j]?=some v->Value.okWide Tryz.prog W .any base t v)
  (hW:DataW.Whole enc Tryz.prog Tryz.f7.params.toList Rows.allSpec.vars false W args.toList ds gs before) (hk:Rows.uptoSmall H (ds++gs)=true) (hL:laidMetH Tryz.prog Rows.allUptoRow.laid W) (hS:W.ShapedOpen Tryz.prog):
  Calls Tryz.prog 7 args W fun e W'=>∃v,e=.returned v/\Rows.allSpec.post enc Tryz.prog Tryz.f7 false true false false W args v W':=by
 have he:=env_of hL hS
 have hW':=hW
 obtain⟨p,q,hA0,hV,rfl,hfz,hnd⟩:=hW
 have hA:DataW.TrodAll enc Tryz.prog W 0 (fun _=>true) true Tryz.f7.params.toList args.toList ds p:=hA0
 rw[Tryz.params7]at hA hval
 obtain⟨v0,d0,rfl,rfl,h0⟩:=trodAll_one hA
 obtain⟨rfl,rfl⟩:=trodVars_none hV
 have h0k:=h0
 obtain⟨fuel,hf⟩:=h0
 clear hA0
 simp only[List.append_nil]at hW'
 have hlt:∀x∈p,x.block<W.heap.size:=fun x hx=>by simpa using hW'.lt x hx
 obtain⟨a0,len,cap,rfl⟩:=okWide_slice Tryz.underlying22 (hval 0 22 v0 rfl rfl)
 have hargs:∀(W':World),Below W.heap.size W W'->DataW.Trod enc Tryz.prog W' 0 (fun b=>decide (b<W.heap.size)) true 22 (.slice a0 len cap) d0 p:=
  fun W' hn=>Below.trod Tryz.laidOut (by kernel_rfl) (of_decide_eq_true (by kernel_rfl)) h0k hn hlt
 have fin:(Calls Tryz.prog 7 #[.slice a0 len cap] W fun e w'=>e=.returned (.bool true)/\Below W.heap.size W w')->
   Calls Tryz.prog 7 #[.slice a0 len cap] W fun e W'=>∃v,e=.returned v/\Rows.allSpec.post enc Tryz.prog Tryz.f7 false true false false W #[.slice a0 len cap] v W':=by
  intro hc
  refine hc.mono fun e W' ⟨he,hb⟩=>?_
  subst he
  exact⟨_,rfl,_,_,_,[],p,[],hW',trodAll_mk1 (shut_bool Tryz.underlying4 _),trodAll_mk1 (hargs W' hb),rfl,hb.frame _,fun h=>by cases h⟩
 rcases open_slice Tryz.underlying22 hf with⟨hcs,hx⟩|⟨a,len',cap',m,n,D,Pl,hcs,_,hl,hm,hmm,hx,hel⟩
 ·simp[Value.cells]at hcs
  obtain⟨rfl,rfl,rfl⟩:=hcs
  exact fin (oP none 0 0 0 0 W (by omega) (fun h=>by omega) (fun k hk=>by omega) he)
 ·simp[Value.cells]at hcs
  obtain⟨rfl,rfl,rfl⟩:=hcs
  by_cases h0:len=0
  ·subst h0
   exact fin (oP (some a) 0 0 0 cap W (by omega) (fun h=>by omega) (fun k hk=>by omega) he)
  ·simp only[if_true]at hmm
   subst hmm
   have hbd:Rows.uptoBulkAll ([d0]++([]:List (DataW H)))<=1048576:=of_decide_eq_true hk
   rw[show d0=_ from congrArg Prod.fst hx]at hbd
   simp only[List.append_nil,Rows.uptoBulkAll,Rows.uptoBulk]at hbd
   have hlen:len<=149796:=by
    have:=nP ((List.range len).map D) (fun d hd=>by
     obtain⟨i,hi,rfl⟩:=List.mem_map.1 hd
     have hi:i<len:=by simpa using hi
     obtain⟨cs',-,ht⟩:=hel i (by omega)
     exact aP1 ht)
    simp only[List.length_map,List.length_range]at this
    omega
   have hsm:∀i,i<len->Rows.uptoBulk (D i)<=2000000:=fun i hi=>by
    have:=lU (d:=D i) (l:=(List.range len).map D) (List.mem_map.2 ⟨i,by simpa using hi,rfl⟩)
    omega
   obtain⟨b,off,rfl,hb,hops⟩:=aJ9 (by omega) hl hsm hel
   exact fin (oP _ b off len _ W hlen (fun _=>⟨rfl,hb⟩) hops he)
theorem pW(os:Os):laidMet Tryz.prog Rows.allUptoRow.laid ((World.laidAll Tryz.prog os Rows.allUptoRow.laid).forCall (fun _ _=>0) ⟨#[],#[.slice none 0 0],[]⟩).memory:=
 laidMet_laidAll _ (by kernel_rfl) (by kernel_rfl)
theorem nD(os:Os){H:Type}(enc:TypeId×Value->H):∃places,DataW.whole enc Tryz.prog ((World.laidAll Tryz.prog os Rows.allUptoRow.laid).forCall (fun _ _=>0) ⟨#[],#[.slice none 0 0],[]⟩).memory Tryz.f7.params.toList Rows.allSpec.vars false #[Value.slice none 0 0].toList 8=some ([.nil],[],places):=
 ⟨[],by kernel_rfl⟩
set_option maxRecDepth 100000 in
theorem xK(os:Os)(started:os.Started)(H:Type)(enc:TypeId×Value->H)(F:Stop.Interp):
  ReturnsInHanded {} Tryz.checked os 7 .any ((Rows.OpenSpec.upto Rows.allSpec).preRow enc Tryz.prog Tryz.f7 Rows.allUptoRow.domain false Rows.allUptoRow.laid) (((Rows.OpenSpec.upto Rows.allSpec).at F).post enc Tryz.prog Tryz.f7 false true false false):=by
 obtain⟨places,hx⟩:=nD os enc
 refine returnsInHanded_of_row (C:=Tryz.checked) (s:=Rows.OpenSpec.upto Rows.allSpec) Tryz.ownKnob started (by kernel_rfl) Tryz.func7
  ⟨World.laidAll Tryz.prog os Rows.allUptoRow.laid,fun _ _=>0,⟨#[],#[.slice none 0 0],[]⟩,World.laidAll_os _ _ _,World.shaped_of_ZipB (by kernel_rfl) (by kernel_rfl),rfl,(Input.okWide_of_okWideB (by kernel_rfl)).2,
   OpenSpec.preRow_of_cond 8 hx (by kernel_rfl) (fun k hk=>by cases hk;kernel_rfl) (by kernel_rfl) (pW os),by simp[Assume.holds]⟩ ?_
 intro W base args ds gs before hval hW _ hcond _ hL hS _
 exact sN H enc W base args ds gs before hval hW (hcond _ rfl) hL hS
theorem aM1:Rows.AllUptoSaid:=
 OpenClaim.holds_of_cond 7 Tryz.f7 rfl rfl rfl rfl rfl rfl rfl ⟨rfl,rfl,rfl,rfl,rfl⟩ rfl rfl rfl rfl rfl (by kernel_rfl) Tryz.func7 (by kernel_rfl)
  (of_decide_eq_true (by kernel_rfl)) (by unfold Func.isWrapper;first|(rw[if_pos (by decide +kernel)];kernel_rfl)|(rw[if_neg (by decide +kernel)];exact⟨rfl,rfl⟩))
  (fun os started H enc _ F=>by rw[OpenClaim.pre_eq_preRow];exact xK os started H enc F)
theorem aG5(f:FuncId)(fn:Func)(hf:Tryz.pinned.checked.prog.funcNamed "knots/knotslaw.All" = some f) (hfn:Tryz.pinned.checked.prog.funcs[f]?=some fn):
  true=Tryz.pinned.checked.prog.looks []/\∀(j:Nat) t,fn.params[j]?=some t->Tryz.pinned.checked.prog.wantsStandIn t=false:=by
 obtain rfl:f=7:=Option.some.inj ((show Tryz.prog.funcNamed "knots/knotslaw.All" = some 7 by kernel_rfl).symm.trans hf) |>.symm
 obtain rfl:fn=Tryz.f7:=(Option.some.inj (Tryz.func7.symm.trans hfn)).symm
 refine⟨by kernel_rfl,fun j t ht=>?_⟩
 rw[Tryz.params7]at ht
 obtain rfl:t=22:=by simpa using Array.mem_of_getElem? ht
 exact(show Tryz.prog.wantsStandIn 22=false by kernel_rfl)
theorem all_card:Rows.AllUptoCardSaid:=
 Claim7.holds_tied_plain_at .later [] _ _ _ _ aM1 (fun _ h=>by cases h) (by kernel_rfl) (fun _ h=>by cases h) allUpto_row_tie rfl ⟨rfl,rfl⟩ (by kernel_rfl) rfl aG5 (by kernel_rfl)
#print axioms all_card
end Go.Proofs.YtekkkoipcghlmaaGreatDoor
