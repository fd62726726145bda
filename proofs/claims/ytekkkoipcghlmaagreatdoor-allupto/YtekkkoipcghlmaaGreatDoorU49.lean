import Derived.Test.YtekkkoipcghlmaaGreatDoorU48
import Derived.Deep.RegionHeld3
import Derived.Handy
import Derived.Test.YtekkkoipcghlmaaGreatDoorU35
set_option linter.all false
namespace Go.Proofs.YtekkkoipcghlmaaGreatDoor
open Go.RowKit
theorem iA(n k:Nat)(m:Int):ints (List.replicate n m)++ints (List.replicate k m)=ints (List.replicate (n+k) m):=by
 unfold ints
 rw[←List.map_append,List.replicate_append_replicate]
set_option maxRecDepth 100000 in
set_option maxHeartbeats 3200000 in
theorem qO(base bl B:Nat)(lv0 bk:Value)(G:Nat->Prop)(es:List Entry)(w:World)(lo:Option Addr)(n lc:Nat)(xs:List Int)(hB:w.heap[B]?=some (.cells #[lv0,bk] 64 (0,0)))(hbook:BookIs base w bk G es)(hG:∀k,G k->base<=k/\k<w.heap.size)(hGB:¬G B)(hl:w.ownsRow bl 3 1 (.slice lo n lc) n (ints xs))(hlG:∀g,(Value.slice lo n lc).ownBlock=some g->¬G g/\base<=g)(hn:n<=1000)(hes:es.length<=1000000)(hbb:base<=w.heap.size)(hbl:bl<=w.heap.size):
  Calls Tryz.prog 103 #[.pointer (some ⟨B,1,none⟩),.slice lo n lc] w fun e w'=>e=.returned (.tuple #[])/\∃bk' G' es',BookIs base w' bk' G' es'/\es'.length=es.length+1/\Only (fun k=>k=B∨(Value.slice lo n lc).ownBlock=some k∨bk.ownBlock=some k) w w'/\w'.heap[B]?=some (.cells #[lv0,bk'] 64 (0,0))/\(∀k,G' k->(G k∨(Value.slice lo n lc).ownBlock=some k∨w.heap.size<=k)/\base<=k/\k<w'.heap.size):=by
 have hxl:xs.length=n:=by have:=hl.1;simpa [ints] using this
 obtain⟨bo,bc,rfl⟩:∃bo bc,bk=.slice bo es.length bc:=by
  rcases hbook.row.2 with⟨h1,h2⟩|⟨g,cap,cur,h1,_⟩
  ·exact⟨none,0,by rw[h1,h2]⟩
  ·exact⟨_,_,h1⟩
 have hBl:=aA hB
 have hb1:w.cell? ⟨B,1,none⟩=some (.slice bo es.length bc):=cell_of_row _ _ 1 _ _ _ hB
 have HB:=aq hB
 have HBK:=aq hbook
 have HGG:=aq hG
 have HGB:=aq hGB
 have HLG:=aq hlG
 have HL0:Hid (w.ownsRow bl 3 1 (.slice lo n lc) n (ints (fG xs 0 (1000+(es.length:Int))))):=aq (by rw[rR];exact hl)
 have HXL:=aq hxl
 have HNB:Hid ((Value.slice lo n lc).ownBlock≠some B):=aq (aZ hl hB (by decide))
 clear hB hbook hG hGB hlG hl hxl
 go_enter Tryz.func103,Tryz.ntmps103
 go_wp2
 go_loopw [5] (fun i wr=>∃k:Nat,k<=n/\i=.int .i64 k/\Hid (wr.ownsRow bl 3 1 (.slice lo n lc) n (ints (fG xs k (1000+(es.length:Int)))))/\Hid (Only (fun k=>(Value.slice lo n lc).ownBlock=some k) w wr)) (fun i _=>n-(intOf i).toNat)
 case atStart=>exact⟨0,Nat.zero_le _,rfl,HL0,aq (Only.refl _ _)⟩
 case round=>
  obtain⟨k,hk,rfl,HR,HO⟩:=hrel
  clear HL0
  by_cases hlt:k<n
  ·obtain⟨g,rfl⟩:∃g,lo=some ⟨g,0,none⟩:=by
    rcases (dz HR).2 with⟨h1,h2⟩|⟨g,cap,cur,h1,_⟩
    ·omega
    ·cases h1;exact⟨g,rfl⟩
   have hgl:=(dz HR).lt g rfl
   have hcap:n<=lc:=by
    rcases (dz HR).2 with⟨h1,h2⟩|⟨g,cap,cur,h1,_,_,h3,_⟩
    ·omega
    ·cases h1;exact h3
   have hfz:wr.frozen? ⟨g,k,none⟩=false:=by
    rcases (dz HR).2 with⟨h1,h2⟩|⟨g,cap,cur,h1,_,h2,_⟩
    ·omega
    ·cases h1;exact frozen_of_row wr _ _ _ _ h2
   obtain⟨y,hcell⟩:∃y,wr.cell? ⟨g,k,none⟩=some y:=by
    have hlm:k<(ints (fG xs k (1000+(es.length:Int)))).length:=by
     have:=(dz HR).1
     omega
    have:=(dz HR).cells (g:=g) rfl k _ (List.getElem?_eq_getElem hlm)
    rw[Addr.add_lit,Nat.zero_add]at this
    exact⟨_,this⟩
   have HN:=aq (aD6 (dz HR) hlt (1000+(es.length:Int)))
   rw[vA xs k _ (by rw[dz HXL];exact hlt)]at HN
   have HO2:Hid (Only (fun k=>(Value.slice (some ⟨g,0,none⟩) n lc).ownBlock=some k) w (wr.setCell ⟨g,k,none⟩ (.int .i64 (1000+(es.length:Int))))):=aq ((dz HO).trans (Only.setCell (F:=fun k=>(Value.slice (some ⟨g,0,none⟩) n lc).ownBlock=some k) (p:=⟨g,k,none⟩) rfl _ _))
   have hdk:decide ((k:Int)<(n:Int))=true:=decide_eq_true (by omega)
   clear HR HO
   go_wp2
   go_roundw
   case rel=>exact⟨k+1,by omega,by go_num,HN,HO2⟩
   case measure=>simp[intOf];omega
  ·have hkn:n=k:=by omega
   subst hkn
   have HM:Hid (MarkRow bl wr (.slice lo n lc) n (1000+(es.length:Int))):=aq (by
    have h1:=dz HR
    have h2:=uQ xs (1000+(es.length:Int))
    rw[dz HXL]at h2
    rw[h2]at h1
    exact h1)
   obtain⟨w1,hw1⟩:∃w1,wr.alloc (.cells #[.slice lo n lc,.slice none 0 0,.slice none 0 0,.slice none 0 0,.int .i64 (1000+(es.length:Int))] 101)=w1:=⟨_,rfl⟩
   have hb1':Below wr.heap.size wr w1:=by rw[←hw1];exact aU _ _
   have HK:Hid (KS bl w w1 (.slice lo n lc) n (1000+(es.length:Int)) wr.heap.size [.slice lo n lc,.slice none 0 0,.slice none 0 0,.slice none 0 0,.int .i64 (1000+(es.length:Int))] []):=aq ⟨by rw[←hw1];exact bU _ _,(dz HO).size,aR (dz HM) hb1',fun r hr=>(by cases hr),(dz HO).trans (Only.of_below _ hb1')⟩
   have hXl:wr.heap.size<w1.heap.size:=aA (dz HK).box
   have hbl1:bl<=w1.heap.size:=by have:=(dz HO).size;omega
   clear HR HM
   go_wp2_with (first
    | (at_builtin;refine iF (base:=bl) (n:=n) (m:=1) (xs:=ints (List.replicate n (1000+(es.length:Int)))) (news:=ints (List.replicate 1 (1000+(es.length:Int)))) (ad:=⟨w1.heap.size,0,none⟩) rfl _ _ 25 3 rfl Tryz.underlying25 Tryz.infoIntB rfl (by decide) (aR (dz HK).lrow (aU _ _)) rfl rfl (by simp[ints]) (by decide) (World.news_of_block (bU w1 _)) (by intro u hu;simp[ints,List.replicate]at hu;subst hu;rfl) (by omega) (by simp;omega) ?_;intro v1 x1 hown hold hon hloc hp;rw[iA]at hown;obtain⟨o1,k1,hsh⟩:=aC hown;subst hsh;have HA1:Hid (KS bl w x1 (.slice lo n lc) n (1000+(es.length:Int)) wr.heap.size [.slice lo n lc,.slice none 0 0,.slice none 0 0,.slice none 0 0,.int .i64 (1000+(es.length:Int))] [(.slice o1 (n+1) k1,n+1)]):=aq (((dz HK).below (aU _ _)).app (k:=1) (fun r hr=>by simp at hr;try (rcases hr with rfl|rfl<;>simp<;>omega);try (subst hr;simp<;>omega)) hown hold hon hloc hp);have c1:=(dz HA1).cell (i:=1) rfl;have f1:=frozen_of_row _ _ 1 _ _ (dz HA1).box;have hl1:=aA (dz HA1).box;obtain⟨y1,hy1⟩:∃y,x1.setCell ⟨wr.heap.size,1,none⟩ (.slice o1 (n+1) k1)=y:=⟨_,rfl⟩;have HK1:Hid (KS bl w y1 (.slice lo n lc) n (1000+(es.length:Int)) wr.heap.size [.slice lo n lc,.slice o1 (n+1) k1,.slice none 0 0,.slice none 0 0,.int .i64 (1000+(es.length:Int))] [(.slice o1 (n+1) k1,n+1)]):=aq (by rw[←hy1];exact(dz HA1).put 1 _);have hb1y:bl<=y1.heap.size:=Nat.le_trans hbl (dz HK1).only.size;have hX1:wr.heap.size<y1.heap.size:=aA (dz HK1).box;clear hown hold hon hloc hp)
    | (at_builtin;refine iF (base:=bl) (n:=n) (m:=2) (xs:=ints (List.replicate n (1000+(es.length:Int)))) (news:=ints (List.replicate 2 (1000+(es.length:Int)))) (ad:=⟨y1.heap.size,0,none⟩) rfl _ _ 25 3 rfl Tryz.underlying25 Tryz.infoIntB rfl (by decide) (aR (dz HK1).lrow (aU _ _)) rfl rfl (by simp[ints]) (by decide) (World.news_of_block (bU y1 _)) (by intro u hu;simp[ints,List.replicate]at hu;subst hu;rfl) (by omega) (by simp;omega) ?_;intro v2 x2 hown hold hon hloc hp;rw[iA]at hown;obtain⟨o2,k2,hsh⟩:=aC hown;subst hsh;have HA2:Hid (KS bl w x2 (.slice lo n lc) n (1000+(es.length:Int)) wr.heap.size [.slice lo n lc,.slice o1 (n+1) k1,.slice none 0 0,.slice none 0 0,.int .i64 (1000+(es.length:Int))] [(.slice o1 (n+1) k1,n+1),(.slice o2 (n+2) k2,n+2)]):=aq (((dz HK1).below (aU _ _)).app (k:=2) (fun r hr=>by simp at hr;try (rcases hr with rfl|rfl<;>simp<;>omega);try (subst hr;simp<;>omega)) hown hold hon hloc hp);have c2:=(dz HA2).cell (i:=2) rfl;have f2:=frozen_of_row _ _ 2 _ _ (dz HA2).box;have hl2:=aA (dz HA2).box;obtain⟨y2,hy2⟩:∃y,x2.setCell ⟨wr.heap.size,2,none⟩ (.slice o2 (n+2) k2)=y:=⟨_,rfl⟩;have HK2:Hid (KS bl w y2 (.slice lo n lc) n (1000+(es.length:Int)) wr.heap.size [.slice lo n lc,.slice o1 (n+1) k1,.slice o2 (n+2) k2,.slice none 0 0,.int .i64 (1000+(es.length:Int))] [(.slice o1 (n+1) k1,n+1),(.slice o2 (n+2) k2,n+2)]):=aq (by rw[←hy2];exact(dz HA2).put 2 _);have hb2y:bl<=y2.heap.size:=Nat.le_trans hbl (dz HK2).only.size;have hX2:wr.heap.size<y2.heap.size:=aA (dz HK2).box;clear hown hold hon hloc hp)
    | (at_builtin;refine iF (base:=bl) (n:=n) (m:=3) (xs:=ints (List.replicate n (1000+(es.length:Int)))) (news:=ints (List.replicate 3 (1000+(es.length:Int)))) (ad:=⟨y2.heap.size,0,none⟩) rfl _ _ 25 3 rfl Tryz.underlying25 Tryz.infoIntB rfl (by decide) (aR (dz HK2).lrow (aU _ _)) rfl rfl (by simp[ints]) (by decide) (World.news_of_block (bU y2 _)) (by intro u hu;simp[ints,List.replicate]at hu;subst hu;rfl) (by omega) (by simp;omega) ?_;intro v3 x3 hown hold hon hloc hp;rw[iA]at hown;obtain⟨o3,k3,hsh⟩:=aC hown;subst hsh;have HA3:Hid (KS bl w x3 (.slice lo n lc) n (1000+(es.length:Int)) wr.heap.size [.slice lo n lc,.slice o1 (n+1) k1,.slice o2 (n+2) k2,.slice none 0 0,.int .i64 (1000+(es.length:Int))] [(.slice o1 (n+1) k1,n+1),(.slice o2 (n+2) k2,n+2),(.slice o3 (n+3) k3,n+3)]):=aq (((dz HK2).below (aU _ _)).app (k:=3) (fun r hr=>by simp at hr;try (rcases hr with rfl|rfl<;>simp<;>omega);try (subst hr;simp<;>omega)) hown hold hon hloc hp);have c3:=(dz HA3).cell (i:=3) rfl;have f3:=frozen_of_row _ _ 3 _ _ (dz HA3).box;have hl3:=aA (dz HA3).box;obtain⟨y3,hy3⟩:∃y,x3.setCell ⟨wr.heap.size,3,none⟩ (.slice o3 (n+3) k3)=y:=⟨_,rfl⟩;have HK3:Hid (KS bl w y3 (.slice lo n lc) n (1000+(es.length:Int)) wr.heap.size [.slice lo n lc,.slice o1 (n+1) k1,.slice o2 (n+2) k2,.slice o3 (n+3) k3,.int .i64 (1000+(es.length:Int))] [(.slice o1 (n+1) k1,n+1),(.slice o2 (n+2) k2,n+2),(.slice o3 (n+3) k3,n+3)]):=aq (by rw[←hy3];exact(dz HA3).put 3 _);have hb3y:bl<=y3.heap.size:=Nat.le_trans hbl (dz HK3).only.size;have hX3:wr.heap.size<y3.heap.size:=aA (dz HK3).box;clear hown hold hon hloc hp))
   have HROWB:Hid (∀wx,Below y3.heap.size y3 wx->wx.ownsRow base 101 5 (.slice bo es.length bc) es.length (es.flatMap Entry.cells)):=aq (fun wx hx=>aH (aH (dz HBK).row (fun g hg=>(dz HK3).only.block g (dz HGG g ((dz HBK).foot g hg)).2 (fun h=>(dz HLG g h).1 ((dz HBK).foot g hg)))) (fun g hg=>hx.block g (by have:=(dz HGG g ((dz HBK).foot g hg)).2;have:=(dz HK3).only.size;omega)))
   have HFIN:Hid (∀(g cap:Nat) (wz w4:World),Below y3.heap.size y3 wz->w4.ownsRow base 101 5 (.slice (some ⟨g,0,none⟩) (es.length+1) cap) (es.length+1) ((es++[(⟨n,(1000+(es.length:Int)),lo,lc,o1,k1,o2,k2,o3,k3⟩:Entry)]).flatMap Entry.cells)->wz.grownBy w4 (Value.slice bo es.length bc).ownBlock->((Value.slice bo es.length bc).ownBlock=some g∨g=wz.heap.size)->
    (w4.heap[B]?=some (.cells #[lv0,.slice bo es.length bc] 64 (0,0))/\BookIs base (w4.setCell ⟨B,1,none⟩ (.slice (some ⟨g,0,none⟩) (es.length+1) cap)) (.slice (some ⟨g,0,none⟩) (es.length+1) cap) (fun k=>(G k∨(Value.slice lo n lc).ownBlock=some k∨w.heap.size<=k)/\base<=k/\k<w4.heap.size) (es++[⟨n,(1000+(es.length:Int)),lo,lc,o1,k1,o2,k2,o3,k3⟩])/\Only (fun k=>k=B∨(Value.slice lo n lc).ownBlock=some k∨(Value.slice bo es.length bc).ownBlock=some k) w (w4.setCell ⟨B,1,none⟩ (.slice (some ⟨g,0,none⟩) (es.length+1) cap)))/\w4.heap[wr.heap.size]?=y3.heap[wr.heap.size]?):=aq (fun g cap wz w4 h1 h2 h3 h4=>⟨aI1 (e:=⟨n,(1000+(es.length:Int)),lo,lc,o1,k1,o2,k2,o3,k3⟩) (dz HB) (dz HBK) (dz HGG) (dz HGB) (dz HLG) (dz HNB) hbb (dz HK3) (by simp) (by simp) (by simp) (by show n<=1000000;omega) (by show 0<=(1000+(es.length:Int));omega) (by show(1000+(es.length:Int))<=1000000000;omega) h1 h2 h3 h4,(h3.block _ (by have:=h1.size;omega) (fun e=>by have:=(dz HGG _ ((dz HBK).foot _ e.symm)).2;have:=(dz HK3).fresh;omega)).trans (h1.block _ hX3)⟩)
   have hB3:y3.heap[B]?=some (.cells #[lv0,.slice bo es.length bc] 64 (0,0)):=((dz HK3).only.block B hBl (dz HNB)).trans (dz HB)
   have cB:y3.cell? ⟨B,1,none⟩=some (.slice bo es.length bc):=cell_of_row _ _ 1 _ _ _ hB3
   have hBy:B<y3.heap.size:=aA hB3
   have q0:=(dz HK3).cell (i:=0) rfl
   have q1:=(dz HK3).cell (i:=1) rfl
   have q2:=(dz HK3).cell (i:=2) rfl
   have q3:=(dz HK3).cell (i:=3) rfl
   have q4:=(dz HK3).cell (i:=4) rfl
   have hby:base<=y3.heap.size:=by have:=(dz HK3).only.size;omega
   have HXC:Hid (∀(w4:World) (j:Nat) (v:Value),w4.heap[wr.heap.size]?=y3.heap[wr.heap.size]?->y3.cell? ⟨wr.heap.size,j,none⟩=some v->w4.cell? ⟨wr.heap.size,j,none⟩=some v):=aq (fun w4 j v h1 h2=>(World.cell?_of_block (a:=⟨wr.heap.size,j,none⟩) h1).trans h2)
   clear HK HK1 HK2 HA1 HA2 HA3 hy1 hy2 hy3 hw1 c1 c2 c3 f1 f2 f3 hB3 hl1 hl2 hl3
   go_region_law ((refine wW (base:=base) (es:=es) (e:=⟨n,(1000+(es.length:Int)),lo,lc,o1,k1,o2,k2,o3,k3⟩) (by rfl) _ _ (by rfl) (dz HROWB _ (by go_grown)) (by rfl) (by rfl) (heap_alloc_new _ _) (by omega) (by simp;omega) ?_;intro g4 cap4 w4 hown4 hgr4 hloc4;have HE:=aq (dz HFIN _ _ _ _ (by go_grown) hown4 hgr4 hloc4);clear hown4 hgr4 hloc4;have cB4:=cell_of_row _ _ 1 _ _ _ (dz HE).1.1;have fB4:=frozen_of_row _ _ 1 _ _ (dz HE).1.1;have lB4:=aA (dz HE).1.1;have x0:=dz HXC w4 0 _ (dz HE).2 q0;have x1:=dz HXC w4 1 _ (dz HE).2 q1;have x2:=dz HXC w4 2 _ (dz HE).2 q2;have x3:=dz HXC w4 3 _ (dz HE).2 q3;have x4:=dz HXC w4 4 _ (dz HE).2 q4))
   all_goals (go_wp2_with fail)
   all_goals go_end0
   all_goals exact⟨rfl,_,_,_,(dz HE).1.2.1,by simp,(dz HE).1.2.2,by rw[heap_setCell_same w4 B 1 _ _ _ (dz HE).1.1];rfl,fun k hk=>⟨hk.1,hk.2.1,by simpa using hk.2.2⟩⟩
end Go.Proofs.YtekkkoipcghlmaaGreatDoor
namespace Go.Proofs.YtekkkoipcghlmaaGreatDoor
open Go.RowKit
theorem kN{b m:Nat}(hm:m<2 ^ 24):bL b (Sp.litsOf m)=true↔cU b m:=by
 have h0:∀x,x∈Sp.litsOf m->x≠0:=fun x hx=>(eW m x hx).1
 rw[←mR h0,jJ hm]
theorem aP4{ms:List Nat}{A:List Int}{b:Nat}(hb:b<4096)(hm:∀m,m∈ms->m<2 ^ 24)(h1:∀x,x∈A->tru b x=true)(h2:∀g,g∈ms->cU b g):jF (ms.map Sp.litsOf) A=true:=by
 unfold jF iM
 rw[List.any_eq_true]
 refine⟨b,List.mem_range.2 hb,?_⟩
 simp only[Bool.and_eq_true,List.all_eq_true]
 refine⟨h1,fun c hc=>?_⟩
 obtain⟨m,hm',rfl⟩:=List.mem_map.1 hc
 exact(kN (hm m hm')).2 (h2 m hm')
theorem aK0{ms:List Nat}{A:List Int}(hm:∀m,m∈ms->m<2 ^ 24)(h:∀b,(∀g,g∈ms->cU b g)->∃y,y∈A/\tru b y=false):jF (ms.map Sp.litsOf) A=false:=by
 rw[Bool.eq_false_iff]
 intro hc
 unfold jF iM at hc
 rw[List.any_eq_true]at hc
 obtain⟨b,-,hb⟩:=hc
 simp only[Bool.and_eq_true,List.all_eq_true]at hb
 obtain⟨y,hy,ht⟩:=h b (fun g hg=>(kN (hm g hg)).1 (hb.2 _ (List.mem_map.2 ⟨g,hg,rfl⟩)))
 rw[hb.1 y hy]at ht
 cases ht
theorem jI(A:List Int)(i:Nat)(h:i<A.length):once (A.take (i+1))=if A[i]∈once (A.take i)then once (A.take i)else once (A.take i)++[A[i]]:=by
 rw[List.take_succ_eq_append_getElem h,jL]
theorem rJ(A:List Int)(i:Nat):∀j,i+j<=A.length->∃r,once (A.take (i+j))=once (A.take i)++r
 | 0,_=>⟨[],by simp⟩
 | j+1,h=>by
  obtain⟨r,hr⟩:=rJ A i j (by omega)
  rw[←Nat.add_assoc,jI A (i+j) (by omega)]
  split
  ·exact⟨r,hr⟩
  ·exact⟨r++[A[i+j]],by rw[hr,List.append_assoc]⟩
theorem zT(A:List Int)(p:Int->Bool):∀i,i<=A.length->dC ((once A).filter p) A i=((once (A.take i)).filter p).length:=by
 intro i
 induction i with
 | zero=>intro _;simp[dC,once]
 | succ i ih=>
  intro h
  have ih:=ih (by omega)
  have hi:i<A.length:=by omega
  have hg:A.getD i 0=A[i]:=by simp[hi]
  have hf:eC A i i=!decide (A[i]∈once (A.take i)):=by
   unfold eC
   rw[hg]
   congr 1
   rw[Bool.eq_iff_iff]
   simp[fH]
  obtain⟨r,hr⟩:=rJ A (i+1) (A.length-(i+1)) (by omega)
  rw[show i+1+(A.length-(i+1))=A.length from by omega,List.take_length]at hr
  unfold dC
  rw[ih,hf,hg,jI A i hi]
  by_cases hm:A[i]∈once (A.take i)
  ·rw[if_pos hm]
   simp[hm]
  ·rw[if_neg hm]
   rw[jI A i hi,if_neg hm]at hr
   rw[hr,List.filter_append,List.filter_append]
   by_cases hp:p A[i]=true
   ·rw[List.filter_cons_of_pos hp,List.filter_nil]
    have:(((once (A.take i)).filter p++[A[i]])++r.filter p)[((once (A.take i)).filter p).length]?=some A[i]:=by
     rw[List.append_assoc,List.getElem?_append_right (Nat.le_refl _)]
     simp
    rw[this]
    simp[hm]
   ·rw[List.filter_cons_of_neg hp,List.filter_nil,List.append_nil]
    have:¬((once (A.take i)).filter p++r.filter p)[((once (A.take i)).filter p).length]?=some A[i]:=fun h=>by
     have hmem:=List.mem_of_getElem? h
     rw[←List.filter_append]at hmem
     exact hp (List.mem_filter.1 hmem).2
    rw[if_neg (by simp[hm];simpa using this)]
theorem aN5(A:List Int)(p:Int->Bool):(dC ((once A).filter p) A A.length==((once A).filter p).length)=true:=by
 have:=zT A p A.length (Nat.le_refl _)
 rw[List.take_length]at this
 rw[this]
 simp
end Go.Proofs.YtekkkoipcghlmaaGreatDoor
namespace Go.Proofs.YtekkkoipcghlmaaGreatDoor
open Go.RowKit
theorem YAt.rowsL{base y:Nat}{w:World}{lv:Value}{vs:List Value}{ms:List Nat}(h:YAt base w y lv vs ms):aS5 w lv (ms.map Sp.litsOf):=
 ⟨vs,aE h.row (by rw[h.rows.1];simp),h.rows.1,fun i x c hx hc=>aE (h.rows.2 i x c hx hc) (by simp[ints])⟩
theorem qI(ms:List Nat):∀c,c∈ms.map Sp.litsOf->Lits c/\c.length<=10000000:=fun c hc=>by
 obtain⟨m,_,rfl⟩:=List.mem_map.1 hc
 exact⟨eW m,by have:=eG m;omega⟩
set_option maxRecDepth 100000 in
set_option maxHeartbeats 1600000 in
theorem xG(base y:Nat)(lv v:Value)(vs:List Value)(ms:List Nat)(A:List Int)(kd a b:Int)(s t:List UInt8)(kind cf:Int)(mo co:Option Addr)(mk mc ck cc:Nat)(w:World)(hY:YAt base w y lv vs ms)(hms:ms.length<=10000000)(hsm:∀m,m∈ms->m<2 ^ 24)(hA:Lits A)(ha:A.length<=10000000)(hav:Lies w v (ints A))(hac:∀ao n c,v=.slice ao n c->n<=c)
  (hb0:0<=b) (hb1:b<=9223372036854775807) (hc0:0<=cf) (hc1:0<b->cf<=b)
  (hres:(kind=1/\co=none/\ck=0/\cc=0/\∃bb,bb<4096/\(∀x,x∈A->tru bb x=true)/\(∀g,g∈ms->cU bb g)/\Lies w (.slice mo mk mc) (ints (dF bb)))∨
   (kind=2/\mo=none/\mk=0/\mc=0/\∃p:Int->Bool,Lies w (.slice co ck cc) (ints ((once A).filter p))/\ck<=cc/\∀bb,(∀g,g∈ms->cU bb g)->∃x,x∈(once A).filter p/\tru bb x=false)∨
   (kind=3/\mo=none/\mk=0/\mc=0/\co=none/\ck=0/\cc=0/\0<b/\cf=b)):
  Calls Tryz.prog 102 #[.agg #[.int .i64 kind,.slice mo mk mc,.slice co ck cc,.int .i64 cf],.pointer (some ⟨y,0,none⟩),dO kd a b s t v] w fun e w'=>e=.returned (.bool true)/\Below w.heap.size w w':=by
 obtain⟨ao,ac,rfl⟩:∃ao ac,v=.slice ao A.length ac:=by
  obtain⟨ao,ac,h⟩:=aY hav;exact⟨ao,ac,by rw[h];simp[ints]⟩
 unfold dO
 obtain⟨w1,hw1⟩:∃w1,w.alloc (.cells #[.int .i64 kind,.slice mo mk mc,.slice co ck cc,.int .i64 cf] 34)=w1:=⟨_,rfl⟩
 obtain⟨w2,hw2⟩:∃w2,w1.alloc (.cells #[.int .i64 kd,.int .i64 a,.int .i64 b,.string (bs s),.string (bs t),.slice ao A.length ac] 67)=w2:=⟨_,rfl⟩
 have b1:Below w.heap.size w w1:=by rw[←hw1];exact aU _ _
 have b2:Below w1.heap.size w1 w2:=by rw[←hw2];exact aU _ _
 have b02:Below w.heap.size w w2:=b1.trans (b2.mono b1.size)
 have x1:w1.heap[w.heap.size]?=some (.cells #[.int .i64 kind,.slice mo mk mc,.slice co ck cc,.int .i64 cf] 34):=by rw[←hw1];exact bU _ _
 have hl1:=aA x1
 have x2:w2.heap[w.heap.size]?=some (.cells #[.int .i64 kind,.slice mo mk mc,.slice co ck cc,.int .i64 cf] 34):=(b2.block _ hl1).trans x1
 have y2:w2.heap[w1.heap.size]?=some (.cells #[.int .i64 kd,.int .i64 a,.int .i64 b,.string (bs s),.string (bs t),.slice ao A.length ac] 67):=by rw[←hw2];exact bU _ _
 have r0:w2.cell? ⟨w.heap.size,0,none⟩=some (.int .i64 kind):=cell_of_row _ _ 0 _ _ _ x2
 have r1:w2.cell? ⟨w.heap.size,1,none⟩=some (.slice mo mk mc):=cell_of_row _ _ 1 _ _ _ x2
 have r2:w2.cell? ⟨w.heap.size,2,none⟩=some (.slice co ck cc):=cell_of_row _ _ 2 _ _ _ x2
 have r3:w2.cell? ⟨w.heap.size,3,none⟩=some (.int .i64 cf):=cell_of_row _ _ 3 _ _ _ x2
 have o2:w2.cell? ⟨w1.heap.size,2,none⟩=some (.int .i64 b):=cell_of_row _ _ 2 _ _ _ y2
 have o5:w2.cell? ⟨w1.heap.size,5,none⟩=some (.slice ao A.length ac):=cell_of_row _ _ 5 _ _ _ y2
 have hl2:=aA y2
 have hlr:=aA x2
 have hY2:=hY.below b02
 have hyl:=aA hY2.block
 have yc:w2.cell? ⟨y,0,none⟩=some lv:=cell_of_row _ _ 0 _ _ _ hY2.block
 have HAV:=aq (hav.below b02)
 have HRL:=aq hY2.rowsL
 have HY2:=aq hY2
 have HCAN:Hid (∀n,Calls Tryz.prog 146 #[lv,.slice ao A.length ac] (w2.drewN n) fun e w'=>e=.returned (.bool (jF (ms.map Sp.litsOf) A))/\∃m,w'=(w2.drewN n).drewN m):=aq (fun n=>zI _ _ _ A (w2.drewN n) (by simpa using hms) ha (qI ms) hA (dz HRL) (dz HAV) hac)
 have HFIN:Hid (∀n,Below w.heap.size w (w2.drewN n)):=aq (fun n=>aG b02 n)
 obtain⟨go,gn,gc,hlv⟩:∃go gn gc,lv=.slice go gn gc:=by
  obtain⟨o,c,h⟩:=aC hY.row
  exact⟨o,_,c,h⟩
 subst hlv
 have hbc:(0<b/\cf<=b)∨b=0:=by omega
 rcases hres with⟨rfl,rfl,rfl,rfl,bb,hbb,h1,h2,h3⟩|⟨rfl,rfl,rfl,rfl,p,h1,h2,h3⟩|⟨rfl,rfl,rfl,rfl,rfl,rfl,rfl,h1,rfl⟩
 ·have HMO:Hid (∀n,Calls Tryz.prog 147 #[.pointer (some ⟨y,0,none⟩),.slice mo mk mc,.slice ao A.length ac] (w2.drewN n) fun e w'=>e=.returned (.bool true)/\∃q,w'=(w2.drewN n).drewN q):=aq (fun n=>aE1 base y _ _ _ vs ms A bb (w2.drewN n) ((dz HY2).below (aG (Below.refl _ _) n)) hms ha hbb hA (dz HAV) hac (mH (h3.below b02) n) (by rw[List.all_eq_true];exact h1) (by
   rw[List.all_eq_true]
   intro c hc
   obtain⟨m,hm,rfl⟩:=List.mem_map.1 hc
   exact(kN (hsm m hm)).2 (h2 m hm)))
  rw[aP4 hbb hsm h1 h2]at HCAN
  clear hY hY2 x1 x2 y2 h1 h2 h3 hav hac hA hsm b1 b2 b02 hc1
  rcases hbc with⟨hbp,hcb⟩|rfl
  all_goals (
   go_enter Tryz.func102,Tryz.ntmps102
   go_wp2
   go_quiet ((go_at_call 146;refine Calls.quiet_of (dz HCAN _)))
   go_wp2_with fail
   refine(dz HMO nq).mono ?_
   rintro e w3 ⟨rfl,q3,rfl⟩
   rw[World.drewN_drewN]
   go_wp2
   go_ret
   exact⟨rfl,dz HFIN _⟩)
 ·have hcl:ck=((once A).filter p).length:=by
   obtain⟨o,c,h⟩:=aY h1
   simp only[Value.slice.injEq]at h
   rw[h.2.1];simp[ints]
  have hcore:∀x,x∈(once A).filter p->x∈A:=fun x hx=>(fH A x).1 (List.mem_filter.1 hx).1
  have hcln:((once A).filter p).length<=10000000:=by have:=List.length_filter_le p (once A);have:=lG A;omega
  have HSO:Hid (∀n,Calls Tryz.prog 148 #[.slice co ck cc,.slice ao A.length ac] (w2.drewN n) fun e w'=>e=.returned (.bool true)/\∃q,w'=(w2.drewN n).drewN q):=aq (fun n=>by
   have:=aL6 (.slice co ck cc) (.slice ao A.length ac) ((once A).filter p) A (w2.drewN n) hcln ha (mH (h1.below b02) n) (dz HAV)
   rw[aN5]at this
   exact this)
  have HCA2:Hid (∀n,Calls Tryz.prog 146 #[.slice go gn gc,.slice co ck cc] (w2.drewN n) fun e w'=>e=.returned (.bool false)/\∃m,w'=(w2.drewN n).drewN m):=aq (fun n=>by
   have:=zI (.slice go gn gc) (.slice co ck cc) (ms.map Sp.litsOf) ((once A).filter p) (w2.drewN n) (by simpa using hms) hcln (qI ms) (fun x hx=>hA x (hcore x hx)) (dz HRL) (mH (h1.below b02) n) (fun ao n c h=>by cases h;exact h2)
   rw[aK0 hsm h3]at this
   exact this)
  rw[aK0 hsm (fun bb hbb=>by
   obtain⟨x,hx,ht⟩:=h3 bb hbb
   exact⟨x,hcore x hx,ht⟩)]at HCAN
  have HCA3:Hid (∀k n,Calls Tryz.prog 146 #[.slice go gn gc,.slice co ck cc] ((w2.drewN k).drewN n) fun e w'=>e=.returned (.bool false)/\∃m,w'=((w2.drewN k).drewN n).drewN m):=aq (fun k n=>by rw[World.drewN_drewN];exact dz HCA2 _)
  have HCL:=aq hcl
  clear hY hY2 x1 x2 y2 h1 h2 h3 hav hac hA hsm b1 b2 b02 hc1 hcl hcore hcln
  rcases hbc with⟨hbp,hcb⟩|rfl
  all_goals (
   go_enter Tryz.func102,Tryz.ntmps102
   go_wp2
   go_quiet ((go_at_call 146;refine Calls.quiet_of (dz HCAN _)))
   go_wp2_with fail
   refine(dz HSO nq).mono ?_
   rintro e w3 ⟨rfl,q3,rfl⟩
   rw[World.drewN_drewN]
   have r1:(w2.drewN (nq+q3)).cell? ⟨w.heap.size,1,none⟩=some (.slice none 0 0):=r1
   have r2:(w2.drewN (nq+q3)).cell? ⟨w.heap.size,2,none⟩=some (.slice co ck cc):=r2
   have yc:(w2.drewN (nq+q3)).cell? ⟨y,0,none⟩=some (.slice go gn gc):=yc
   have HCW:Hid (∀n,Calls Tryz.prog 146 #[.slice go gn gc,.slice co ck cc] ((w2.drewN (nq+q3)).drewN n) fun e w'=>e=.returned (.bool false)/\∃m,w'=((w2.drewN (nq+q3)).drewN n).drewN m):=aq (fun n=>dz HCA3 _ n)
   have HFW:Hid (∀n,Below w.heap.size w ((w2.drewN (nq+q3)).drewN n)):=aq (fun n=>by rw[World.drewN_drewN];exact dz HFIN _)
   have hlz:w.heap.size<(w2.drewN (nq+q3)).heap.size:=hlr
   have hyz:y<(w2.drewN (nq+q3)).heap.size:=hyl
   clear HCA2 HCA3 HSO HCAN HFIN HRL HAV HY2
   generalize w2.drewN (nq+q3)=wz at *
   go_wp2
   go_quiet ((go_at_call 146;refine Calls.quiet_of (dz HCW _)))
   go_wp2
   go_ret
   exact⟨rfl,dz HFW _⟩)
 ·clear hY hY2 x1 x2 y2 hav hac hA hsm b1 b2 b02 hc1 hbc
  generalize jF (ms.map Sp.litsOf) A=can at *
  go_enter Tryz.func102,Tryz.ntmps102
  go_wp2
  go_quiet ((go_at_call 146;refine Calls.quiet_of (dz HCAN _)))
  go_wp2
  go_ret
  exact⟨rfl,dz HFIN _⟩
end Go.Proofs.YtekkkoipcghlmaaGreatDoor
namespace Go.Proofs.YtekkkoipcghlmaaGreatDoor
open Go.RowKit
theorem YAt.overP{pv:Value}{pb:List UInt8}{base:Nat}{w w':World}{x y:Nat}{kv lv:Value}{vs:List Value}{ms ms':List Nat}(hY:YAt base w y lv vs ms')(hX:XAt base w x kv ms pv pb)(ho:Only (XF x pv) w w'):YAt base w' y lv vs ms':=by
 have hyx:y≠x:=by intro e;subst e;have:=hX.block.symm.trans hY.block;simp at this
 refine⟨(ho.block y (aA hY.block) (fun h=>h.elim hyx (aZ hX.prow hY.block (by decide)))).trans hY.block,hY.le,aH hY.row (fun g hg=>ho.block g (hY.row.lt g hg).2 (fun h=>h.elim (fun e=>aZ hY.row hX.block (by decide) (by rw[←e];exact hg)) (fun e=>cZ (by decide) hX.prow hY.row e hg))),hY.rows.1,fun i r c hr hc=>?_⟩
 have hrow:=hY.rows.2 i r c hr hc
 exact aH hrow (fun g hg=>ho.block g (hrow.lt g hg).2 (fun h=>h.elim (fun e=>aZ hrow hX.block (by decide) (by rw[←e];exact hg)) (fun e=>cZ (by decide) hX.prow hrow e hg)))
theorem SideIs.overP{Z:Play}{pv:Value}{pb:List UInt8}{base:Nat}{w wL w2:World}{F:Nat->Prop}{p x:Nat}{kv:Value}{y:Nat}{lv:Value}{vs:List Value}{ms:List Nat}(hs:SideIs base w F p x kv y lv vs ms pv pb Z)(hA:Below w.heap.size w wL)(ho:Only (XF x pv) wL w2):
  YAt base w2 y lv vs ms/\Only F wL w2/\∃pr gr la en,w2.heap[p]?=some (.cells #[.pointer (some ⟨x,0,none⟩),.pointer (some ⟨y,0,none⟩),.string pr,.bool gr,.string la,.bool en] 95 (0,0))/\Z.I ms pb pr gr la en:=by
 obtain⟨pr,gr,la,en,hblk,hZ⟩:=hs.block
 have hpl:=aA hblk
 have hXL:=hs.prog.below hA
 have hYL:=hs.doc.below hA
 have hpx:p≠x:=by intro e;subst e;have:=hblk.symm.trans hs.prog.block;simp at this
 have pL:=(hA.block p hpl).trans hblk
 have p2:=(ho.block p (aA pL) (fun h=>h.elim hpx (aZ hXL.prow pL (by decide)))).trans pL
 exact⟨hYL.overP hXL ho,ho.weaken (fun k _ h=>h.elim (fun e=>by rw[e];exact hs.fx.1) (fun e=>hs.fx.2.2 k e)),pr,gr,la,en,p2,hZ⟩
theorem SolveRes.answer{base x:Nat}{kv pv:Value}{ms:List Nat}{pb:List UInt8}{A:List Int}{B kind cf:Int}{w w':World}{mo co:Option Addr}{mk mc ck cc:Nat}(h:SolveRes base x kv ms pv pb (once A) B w kind (.slice mo mk mc) (.slice co ck cc) cf w')(hA:Lits A)(hB:0<=B):
  0<=cf/\(0<B->cf<=B)/\((kind=1/\co=none/\ck=0/\cc=0/\∃bb,bb<4096/\(∀x,x∈A->tru bb x=true)/\(∀g,g∈ms->cU bb g)/\Lies w' (.slice mo mk mc) (ints (dF bb)))∨
   (kind=2/\mo=none/\mk=0/\mc=0/\∃p:Int->Bool,Lies w' (.slice co ck cc) (ints ((once A).filter p))/\ck<=cc/\∀bb,(∀g,g∈ms->cU bb g)->∃x,x∈(once A).filter p/\tru bb x=false)∨
   (kind=3/\mo=none/\mk=0/\mc=0/\co=none/\ck=0/\cc=0/\0<B/\cf=B)):=by
 obtain⟨S,D,pv',core,-,hch,-,-,h4,h5,h6⟩:=h
 refine⟨h4,h5,?_⟩
 rcases h6 with⟨h1,h2,b,h3,hb,hg,hm⟩|⟨h1,h2,⟨p,hp⟩,hr,hf⟩|⟨h1,h2,h3,hb,hc⟩
 ·cases h2
  exact .inl ⟨h1,rfl,rfl,rfl,b,h3,fun y hy=>hb y ((fH A y).2 hy),hg,aE hm (by simp[ints,dF])⟩
 ·cases h2
  refine .inr (.inl ⟨h1,rfl,rfl,rfl,p,?_,?_,fun bb hG=>?_⟩)
  ·rw[←hp]
   exact aE hr (by simp[ints])
  ·rcases hr.2 with⟨hv,_⟩|⟨g,cap,cur,hv,_,_,hle,_⟩
   ·cases hv;exact Nat.le_refl _
   ·cases hv;exact hle
  ·have hA':∀y,y∈once A->y≠0:=fun y hy=>(hA y ((fH A y).1 hy)).1
   have:=zE hf (b:=bb) (fun c hc=>(List.mem_append.1 hc).elim (hG c) (hch.ent hG c))
   have hne:∀y,y∈core.map (fun x=>-x)->y≠0:=fun y hy=>by
    obtain⟨z,hz,rfl⟩:=List.mem_map.1 hy
    rw[hp]at hz
    have:=hA' z (List.mem_filter.1 hz).1
    omega
   obtain⟨y,hy,ht⟩:=jX.1 ((mR hne).1 this)
   obtain⟨z,hz,rfl⟩:=List.mem_map.1 hy
   rw[hp]at hz
   rw[sU bb (hA' z (List.mem_filter.1 hz).1)]at ht
   exact⟨z,hz,by simpa using ht⟩
 ·cases h2
  cases h3
  exact .inr (.inr ⟨h1,rfl,rfl,rfl,rfl,rfl,rfl,hb,hc⟩)
theorem uZ{α:Type}[DecidableEq α]:∀(l m:List α),l.Nodup->(∀x,x∈l->x∈m)->l.length<=m.length
 | [],_,_,_=>Nat.zero_le _
 | x::l,m,hn,hs=>by
  have hx:=hs x (by simp)
  rw[List.nodup_cons]at hn
  have h1:=uZ l (m.erase x) hn.2 (fun y hy=>(List.mem_erase_of_ne (fun e=>hn.1 (by rw[←e];exact hy))).2 (hs y (List.mem_cons_of_mem _ hy)))
  rw[List.length_erase_of_mem hx]at h1
  have:=List.length_pos_of_mem hx
  rw[List.length_cons]
  omega
theorem tZ(A:List Int):∀n,(once (A.take n)).Nodup:=by
 intro n
 induction n with
 | zero=>simp[once]
 | succ n ih=>
  rcases Nat.lt_or_ge n A.length with h|h
  ·rw[jI A n h]
   split
   ·exact ih
   ·rename_i hm
    rw[List.nodup_append]
    refine⟨ih,by simp,fun a ha b hb=>?_⟩
    simp at hb
    subst hb
    exact fun e=>hm (by rw[←e];exact ha)
  ·rw[List.take_of_length_le h]at ih
   rw[List.take_of_length_le (by omega)]
   exact ih
theorem aQ7{A:List Int}(hA:Lits A):(once A).length<=24:=by
 have h1:=tZ A A.length
 rw[List.take_length]at h1
 have:=uZ (once A) ((List.range 12).flatMap (fun(i:Nat)=>[(i:Int)+1,-((i:Int)+1)])) h1 (fun x hx=>by
  have:=hA x ((fH A x).1 hx)
  rw[List.mem_flatMap]
  refine⟨x.natAbs-1,List.mem_range.2 (by omega),?_⟩
  simp only[List.mem_cons,List.not_mem_nil,or_false]
  omega)
 exact Nat.le_trans this (by decide)
end Go.Proofs.YtekkkoipcghlmaaGreatDoor
