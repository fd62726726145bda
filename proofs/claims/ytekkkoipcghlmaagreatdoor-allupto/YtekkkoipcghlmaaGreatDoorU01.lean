import Derived.Lib.TrailingZeros
import Derived.WalkKit
import Derived.Deep.QuietTactic
import Derived.BigQuiet
import Derived.WalkSpells
import Derived.WalkLawsBesides
import Derived.Lib.Strings
import Derived.Maps.AppendAt
import Derived.Lib.RabinKarpLaws
set_option linter.all false
namespace Go.Proofs.YtekkkoipcghlmaaGreatDoor.Sp
def wordsAux(cur:List UInt8):List UInt8->List (List UInt8)
 | []=>[cur]
 | c::r=>if c=32 then cur::wordsAux [] r else wordsAux (cur++[c]) r
def words(l:List UInt8):List (List UInt8):=if l=[]then []else wordsAux [] l
def linesAux(cur:List UInt8):List UInt8->List (List UInt8)
 | []=>if cur=[]then []else [cur]
 | c::r=>if c=10 then cur::linesAux [] r else linesAux (cur++[c]) r
def lines(l:List UInt8):List (List UInt8):=linesAux [] l
def endAux(cur:List UInt8):List UInt8->Bool
 | []=>cur.isEmpty
 | c::r=>if c=10 then endAux [] r else endAux (cur++[c]) r
def ended(l:List UInt8):Bool:=endAux [] l
def num(w:List UInt8):Int:=
 match w with
 | [a]=>if 49<=a.toNat/\a.toNat<=57 then(a.toNat:Int)-48 else 0
 | [a,b]=>if a.toNat=49/\48<=b.toNat/\b.toNat<=50 then(b.toNat:Int)-38 else 0
 | _=>0
def lit(w:List UInt8):Int:=
 match w with
 | a::r=>if a=45 then-num r else num (a::r)
 | []=>0
theorem tD(w:List UInt8):0<=num w/\num w<=12:=by
 unfold num;split<;>(try split)<;>omega
theorem lit_bd(w:List UInt8):-12<=lit w/\lit w<=12:=by
 unfold lit
 split
 ·rename_i a r
  have h1:=tD r;have h2:=tD (a::r)
  split<;>omega
 ·omega
def okLine(l:List UInt8):Bool:=(words l).all fun w=>lit w != 0
def sortedAt(l:List Int)(i:Nat):List Int:=
 (if l.contains ((i:Int)+1)then [(i:Int)+1]else [])++(if l.contains (-((i:Int)+1))then [-((i:Int)+1)]else [])
def sortedTo(l:List Int)(n:Nat):List Int:=(List.range n).flatMap (sortedAt l)
def sorted(l:List Int):List Int:=sortedTo l 12
def clauseOf(l:List UInt8):List Int:=sorted ((words l).map lit)
theorem sortedTo_succ(l:List Int)(n:Nat):sortedTo l (n+1)=sortedTo l n++sortedAt l n:=by
 unfold sortedTo;rw[List.range_succ,List.flatMap_append];simp
theorem sortedTo_len(l:List Int)(n:Nat):(sortedTo l n).length<=2*n:=by
 induction n with
 | zero=>simp[sortedTo]
 | succ n ih=>
  rw[sortedTo_succ,List.length_append]
  have:(sortedAt l n).length<=2:=by
   unfold sortedAt;split<;>split<;>simp
  omega
theorem sortedTo_bd(l:List Int)(n:Nat):∀x,x∈sortedTo l n->x≠0/\-(n:Int)<=x/\x<=n:=by
 induction n with
 | zero=>simp[sortedTo]
 | succ n ih=>
  intro x hx
  rw[sortedTo_succ,List.mem_append]at hx
  rcases hx with h|h
  ·have:=ih x h;omega
  ·unfold sortedAt at h
   rw[List.mem_append]at h
   rcases h with h|h
   ·split at h<;>simp at h;omega
   ·split at h<;>simp at h;omega
def digs(n:Nat):List UInt8:=if n<10 then [UInt8.ofNat (48+n)]else [49,UInt8.ofNat (38+n)]
def lw(x:Int):List UInt8:=if x<0 then 45::digs x.natAbs else digs x.natAbs
def join:List (List UInt8)->List UInt8
 | []=>[]
 | [a]=>a
 | a::b::r=>a++32::join (b::r)
theorem join_snoc(xs:List (List UInt8))(y:List UInt8):join (xs++[y])=(if xs=[]then y else join xs++32::y):=by
 induction xs with
 | nil=>rfl
 | cons a xs ih=>
  cases xs with
  | nil=>rfl
  | cons b r=>
   simp only[List.cons_append]at ih⊢
   rw[join,ih]
   simp[join]
def toldBody(l:List Int):List UInt8:=join (l.map lw)
def told(l:List Int):List UInt8:=toldBody l++[10]
def scan(e:Bool):Nat->List (List UInt8)->Option Nat
 | _,[]=>none
 | n,l::r=>if !okLine l||(!e&&r.isEmpty)then some (n+1)else scan e (n+1) r
theorem aA0(l:List UInt8):∀cur,(wordsAux cur l).length<=l.length+1:=by
 induction l with
 | nil=>intro cur;simp[wordsAux]
 | cons c r ih=>
  intro cur
  unfold wordsAux
  split
  ·have:=ih [];simp;omega
  ·have:=ih (cur++[c]);simp;omega
theorem words_len'(l:List UInt8):(words l).length<=l.length+1:=by
 unfold words;split
 ·simp
 ·exact aA0 l []
theorem lines_len(l:List UInt8):∀cur,(linesAux cur l).length<=l.length+1:=by
 induction l with
 | nil=>intro cur;unfold linesAux;split<;>simp
 | cons c r ih=>
  intro cur
  unfold linesAux
  split
  ·have:=ih [];simp;omega
  ·have:=ih (cur++[c]);simp;omega
end Go.Proofs.YtekkkoipcghlmaaGreatDoor.Sp
namespace Go.Proofs.YtekkkoipcghlmaaGreatDoor
def bZ(ws:List (List UInt8)):Bool:=ws.all fun w=>Sp.lit w != 0
end Go.Proofs.YtekkkoipcghlmaaGreatDoor
namespace Go.Proofs.YtekkkoipcghlmaaGreatDoor.Sp
def bitIx(x:Int):Nat:=if 0<x then 2*(x.toNat-1)else 2*((-x).toNat-1)+1
def litAt(i:Nat):Int:=if i % 2=0 then((i / 2+1:Nat):Int)else -((i / 2+1:Nat):Int)
def bit(x:Int):Nat:=2 ^ bitIx x
def maskOf(l:List Int):Nat:=l.foldl (fun m x=>m ||| bit x) 0
def litsOf(m:Nat):List Int:=((List.range 24).filter (fun i=>m.testBit i)).map litAt
theorem maskFrom_testBit(l:List Int):∀(m i:Nat),(l.foldl (fun m x=>m ||| bit x) m).testBit i=(m.testBit i||l.any fun x=>bitIx x==i):=by
 induction l with
 | nil=>simp
 | cons a r ih=>
  intro m i
  rw[List.foldl_cons,ih,Nat.testBit_or,List.any_cons]
  unfold bit
  rw[Nat.testBit_two_pow,Bool.or_assoc]
  congr 1
theorem maskOf_testBit(l:List Int)(i:Nat):(maskOf l).testBit i=l.any fun x=>bitIx x==i:=by
 unfold maskOf;rw[maskFrom_testBit];simp
theorem maskOf_snoc(l:List Int)(x:Int):maskOf (l++[x])=maskOf l ||| bit x:=by
 unfold maskOf;rw[List.foldl_append];rfl
theorem bitIx_lt(x:Int)(h:-12<=x/\x<=12):bitIx x<24:=by unfold bitIx;split<;>omega
theorem maskOf_lt(l:List Int)(h:∀x,x∈l->-12<=x/\x<=12):maskOf l<2 ^ 24:=by
 apply Nat.lt_pow_two_of_testBit
 intro i hi
 rw[maskOf_testBit,List.any_eq_false]
 intro x hx
 have:=bitIx_lt x (h x hx)
 simp;omega
theorem aR4:List.range 24=(List.range 12).flatMap (fun i=>[2*i,2*i+1]):=by decide
theorem aH6(l:List Int)(h:∀x,x∈l->x≠0)(i:Nat):(l.any fun x=>bitIx x==2*i)=l.contains ((i:Int)+1):=by
 rw[Bool.eq_iff_iff,List.any_eq_true,List.contains_iff_mem]
 constructor
 ·rintro⟨x,hx,hb⟩
  have h0:=h x hx
  have hb':bitIx x=2*i:=by simpa using hb
  unfold bitIx at hb'
  split at hb'
  ·rwa [show(i:Int)+1=x from by omega]
  ·omega
 ·intro hx
  refine⟨_,hx,?_⟩
  unfold bitIx
  rw[if_pos (by omega)]
  simp
theorem aB5(l:List Int)(h:∀x,x∈l->x≠0)(i:Nat):(l.any fun x=>bitIx x==2*i+1)=l.contains (-((i:Int)+1)):=by
 rw[Bool.eq_iff_iff,List.any_eq_true,List.contains_iff_mem]
 constructor
 ·rintro⟨x,hx,hb⟩
  have h0:=h x hx
  have hb':bitIx x=2*i+1:=by simpa using hb
  unfold bitIx at hb'
  split at hb'
  ·omega
  ·rwa [show -((i:Int)+1)=x from by omega]
 ·intro hx
  refine⟨_,hx,?_⟩
  unfold bitIx
  rw[if_neg (by omega)]
  simp
theorem litsOf_maskOf(l:List Int)(h:∀x,x∈l->x≠0):litsOf (maskOf l)=sorted l:=by
 unfold litsOf sorted sortedTo
 rw[aR4,List.filter_flatMap,List.map_flatMap]
 congr 1
 funext i
 have e1:litAt (2*i)=(i:Int)+1:=by unfold litAt;rw[if_pos (by omega)];omega
 have e2:litAt (2*i+1)=-((i:Int)+1):=by unfold litAt;rw[if_neg (by omega)];omega
 have t1:=(maskOf_testBit l (2*i)).trans (aH6 l h i)
 have t2:=(maskOf_testBit l (2*i+1)).trans (aB5 l h i)
 unfold sortedAt
 simp only[List.filter_cons,List.filter_nil,t1,t2]
 split<;>split<;>simp[e1,e2]
theorem wM(p q:Nat->Bool)(k:Nat)(hp:p k=true)(hlo:∀i,i<k->p i=false)(hq:∀i,q i=(p i&&i != k)):∀n,k<n->(List.range n).filter p=k::(List.range n).filter q:=by
 have hz:∀n,n<=k->(List.range n).filter p=[]/\(List.range n).filter q=[]:=by
  intro n hn
  constructor
  ·rw[List.filter_eq_nil_iff];intro a ha;have:=List.mem_range.1 ha;rw[hlo a (by omega)];simp
  ·rw[List.filter_eq_nil_iff];intro a ha;have:=List.mem_range.1 ha;rw[hq,hlo a (by omega)];simp
 intro n
 induction n with
 | zero=>intro h;omega
 | succ n ih=>
  intro h
  rw[List.range_succ,List.filter_append,List.filter_append]
  by_cases hkn:k<n
  ·rw[ih hkn]
   have:q n=p n:=by
    rw[hq]
    have:(n != k)=true:=by simp;omega
    rw[this,Bool.and_true]
   simp[List.filter_cons,this]
  ·have:n=k:=by omega
   subst this
   rw[(hz n (Nat.le_refl _)).1,(hz n (Nat.le_refl _)).2]
   simp[hp,hq]
theorem aM2(m:Nat)(h0:m≠0)(h:m<2 ^ 32):
  m.testBit (Lib.ctz 32 m)=true/\(∀i,i<Lib.ctz 32 m->m.testBit i=false)/\∀i,(m &&& (m-1)).testBit i=(m.testBit i&&i != Lib.ctz 32 m):=by
 obtain⟨q,hm,hk⟩:=Lib.ctzFrom_spec 32 m (by omega) h
 have e:Lib.ctz 32 m=Lib.ctzFrom 32 m:=by simp[Lib.ctz,h0]
 rw[e]
 generalize Lib.ctzFrom 32 m=k at hm hk⊢
 have hp:0<2 ^ k:=Nat.two_pow_pos k
 have tm:∀j,m.testBit j=if j<k then false else(2*q+1).testBit (j-k):=by
  intro j
  have:=Nat.testBit_two_pow_mul_add (2*q+1) (b:=0) hp j
  rw[Nat.add_zero,←hm]at this
  rw[this];simp
 have hm1:m-1=2 ^ k*(2*q)+(2 ^ k-1):=by
  rw[hm,Nat.mul_add,Nat.mul_one];omega
 have tm1:∀j,(m-1).testBit j=if j<k then(2 ^ k-1).testBit j else(2*q).testBit (j-k):=by
  intro j
  rw[hm1]
  exact Nat.testBit_two_pow_mul_add (2*q) (b:=2 ^ k-1) (by omega) j
 have od:∀i,(2*q+1).testBit i=if i=0 then true else q.testBit (i-1):=by
  intro i
  cases i with
  | zero=>simp[Nat.testBit_zero]
  | succ i=>rw[Nat.testBit_succ,show(2*q+1) / 2=q from by omega];simp
 have ev:∀i,(2*q).testBit i=if i=0 then false else q.testBit (i-1):=by
  intro i
  cases i with
  | zero=>simp[Nat.testBit_zero]
  | succ i=>rw[Nat.testBit_succ,show(2*q) / 2=q from by omega];simp
 refine⟨?_,?_,?_⟩
 ·rw[tm,if_neg (by omega),od,if_pos (by omega)]
 ·intro i hi;rw[tm,if_pos hi]
 ·intro i
  rw[Nat.testBit_and,tm,tm1]
  by_cases h1:i<k
  ·simp[h1]
  ·rw[if_neg h1,if_neg h1,od,ev]
   by_cases h2:i=k
   ·subst h2;simp
   ·have:(i != k)=true:=by simpa using h2
    rw[this,if_neg (by omega),if_neg (by omega)]
    simp
theorem litsOf_step(m:Nat)(h0:m≠0)(h:m<2 ^ 24):litsOf m=litAt (Lib.ctz 32 m)::litsOf (m &&& (m-1))/\Lib.ctz 32 m<24:=by
 obtain⟨a,b,c⟩:=aM2 m h0 (Nat.lt_trans h (by decide))
 have hk:Lib.ctz 32 m<24:=by
  rcases Nat.lt_or_ge (Lib.ctz 32 m) 24 with h'|h'
  ·exact h'
  ·exfalso
   have:m.testBit (Lib.ctz 32 m)=false:=Nat.testBit_lt_two_pow (Nat.lt_of_lt_of_le h (Nat.pow_le_pow_right (by decide) h'))
   rw[a]at this;cases this
 refine⟨?_,hk⟩
 unfold litsOf
 rw[wM (fun i=>m.testBit i) (fun i=>(m &&& (m-1)).testBit i) (Lib.ctz 32 m) a b c 24 hk]
 rfl
theorem litsOf_zero:litsOf 0=[]:=by decide
end Go.Proofs.YtekkkoipcghlmaaGreatDoor.Sp
namespace Go.Proofs.YtekkkoipcghlmaaGreatDoor.Sp
def opp(i:Nat):Nat:=if i % 2=0 then i+1 else i-1
theorem opp_lt{i:Nat}(h:i<24):opp i<24:=by unfold opp;split<;>omega
theorem litAt_opp(i:Nat):litAt (opp i)=- litAt i:=by
 unfold litAt opp
 by_cases h:i % 2=0
 ·rw[if_pos h,if_neg (by omega),if_pos h,show(i+1) / 2=i / 2 from by omega]
 ·rw[if_neg h,if_pos (by omega),if_neg h,show(i-1) / 2=i / 2 from by omega,Int.neg_neg]
theorem litAt_inj{i j:Nat}(h:litAt i=litAt j):i=j:=by
 unfold litAt at h
 split at h<;>split at h<;>omega
def mJ(L:List Nat)(U:Nat->Prop):Prop:=
 ∀c,c∈L->(∃i,c.testBit i=true/\¬U i)/\∀i,c.testBit i=true->¬U i->(∀j,c.testBit j=true->j≠i->U j)->U (opp i)
def Fol(L:List Nat)(m:Nat):Prop:=
 (∃i,m.testBit i=true/\m.testBit (opp i)=true)∨∀U:Nat->Prop,(∀i,m.testBit i=true->U i)->¬mJ L U
theorem mem_litsOf(m:Nat)(i:Nat)(hi:i<24):litAt i∈litsOf m↔m.testBit i=true:=by
 unfold litsOf
 rw[List.mem_map]
 constructor
 ·rintro⟨j,hj,hl⟩
  have:=litAt_inj hl
  subst this
  exact(List.mem_filter.1 hj).2
 ·intro h
  exact⟨i,List.mem_filter.2 ⟨List.mem_range.2 hi,h⟩,rfl⟩
theorem litsOf_mem{m:Nat}{x:Int}(h:x∈litsOf m):∃i,i<24/\x=litAt i/\m.testBit i=true:=by
 unfold litsOf at h
 obtain⟨i,hi,rfl⟩:=List.mem_map.1 h
 have:=List.mem_filter.1 hi
 exact⟨i,List.mem_range.1 this.1,rfl,this.2⟩
theorem litsOf_inj{m m':Nat}(h1:m<2 ^ 24)(h2:m'<2 ^ 24)(h:litsOf m=litsOf m'):m=m':=by
 apply Nat.eq_of_testBit_eq
 intro i
 by_cases hi:i<24
 ·rw[Bool.eq_iff_iff,←mem_litsOf m i hi,←mem_litsOf m' i hi,h]
 ·rw[Nat.testBit_lt_two_pow (Nat.lt_of_lt_of_le h1 (Nat.pow_le_pow_right (by decide) (by omega))),Nat.testBit_lt_two_pow (Nat.lt_of_lt_of_le h2 (Nat.pow_le_pow_right (by decide) (by omega)))]
def stepOf(y:List UInt8):Bool×List (List UInt8):=
 match words y with
 | w0::r=>if w0=[100]then(true,r)else(false,w0::r)
 | []=>(false,[])
def stepMask(y:List UInt8):Nat:=maskOf ((stepOf y).2.map lit)
def stepOk(x:List UInt8×Bool):Bool:=((stepOf x.1).2.all fun w=>lit w != 0)&&x.2
def Outcome(L:List Nat)(n:Nat):List (List UInt8×Bool)->Int×Int->Prop
 | [],r=>r=(0,0)
 | x::rest,r=>
  (stepOk x=false/\r=(6,(n:Int)+1))∨
  (stepOk x=true/\
   (((stepOf x.1).1=true/\((stepMask x.1∈L/\Outcome (L.erase (stepMask x.1)) (n+1) rest r)∨(stepMask x.1∉L/\r=(7,(n:Int)+1))))∨
   ((stepOf x.1).1=false/\((Fol L (stepMask x.1)/\Outcome (L++[stepMask x.1]) (n+1) rest r)∨(¬Fol L (stepMask x.1)/\r=(8,(n:Int)+1))))))
theorem Outcome.unique(xs:List (List UInt8×Bool)):∀(L:List Nat) (n:Nat) (r r':Int×Int),Outcome L n xs r->Outcome L n xs r'->r=r':=by
 induction xs with
 | nil=>intro L n r r' h h';unfold Outcome at h h';rw[h,h']
 | cons x rest ih=>
  intro L n r r' h h'
  unfold Outcome at h h'
  rcases h with⟨h1,h2⟩|⟨h1,h2⟩<;>rcases h' with⟨g1,g2⟩|⟨g1,g2⟩
  ·rw[h2,g2]
  ·rw[h1]at g1;cases g1
  ·rw[h1]at g1;cases g1
  ·rcases h2 with⟨h3,h4⟩|⟨h3,h4⟩<;>rcases g2 with⟨g3,g4⟩|⟨g3,g4⟩
   ·rcases h4 with⟨h5,h6⟩|⟨h5,h6⟩<;>rcases g4 with⟨g5,g6⟩|⟨g5,g6⟩
    ·exact ih _ _ _ _ h6 g6
    ·exact absurd h5 g5
    ·exact absurd g5 h5
    ·rw[h6,g6]
   ·rw[h3]at g3;cases g3
   ·rw[h3]at g3;cases g3
   ·rcases h4 with⟨h5,h6⟩|⟨h5,h6⟩<;>rcases g4 with⟨g5,g6⟩|⟨g5,g6⟩
    ·exact ih _ _ _ _ h6 g6
    ·exact absurd h5 g5
    ·exact absurd g5 h5
    ·rw[h6,g6]
end Go.Proofs.YtekkkoipcghlmaaGreatDoor.Sp
namespace Go.Proofs.YtekkkoipcghlmaaGreatDoor
open Go.RowKit
theorem aq{p:Prop}(h:p):Hid p:=h
theorem dz{p:Prop}(h:Hid p):p:=h
def Lies(w:World)(v:Value)(vs:List Value):Prop:=
 (vs=[]/\∃ao cap,v=.slice ao 0 cap)∨
 (∃b off cap,0<vs.length/\v=.slice (some ⟨b,off,none⟩) vs.length cap/\b<w.heap.size/\∀k x,vs[k]?=some x->w.cell? ⟨b,off+k,none⟩=some x)
theorem Lies.below{w w':World}{v:Value}{vs:List Value}(h:Lies w v vs)(hb:Below w.heap.size w w'):Lies w' v vs:=by
 rcases h with h|⟨b,off,cap,hp,hv,hlt,hc⟩
 ·exact .inl h
 ·exact .inr ⟨b,off,cap,hp,hv,Nat.lt_of_lt_of_le hlt hb.size,fun k x hx=>(hb.cell (p:=⟨b,off+k,none⟩) hlt).trans (hc k x hx)⟩
theorem Lies.nil(w:World):Lies w (.slice none 0 0) []:=.inl ⟨rfl,_,_,rfl⟩
theorem aE{w:World}{base:Nat}{e:TypeId}{v:Value}{n:Nat}{xs:List Value}(h:w.ownsRow base e 1 v n xs)(hn:xs.length=n):Lies w v xs:=by
 by_cases h0:n=0
 ·subst h0
  have hx:xs=[]:=List.length_eq_zero_iff.1 hn
  refine .inl ⟨hx,?_⟩
  rcases h.2 with⟨hv,_⟩|⟨g,cap,cur,hv,_⟩
  ·exact⟨_,_,hv⟩
  ·exact⟨_,_,hv⟩
 ·obtain⟨m,rfl⟩:∃m,n=m+1:=⟨n-1,by omega⟩
  have hlt:=h.lt
  obtain⟨g,cap,rfl⟩:∃g cap,v=.slice (some ⟨g,0,none⟩) (m+1) cap:=by
   rcases h.2 with⟨hv,hx⟩|⟨g,cap,cur,hv,_⟩
   ·omega
   ·exact⟨g,cap,hv⟩
  refine .inr ⟨g,0,cap,by omega,by rw[hn],(hlt g rfl).2,fun k x hx=>?_⟩
  have hk:k<xs.length:=by
   rcases Nat.lt_or_ge k xs.length with h|h
   ·exact h
   ·rw[List.getElem?_eq_none h]at hx;cases hx
  have:=h.cellAt k (by omega)
  rw[Nat.zero_add,this,hx]
def bs(l:List UInt8):ByteArray:=⟨l.toArray⟩
def ints(xs:List Int):List Value:=xs.map (Value.int .i64)
def strs(ss:List (List UInt8)):List Value:=ss.map (fun l=>Value.string (bs l))
def us(ms:List Nat):List Value:=ms.map (fun(m:Nat)=>Value.int .u32 (m:Int))
theorem aN(l:List UInt8):(bs l).size=l.length:=by show l.toArray.size=l.length;simp
theorem cF(l:List UInt8):(bs l).toList=l:=by
 rw[Go.ByteArray.toList_eq];simp[bs]
theorem dZ{l:List UInt8}{k:Nat}(h:k<l.length):(bs l)[k]'(by rw[aN];exact h)=l[k]:=by
 show(l.toArray)[k]'(by simpa using h)=l[k];simp
theorem kY{c:UInt8}{n:Nat}(hn:n<256)(h:¬c=UInt8.ofNat n):((c.toNat:Int)==(n:Int))=false:=by
 rw[beq_eq_false_iff_ne];intro h'
 exact h (UInt8.toNat_inj.1 (by rw[UInt8.toNat_ofNat'];omega))
theorem fP(l:List UInt8)(a b:Nat):(bs l).extract a b=bs ((l.drop a).take (b-a)):=by
 unfold bs;rw[ByteArray.extract_mk]
theorem aF0(a b:List UInt8):bs a++bs b=bs (a++b):=by
 unfold bs;apply ByteArray.ext;simp
theorem bK{l:List UInt8}(h:l≠[]):(bs l).toList.isEmpty=false:=by
 rw[cF];simpa using h
theorem eQ{w w':World}(h:Below w.heap.size w w'):w.grownBy w' none:=⟨h.os,h.tape,h.output,h.size,fun k hk _=>h.block k hk⟩
theorem bC{w:World}{base base':Nat}{e:TypeId}{v:Value}{n:Nat}{xs:List Value}(h:w.ownsRow base e 1 v n xs)(hb:base'<=base):w.ownsRow base' e 1 v n xs:=by
 refine⟨h.1,?_⟩
 rcases h.2 with h'|⟨g,cap,cur,h1,h2,h3⟩
 ·exact .inl h'
 ·exact .inr ⟨g,cap,cur,h1,Nat.le_trans hb h2,h3⟩
theorem aC{w:World}{base:Nat}{e:TypeId}{v:Value}{n:Nat}{xs:List Value}(h:w.ownsRow base e 1 v n xs):∃ao c,v=.slice ao n c:=by
 rcases h.2 with⟨h',h0⟩|⟨g,cap,cur,h1,_⟩
 ·subst h0;exact⟨_,_,h'⟩
 ·exact⟨_,_,h1⟩
theorem aR{w w':World}{base:Nat}{e:TypeId}{v:Value}{n:Nat}{xs:List Value}(h:w.ownsRow base e 1 v n xs)(hb:Below w.heap.size w w'):w'.ownsRow base e 1 v n xs:=by
 refine h.kept (eQ hb) ?_
 cases hv:v.ownBlock with
 | none=>exact .inl rfl
 | some g=>exact .inr (by simp)
theorem eY{w:World}{b1 b2 n m:Nat}{e1 e2:TypeId}{x y:Value}{xs ys:List Value}(he:e1≠e2)(hx:w.ownsRow b1 e1 1 x n xs)(hy:w.ownsRow b2 e2 1 y m ys):x.ownBlock=none∨x.ownBlock≠y.ownBlock:=by
 rcases hx.2 with⟨rfl,_⟩|⟨g,cap,cur,rfl,_,hg,_⟩
 ·exact .inl rfl
 ·rcases hy.2 with⟨rfl,_⟩|⟨g',cap',cur',rfl,_,hg',_⟩
  ·exact .inr (by simp[Value.ownBlock])
  ·refine .inr (fun h=>?_)
   simp only[Value.ownBlock,Option.some.injEq]at h
   subst h
   rw[hg]at hg'
   simp only[Option.some.injEq,Obj.cells.injEq]at hg'
   exact he hg'.2.1
section
variable {P:Program}
theorem wR(t:TypeId)(hu:P.underlying t=some .string)(l:List UInt8)(i j:Int)(a b:Nat)(hi:i=a)(hj:j=b)(h1:a<=b)(h2:b<=l.length)(wx:World):
  (Instr.slice t (.string (bs l)) (some (.int .i64 i)) (some (.int .i64 j)) none).run P wx=.ok (.string (bs ((l.drop a).take (b-a)))) wx:=by
 subst hi hj
 rw[run_slice_string wx t (bs l) .i64 .i64 a b hu (by omega) (by omega) (by rw[aN];omega)]
 simp[fP]
theorem dG(t:TypeId)(hu:P.underlying t=some .string)(l:List UInt8)(i:Int)(a:Nat)(hi:i=a)(h2:a<=l.length)(wx:World):
  (Instr.slice t (.string (bs l)) (some (.int .i64 i)) none none).run P wx=.ok (.string (bs (l.drop a))) wx:=by
 subst hi
 rw[run_slice_string_from_if wx t (bs l) .i64 a hu,if_pos (by rw[aN];omega)]
 simp only[Int.toNat_natCast,aN,fP]
 rw[List.take_of_length_le (by simp)]
theorem wJ(src dst e:TypeId)(hs:P.underlying src=some (.slice e))(he:P.underlying e=some (.int .u8))(hd:P.underlying dst=some .string)(x:Int)(h0:0<=x)(h1:x<=255)(wx:World):
  (convert src dst (.slice (some ⟨wx.heap.size,0,none⟩) 1 1)).run P (wx.alloc (.cells #[.int .u8 x] e))=.ok (.string (bs [UInt8.ofNat x.toNat])) (wx.alloc (.cells #[.int .u8 x] e)):=by
 have:=run_convert_bytes_back (P:=P) (wx.alloc (.cells #[.int .u8 x] e)) src dst e ⟨wx.heap.size,0,none⟩ 1 [UInt8.ofNat x.toNat] hs he hd (fun j hj=>by
  have hj0:j=0:=by simpa using hj
  subst hj0
  have:((UInt8.ofNat x.toNat).toNat:Int)=x:=by rw[UInt8.toNat_ofNat'];omega
  simp only[List.getElem_cons_zero,this]
  exact cell_one_new wx (.int .u8 x) e 0 _ rfl)
 exact this
theorem dK(a b:List UInt8)(h:a.length+b.length<=9223372036854775807)(wx:World):(Op.stringOp .add (bs a) (bs b)).run P wx=.ok (.string (bs (a++b))) wx:=by
 rw[run_string_add_sum wx (bs a) (bs b) (by rw[aN,aN];exact h),aF0]
theorem bR{ops:Array Oper}{rest:List Oper}{o:Oper}{a:Act}{Q:Exit->Act->World->Prop}{w0 wr:World}{base n bytes:Nat}{tt:TypeId}{z v val:Value}{xs:List Value}
  (hgd:o.guard=none) (s x:Operand) (t e:TypeId)
  (ho:o.op=.call { callee:=.builtin .append,args:=#[s,x],argTypes:=#[t,t] })
  (ht:P.underlying t=some (.slice e)) (hinfo:(P.info? e).map (fun i=>(i.zero,i.size,i.bytes))=some (some z,1,bytes)) (hzs:z.cells.size=1) (hby:bytes<=24)
  (hown:wr.ownsRow base e 1 v n xs) (hs:a.eval s=v) (hx:a.eval x=.slice (some ⟨wr.heap.size,0,none⟩) 1 1) (h1:val.oneCell'=true)
  (hn:n<=20000000) (hb:base<=w0.heap.size) (hbel:Below base w0 wr)
  (h:∀v' w',w'.ownsRow base e 1 v' (n+1) (xs++[val])->Below base w0 w'->(wr.alloc (.cells #[val] tt)).grownBy w' v.ownBlock->wpList P ops Q rest (a.put o.dst v') w'):
  wpList P ops Q (o::rest) a (wr.alloc (.cells #[val] tt)):=by
 obtain⟨i0,hi,hz0,hz1,hz2⟩:=info_parts hinfo
 have hsz:=hbel.size
 have hnb:(n+1)*bytes<=140737488355328:=Nat.le_trans (Nat.mul_le_mul (Nat.add_le_add_right hn 1) hby) (by omega)
 refine wpList_append_own _ hgd s x t ho base e i0 z 1 bytes ht hi hz0 hz1 hz2 hzs (by decide) v n xs hs (hown.alloc _) ⟨wr.heap.size,0,none⟩ 1 1 [val] hx rfl (cell_one_new _ _ _)
  (by intro u hu;simp at hu;subst hu;exact h1) (by unfold maxLen;omega) hnb (by simp;omega) ?_
 intro v' w' ho' hg _
 exact h v' w' ho' ((hbel.alloc (by omega) _).grown hg (by simp;omega) (fun j hj=>(hown.lt j hj).1)) hg
end
end Go.Proofs.YtekkkoipcghlmaaGreatDoor
namespace Go.Proofs.YtekkkoipcghlmaaGreatDoor
open Go.RowKit
def tru(b:Nat)(x:Int):Bool:=b.testBit (x.natAbs-1)==decide (0<x)
def bL(b:Nat)(c:List Int):Bool:=c.any (tru b)
theorem zQ(b:Nat)(x:Int)(n:Nat)(hb:b<4096)(hn:n=x.natAbs-1):((bits BinOp.and IntKind.i64 ((b:Int) / 2 ^ n) 1==1)==decide (0<x))=tru b x:=by
 have e1:(b:Int) / 2 ^ n=((b / 2 ^ n:Nat):Int):=by simp
 have hlt:b / 2 ^ n<4096:=Nat.lt_of_le_of_lt (Nat.div_le_self _ _) hb
 have e2:=Go.Proofs.and_one (b / 2 ^ n) (by omega)
 rw[e1,e2]
 unfold tru
 rw[←hn,Nat.testBit_eq_decide_div_mod_eq]
 congr 1
 by_cases h:b / 2 ^ n % 2=1
 ·rw[h];rfl
 ·have:b / 2 ^ n % 2=0:=by omega
  rw[this];rfl
def iM(L:List (List Int))(A:List Int)(b:Nat):Bool:=A.all (tru b)&&L.all (bL b)
def jF(L:List (List Int))(A:List Int):Bool:=(List.range 4096).any (iM L A)
def Lits(A:List Int):Prop:=∀x,x∈A->x≠0/\-12<=x/\x<=12
def dF(b:Nat):List Int:=(List.range 12).map (fun i=>if b.testBit i then((i:Int)+1)else -((i:Int)+1))
theorem aC9(b i:Nat)(h:i<12):(dF b)[i]?=some (if b.testBit i then((i:Int)+1)else -((i:Int)+1)):=by
 unfold dF;simp[h]
end Go.Proofs.YtekkkoipcghlmaaGreatDoor
namespace Go.Proofs.YtekkkoipcghlmaaGreatDoor
theorem jX{b:Nat}{c:List Int}:bL b c=true↔∃x,x∈c/\tru b x=true:=by unfold bL;rw[List.any_eq_true]
theorem sU(b:Nat){x:Int}(h:x≠0):tru b (-x)=!tru b x:=by
 unfold tru
 rw[Int.natAbs_neg]
 by_cases hp:0<x
 ·rw[decide_eq_true hp,decide_eq_false (show¬0 < -x by omega)]
  cases b.testBit (x.natAbs-1)<;>rfl
 ·rw[decide_eq_false hp,decide_eq_true (show 0 < -x by omega)]
  cases b.testBit (x.natAbs-1)<;>rfl
end Go.Proofs.YtekkkoipcghlmaaGreatDoor
namespace Go.Proofs.YtekkkoipcghlmaaGreatDoor
def zR(DB:List (List Int))(F:Int->Prop):Prop:=
 ∀c,c∈DB->(∃x,x∈c/\¬F x)/\∀x,x∈c->¬F x->(∀y,y∈c->y≠x->F y)->F (-x)
def FolI(DB:List (List Int))(r:List Int):Prop:=∀F:Int->Prop,zR DB F->(∀x,x∈r->F x)->False
theorem FolI.weaken{DB:List (List Int)}{r r':List Int}(h:FolI DB r)(hs:∀x,x∈r->x∈r'):FolI DB r':=fun F hF hr=>h F hF (fun x hx=>hr x (hs x hx))
theorem aE8{x y:Int}(hx:x≠0)(hy:y≠0)(h:Sp.bitIx x=Sp.bitIx y):x=y:=by
 unfold Sp.bitIx at h
 split at h<;>split at h<;>omega
theorem qP{x:Int}(hx:x≠0):Sp.bitIx (-x)=Sp.opp (Sp.bitIx x):=by
 unfold Sp.bitIx Sp.opp
 by_cases h:0<x
 ·rw[if_neg (by omega),if_pos h,if_pos (by omega)];omega
 ·rw[if_pos (by omega),if_neg h,if_neg (by omega)];omega
theorem gS{c:List Int}(h0:∀x,x∈c->x≠0){x:Int}(hx:x≠0):(Sp.maskOf c).testBit (Sp.bitIx x)=true↔x∈c:=by
 rw[Sp.maskOf_testBit,List.any_eq_true]
 constructor
 ·rintro⟨y,hy,hb⟩
  rw[←aE8 (h0 y hy) hx (by simpa using hb)];exact hy
 ·intro h;exact⟨x,h,by simp⟩
theorem uL{c:List Int}{i:Nat}(h:(Sp.maskOf c).testBit i=true):∃x,x∈c/\Sp.bitIx x=i:=by
 rw[Sp.maskOf_testBit,List.any_eq_true]at h
 obtain⟨y,hy,hb⟩:=h
 exact⟨y,hy,by simpa using hb⟩
theorem FolI.fol{DB:List (List Int)}{r:List Int}{L:List Nat}(h:FolI DB r)(h0:∀c,c∈DB->∀x,x∈c->x≠0)(hr0:∀x,x∈r->x≠0)(hL:∀c,c∈DB->Sp.maskOf c∈L):Sp.Fol L (Sp.maskOf r):=by
 refine .inr (fun U hU hs=>h (fun x=>U (Sp.bitIx x)) (fun c hc=>?_) (fun x hx=>hU _ ((gS hr0 (hr0 x hx)).2 hx)))
 obtain⟨⟨i,hi,hn⟩,h2⟩:=hs _ (hL c hc)
 obtain⟨x,hx,rfl⟩:=uL hi
 refine⟨⟨x,hx,hn⟩,fun y hy hny hot=>?_⟩
 have:=h2 (Sp.bitIx y) ((gS (h0 c hc) (h0 c hc y hy)).2 hy) hny (fun j hj hne=>by
  obtain⟨z,hz,rfl⟩:=uL hj
  exact hot z hz (fun e=>hne (by rw[e])))
 show U (Sp.bitIx (-y))
 rw[qP (h0 c hc y hy)]
 exact this
theorem lR{DB:List (List Int)}{T:Nat->Int}{S D:Nat->Prop}{F:Int->Prop}(hst:zR DB F)
  (hr:∀i,S i->¬D i->∃c,c∈DB/\∀y,y∈c->y=T i∨∃j,j<i/\S j/\T j=-y) (hD:∀i,S i->D i->F (-T i)):∀i,S i->F (-T i):=by
 intro i
 induction i using Nat.strongRecOn with
 | _ i ih=>
  intro hi
  by_cases hd:D i
  ·exact hD i hi hd
  ·obtain⟨c,hc,hy⟩:=hr i hi hd
   obtain⟨⟨x,hx,hnx⟩,h2⟩:=hst c hc
   have hall:∀y,y∈c->y≠T i->F y:=fun y hyc hne=>by
    rcases hy y hyc with rfl|⟨j,hj,hsj,e⟩
    ·exact absurd rfl hne
    ·have:=ih j hj hsj
     rw[e,Int.neg_neg]at this;exact this
   have hxe:x=T i:=by
    rcases Classical.em (x=T i)with h|h
    ·exact h
    ·exact absurd (hall x hx h) hnx
   subst hxe
   exact h2 _ hx hnx hall
theorem oY{DB:List (List Int)}{T:Nat->Int}{S D:Nat->Prop}
  (hr:∀i,S i->¬D i->∃c,c∈DB/\∀y,y∈c->y=T i∨∃j,j<i/\S j/\T j=-y)
  {c:List Int} (hc:c∈DB) (hf:∀y,y∈c->∃j,S j/\T j=-y) {r:List Int} (hD:∀i,S i->D i->-T i∈r):FolI DB r:=by
 intro F hst hrF
 obtain⟨⟨x,hx,hnx⟩,-⟩:=hst c hc
 obtain⟨j,hj,e⟩:=hf x hx
 have:=lR hst hr (fun i hi hd=>hrF _ (hD i hi hd)) j hj
 rw[e,Int.neg_neg]at this
 exact hnx this
theorem aN9{DB:List (List Int)}{T:Nat->Int}{S D:Nat->Prop}
  (hr:∀i,S i->¬D i->∃c,c∈DB/\T i∈c/\∀y,y∈c->y=T i∨∃j,j<i/\S j/\T j=-y)
  {k:Nat} (hk:S k) {r:List Int} (hx:T k∈r) (hD:∀i,S i->D i->-T i∈r) (hop:D k->False):FolI DB r:=by
 intro F hst hrF
 obtain⟨c,hc,hin,hy⟩:=hr k hk hop
 obtain⟨⟨x,hx',hnx⟩,-⟩:=hst c hc
 have H:=lR hst (fun i hi hd=>by obtain⟨c,hc,-,h⟩:=hr i hi hd;exact⟨c,hc,h⟩) (fun i hi hd=>hrF _ (hD i hi hd))
 rcases hy x hx' with rfl|⟨j,-,hsj,e⟩
 ·exact hnx (hrF _ hx)
 ·have:=H j hsj
  rw[e,Int.neg_neg]at this
  exact hnx this
theorem tG{L:List Nat}{r:List Int}(hr0:∀x,x∈r->x≠0){x:Int}(h1:x∈r)(h2:-x∈r):Sp.Fol L (Sp.maskOf r):=
 .inl ⟨Sp.bitIx x,(gS hr0 (hr0 x h1)).2 h1,by rw[←qP (hr0 x h1)];exact(gS hr0 (hr0 _ h2)).2 h2⟩
end Go.Proofs.YtekkkoipcghlmaaGreatDoor
