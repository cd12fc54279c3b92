import Derived.Test.YtjlelckefiannaaGreatDoorZ20
import Derived.Test.YtjlelckefiannaaGreatDoorZ1
import Derived.Test.YtjlelckefiannaaGreatDoorZ10
import Derived.Deep.Cut
import Derived.Test.YtjlelckefiannaaGreatDoorZ2
import Derived.Test.YtjlelckefiannaaGreatDoorZ9
import Derived.Test.YtjlelckefiannaaGreatDoorZ25
import Derived.Test.YtjlelckefiannaaGreatDoorZ29
namespace Go.Proofs.YtjlelckefiannaaGreatDoor
set_option maxRecDepth 100000
set_option linter.unusedVariables false
set_option linter.unusedSimpArgs false
open Go.RowKit
def su(L:List Bk)(i:Nat):Nat:=((anc L i).map λk=>wkN (btT (bkT L k).bits)).sum
theorem awr{L:List Bk}(h:WFt L){i j:Nat}(hi:i<L.length)(hj:(bkT L i).ahead=(j:Int)):su L i=su L j+wkN (btT (bkT L i).bits):=by
 rw[su,(aal h hi hj).2,su];simp;omega
theorem aP4{t:Nat}:wkN t<ng:=by
 unfold wkN
 have:=aam
 split
 ·omega
 ·rename_i h
  exact Nat.div_lt_self this aPl
theorem aQ5(l:List Nat)(b:Nat)(h:∀x∈l,x≤b):l.sum≤l.length*b:=by
 induction l with
 |nil=>simp
 |cons x l ih =>
  have h1:=h x (by simp)
  have h2:=ih λy hy=>h y (by simp[hy])
  rw[List.sum_cons,List.length_cons,Nat.succ_mul]
  omega
def ald(L:List Bk):Nat→Nat
 |0=>0
 |n+1=>if su L (ald L n)<su L n then n else ald L n
def ug(L:List Bk):Nat:=ald L L.length
theorem ai8(L:List Bk):∀n,ald L n≤n-1
 |0=>Nat.le_refl _
 |n+1=>by
  rw[ald]
  have:=ai8 L n
  split<;>omega
def aze(L:List Bk)(every:Nat)(i:Nat):Nat:=(qx L i).getD ((qx L i).length-every) 0
def afw(L:List Bk)(every span limit i:Nat):Nat :=
 if(qx L i).length % every=0 then enB (scN (btT (bkT L i).bits) (tkN span (((bkT L i).time:Int)-((bkT L (aze L every i)).time:Int))) span (btT limit))else(bkT L i).bits
theorem aku(h:List UInt8):∀(L:List Bk) (k:Nat),aae h L k = -1∨∃i:Nat,aae h L k=(i:Int)∧k≤i∧i<k+L.length
 |[],k => .inl rfl
 |b::L,k=>by
  rw[aae]
  split
  ·exact .inr ⟨k,rfl,Nat.le_refl _,by simp⟩
  ·rcases aku h L (k+1)with h1|⟨i,h1,h2,h3⟩
   ·exact .inl h1
   ·exact .inr ⟨i,h1,by omega,by simp only[List.length_cons];omega⟩
theorem afg(h:List UInt8)(L:List Bk):yj L h = -1∨∃i:Nat,yj L h=(i:Int)∧i<L.length:=by
 rcases aku h L 0 with h1|⟨i,h1,_,h3⟩
 ·exact .inl h1
 ·exact .inr ⟨i,h1,by omega⟩
def aE5(L:List Bk):Prop:=∀i,0<i→i<L.length→0≤(bkT L i).ahead
def NH(L:List Bk):Prop:=∀i j,i<L.length→j<L.length→(bkT L i).hash=(bkT L j).hash→i=j
theorem abj{L:List Bk}{b:Bk}{k:Nat}(h:k<L.length):bkT (L ++ [b]) k=bkT L k:=by
 unfold bkT
 rw[List.getD_eq_getElem?_getD,List.getD_eq_getElem?_getD,List.getElem?_append_left h]
theorem ac9{L:List Bk}{b:Bk}:bkT (L ++ [b]) L.length=b:=by
 unfold bkT
 rw[List.getD_eq_getElem?_getD,List.getElem?_append_right (Nat.le_refl _),Nat.sub_self]
 rfl
theorem aat(L:List Bk)(b:Bk):(L ++ [b]).length=L.length+1:=by simp
theorem WFt.snoc{L:List Bk}(h:WFt L){b:Bk}(o:b.Ok){i:Nat}(hi:i<L.length)(hb:b.ahead=(i:Int)):WFt (L ++ [b]):=by
 refine⟨λx hx=>?_,λk hk=>?_⟩
 ·rw[List.mem_append,List.mem_singleton]at hx
  rcases hx with hx|rfl
  ·exact h.ok x hx
  ·exact o
 ·rw[aat]at hk
  by_cases h1:k<L.length
  ·rw[abj h1];exact h.up k h1
  ·obtain rfl:k=L.length:=by omega
   rw[ac9,hb];omega
theorem aE5.snoc{L:List Bk}(h:aE5 L){b:Bk}{i:Nat}(hb:b.ahead=(i:Int)):aE5 (L ++ [b]):=by
 intro k h0 hk
 rw[aat]at hk
 by_cases h1:k<L.length
 ·rw[abj h1];exact h k h0 h1
 ·obtain rfl:k=L.length:=by omega
  rw[ac9,hb];omega
theorem aGn{L:List Bk}(h:WFt L)(b:Bk):∀f k,k<L.length→path (L ++ [b]) f k=path L f k:=by
 intro f
 induction f with
 |zero=>intro k hk;rfl
 |succ f ih =>
  intro k hk
  rw[path,path,abj hk]
  have:=h.up k hk
  split
  ·rfl
  ·rw[ih _ aPl]
theorem anl{L:List Bk}(h:WFt L)(b:Bk){k:Nat}(hk:k<L.length):anc (L ++ [b]) k=anc L k:=aGn h b k k hk
theorem aNr{L:List Bk}(h:WFt L){b:Bk}(o:b.Ok){i:Nat}(hi:i<L.length)(hb:b.ahead=(i:Int)):anc (L ++ [b]) L.length=L.length::anc L i:=by
 have:=(aal (h.snoc o hi hb) (i:=L.length) (j:=i) (by simp) (by rw[ac9,hb])).2
 rw[this,anl h b hi]
theorem ax5{L:List Bk}(h:WFt L)(b:Bk){k:Nat}(hk:k<L.length):ig (L ++ [b]) k=ig L k:=by rw[ig,anl h b hk];rfl
theorem aG6{L:List Bk}(h:WFt L)(b:Bk){k:Nat}(hk:k<L.length):qx (L ++ [b]) k=qx L k:=by rw[qx,anl h b hk];rfl
theorem ax6{L:List Bk}(h:WFt L){b:Bk}(o:b.Ok){i:Nat}(hi:i<L.length)(hb:b.ahead=(i:Int)):ig (L ++ [b]) L.length=ig L i+1:=by
 rw[ig,aNr h o hi hb,ig,List.length_cons]
 have:=ab3 h i hi
 omega
theorem adx{L:List Bk}(h:WFt L)(b:Bk){k:Nat}(hk:k<L.length):su (L ++ [b]) k=su L k:=by
 rw[su,su,anl h b hk]
 congr 1
 refine List.map_congr_left λx hx=>?_
 have:=aif h k hk x hx
 rw[abj aPl]
theorem anp{L:List Bk}(h:WFt L){b:Bk}(o:b.Ok){i:Nat}(hi:i<L.length)(hb:b.ahead=(i:Int)):su (L ++ [b]) L.length=su L i+wkN (btT b.bits):=by
 have:=awr (h.snoc o hi hb) (i:=L.length) (j:=i) (by simp) (by rw[ac9,hb])
 rw[this,adx h b hi,ac9]
theorem ahg(L:List Bk){b:Bk}{i:Nat}(hb:b.ahead=(i:Int))(k:Nat):abg (L ++ [b]) k=(abg L k && !decide (i=k)):=by
 unfold abg
 rw[List.all_append,List.all_cons,List.all_nil,Bool.and_true,hb]
 congr 2
 exact decide_eq_decide.2 ⟨λh=>by omega,λh=>by omega⟩
theorem apx{L:List Bk}(h:WFt L){b:Bk}{i:Nat}(hi:i<L.length)(hb:b.ahead=(i:Int)):abg (L ++ [b]) L.length=true:=by
 rw[ahg L hb,Bool.and_eq_true]
 refine⟨?_,by simp;omega⟩
 unfold abg
 rw[List.all_eq_true]
 intro x hx
 obtain⟨k,hk,rfl⟩:=List.getElem_of_mem hx
 have:=h.up k hk
 have e:bkT L k=L[k]:=by unfold bkT;rw[List.getD,List.getElem?_eq_getElem hk];rfl
 rw[e]at this
 simp
 omega
theorem adn(f g:Nat→Bool)(i:Nat):∀n,i<n→(∀k,k<n→k≠i→f k=g k)→f i=false→(List.range n).countP g=(List.range n).countP f+if g i then 1 else 0
 |0,h,_,_=>absurd h aPl
 |n+1,h,he,hf=>by
  rw[List.range_succ,List.countP_append,List.countP_append,List.countP_singleton,List.countP_singleton]
  by_cases h1:i<n
  ·rw[adn f g i n h1 (λk hk=>he k aPl) hf,he n aPl aPl]
   omega
  ·obtain rfl:i=n:=by omega
   have e:(List.range i).countP g=(List.range i).countP f:=List.countP_congr λx hx=>by
    have hx':=List.mem_range.1 hx
    rw[he x aPl aPl]
   rw[e,hf]
   simp
theorem aBm{L:List Bk}(h:WFt L){b:Bk}{i:Nat}(hi:i<L.length)(hb:b.ahead=(i:Int)):uq (L ++ [b])=uq L+if abg L i then 0 else 1:=by
 unfold uq
 rw[aat,awz,apx h hi hb,if_pos rfl]
 have:=adn (λk=>abg (L ++ [b]) k) (λk=>abg L k) i L.length hi (λk hk hne=>by
  show abg (L ++ [b]) k=abg L k
  rw[ahg L hb,decide_eq_false (λe=>hne e.symm)];simp) (by
  show abg (L ++ [b]) i=false
  rw[ahg L hb,decide_eq_true rfl];simp)
 unfold arx
 rw[this]
 cases abg L i<;>simp
theorem av6{L:List Bk}(h:WFt L)(b:Bk):∀n,n≤L.length→ald (L ++ [b]) n=ald L n
 |0,_=>rfl
 |n+1,hn=>by
  have h1:=ai8 L n
  rw[ald,ald,av6 h b n aPl,adx h b aPl,adx h b aPl]
theorem aDm{L:List Bk}(h:WFt L){b:Bk}(o:b.Ok){i:Nat}(hi:i<L.length)(hb:b.ahead=(i:Int)):ug (L ++ [b])=if su L (ug L)<su L i+wkN (btT b.bits)then L.length else ug L:=by
 unfold ug
 rw[aat,ald,av6 h b _ (Nat.le_refl _),anp h o hi hb,adx h b (by have:=ai8 L L.length;omega)]
theorem asq{L:List Bk}(h:0<L.length):ug L<L.length:=by
 have:=ai8 L L.length
 unfold ug
 omega
theorem akv(h:List UInt8):∀(L:List Bk) (k i:Nat),aae h L k=(i:Int)→k≤i∧i<k+L.length∧(bkT L (i-k)).hash=h
 |[],k,i,e=>by rw[aae]at e;omega
 |x::L,k,i,e=>by
  rw[aae]at e
  by_cases hx:x.hash=h
  ·rw[if_pos hx]at e
   obtain rfl:k=i:=by omega
   refine⟨Nat.le_refl _,by rw[List.length_cons];omega,?_⟩
   rw[Nat.sub_self];exact hx
  ·rw[if_neg hx]at e
   obtain⟨h1,h2,h3⟩:=akv h L (k+1) i e
   refine⟨by omega,by rw[List.length_cons];omega,?_⟩
   rw[show i-k=(i-(k+1))+1 by omega]
   exact h3
theorem ai6{L:List Bk}{h:List UInt8}{i:Nat}(e:yj L h=(i:Int)):i<L.length∧(bkT L i).hash=h:=by
 have:=akv h L 0 i e
 exact⟨by omega,this.2.2⟩
theorem afn{L:List Bk}{h:List UInt8}(e:yj L h<0):∀i,i<L.length→(bkT L i).hash≠h:=by
 intro i hi hh
 have key:∀(L:List Bk) (k i:Nat),i<L.length→(bkT L i).hash=h→0≤aae h L k:=by
  intro L
  induction L with
  |nil=>intro k i hi;simp at hi
  |cons x L ih =>
   intro k i hi hh
   rw[aae]
   by_cases hx:x.hash=h
   ·rw[if_pos hx];omega
   ·rw[if_neg hx]
    cases i with
    |zero=>exact absurd hh hx
    |succ i=>exact ih (k+1) i (by simpa using hi) hh
 have:=key L 0 i hi hh
 unfold yj at e
 omega
theorem afh{L:List Bk}(nh:NH L){i:Nat}(hi:i<L.length):yj L (bkT L i).hash=(i:Int):=by
 rcases afg (bkT L i).hash L with h|⟨j,h,hj⟩
 ·exact absurd rfl (afn aPl i hi)
 ·have:=ai6 h
  rw[h]
  exact congrArg _ (nh i j hi hj this.2.symm).symm
theorem NH.snoc{L:List Bk}(h:NH L){b:Bk}(hb:yj L b.hash<0):NH (L ++ [b]):=by
 intro i j hi hj e
 rw[aat]at hi hj
 by_cases h1:i<L.length
 ·by_cases h2:j<L.length
  ·rw[abj h1,abj h2]at e
   exact h i j h1 h2 e
  ·obtain rfl:j=L.length:=by omega
   rw[abj h1,ac9]at e
   exact absurd e (afn hb i h1)
 ·obtain rfl:i=L.length:=by omega
  by_cases h2:j<L.length
  ·rw[abj h2,ac9]at e
   exact absurd e.symm (afn hb j h2)
  ·omega
theorem afi{L:List Bk}(h:WFt L){i:Nat}(hi:i<L.length):∃r,anc L i=i::r:=by
 have hu:=h.up i hi
 by_cases h0:(bkT L i).ahead<0
 ·exact⟨[],abe h hi h0⟩
 ·obtain⟨j,hj⟩:=Int.eq_ofNat_of_zero_le (show 0≤(bkT L i).ahead by omega)
  exact⟨_,(aal h hi hj).2⟩
theorem aH3{L:List Bk}(h:WFt L){i:Nat}(hi:i<L.length):i∈anc L i:=by
 obtain⟨r,e⟩:=afi h hi
 rw[e];simp
theorem aNq{L:List Bk}(h:WFt L):∀i,i<L.length→∀j∈anc L i,∃pre,anc L i=pre++anc L j:=by
 intro i
 induction i using Nat.strongRecOn with
 |_ i ih =>
  intro hi j hj
  have hu:=h.up i hi
  by_cases h0:(bkT L i).ahead<0
  ·rw[abe h hi h0]at hj
   simp at hj
   subst hj
   exact⟨[],rfl⟩
  ·obtain⟨k,hk⟩:=Int.eq_ofNat_of_zero_le (show 0≤(bkT L i).ahead by omega)
   obtain⟨h1,h2⟩:=aal h hi hk
   rw[h2,List.mem_cons]at hj
   rcases hj with rfl|hj
   ·exact⟨[],rfl⟩
   ·obtain⟨pre,hp⟩:=ih k h1 aPl j hj
    exact⟨i::pre,by rw[h2,hp];rfl⟩
theorem zero_mem{L:List Bk}(h:WFt L)(o:aE5 L):∀i,i<L.length→0∈anc L i:=by
 intro i
 induction i using Nat.strongRecOn with
 |_ i ih =>
  intro hi
  by_cases h0:i=0
  ·subst h0;exact aH3 h hi
  ·have:=o i aPl hi
   obtain⟨k,hk⟩:=Int.eq_ofNat_of_zero_le this
   obtain⟨h1,h2⟩:=aal h hi hk
   rw[h2,List.mem_cons]
   exact .inr (ih k h1 aPl)
theorem aak{L:List Bk}(h:WFt L){i:Nat}(hi:i<L.length):(qx L i).length=ig L i+1:=by
 have:=ab3 h i hi
 rw[qx,List.length_reverse,ig]
 omega
theorem avl{L:List Bk}(h:WFt L){i j:Nat}(hi:i<L.length)(hj:j∈anc L i):∃r,qx L i=qx L j++r:=by
 obtain⟨pre,e⟩:=aNq h i hi j hj
 exact⟨pre.reverse,by rw[qx,e,List.reverse_append,qx]⟩
theorem aj2{L:List Bk}(h:WFt L){i:Nat}(hi:i<L.length):(qx L i)[ig L i]? = some i:=by
 have hl:=aak h hi
 obtain⟨r,e⟩:=afi h hi
 have:ig L i=r.length:=by rw[ig,e];simp
 rw[qx,e,List.reverse_cons,this,List.getElem?_append_right (by simp)]
 simp
theorem ana{L:List Bk}(h:WFt L){i j:Nat}(hi:i<L.length)(hj:j∈anc L i):(qx L i)[ig L j]? = some j∧(qx L i).take (ig L j+1)=qx L j∧ig L j<(qx L i).length:=by
 have hjl:j<L.length:=Nat.lt_of_le_of_lt (aif h i hi j hj) hi
 obtain⟨r,e⟩:=avl h hi hj
 have h1:=aak h hjl
 have h2:=aj2 h hjl
 refine⟨?_,?_,?_⟩
 ·rw[e,List.getElem?_append_left aPl,h2]
 ·rw[e,←h1,List.take_left'];rfl
 ·rw[e,List.length_append];omega
theorem avm{L:List Bk}(h:WFt L){i j k:Nat}(hi:i<L.length)(he:(qx L i)[k]? = some j):j∈anc L i∧j<L.length:=by
 have:j∈qx L i:=List.mem_of_getElem? he
 have hm:=List.mem_reverse.1 this
 exact⟨hm,Nat.lt_of_le_of_lt (aif h i hi j hm) hi⟩
theorem aky:∀x y:List Nat,common x y=common y x
 |[],[]=>rfl
 |[],_::_=>rfl
 |_::_,[]=>rfl
 |a::x,b::y=>by
  rw[common,common]
  by_cases h:a=b
  ·rw[if_pos h,if_pos h.symm,aky x y]
  ·rw[if_neg h,if_neg λe=>h e.symm]
theorem akx:∀x:List Nat,common x x=x.length
 |[]=>rfl
 |a::x=>by rw[common,if_pos rfl,akx x,List.length_cons]
theorem aef:∀(x y:List Nat) (a:Nat),y.length≤x.length+1→y[x.length]? ≠ some a→common (x ++ [a]) y=common x y
 |[],[],a,_,_=>rfl
 |[],b::y,a,_,h=>by
  rw[List.nil_append,common,if_neg]
  ·cases y<;>rfl
  ·intro e;subst e;exact h rfl
 |c::x,[],a,_,_=>rfl
 |c::x,b::y,a,hl,h=>by
  rw[List.cons_append,common,common]
  by_cases e:c=b
  ·rw[if_pos e,if_pos e,aef x y a (by simpa using hl) (by simpa using h)]
  ·rw[if_neg e,if_neg e]
def cmM(L:List Bk)(x y:Nat):Nat:=common (qx L x) (qx L y)
theorem apw{L:List Bk}(h:WFt L)(o:aE5 L){i:Nat}(hi:i<L.length):∃r,qx L i=0::r:=by
 have h0:=zero_mem h o i hi
 obtain⟨r,e⟩:=avl h hi h0
 have hz:0<L.length:=by omega
 have:=h.up 0 hz
 have e0:qx L 0 = [0]:=by rw[qx,abe h hz aPl];rfl
 rw[e0]at e
 exact⟨r,e⟩
theorem avt{L:List Bk}(h:WFt L)(o:aE5 L){i j:Nat}(hi:i<L.length)(hj:j<L.length):cmM L i j=af7 L i j+1:=by
 unfold cmM af7
 obtain⟨r,e⟩:=apw h o hi
 obtain⟨s,f⟩:=apw h o hj
 rw[e,f,common,if_pos rfl]
 rfl
theorem aNc{L:List Bk}(h:WFt L){x y z:Nat}(hx:x<L.length)(hy:y<L.length)(hz:(bkT L x).ahead=(z:Int))(hne:x≠y)(hh:ig L y≤ig L x):cmM L z y=cmM L x y:=by
 obtain⟨h1,h2⟩:=aal h hx hz
 unfold cmM
 have e:qx L x=qx L z ++ [x]:=by rw[qx,h2,List.reverse_cons];rfl
 have l1:=aak h (show z<L.length by omega)
 have l2:=aak h hx
 have l3:=aak h hy
 rw[e,List.length_append,List.length_singleton]at l2
 rw[e]
 refine(aef _ _ _ aPl λe2=>hne ?_).symm
 have l4:=(List.getElem?_eq_some_iff.1 e2).1
 have:(qx L z).length=ig L y:=by omega
 rw[this,aj2 h hy]at e2
 exact(Option.some.inj e2).symm
theorem aNd{L:List Bk}(h:WFt L){x:Nat}(hx:x<L.length):cmM L x x=ig L x+1:=by
 rw[cmM,akx,aak h hx]
def mayE(L:List Bk)(e span limit:Nat)(b:Bk)(i:Nat)(mt:Bool):Int :=
 if ¬(afw L e span limit i=b.bits∧btP b.bits∧btT b.bits≤btT limit)then 6
 else if mt=false then 7
 else if b.time≤adw L i then 11
 else if 4096≤L.length∨(abg L i=false∧16≤uq L)then 10
 else 0
def aE2(L:List Bk)(e span limit:Nat)(b:Bk)(h:List UInt8)(mt:Bool):Int :=
 if 0≤yj L b.hash then 9 else if yj L h<0 then 8 else mayE L e span limit b (yj L h).toNat mt
end Go.Proofs.YtjlelckefiannaaGreatDoor
