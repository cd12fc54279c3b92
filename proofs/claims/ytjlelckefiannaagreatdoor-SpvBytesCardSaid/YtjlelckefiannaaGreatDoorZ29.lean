import Derived.Test.YtjlelckefiannaaGreatDoorZ20
import Derived.Test.YtjlelckefiannaaGreatDoorZ9
import Derived.Test.YtjlelckefiannaaGreatDoorZ5
import Derived.Test.YtjlelckefiannaaGreatDoorZ1
import Derived.Test.YtjlelckefiannaaGreatDoorZ2
import Derived.Deep.Cut
namespace Go.Proofs.YtjlelckefiannaaGreatDoor
set_option maxRecDepth 100000
set_option linter.unusedVariables false
set_option linter.unusedSimpArgs false
open Go.RowKit
structure awk (B:Nat) (w:World) (v:Value) (l:List Nat):Prop where
 own:w.ownsRow 0 25 1 v l.length (l.map U32)
 blk:∀k,v.ownBlock=some k→B≤k
theorem awk.vs{B:Nat}{w:World}{a:Option Addr}{n c:Nat}{l:List Nat}(h:awk B w (.slice a n c) l):n=l.length∧Vs w a c l:=by
 obtain⟨rfl,hs⟩:=Sl.af4 h.own
 exact⟨rfl,hs⟩
theorem aL9{S:Nat→Prop}{w w':World}{base e size n:Nat}{v:Value}{xs:List Value}(h:w.ownsRow base e size v n xs)(hf:Fr S w w')(hs:∀k,v.ownBlock=some k→¬S k):w'.ownsRow base e size v n xs:=by
 refine⟨h.1,?_⟩
 rcases h.2 with hn|⟨g,cap,cur,rfl,hb,hg,r⟩
 ·exact .inl hn
 ·exact .inr ⟨g,cap,cur,rfl,hb,hf.keeps (hs g rfl) hg,r⟩
theorem awk.fr0{B:Nat}{w w':World}{v:Value}{l:List Nat}(h:awk B w v l)(f:Fr F0 w w'):awk B w' v l:=⟨aL9 h.own f λ_ _ e=>e,h.blk⟩
theorem Vs.sing(w:World)(x:Nat):Vs (w.alloc (.cells #[.int .u32 (x:Int)] 25)) (some ⟨w.heap.size,0,none⟩) 1 [x]:=Vs.aMf w [x] 25 (by simp)
def appV(t ty:TypeId)(args:Array Value):Sem Value:=Builtin.append_ #[t,t] ty args
@[go_sem ↓ high] theorem app_V1 (ty:TypeId) (args:Array Value):Builtin.append_ #[226,226] ty args=appV 226 ty args:=rfl
theorem awk.appVs{B:Nat}{w:World}{v:Value}{l l2:List Nat}(h:awk B w v l){a2:Option Addr}{c2:Nat}(n2:Nat)(h2:Vs w a2 c2 l2)(hn:n2=l2.length)(hB:B≤w.heap.size)(hl:l.length≤100000)(hl2:l2.length≤100000)(ty:TypeId):
  ∃a c w',(appV 226 ty #[v,.slice a2 n2 c2]).run Tryz.prog w = .ok (.slice a (l.length+l2.length) c) w'∧awk B w' (.slice a (l.length+l2.length) c) (l++l2) ∧
   Fr (λk=>v.ownBlock=some k) w w'∧∀k,ql a=some k→v.ownBlock=some k∨w.heap.size≤k:=by
 subst hn
 obtain⟨i0,hi,hz,hs,hb⟩:=info_parts Tryz.infoU32
 obtain⟨v',w',hrun,hown,hg,hnw⟩:=aek (P:=Tryz.prog) (w:=w) 226 ty 25 i0 _ 1 4 Tryz.underlying226 hi hz hs hb rfl aPl v l.length _ h.own a2 c2 l2.length (l2.map U32) h2
  Vs.one aPn aPl
 obtain⟨a,c,rfl⟩:=yw hown
 have F:Fr (λk=>v.ownBlock=some k) w w':=((Fr.refl F0 w).of0).grown hg λk hk hl=>hk
 have alu:∀k,ql a=some k→v.ownBlock=some k∨w.heap.size≤k:=λk hk=>hnw k ak9
 refine⟨a,c,w',hrun,⟨by rw[List.length_append,List.map_append];exact hown,λk hk=>?_⟩,F,alu⟩
 rw[qm]at hk
 rcases alu k hk with e|e
 ·exact h.blk k e
 ·omega
theorem aRm{W W1:World}{a:Option Addr}{c m n:Nat}{l l0:List Nat}{v0:Value}(F:Fr F0 W W1)(ho:awk W.heap.size W1 v0 l0)(hs:Vs W1 a c l)(hm:m=l.length)(hl:l.length≤1000)(hl0:l0.length≤1000)(hn:n=l0.length+l.length):
  ∃a1 c1 w1,(appV 226 226 #[v0,.slice a m c]).run Tryz.prog W1 = .ok (.slice a1 n c1) w1∧awk W.heap.size w1 (.slice a1 n c1) (l0++l)∧Fr F0 W w1∧Fr (λk=>v0.ownBlock=some k) W1 w1:=by
 obtain⟨a1,c1,w1,h1,h2,h3,h4⟩:=ho.appVs m hs hm F.size aPl aPl 226
 rw[←hn]at h1 h2
 exact⟨a1,c1,w1,h1,h2,F.trans h3 (λi hi e=>by have:=ho.blk i e;omega),h3⟩
def twL(x:Nat)(l:List Nat):Nat:=(l.takeWhile λy=>decide (y<x)).length
def insL(x:Nat)(l:List Nat):List Nat:=l.take (twL x l) ++ [x]++l.drop (twL x l)
def tms(L:List Bk)(v:List Nat):List Nat:=v.foldl (λl k=>insL (bkT L k).time l) []
def adw(L:List Bk)(i:Nat):Nat:=(tms L ((anc L i).take 11)).getD ((tms L ((anc L i).take 11)).length/2) 0
theorem SO.pair{L:List Nat}(h:SO L L.length):L.Pairwise (· ≤ ·):=by
 rw[List.pairwise_iff_getElem]
 intro i j hi hj hij
 have:=h i j hij hj
 simpa [List.getD,hi,hj]using this
theorem ash(x:Nat)(l:List Nat):insL x l=(l.takeWhile λy=>decide (y<x))++x::(l.dropWhile λy=>decide (y<x)):=by
 have e:=List.takeWhile_append_dropWhile (p:=λy=>decide (y<x)) (l:=l)
 unfold insL twL
 generalize l.takeWhile (λy=>decide (y<x))=a at *
 generalize l.dropWhile (λy=>decide (y<x))=b at *
 subst e
 simp
theorem aCv(x:Nat)(l:List Nat):(insL x l).Perm (x::l):=by
 rw[ash]
 have e:=List.takeWhile_append_dropWhile (p:=λy=>decide (y<x)) (l:=l)
 refine List.perm_middle.trans ?_
 rw[e]
theorem apz(x:Nat):∀(l:List Nat),l.Pairwise (· ≤ ·)→(insL x l).Pairwise (· ≤ ·)
 |[],_=>by rw[ash];simp
 |y::l,h=>by
  rw[List.pairwise_cons]at h
  have ih:=apz x l h.2
  rw[ash]at ih ⊢
  rw[List.takeWhile_cons,List.dropWhile_cons]
  by_cases hy:y<x
  ·rw[if_pos (decide_eq_true hy),if_pos (decide_eq_true hy),List.cons_append,List.pairwise_cons]
   refine⟨λz hz=>?_,ih⟩
   rw[List.mem_append,List.mem_cons]at hz
   rcases hz with hz|rfl|hz
   ·exact h.1 z (List.takeWhile_subset _ hz)
   ·omega
   ·exact h.1 z (List.dropWhile_subset _ hz)
  ·rw[if_neg (by simp;omega),if_neg (by simp;omega),List.nil_append,List.pairwise_cons,List.pairwise_cons]
   refine⟨λz hz=>?_,h⟩
   rw[List.mem_cons]at hz
   rcases hz with rfl|hz
   ·omega
   ·have:=h.1 z hz;omega
theorem ape(L:List Bk):∀(v l0:List Nat),(v.foldl (λl k=>insL (bkT L k).time l) l0).Perm (v.map (λk=>(bkT L k).time)++l0)
 |[],l0=>List.Perm.refl _
 |k::v,l0=>by
  rw[List.foldl_cons,List.map_cons]
  refine(ape L v _).trans ?_
  refine((aCv _ _).append_left _).trans ?_
  exact List.perm_middle
theorem aFp(L:List Bk)(v:List Nat):(tms L v).Perm (v.map λk=>(bkT L k).time):=by
 have:=ape L v []
 rwa [List.append_nil]at this
theorem apf(L:List Bk):∀(v l0:List Nat),l0.Pairwise (· ≤ ·)→(v.foldl (λl k=>insL (bkT L k).time l) l0).Pairwise (· ≤ ·)
 |[],l0,h=>h
 |k::v,l0,h=>apf L v _ (apz _ _ h)
theorem aFq(L:List Bk)(v:List Nat):(tms L v).Pairwise (· ≤ ·):=apf L v [] List.Pairwise.nil
theorem axc{a b:List Nat}(h:a.Perm b)(ha:a.Pairwise (· ≤ ·))(hb:b.Pairwise (· ≤ ·)):a=b :=
 List.Perm.eq_of_pairwise (le:=λx y=>decide (x≤y)) (by intro x y _ _ h1 h2;simp at h1 h2;omega) (ha.imp (by simp)) (hb.imp (by simp)) h
theorem axq{L:List Bk}{i:Nat}{l Lp:List Nat}(hl:l.Perm (((anc L i).take 11).map λk=>(bkT L k).time))(hp:Lp.Perm l)(hs:SO Lp l.length):Lp.getD (l.length/2) 0=adw L i:=by
 have h1:=hp.length_eq
 rw[←h1]at hs ⊢
 have h2:=hp.trans (hl.trans (aFp L _).symm)
 have h3:=axc h2 hs.pair (aFq L _)
 unfold adw
 rw[←h3]
end Go.Proofs.YtjlelckefiannaaGreatDoor
