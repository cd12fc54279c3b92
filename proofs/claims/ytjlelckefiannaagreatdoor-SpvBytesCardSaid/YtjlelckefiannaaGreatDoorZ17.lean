import Derived.Test.YtjlelckefiannaaGreatDoorZ16
import Derived.Test.YtjlelckefiannaaGreatDoorZ15
import Derived.Test.YtjlelckefiannaaGreatDoorZ2
import Derived.OwnWalk
import Derived.ArgAppend
import Derived.Laws.ResultCell
import Derived.Deep.CutBlock
import Derived.Deep.DeepCutAuto
import Derived.Lib.Bytealg
import Derived.Laws.Externs
import Derived.RangeFuncNested
import Derived.RangeFuncBound
import Derived.RangeFuncCalls
import Derived.RangeFuncLeaves
import Derived.Shelf.Abstract
import Derived.Shelf.RegionOpen
import Derived.OwnWalkIn
import Derived.TacticsInMore
import Derived.LoopNIn
import Derived.LoopIn
import Derived.RangeFuncBox
import Derived.OrdersIn
import Derived.RegionIn
import Derived.BigRegionIn
set_option maxRecDepth 100000
set_option maxHeartbeats 64000000
namespace Go.Proofs.YtjlelckefiannaaGreatDoor
set_option linter.unusedVariables false
set_option linter.unusedSimpArgs false
open Go.RowKit
end Go.Proofs.YtjlelckefiannaaGreatDoor
namespace Go.Proofs.YtjlelckefiannaaGreatDoor
set_option linter.unusedVariables false
set_option linter.unusedSimpArgs false
open Go.RowKit Go.Shelf
attribute [local go_sem] Oper.semAt_some
end Go.Proofs.YtjlelckefiannaaGreatDoor
namespace Go.Proofs.YtjlelckefiannaaGreatDoor
set_option linter.unusedVariables false
set_option linter.unusedSimpArgs false
open Go.RowKit
attribute [local go_sem] zf
end Go.Proofs.YtjlelckefiannaaGreatDoor
namespace Go.Proofs.YtjlelckefiannaaGreatDoor
set_option linter.unusedVariables false
set_option linter.unusedSimpArgs false
open Go.RowKit
attribute [local go_sem] zf
end Go.Proofs.YtjlelckefiannaaGreatDoor
namespace Go.Proofs.YtjlelckefiannaaGreatDoor
set_option linter.unusedVariables false
set_option linter.unusedSimpArgs false
open Go.RowKit
abbrev signsB:ByteArray := { data:=#[48,49,50,51,52,53,54,55,56,57,97,98,99,100,101,102] }
attribute [local go_sem] zf
end Go.Proofs.YtjlelckefiannaaGreatDoor
namespace Go.Proofs.YtjlelckefiannaaGreatDoor
set_option linter.unusedVariables false
set_option linter.unusedSimpArgs false
def rN(x k j:Nat):Nat:=Nat.lor (Nat.shiftRight x k) (Nat.mod (Nat.shiftLeft x j) 4294967296)
theorem aht(x:Wd)(k:Nat):(afb x k).toNat=rN x.toNat k (32-k):=by
 unfold afb rN
 rw[BitVec.toNat_or,BitVec.toNat_ushiftRight,BitVec.toNat_shiftLeft]
 rfl
def s0N(x:Nat):Nat:=Nat.xor (Nat.xor (rN x 7 25) (rN x 18 14)) (Nat.shiftRight x 3)
def s1N(x:Nat):Nat:=Nat.xor (Nat.xor (rN x 17 15) (rN x 19 13)) (Nat.shiftRight x 10)
theorem aF5(x:Wd):(aKu x).toNat=s0N x.toNat:=by
 unfold aKu s0N
 rw[BitVec.toNat_xor,BitVec.toNat_xor,aht,aht,BitVec.toNat_ushiftRight]
 rfl
theorem aF4(x:Wd):(aKt x).toNat=s1N x.toNat:=by
 unfold aKt s1N
 rw[BitVec.toNat_xor,BitVec.toNat_xor,aht,aht,BitVec.toNat_ushiftRight]
 rfl
def nxN(a b c d:Nat):Nat:=Nat.mod (Nat.add (Nat.add (Nat.add a (s0N b)) c) (s1N d)) 4294967296
theorem aRl(a b c d:Wd):(a+aKu b+c+aKt d).toNat=nxN a.toNat b.toNat c.toNat d.toNat:=by
 show _=(a.toNat+s0N b.toNat+c.toNat+s1N d.toNat) % 4294967296
 simp only[BitVec.toNat_add,aF5,aF4,Nat.mod_add_mod]
def t1N(e f g h k w:Nat):Nat:=Nat.add (Nat.add (Nat.add (Nat.add h (Nat.xor (Nat.xor (rN e 6 26) (rN e 11 21)) (rN e 25 7))) (Nat.xor (Nat.land e f) (Nat.land (Nat.sub 4294967295 e) g))) k) w
def t2N(a b c:Nat):Nat:=Nat.add (Nat.xor (Nat.xor (rN a 2 30) (rN a 13 19)) (rN a 22 10)) (Nat.xor (Nat.xor (Nat.land a b) (Nat.land a c)) (Nat.land b c))
theorem aQ3(e f g h k w:Wd):(h+(afb e 6 ^^^ afb e 11 ^^^ afb e 25)+(e &&& f ^^^ ~~~ e &&& g)+k+w).toNat=t1N e.toNat f.toNat g.toNat h.toNat k.toNat w.toNat % 4294967296:=by
 show _=(h.toNat+((rN e.toNat 6 26 ^^^ rN e.toNat 11 21) ^^^ rN e.toNat 25 7)+((e.toNat &&& f.toNat) ^^^ ((4294967295-e.toNat) &&& g.toNat))+k.toNat+w.toNat) % 4294967296
 simp only[BitVec.toNat_add,BitVec.toNat_xor,BitVec.toNat_and,BitVec.toNat_not,aht,Nat.mod_add_mod]
theorem aQ2(a b c:Wd):(((afb a 2 ^^^ afb a 13 ^^^ afb a 22)+(a &&& b ^^^ a &&& c ^^^ b &&& c):Wd)).toNat=t2N a.toNat b.toNat c.toNat % 4294967296:=by
 show _=(((rN a.toNat 2 30 ^^^ rN a.toNat 13 19) ^^^ rN a.toNat 22 10)+(((a.toNat &&& b.toNat) ^^^ (a.toNat &&& c.toNat)) ^^^ (b.toNat &&& c.toNat))) % 4294967296
 simp only[BitVec.toNat_add,BitVec.toNat_xor,BitVec.toNat_and,aht]
def goN:List Nat→Nat→Nat→Nat→Nat→Nat→Nat→Nat→Nat→Nat→Nat→Nat→Nat→Nat→Nat→Nat→Nat→Nat→Nat→Nat→Nat→Nat→Nat→Nat→Nat→List Nat
 |[],a,b,c,d,e,f,g,h,_,_,_,_,_,_,_,_,_,_,_,_,_,_,_,_ => [a,b,c,d,e,f,g,h]
 |k::ks,a,b,c,d,e,f,g,h,w0,w1,w2,w3,w4,w5,w6,w7,w8,w9,w10,w11,w12,w13,w14,w15 =>
  goN ks (Nat.mod (Nat.add (t1N e f g h k w0) (t2N a b c)) 4294967296) a b c (Nat.mod (Nat.add d (t1N e f g h k w0)) 4294967296) e f g w1 w2 w3 w4 w5 w6 w7 w8 w9 w10 w11 w12 w13 w14 w15 (nxN w0 w1 w9 w14)
def wSc(b:List UInt8)(t:Nat):Wd:=(sch b (t+1)).getD t 0
theorem aoz(b:List UInt8)(n t:Nat)(h:t<n):(sch b n).getD t 0=wSc b t:=aLp b (t+1) n t aPl aPl
theorem aFj(b:List UInt8)(t:Nat):wSc b (t+16)=wSc b t+aKu (wSc b (t+1))+wSc b (t+9)+aKt (wSc b (t+14)):=by
 have e:wSc b (t+16)=aE8 (sch b (t+16)) (t+16):=by
  rw[wSc,sch,List.getD_eq_getElem?_getD,List.getElem?_append_right (by rw[um];exact Nat.le_refl _),um,Nat.sub_self,if_neg aPl]
  rfl
 rw[e,aE8,show t+16-16=t by omega,show t+16-15=t+1 by omega,show t+16-7=t+9 by omega,show t+16-2=t+14 by omega,aoz _ _ _ aPl,aoz _ _ _ aPl,aoz _ _ _ aPl,aoz _ _ _ aPl]
theorem xw(b:List UInt8)(t:Nat)(h:t<16):wSc b t=wordAt b t:=by
 rw[wSc,sch,List.getD_eq_getElem?_getD,List.getElem?_append_right (by rw[um];exact Nat.le_refl _),um,Nat.sub_self,if_pos h]
 rfl
theorem aC9:∀t,t<64→(aei.getD t 0).toNat=abo.getD t 0:=by decide +kernel
theorem aJ3(b:List UInt8)(s:List Wd)(hs:s.length=8):∀u t,t+u=64→∀A B C D E F G H,ayr b s t = [A,B,C,D,E,F,G,H] →
  goN (abo.drop t) A.toNat B.toNat C.toNat D.toNat E.toNat F.toNat G.toNat H.toNat (wSc b t).toNat (wSc b (t+1)).toNat (wSc b (t+2)).toNat (wSc b (t+3)).toNat (wSc b (t+4)).toNat (wSc b (t+5)).toNat (wSc b (t+6)).toNat (wSc b (t+7)).toNat
   (wSc b (t+8)).toNat (wSc b (t+9)).toNat (wSc b (t+10)).toNat (wSc b (t+11)).toNat (wSc b (t+12)).toNat (wSc b (t+13)).toNat (wSc b (t+14)).toNat (wSc b (t+15)).toNat=(ayr b s 64).map BitVec.toNat
 |0,t,ht,A,B,C,D,E,F,G,H,h=>by
  obtain rfl:t=64:=by omega
  rw[h,show abo.drop 64 = [] by decide]
  rfl
 |u+1,t,ht,A,B,C,D,E,F,G,H,h=>by
  have hd:abo.drop t=abo.getD t 0::abo.drop (t+1):=by
   have hl:t<abo.length:=by show t<64;omega
   rw[List.drop_eq_getElem_cons hl]
   simp[List.getD,List.getElem?_eq_getElem hl]
  have hn:=aFj b t
  have hr:ayr b s (t+1)=stp (aei.getD t 0) (wSc b t) [A,B,C,D,E,F,G,H]:=by rw[ayr,h,aoz _ _ _ aPl]
  have h1:=aQ3 E F G H (aei.getD t 0) (wSc b t)
  have h2:=aQ2 A B C
  have hk:=aC9 t aPl
  simp only[stp]at hr
  have ih:=aJ3 b s hs u (t+1) aPl _ _ _ _ _ _ _ _ hr
  rw[←ih,hd,goN]
  have e1:(H+(afb E 6 ^^^ afb E 11 ^^^ afb E 25)+(E &&& F ^^^ ~~~ E &&& G)+aei.getD t 0+wSc b t+((afb A 2 ^^^ afb A 13 ^^^ afb A 22)+(A &&& B ^^^ A &&& C ^^^ B &&& C))).toNat
    = Nat.mod (Nat.add (t1N E.toNat F.toNat G.toNat H.toNat (abo.getD t 0) (wSc b t).toNat) (t2N A.toNat B.toNat C.toNat)) 4294967296:=by
   rw[BitVec.toNat_add,h1,h2,←hk]
   exact(Nat.add_mod _ _ _).symm
  have e2:(D+(H+(afb E 6 ^^^ afb E 11 ^^^ afb E 25)+(E &&& F ^^^ ~~~ E &&& G)+aei.getD t 0+wSc b t)).toNat
    = Nat.mod (Nat.add D.toNat (t1N E.toNat F.toNat G.toNat H.toNat (abo.getD t 0) (wSc b t).toNat)) 4294967296:=by
   rw[BitVec.toNat_add,h1,←hk]
   exact Nat.add_mod_mod _ _ _
  have e3:(wSc b (t+1+15)).toNat=nxN (wSc b t).toNat (wSc b (t+1)).toNat (wSc b (t+9)).toNat (wSc b (t+14)).toNat:=by
   rw[show t+1+15=t+16 by omega,hn,aRl]
  rw[e1,e2,e3]
def wdN(b:List UInt8)(i:Nat):Nat:=Nat.lor (Nat.lor (Nat.lor (Nat.mod (Nat.shiftLeft (b.getD (4*i) 0).toNat 24) 4294967296) (Nat.mod (Nat.shiftLeft (b.getD (4*i+1) 0).toNat 16) 4294967296)) (Nat.mod (Nat.shiftLeft (b.getD (4*i+2) 0).toNat 8) 4294967296)) (b.getD (4*i+3) 0).toNat
theorem aQz(x:UInt8):(w8 x).toNat=x.toNat:=by
 unfold w8
 rw[BitVec.toNat_setWidth]
 have:=x.toNat_lt
 exact Nat.mod_eq_of_lt (show x.toNat<2 ^ 32 by omega)
theorem aQy(b:List UInt8)(i:Nat):(wordAt b i).toNat=wdN b i:=by
 unfold wordAt wdN
 simp only[BitVec.toNat_or,BitVec.toNat_shiftLeft,aQz]
 rfl
def cmN(b:List UInt8):List Nat→List Nat
 |[a,b',c,d,e,f,g,h]=>List.zipWith (λx y=>Nat.mod (Nat.add x y) 4294967296) [a,b',c,d,e,f,g,h]
   (goN abo a b' c d e f g h (wdN b 0) (wdN b 1) (wdN b 2) (wdN b 3) (wdN b 4) (wdN b 5) (wdN b 6) (wdN b 7) (wdN b 8) (wdN b 9) (wdN b 10) (wdN b 11) (wdN b 12) (wdN b 13) (wdN b 14) (wdN b 15))
 |l=>l
theorem az1:∀(l m:List Wd),List.zipWith (λx y=>Nat.mod (Nat.add x y) 4294967296) (l.map BitVec.toNat) (m.map BitVec.toNat)=(List.zipWith (· + ·) l m).map BitVec.toNat
 |[],_=>rfl
 |_::_,[]=>rfl
 |x::l,y::m=>by
  simp only[List.map_cons,List.zipWith_cons_cons,az1 l m,BitVec.toNat_add]
  rfl
theorem aR4(b:List UInt8)(s:List Wd)(hs:s.length=8):cmN b (s.map BitVec.toNat)=(compress b s).map BitVec.toNat:=by
 obtain⟨A,B,C,D,E,F,G,H,rfl⟩:=eight hs
 have h:=aJ3 b [A,B,C,D,E,F,G,H] rfl 64 0 rfl A B C D E F G H rfl
 simp only[Nat.zero_add,List.drop_zero,xw b 0 aPl,xw b 1 aPl,xw b 2 aPl,xw b 3 aPl,xw b 4 aPl,xw b 5 aPl,xw b 6 aPl,xw b 7 aPl,xw b 8 aPl,xw b 9 aPl,
  xw b 10 aPl,xw b 11 aPl,xw b 12 aPl,xw b 13 aPl,xw b 14 aPl,xw b 15 aPl,aQy]at h
 rw[compress,←az1,←h]
 rfl
def rnN(m:List UInt8):Nat→List Nat
 |0=>anu
 |n+1=>cmN (blk m n) (rnN m n)
theorem aJr(m:List UInt8):∀n,rnN m n=(acy m H0 n).map BitVec.toNat
 |0=>by show anu=H0.map BitVec.toNat;decide +kernel
 |n+1=>by rw[rnN,aJr m n,aR4 _ _ (by rw[aaf,aqh]),acy]
def byN(x:Nat):List UInt8 := [UInt8.ofNat (Nat.shiftRight x 24),UInt8.ofNat (Nat.shiftRight x 16),UInt8.ofNat (Nat.shiftRight x 8),UInt8.ofNat x]
theorem aMo(x:Wd):lo8 x=UInt8.ofNat x.toNat:=by
 unfold lo8
 apply UInt8.toNat_inj.1
 simp[UInt8.toNat_ofNat']
theorem aNh(x:Wd):byN x.toNat = [lo8 (x >>> 24),lo8 (x >>> 16),lo8 (x >>> 8),lo8 x]:=by
 simp only[aMo,BitVec.toNat_ushiftRight,byN]
 rfl
theorem aR9(s:List Wd):(s.map BitVec.toNat).flatMap byN=bytesOf s:=by
 induction s with
 |nil=>rfl
 |cons x s ih =>
  simp only[bytesOf,List.map_cons,List.flatMap_cons,aNh]at *
  rw[ih]
def shaN(bs:List UInt8):List UInt8:=(rnN (pad bs) ((pad bs).length/64)).flatMap byN
theorem af0(bs:List UInt8):sha bs=shaN bs:=by rw[shaN,aJr,aR9,sha]
end Go.Proofs.YtjlelckefiannaaGreatDoor
namespace Go.Proofs.YtjlelckefiannaaGreatDoor
set_option linter.unusedVariables false
set_option linter.unusedSimpArgs false
open Go.RowKit Go.Shelf
attribute [local go_sem] Oper.semAt_some
theorem aac{F:Fence}{n:Nat}{P:Program}{ops:Array Oper}{rest:List Oper}{o:Oper}{a:Act}{w:World}{Q:Exit→Act→World→Prop}(hgd:o.guard=none)(ty:TypeId)(x:Operand)(ho:o.op = .load ty x)
  (g:Nat) (hx:a.eval x = .pointer (some ⟨g,0,none⟩)) (t:TypeId) (cs:Array Value) (fr:Nat×Nat) (d:TypeDesc) (hg:w.heap[g]? = some (.cells cs t fr))
  (hu:P.underlying ty=some d) (hd:(match d with|.struct _|.array _ _=>true|_=>false)=true) (hi:(P.info? ty).map (·.size)=some cs.size)
  (h:wpListIn F n P ops Q rest (a.put o.dst (.agg cs)) w):wpListIn F n P ops Q (o::rest) a w:=by
 refine wpListIn_plain hgd λK hK=>?_
 unfold Oper.wpIn
 refine⟨?_,?_⟩
 ·simp[Oper.about,ho]
 ·rw[Oper.semAt_plain F _ _ (by rw[ho];intro c hc';cases hc')]
  simp only[execOp,ho,hx,Instr.loadAt,Instr.sureAddr,Sem.run_bind,Sem.run_pure,Result.andThen_ok,run_loadVar_row w g t ty cs fr d hg hu hd hi]
  exact hK _ _ h
theorem wo{F:Fence}{n:Nat}{P:Program}{ops:Array Oper}{rest:List Oper}{o:Oper}{a:Act}{w:World}{Q:Exit→Act→World→Prop}(hgd:o.guard=none)(ty:TypeId)(x y:Operand)(ho:o.op = .store ty x y)
  (g:Nat) (cells:Array Value) (hx:a.eval x = .pointer (some ⟨g,0,none⟩)) (hy:a.eval y = .agg cells)
  (t:TypeId) (old:Array Value) (hg:w.heap[g]? = some (.cells old t (0,0))) (hi:(P.info? ty).map (·.size)=some cells.size)
  (hold:old.size=cells.size) (h1:cells.all (·.oneCell')=true)
  (h:wpListIn F n P ops Q rest (a.put o.dst undef) (w.setRow g cells)):wpListIn F n P ops Q (o::rest) a w:=by
 refine wpListIn_plain hgd λK hK=>?_
 unfold Oper.wpIn
 refine⟨?_,?_⟩
 ·simp[Oper.about,ho]
 ·rw[Oper.semAt_plain F _ _ (by rw[ho];intro c hc';cases hc')]
  simp only[execOp,ho,hx,hy,Instr.storeAt,Instr.sureAddr,Sem.run_bind,Sem.run_pure,Result.andThen_ok,run_storeVar_row w g t ty old cells hg hi hold h1]
  exact hK _ _ h
def ay8(m k:Nat):List (Fin m):=(List.finRange m).take k
theorem ap6(m k:Nat)(h:k<m):ay8 m (k+1)=ay8 m k ++ [⟨k,h⟩]:=by
 rw[ay8,List.take_succ_eq_append_getElem (by simpa using h)]
 simp[ay8]
theorem atp(m k:Nat)(h:k≤m):(ay8 m k).length=k:=by simp[ay8];omega
abbrev encC (m:Nat) (a:Option Addr) (k:Fin m):Array Value:=#[.slice (a.map λx=>⟨x.block,x.off+64*k.val,none⟩) 64 64]
theorem aDx(F:Fence)(n:Nat)(hF:F.fn 161)(hro:F.round=none)(hn:1≤n)(l Bx By X b off cap m:Nat)(hm:64*m≤140737488355328)(hcap:64*m≤cap)(hBX:Bx≠X)(hBY:By≠X)(J Jx:List (Fin m)→World→Prop)
  (hY:∀pre x W,J pre W→pre.length<m→YieldAt F (n-1) Tryz.prog l (encC m (some ⟨b,off,none⟩) x) W λe W' =>
   (e = .returned (.bool true)∧J (pre ++ [x]) W'∧Kc X W W')∨(e = .returned (.bool false)∧Jx (pre ++ [x]) W'))
  (hJd:∀pre W,J pre W→J pre W.drew) (W:World) (hBs:W.cell? ⟨Bx,0,none⟩=some (.slice (some ⟨b,off,none⟩) (64*m) cap)) (hBn:W.cell? ⟨By,0,none⟩=some (.int .i64 64)) (h0:J [] W) :
  CallsIn F n Tryz.prog 161 #[.func (.yield l) #[] #[],.pointer (some ⟨Bx,0,none⟩),.pointer (some ⟨By,0,none⟩)] W λe W'=>(∃v,e = .returned v) ∧
   ((∃ys,ys=ay8 m m∧J ys W')∨(∃pre,True∧Jx pre W')):=by
 refine callsIn_of_wp Tryz.func161 rfl hF ?_ hro
 simp only[Tryz.ntmps161,List.size_toArray,List.length_cons,List.length_nil,Nat.reduceAdd,Nat.reduceSub,Array.replicate_succ,Array.replicate_zero,List.push_toArray,List.append_toArray,List.nil_append,List.cons_append]
 obtain⟨M,hM⟩:∃M,M=64*m:=⟨_,rfl⟩
 rw[←hM]at hBs hm hcap
 have HM:=Lib.hid hM
 clear hM
 gi_wp2
 gi_loopw [4] (λi wr=>∃k:Nat,k≤m∧i = .int .i64 ((64*k:Nat):Int)∧J (ay8 m k) wr∧Kc X W wr)
  (λi _=>(64*m-(intOf i).toNat))
 case atStart=>exact⟨0,Nat.zero_le _,rfl,h0,Kc.refl _ _⟩
 case round =>
  obtain⟨k,hk,rfl,hJs,hnx⟩:=hrel
  have hbox:=hnx.cell (p:=⟨Bx,0,none⟩) hBX hBs
  have hboy:=hnx.cell (p:=⟨By,0,none⟩) hBY hBn
  obtain⟨p,hp⟩:∃p,p=64*k:=⟨_,rfl⟩
  have HP:=Lib.hid hp
  rw[←hp]
  by_cases hlt:k<m
  ·obtain⟨fn,tmps,assign,body,hy,hR⟩:=hY _ ⟨k,hlt⟩ wr.drew (hJd _ _ hJs) (by rw[atp _ _ hk];exact hlt)
   dsimp only[encC,Option.map]at hy
   rw[←hp]at hy
   have l1:(p:Int)<(M:Int):=by have:=HM.out;omega
   have l2:p+64≤M:=by have:=HM.out;omega
   have l3:¬((M-p:Nat):Int)<64:=by omega
   have l4:(p:Int)+64≤cap:=by omega
   clear hp
   gi_wp2
   refine wpIn_mono (Q:=λe a' w'=>e = .normal∧a' = { tmps:=#[.func (.yield l) #[] #[],.pointer (some ⟨Bx,0,none⟩),.pointer (some ⟨By,0,none⟩),undef,.int .i64 p,.int .i64 64,.int .i64 p,.slice (some ⟨b,off,none⟩) M cap,.int .i64 M,.bool true,u10,u11,u12,.int .i64 64,.slice (some ⟨b,off,none⟩) M cap,.int .i64 p,.slice (some ⟨b,off+p,none⟩) (M-p) (cap-p),.int .i64 ((M-p:Nat):Int),.int .i64 64,u19,u20,u21,u22,u23,u24,u25,u26,u27,u28,u29,u30],defers := [] }∧w'=wr.drew) ?_ ?_
   ·gi_region
    all_goals exact⟨by trivial,by rw[if_neg (show ¬((M-p:Nat):Int)<64 by omega)],by trivial⟩
   rintro e a' w' ⟨rfl,rfl,rfl⟩
   gi_wp2
   refine hR.mono ?_
   rintro e W3 (⟨rfl,hJ3,hk3⟩|⟨rfl,hJx3⟩)
   ·have hboy3:=hk3.cell (p:=⟨By,0,none⟩) hBY hboy
    gi_wp2
    go_roundw
    case rel =>
     have hk':Kc X wr W3:=hk3
     refine⟨k+1,by omega,?_,by rw[ap6 m k hlt];exact hJ3,hnx.trans hk'⟩
     have:=HP.out
     go_num
    case measure =>
     have:=HP.out
     simp[intOf];omega
   ·gi_wp2
    refine bodyPost_ret (results_none rfl _ _ _) rfl ?_
    exact⟨⟨_,rfl⟩,.inr ⟨_,trivial,hJx3⟩⟩
  ·obtain rfl:k=m:=by omega
   have l1:¬(p:Int)<(M:Int):=by have:=HM.out;omega
   clear hp
   gi_wp2
   go_end0
   exact⟨⟨_,rfl⟩,.inl hJs⟩
theorem aop(F:Fence)(n:Nat)(hF:F.fn 161)(hro:F.round=none)(l Bx By:Nat)(a:Option Addr)(cap:Nat)(J:List (Fin 0)→World→Prop)(W:World)(hBs:W.cell? ⟨Bx,0,none⟩=some (.slice a 0 cap))(h0:J [] W):
  CallsIn F n Tryz.prog 161 #[.func (.yield l) #[] #[],.pointer (some ⟨Bx,0,none⟩),.pointer (some ⟨By,0,none⟩)] W λe W'=>(∃v,e = .returned v)∧J [] W':=by
 refine callsIn_of_wp Tryz.func161 rfl hF ?_ hro
 simp only[Tryz.ntmps161,List.size_toArray,List.length_cons,List.length_nil,Nat.reduceAdd,Nat.reduceSub,Array.replicate_succ,Array.replicate_zero,List.push_toArray,List.append_toArray,List.nil_append,List.cons_append]
 gi_wp2
 gi_loopw [4] (λi wr=>i = .int .i64 0∧W.cell? ⟨Bx,0,none⟩=wr.cell? ⟨Bx,0,none⟩∧J [] wr) (λ_ _=>0)
 case atStart=>exact⟨rfl,rfl,h0⟩
 case round =>
  obtain⟨rfl,hc,hJs⟩:=hrel
  rw[hc]at hBs
  gi_wp2
  go_end0
  exact⟨⟨_,rfl⟩,hJs⟩
theorem awh(F:Fence)(n:Nat)(hF:F.fn 125)(hro:F.round=none)(a:Option Addr)(len cap:Nat)(w:World):
  CallsIn F n Tryz.prog 125 #[.slice a len cap,.int .i64 64] w λe w'=>e = .returned (.func (.func 161) #[] #[.pointer (some ⟨w.heap.size,0,none⟩),.pointer (some ⟨w.heap.size+1,0,none⟩)])∧w'=(w.alloc (.cells #[.slice a len cap] 22)).alloc (.cells #[.int .i64 64] 3):=by
 refine callsIn_of_wp Tryz.func125 rfl hF ?_ hro
 simp only[Tryz.ntmps125,List.size_toArray,List.length_cons,List.length_nil,Nat.reduceAdd,Nat.reduceSub,Array.replicate_succ,Array.replicate_zero,List.push_toArray,List.append_toArray,List.nil_append,List.cons_append]
 gi_wp2
 go_ret
 exact⟨rfl,rfl⟩
theorem ags(F:Fence)(n:Nat)(hF:F.fn 161)(hro:F.round=none)(hn:1≤n)(Bx By X:Nat)(a:Option Addr)(cap m:Nat)(hm:64*m≤140737488355328)(hcap:64*m≤cap)(w:World)
  (hBX:Bx≠X) (hBY:By≠X) (hcx:w.cell? ⟨Bx,0,none⟩=some (.slice a (64*m) cap)) (hcy:w.cell? ⟨By,0,none⟩=some (.int .i64 64)) (ha:m≠0→∃b off,a=some ⟨b,off,none⟩) :
  SeqStopsK F n Tryz.prog 161 #[.pointer (some ⟨Bx,0,none⟩),.pointer (some ⟨By,0,none⟩)] (encC m a) (Kc X) (λys=>ys=ay8 m m) (λ_=>True) m w:=λl J Jx W hW hJ _ hY h0=>by
 have hK:Kc X w W:=Kc.below hW
 have hcx':=hK.cell (p:=⟨Bx,0,none⟩) hBX hcx
 have hcy':=hK.cell (p:=⟨By,0,none⟩) hBY hcy
 by_cases hm0:m=0
 ·subst hm0
  exact(aop F n hF hro l Bx By a cap J W hcx' h0).mono λe W' ⟨he,hj⟩=>⟨he,.inl ⟨_,rfl,hj⟩⟩
 ·obtain⟨b,off,rfl⟩:=ha hm0
  exact aDx F n hF hro hn l Bx By X b off cap m hm hcap hBX hBY J Jx hY (λpre W h=>hJ _ _ _ none h ⟨rfl,rfl,rfl,Nat.le_refl _,λ_ _ _=>rfl⟩ (λ_ e=>by cases e)) W hcx' hcy' h0
end Go.Proofs.YtjlelckefiannaaGreatDoor
