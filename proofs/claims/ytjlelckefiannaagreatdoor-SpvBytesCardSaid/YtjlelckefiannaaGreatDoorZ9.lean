import Derived.Test.YtjlelckefiannaaGreatDoorZ2
import Derived.Test.YtjlelckefiannaaGreatDoorZ8
import Derived.Test.YtjlelckefiannaaGreatDoorZ1
import Derived.Laws.CopyRow
import Derived.Lib.Tables
import Derived.Lib.BitFns
import Derived.Deep.CutBlock
import Derived.Deep.DeepCutAuto
import Derived.Test.YtjlelckefiannaaGreatDoorZ7
import Derived.Deep.Cut
import Derived.OwnWalk
set_option maxRecDepth 100000
set_option maxHeartbeats 64000000
namespace Go.Proofs.YtjlelckefiannaaGreatDoor
set_option linter.unusedVariables false
set_option linter.unusedSimpArgs false
open Go.RowKit
theorem ad2(k:IntKind)(b n x:Nat):(gu k b n x).toList=(List.range n).map λi=>Value.int k (dgt b x i:Nat):=by simp[gu]
theorem aM4(b x q i:Nat):dgt b (x*2 ^ (b*q)) i=if i<q then 0 else dgt b x (i-q):=by
 by_cases h:i<q
 ·rw[if_pos h,ab8 b _ 0 q i h (by simp)]
  simp[dgt]
 ·rw[if_neg h]
  obtain⟨d,rfl⟩:∃d,i=q+d:=⟨i-q,by omega⟩
  rw[dgt,Nat.mul_add,Nat.pow_add,←Nat.div_div_eq_div_mul,Nat.mul_div_cancel _ (Nat.two_pow_pos _),dgt,Nat.add_sub_cancel_left]
theorem aM5(b x q i:Nat):dgt b (x/2 ^ (b*q)) i=dgt b x (i+q):=by
 rw[dgt,dgt,Nat.div_div_eq_div_mul,←Nat.pow_add]
 congr 3
 rw[Nat.mul_add,Nat.add_comm]
theorem Tryz.szUs:(Tryz.prog.info? 31).map (·.size)=some 1:=Tryz.szU64
theorem as2(w:World)(ty:TypeId)(g h q a:Nat)(t t':TypeId)(fr:Nat×Nat)(hq:q<4)(hg:w.heap[g]? = some (.cells (gu .u64 64 4 0) t (0,0)))(hh:w.heap[h]? = some (.cells (gu .u64 64 4 a) t' fr)):
  (Builtin.copy_ #[251,251] ty #[.slice (some ⟨g,q,none⟩) (4-q) (4-q),.slice (some ⟨h,0,none⟩) 4 4]).run Tryz.prog w = .ok (.int .i64 ((4-q:Nat):Int)) (w.setRow g (gu .u64 64 4 (a*2 ^ (64*q)))):=by
 have key:=run_copy_row (P:=Tryz.prog) w 251 251 ty 31 g q (4-q) (4-q) ⟨h,0,none⟩ 4 4 (gu .u64 64 4 0) t ((List.range (4-q)).map λi=>Value.int .u64 (dgt 64 a i:Nat)) Tryz.underlying251 Tryz.szUs hg (by simp[Nat.min_def])
  (λj v hj=>by
   have hjl:j<4-q:=by
    have:=(List.getElem?_eq_some_iff.1 hj).1
    simpa using this
   rw[Addr.add_lit,Nat.zero_add,jq,hh,mg,aaj _ _ _ _ _ aPl]
   simpa [List.getElem?_map,List.getElem?_range hjl]using hj)
  (by rw[dw];simp;omega)
  (by
   intro v hv
   simp only[List.mem_map]at hv
   obtain⟨i,_,rfl⟩:=hv
   rfl)
 have e:((gu .u64 64 4 0).toList.take q++((List.range (4-q)).map λi=>Value.int .u64 (dgt 64 a i:Nat))++(gu .u64 64 4 0).toList.drop (q+((List.range (4-q)).map λi=>Value.int .u64 (dgt 64 a i:Nat)).length)).toArray=gu .u64 64 4 (a*2 ^ (64*q)):=by
  apply Array.ext'
  rw[List.toList_toArray,ad2,ad2,List.drop_eq_nil_of_le (by simp;omega),List.append_nil]
  apply List.ext_getElem?
  intro j
  by_cases hj:j<4
  ·rw[List.getElem?_map,List.getElem?_range hj,Option.map_some,aM4]
   by_cases hjq:j<q
   ·rw[List.getElem?_append_left (by simp;omega),if_pos hjq,List.getElem?_take,if_pos hjq,List.getElem?_map,List.getElem?_range hj]
    simp[dgt]
   ·rw[List.getElem?_append_right (by simp;omega),if_neg hjq]
    simp only[List.length_take,List.length_map,List.length_range]
    rw[Nat.min_eq_left aPl,List.getElem?_map,List.getElem?_range aPl,Option.map_some]
  ·rw[List.getElem?_eq_none (by simp;omega),List.getElem?_eq_none (by simp;omega)]
 rw[e]at key
 rw[key]
 simp[goInt]
@[simp high] theorem aKg (w:World) (g q:Nat) (k:IntKind) (hq:q<4) :
  (Instr.sliceAt 143 (.pointer (some ⟨g,0,none⟩)) (some (.int k (q:Int))) none none).run Tryz.prog w = .ok (.slice (some ⟨g,q,none⟩) (4-q) (4-q)) w:=by
 have h0:(0:Int)≤q:=by omega
 have h1:(q:Int)≤(4:Nat):=by omega
 have hs:∀w,(sizeOf 31).run Tryz.prog w = .ok 1 w:=λw=>by
  obtain⟨i,hi⟩:∃i,Tryz.prog.info? 31=some i:=Tryz.infoU
  have:=Tryz.szU64
  rw[hi]at this
  simp[sizeOf,typeInfo,hi]at this ⊢
  exact this
 have hb:=run_sliceBound (P:=Tryz.prog) (w:=w) k (q:Int) 4
 simp[Instr.sliceAt,Sem.run_bind,run_underlying Tryz.underlying143,Instr.sureAddr,Instr.sliceBounds,hs]
 rw[hb _ h0 h1]
 simp[show ¬4=q by omega,Addr.add]
 try omega
theorem left4{s0 s3 s4 s6 s7 s8 s9 s10 s11 s12 s13 s14 s15 s16 s17 s18 s19 s20 s21 s22 s23 s24 s25 s26 s27 s28 s29 s30 s31 s32 s33 s34 s35 s36 s37:Value}{K:Act→World→Prop}{Q:Exit→Act→World→Prop}(w:World)(g h q n a:Nat)(hq:q<4)(hd:IntKind.u64.wrap ((n:Int)/64)=(q:Int))(hgh:g≠h)(hg:w.heap[g]? = some (.cells (gu .u64 64 4 0) 143 (0,0)))(hh:w.heap[h]? = some (.cells (gu .u64 64 4 a) 143 (0,0)))
  (hK:RowKit.Hid (∀{u13 u14 u15 u16 u17:Value} {w':World},(w'.heap=(w.setRow g (gu .u64 64 4 (a*2 ^ (64*q)))).heap∧Fr F0 (w.setRow g (gu .u64 64 4 (a*2 ^ (64*q)))) w')→K ⟨#[s0,.int .u64 n,.pointer (some ⟨h,0,none⟩),s3,s4,.pointer (some ⟨g,0,none⟩),s6,s7,s8,s9,s10,s11,s12,u13,u14,u15,u16,u17,s18,s19,s20,s21,s22,s23,s24,s25,s26,s27,s28,s29,s30,s31,s32,s33,s34,s35,s36,s37],[]⟩ w')) :
  Code.wp Tryz.prog ((Tryz.f171.body.bind (jw 4)).getD .skip) (Exit.then K Q) ⟨#[s0,.int .u64 n,.pointer (some ⟨h,0,none⟩),s3,s4,.pointer (some ⟨g,0,none⟩),s6,s7,s8,s9,s10,s11,s12,s13,s14,s15,s16,s17,s18,s19,s20,s21,s22,s23,s24,s25,s26,s27,s28,s29,s30,s31,s32,s33,s34,s35,s36,s37],[]⟩ w:=by
 conv=>arg 2;whnf
 have hc:=as2 w.drew 3 g h q a _ _ _ hq hg hh
 refine jm (S:=(λw'=>True)) ?_ λak=>?_
 ·exact ark
 refine aj 0 ?_
 refine aj 1 ?_
 refine aj 2 ?_
 refine aj 3 ?_
 refine jf 4 λK hK=>?_
 go_simp
 refine rpu hK ark λak=>?_
 clear hK K
 refine jg ?_
 all_goals exact hK.out ⟨rfl,(Fr.refl F0 (w.setRow g (gu .u64 64 4 (a*2 ^ (64*q))))).drew⟩
def shU(T x:Nat):Nat→Nat
 |0=>T
 |i+1=>ala 64 (shU T x i) i (ahr (afv (dgt 64 T i) x) (mlH T x i) 0)
theorem ar7(T x:Nat):∀i j,dgt 64 (shU T x i) j=if j<i then ahr (afv (dgt 64 T j) x) (mlH T x j) 0 else dgt 64 T j
 |0,j=>by simp[shU]
 |i+1,j=>by
  rw[shU,ai2 _ _ _ _ _ (ag3 _ _ _),ar7 T x i j]
  by_cases h:j=i
  ·subst h;simp
  ·simp only[h,if_false]
   by_cases h2:j<i
   ·rw[if_pos h2,if_pos aPl]
   ·rw[if_neg h2,if_neg aPl]
theorem aMj(T x i j:Nat)(h:j<i):dgt 64 (mlS T x i) j=ahr (afv (dgt 64 T j) x) (mlH T x j) 0:=by
 induction i with
 |zero=>omega
 |succ i ih =>
  rw[avf]
  by_cases e:j=i
  ·subst e
   rw[dgt,Nat.add_mul_div_left _ _ (Nat.two_pow_pos _),Nat.div_eq_of_lt (auk _ _ _),Nat.zero_add,Nat.mod_eq_of_lt (ag3 _ _ _)]
  ·rw[←ih aPl]
   exact ab8 64 _ _ i j aPl (by rw[Nat.add_mul_mod_self_left])
theorem aLl(T x:Nat)(k:IntKind):gu k 64 4 (shU T x 4)=gu k 64 4 (mlS T x 4) :=
 ah0 _ _ _ _ _ (adk _ _ _ _ λi hi=>by rw[ar7,if_pos hi,aMj _ _ _ _ hi])
theorem aps(T x i:Nat)(hx:0<x):mlH T x i<x:=by
 unfold mlH mlT
 rw[Nat.div_lt_iff_lt_mul (Nat.two_pow_pos _),Nat.mul_comm]
 exact Nat.mul_lt_mul_of_pos_left (Nat.mod_lt _ (Nat.two_pow_pos _)) hx
theorem ahe(r:Nat)(hr:r<64):2 ^ 64=2 ^ r*2 ^ (64-r):=by rw[←Nat.pow_add];congr 1;omega
theorem aMl(T r i:Nat)(hr:r<64):mlH T (2 ^ r) (i+1)=dgt 64 T i/2 ^ (64-r):=by
 have hm:=aps T (2 ^ r) i (Nat.two_pow_pos r)
 rw[avh,(asf _ _ _).2,ahe r hr,←Nat.div_div_eq_div_mul,Nat.mul_comm,Nat.mul_add_div (Nat.two_pow_pos r),Nat.div_eq_of_lt hm,Nat.add_zero]
theorem aF0(d m r:Nat)(hr:r<64)(hm:m<2 ^ r):(d*2 ^ r % 2 ^ 64) ||| m=ahr (afv d (2 ^ r)) m 0:=by
 have e:d*2 ^ r % 2 ^ 64=2 ^ r*(d % 2 ^ (64-r)):=by rw[ahe r hr,Nat.mul_comm d,Nat.mul_mod_mul_left]
 have h1:2 ^ r*(d % 2 ^ (64-r)) ||| m=2 ^ r*(d % 2 ^ (64-r))+m:=(Nat.two_pow_add_eq_or_of_lt hm _).symm
 have h2:2 ^ r*(d % 2 ^ (64-r))+m<2 ^ 64:=by
  have h3:d % 2 ^ (64-r)+1≤2 ^ (64-r):=Nat.mod_lt _ (Nat.two_pow_pos _)
  have h4:2 ^ r*(d % 2 ^ (64-r)+1)≤2 ^ r*2 ^ (64-r):=Nat.mul_le_mul_left _ h3
  rw[←ahe r hr,Nat.mul_add]at h4
  omega
 unfold ahr afv
 rw[Nat.add_zero,e,h1,Nat.mod_eq_of_lt h2]
theorem or_val(d m r:Nat)(hm:m<2 ^ 64):bits BinOp.or IntKind.u64 (IntKind.u64.wrap ((d:Int)*2 ^ r)) (m:Int)=((d*2 ^ r % 2 ^ 64 ||| m:Nat):Int):=by
 have e:IntKind.u64.wrap ((d:Int)*2 ^ r)=((d*2 ^ r % 2 ^ 64:Nat):Int):=by
  rw[IntKind.wrap_u64,Int.natCast_emod,Int.natCast_mul,Int.natCast_pow]
  rfl
 rw[e]
 exact u64_or_nat _ _ (Nat.mod_lt _ (Nat.two_pow_pos _)) hm
theorem apb(a n:Nat)(ha:a<ng)(hn:n<256)(w:World):
  Calls Tryz.prog 171 #[.agg (gu .u64 64 4 a),.int .u64 n] w λe w'=>e = .returned (.agg (gu .u64 64 4 (a*2 ^ n % ng)))∧Fr F0 w w':=by
 obtain⟨q,hq⟩:∃q,q=n/64:=⟨_,rfl⟩
 obtain⟨r,hr⟩:∃r,r=n % 64:=⟨_,rfl⟩
 have hd:IntKind.u64.wrap ((n:Int)/64)=(q:Int):=by rw[IntWalk.u64_in _ aPl];omega
 have hge:decide ((256:Int)≤(n:Int))=false:=decide_eq_false aPl
 have HN:=Lib.hid (show n=64*q+r∧q<4∧r<64 by omega)
 go_enter Tryz.func171,Tryz.ntmps171
 go_wp2_with fail
 obtain⟨W1,hW1⟩:∃W1,W1=((w.alloc (.cells (gu .u64 64 4 a) 143)).alloc (.cells (gu .u64 64 4 0) 143)).alloc (.cells (gu .u64 64 4 0) 143):=⟨_,rfl⟩
 refine jo W1 hW1 ?_
 have f1:Fr F0 w W1:=by rw[hW1];exact(((Fr.refl F0 w).alloc _).alloc _).alloc _
 obtain⟨r0,r1,r2⟩:=am3 w (.cells (gu .u64 64 4 a) 143) (.cells (gu .u64 64 4 0) 143) (.cells (gu .u64 64 4 0) 143)
 rw[←hW1]at r0 r1 r2
 have HR:=Lib.hid hr
 clear hW1 hq hr
 generalize hg0:w.heap.size=g0 at *
 generalize hg1:g0+1=g1 at *
 generalize hg2:g1+1=g2 at *
 have n1:g1≠g2:=by omega
 have HG:=Lib.hid (show w.heap.size≤g1∧w.heap.size≤g2 by omega)
 refine left4 W1 g2 g0 q n a HN.out.2.1 hd aPl r2 r0 (Lib.hid ?_)
 clear hg0 hg1 hg2 r0
 rename_i w2
 rintro⟨hh,hf⟩
 replace r1:w2.heap[g1]? = some (.cells (gu .u64 64 4 0) 143 (0,0)):=by rw[hh,iy _ _ _ _ n1];exact r1
 replace r2:w2.heap[g2]? = some (.cells (gu .u64 64 4 (a*2 ^ (64*q))) 143 (0,0)):=by rw[hh,jc,r2];rfl
 have f2:Fr F0 w w2:=(f1.setRow (λh=>by have:=HG.out;omega) _).trans' hf
 have hfin:mlS (a*2 ^ (64*q)) (2 ^ r) 4=a*2 ^ n % ng:=by
  unfold mlS mlT
  rw[←abk,←Nat.mod_mul_mod,Nat.mod_mod,Nat.mod_mul_mod,Nat.mul_assoc,←Nat.pow_add,←HN.out.1]
 have HF:=Lib.hid hfin
 clear hh hf f1 hfin hd
 generalize a*2 ^ (64*q)=T at *
 go_wp2_with fail
 go_loopw [7,21] (λcv iv wr=>∃i:Nat,i≤4∧iv = .int .i64 i∧cv = .int .u64 (mlH T (2 ^ r) i:Nat)∧wr.heap[g1]? = some (.cells (gu .u64 64 4 0) 143 (0,0))∧wr.heap[g2]? = some (.cells (gu .u64 64 4 (shU T (2 ^ r) i)) 143 (0,0))∧Fr F0 w wr) (λcv iv _=>4-(intOf iv).toNat)
 case atStart=>exact⟨0,by omega,rfl,by rw[avg];rfl,r1,r2,f2⟩
 case round =>
  clear r1 r2 f2
  obtain⟨i,hi,rfl,rfl,r1,r2,f2⟩:=hrel
  by_cases hi4:i<4
  ·have li:(i:Int)<4:=by omega
   have hdl:=abq 64 T i
   have hmh:=aps T (2 ^ r) i (Nat.two_pow_pos r)
   have HP:=Lib.hid (aMl T r i HN.out.2.2)
   have HJ:=Lib.hid (aF0 (dgt 64 T i) (mlH T (2 ^ r) i) r HN.out.2.2 hmh)
   have hsd:dgt 64 (shU T (2 ^ r) i) i=dgt 64 T i:=by rw[ar7,if_neg aPl]
   go_wp2_with fail
   go_roundw
   case rel =>
    rw[←HR.out,or_val _ _ _ (by have:=Nat.pow_lt_pow_right (a:=2) aPl HN.out.2.2;omega),HJ.out]
    refine⟨i+1,by omega,by go_num,?_,?_,?_,?_⟩
    ·rw[HP.out]
     congr 1
    ·rw[dn _ _ _ _ _ n1];exact r1
    ·rw[gq,r2,jr,acj _ _ _ (ag3 _ _ _)];rfl
    ·exact f2.setCell (p:=⟨g2,i,none⟩) (λh=>by have:=HG.out;simp only at h;omega) _
   case measure=>simp[intOf];omega
  ·obtain rfl:i=4:=by omega
   rw[aLl,HF.out]at r2
   go_wp2
   refine bodyPost_ret (results_cell_row rfl _ _ g1 _ _ _ _ rfl aPp Tryz.underlying143 rfl zz75) rfl ⟨rfl,?_⟩
   exact f2.setRow (λh=>by have:=HG.out;omega) _
theorem aBh(a n:Nat)(hn:256≤n)(w:World):
  Calls Tryz.prog 171 #[.agg (gu .u64 64 4 a),.int .u64 n] w λe w'=>e = .returned (.agg (gu .u64 64 4 0))∧Fr F0 w w':=by
 have hge:decide ((256:Int)≤(n:Int))=true:=decide_eq_true aPl
 go_enter Tryz.func171,Tryz.ntmps171
 go_wp2
 refine bodyPost_ret (results_cell_row rfl _ _ (w.heap.size+1) _ _ _ _ rfl (by rw[jc,heap_alloc2_new];rfl) Tryz.underlying143 rfl zz75) rfl ⟨rfl,?_⟩
 exact(((Fr.refl F0 w).alloc _).alloc _).setRow (λh=>by omega) _
end Go.Proofs.YtjlelckefiannaaGreatDoor
namespace Go.Proofs.YtjlelckefiannaaGreatDoor
set_option linter.unusedVariables false
set_option linter.unusedSimpArgs false
open Go.RowKit Go.Shelf
theorem aHj(x i:Nat)(h:x<2 ^ (64*i)):dgt 64 x i=0:=by rw[dgt,Nat.div_eq_of_lt h]
theorem ap8(x i:Nat)(h:x<ng)(hi:4≤i):dgt 64 x i=0 :=
 aHj x i (Nat.lt_of_lt_of_le h (Nat.pow_le_pow_right aPl aPl))
theorem aol(w:World)(ty:TypeId)(g h q a:Nat)(t t':TypeId)(fr:Nat×Nat)(ha:a<ng)(hq:q<4)(hg:w.heap[g]? = some (.cells (gu .u64 64 4 0) t (0,0)))(hh:w.heap[h]? = some (.cells (gu .u64 64 4 a) t' fr)):
  (Builtin.copy_ #[251,251] ty #[.slice (some ⟨g,0,none⟩) 4 4,.slice (some ⟨h,q,none⟩) (4-q) (4-q)]).run Tryz.prog w = .ok (.int .i64 ((4-q:Nat):Int)) (w.setRow g (gu .u64 64 4 (a/2 ^ (64*q)))):=by
 have key:=run_copy_row (P:=Tryz.prog) w 251 251 ty 31 g 0 4 4 ⟨h,q,none⟩ (4-q) (4-q) (gu .u64 64 4 0) t ((List.range (4-q)).map λi=>Value.int .u64 (dgt 64 a (i+q):Nat)) Tryz.underlying251 Tryz.szUs hg (by simp[Nat.min_def])
  (λj v hj=>by
   have hjl:j<4-q:=by
    have:=(List.getElem?_eq_some_iff.1 hj).1
    simpa using this
   rw[Addr.add_lit,jq,hh,mg,aaj _ _ _ _ _ aPl,Nat.add_comm q j]
   simpa [List.getElem?_map,List.getElem?_range hjl]using hj)
  (by rw[dw];simp)
  (by
   intro v hv
   simp only[List.mem_map]at hv
   obtain⟨i,_,rfl⟩:=hv
   rfl)
 have e:((gu .u64 64 4 0).toList.take 0++((List.range (4-q)).map λi=>Value.int .u64 (dgt 64 a (i+q):Nat))++(gu .u64 64 4 0).toList.drop (0+((List.range (4-q)).map λi=>Value.int .u64 (dgt 64 a (i+q):Nat)).length)).toArray=gu .u64 64 4 (a/2 ^ (64*q)):=by
  apply Array.ext'
  rw[List.toList_toArray,ad2,ad2,List.take_zero,List.nil_append]
  apply List.ext_getElem?
  intro j
  by_cases hj:j<4
  ·rw[List.getElem?_map (l:=List.range 4),List.getElem?_range hj,Option.map_some,aM5]
   by_cases hjq:j<4-q
   ·rw[List.getElem?_append_left (by simp;omega),List.getElem?_map,List.getElem?_range hjq,Option.map_some]
   ·rw[List.getElem?_append_right (by simp;omega),List.getElem?_drop]
    simp only[List.length_map,List.length_range]
    rw[show 0+(4-q)+(j-(4-q))=j by omega,List.getElem?_map,List.getElem?_range hj,Option.map_some,ap8 a (j+q) ha aPl]
    simp[dgt]
  ·rw[List.getElem?_eq_none (by simp;omega),List.getElem?_eq_none (by simp;omega)]
 rw[e]at key
 rw[key]
 simp[goInt]
theorem aRb{s0 s3 s4 s6 s7 s8 s9 s10 s11 s12 s13 s14 s15 s16 s17 s18 s19 s20 s21 s22 s23 s24 s25 s26 s27 s28 s29 s30 s31 s32 s33 s34 s35:Value}{K:Act→World→Prop}{Q:Exit→Act→World→Prop}(w:World)(g h q n a:Nat)(ha:a<ng)(hq:q<4)(hd:IntKind.u64.wrap ((n:Int)/64)=(q:Int))(hgh:g≠h)(hg:w.heap[g]? = some (.cells (gu .u64 64 4 0) 143 (0,0)))(hh:w.heap[h]? = some (.cells (gu .u64 64 4 a) 143 (0,0)))
  (hK:RowKit.Hid (∀{u13 u14 u15 u16 u17:Value} {w':World},(w'.heap=(w.setRow g (gu .u64 64 4 (a/2 ^ (64*q)))).heap∧Fr F0 (w.setRow g (gu .u64 64 4 (a/2 ^ (64*q)))) w')→K ⟨#[s0,.int .u64 n,.pointer (some ⟨h,0,none⟩),s3,s4,.pointer (some ⟨g,0,none⟩),s6,s7,s8,s9,s10,s11,s12,u13,u14,u15,u16,u17,s18,s19,s20,s21,s22,s23,s24,s25,s26,s27,s28,s29,s30,s31,s32,s33,s34,s35],[]⟩ w')) :
  Code.wp Tryz.prog ((Tryz.f170.body.bind (jw 4)).getD .skip) (Exit.then K Q) ⟨#[s0,.int .u64 n,.pointer (some ⟨h,0,none⟩),s3,s4,.pointer (some ⟨g,0,none⟩),s6,s7,s8,s9,s10,s11,s12,s13,s14,s15,s16,s17,s18,s19,s20,s21,s22,s23,s24,s25,s26,s27,s28,s29,s30,s31,s32,s33,s34,s35],[]⟩ w:=by
 conv=>arg 2;whnf
 have hc:=aol w.drew 3 g h q a _ _ _ ha hq hg hh
 refine jm (S:=(λw'=>True)) ?_ λak=>?_
 ·exact ark
 refine aj 0 ?_
 refine aj 1 ?_
 refine aj 2 ?_
 refine aj 3 ?_
 refine jf 4 λK hK=>?_
 go_simp
 refine rpu hK ark λak=>?_
 clear hK K
 refine jg ?_
 all_goals exact hK.out ⟨rfl,(Fr.refl F0 (w.setRow g (gu .u64 64 4 (a/2 ^ (64*q))))).drew⟩
def shR(T r:Nat):Nat→Nat
 |0=>T
 |k+1=>ala 64 (shR T r k) (3-k) (dgt 64 (T/2 ^ r) (3-k))
theorem ar8(T r:Nat):∀k j,k≤4→j<4→dgt 64 (shR T r k) j=if 4-k≤j then dgt 64 (T/2 ^ r) j else dgt 64 T j
 |0,j,_,hj=>by rw[if_neg aPl];rfl
 |k+1,j,hk,hj=>by
  rw[shR,ai2 _ _ _ _ _ (abq _ _ _),ar8 T r k j aPl hj]
  by_cases h:j=3-k
  ·rw[if_pos h,if_pos aPl,h]
  ·rw[if_neg h]
   by_cases h2:4-k≤j
   ·rw[if_pos h2,if_pos aPl]
   ·rw[if_neg h2,if_neg aPl]
theorem aLm(T r:Nat)(k:IntKind):gu k 64 4 (shR T r 4)=gu k 64 4 (T/2 ^ r) :=
 ah0 _ _ _ _ _ (adk _ _ _ _ λi hi=>by rw[ar8 _ _ _ _ aPl hi,if_pos aPl])
theorem aM3(T r i:Nat)(hr:r<64):dgt 64 (T/2 ^ r) i=dgt 64 T i/2 ^ r ||| dgt 64 T (i+1)*2 ^ (64-r) % 2 ^ 64:=by
 have e1:T/2 ^ r/2 ^ (64*i)=T/2 ^ (64*i)/2 ^ r:=by rw[Nat.div_div_eq_div_mul,Nat.mul_comm,←Nat.div_div_eq_div_mul]
 have e2:T/2 ^ (64*(i+1))=T/2 ^ (64*i)/2 ^ 64:=by rw[Nat.div_div_eq_div_mul,←Nat.pow_add];congr 1
 unfold dgt
 rw[e1,e2]
 generalize T/2 ^ (64*i)=X
 have hx:=Nat.mod_add_div X (2 ^ 64)
 have hm:=Nat.mod_lt X (Nat.two_pow_pos 64)
 generalize X % 2 ^ 64=m at *
 generalize X/2 ^ 64=Y at *
 have ps:=ahe r hr
 have l1:m/2 ^ r<2 ^ (64-r):=by rw[Nat.div_lt_iff_lt_mul (Nat.two_pow_pos _),Nat.mul_comm,←ps];exact hm
 have e3:X/2 ^ r=m/2 ^ r+2 ^ (64-r)*Y:=by
  rw[←hx]
  conv=>lhs;rw[ps]
  rw[Nat.mul_assoc,Nat.add_mul_div_left _ _ (Nat.two_pow_pos _)]
 have e4:Y % 2 ^ 64*2 ^ (64-r) % 2 ^ 64=2 ^ (64-r)*(Y % 2 ^ r):=by
  rw[Nat.mod_mul_mod]
  conv=>lhs;rw[ps]
  rw[Nat.mul_comm Y,Nat.mul_comm (2 ^ r),Nat.mul_mod_mul_left]
 rw[e3,e4]
 conv=>lhs;rw[ps,Nat.mul_comm (2 ^ r),Nat.mod_mul,Nat.add_mul_mod_self_left,Nat.mod_eq_of_lt l1,Nat.add_mul_div_left _ _ (Nat.two_pow_pos _),Nat.div_eq_of_lt l1,Nat.zero_add]
 rw[Nat.or_comm,Nat.add_comm]
 exact Nat.two_pow_add_eq_or_of_lt l1 _
end Go.Proofs.YtjlelckefiannaaGreatDoor
namespace Go.Proofs.YtjlelckefiannaaGreatDoor
set_option linter.unusedVariables false
set_option linter.unusedSimpArgs false
open Go.RowKit Go.Shelf
attribute [local go_sem] Oper.semAt_some
theorem ad6{F:Fence}{n:Nat}{P:Program}{c:Code}{Q:Exit→Act→World→Prop}{a:Act}{w:World}(W:World)(h:W=w)(k:Code.wpIn F n P c Q a W):Code.wpIn F n P c Q a w:=h▸k
theorem aMc(d m r:Nat)(hd:d<2 ^ 64)(hm:m<2 ^ 64):bits BinOp.or IntKind.u64 ((d:Int)/2 ^ r) (m:Int)=((d/2 ^ r ||| m:Nat):Int):=by
 have e:(d:Int)/2 ^ r=((d/2 ^ r:Nat):Int):=by rw[Int.natCast_ediv,Int.natCast_pow];rfl
 rw[e]
 exact u64_or_nat _ _ (Nat.lt_of_le_of_lt (Nat.div_le_self _ _) hd) hm
theorem aAc(d r:Nat):IntKind.u64.wrap ((d:Int)*2 ^ r)=((d*2 ^ r % 2 ^ 64:Nat):Int):=by
 rw[IntKind.wrap_u64,Int.natCast_emod,Int.natCast_mul,Int.natCast_pow]
 rfl
theorem awq(a n:Nat)(ha:a<ng)(hn:n<256)(w:World):
  Calls Tryz.prog 170 #[.agg (gu .u64 64 4 a),.int .u64 n] w λe w'=>e = .returned (.agg (gu .u64 64 4 (a/2 ^ n)))∧Fr F0 w w':=by
 obtain⟨q,hq⟩:∃q,q=n/64:=⟨_,rfl⟩
 obtain⟨r,hr⟩:∃r,r=n % 64:=⟨_,rfl⟩
 have hd:IntKind.u64.wrap ((n:Int)/64)=(q:Int):=by rw[IntWalk.u64_in _ aPl];omega
 have hge:decide ((256:Int)≤(n:Int))=false:=decide_eq_false aPl
 have HN:=Lib.hid (show n=64*q+r∧q<4∧r<64 by omega)
 refine callsIn_wide (n:=6) |>.1 ?_
 refine callsIn_of_wp_marks Tryz.func170 rfl trivial ?_ rfl
 simp only[Tryz.ntmps170,List.size_toArray,List.length_cons,List.length_nil,Nat.reduceAdd,Nat.reduceSub,Array.replicate_succ,Array.replicate_zero,List.push_toArray,List.append_toArray,List.nil_append,List.cons_append]
 gi_wp2_with fail
 obtain⟨W1,hW1⟩:∃W1,W1=((w.alloc (.cells (gu .u64 64 4 a) 143)).alloc (.cells (gu .u64 64 4 0) 143)).alloc (.cells (gu .u64 64 4 0) 143):=⟨_,rfl⟩
 refine ad6 W1 hW1 ?_
 have f1:Fr F0 w W1:=by rw[hW1];exact(((Fr.refl F0 w).alloc _).alloc _).alloc _
 obtain⟨r0,r1,r2⟩:=am3 w (.cells (gu .u64 64 4 a) 143) (.cells (gu .u64 64 4 0) 143) (.cells (gu .u64 64 4 0) 143)
 rw[←hW1]at r0 r1 r2
 have HR:=Lib.hid hr
 clear hW1 hq hr
 generalize hg0:w.heap.size=g0 at *
 generalize hg1:g0+1=g1 at *
 generalize hg2:g1+1=g2 at *
 have n1:g1≠g2:=by omega
 have HG:=Lib.hid (show w.heap.size=g0∧g0≤g1∧g0≤g2 by omega)
 refine wpIn_wide.2 ?_
 refine aRb W1 g2 g0 q n a ha HN.out.2.1 hd aPl r2 r0 (Lib.hid ?_)
 clear hg0 hg1 hg2 r0
 rename_i u13 u14 u15 u16 u17 w2
 rintro⟨hh,hf⟩
 replace r1:w2.heap[g1]? = some (.cells (gu .u64 64 4 0) 143 (0,0)):=by rw[hh,iy _ _ _ _ n1];exact r1
 replace r2:w2.heap[g2]? = some (.cells (gu .u64 64 4 (a/2 ^ (64*q))) 143 (0,0)):=by rw[hh,jc,r2];rfl
 have f2:Fr F0 w w2:=(f1.setRow (λh=>by have:=HG.out;omega) _).trans' hf
 have hfin:a/2 ^ (64*q)/2 ^ r=a/2 ^ n:=by rw[Nat.div_div_eq_div_mul,←Nat.pow_add,←HN.out.1]
 have hT:a/2 ^ (64*q)<ng:=Nat.lt_of_le_of_lt (Nat.div_le_self _ _) ha
 have HF:=Lib.hid hfin
 clear hh hf f1 hfin hd
 generalize a/2 ^ (64*q)=T at *
 have hsz2:g2<w2.heap.size:=(Array.getElem?_eq_some_iff.1 r2).1
 have hsz1:g1<w2.heap.size:=(Array.getElem?_eq_some_iff.1 r1).1
 have HZ:=Lib.hid (And.intro hsz1 hsz2)
 clear hsz1 hsz2
 gi_wp2_with (refine⟨trivial,?_⟩;gi_at_call 172;refine(ajc _ _ trivial rfl _ _ _ _).mono ?_;rintro e w4 ⟨rfl,rfl⟩)
 obtain⟨W3,hW3⟩:∃W3,W3=((w2.alloc (.cells #[.int .u64 ((n:Int) % 64)] 69)).alloc (.cells #[.int .u64 0] 31)).alloc (.cells #[.slice (some ⟨g2,0,none⟩) 4 4] 251):=⟨_,rfl⟩
 rw[←hW3]
 have f3:Fr F0 w W3:=by rw[hW3];exact((f2.alloc _).alloc _).alloc _
 obtain⟨r4,r5,r6⟩:=am3 w2 (.cells #[.int .u64 ((n:Int) % 64)] 69) (.cells #[.int .u64 0] 31) (.cells #[.slice (some ⟨g2,0,none⟩) 4 4] 251)
 rw[←hW3]at r4 r5 r6
 replace r1:W3.heap[g1]? = some (.cells (gu .u64 64 4 0) 143 (0,0)):=by
  rw[hW3,heap_alloc_old _ _ zz60,heap_alloc_old _ _ zz60,heap_alloc_old _ _ HZ.out.1];exact r1
 replace r2:W3.heap[g2]? = some (.cells (gu .u64 64 4 (shR T r 0)) 143 (0,0)):=by
  rw[hW3,heap_alloc_old _ _ zz60,heap_alloc_old _ _ zz60,heap_alloc_old _ _ HZ.out.2];exact r2
 have hs3:W3.heap.size=w2.heap.size+1+1+1:=by rw[hW3];simp
 have hzz:=HZ.out
 clear hW3 f2 HZ
 generalize hg4:w2.heap.size=g4 at *
 generalize hg5:g4+1=g5 at *
 generalize hg6:g5+1=g6 at *
 have n2:g1≠g5:=by omega
 have n3:g2≠g5:=by omega
 have n4:g4≠g2:=by omega
 have n8:g5≠g2:=by omega
 have n5:g4≠g5:=by omega
 have n6:g6≠g2:=by omega
 have n7:g6≠g5:=by omega
 have hgg:=HG.out
 have HG2:=Lib.hid (show g0≤W3.heap.size∧g0≤g2∧g0≤g5∧g0≤g1 by omega)
 clear hgg hzz hs3 hg4 hg5 hg6
 refine ahc rfl aPl (gf:=191) (lb:=#[.pointer (some ⟨g6,0,none⟩)]) rfl trivial (enters_of Tryz.func191 (by kernel_rfl) rfl)
  (aft Fence.wide 5 trivial rfl aPl (λpre=>dgt 64 T (3-pre.length)) 4 g6 g2 0 4 aPl) (λ_=>rfl)
  (λpre W=>((W.heap[g1]? = some (.cells (gu .u64 64 4 0) 143 (0,0))∧W.heap[g2]? = some (.cells (gu .u64 64 4 (shR T r pre.length)) 143 (0,0)))∧(W.heap[g4]? = some (.cells #[.int .u64 ((n:Int) % 64)] 69 (0,0))∧W.heap[g5]? = some (.cells #[.int .u64 ((dgt 64 T (4-pre.length)*2 ^ (64-r) % 2 ^ 64:Nat):Int)] 31 (0,0))∧W.heap[g6]? = some (.cells #[.slice (some ⟨g2,0,none⟩) 4 4] 251 (0,0))))∧(pre.length≤4)∧Below g0 W3 W)
  (λc _ W=>False)
  (OwnFrom.and (OwnFrom.and (OwnFrom.and (og _ _ _ _ _) (og _ _ (λpre:List (Nat×Nat)=>gu .u64 64 4 (shR T r pre.length)) _ _)) (OwnFrom.and (og _ _ _ _ _) (OwnFrom.and (og _ _ (λpre:List (Nat×Nat)=>#[.int .u64 ((dgt 64 T (4-pre.length)*2 ^ (64-r) % 2 ^ 64:Nat):Int)]) _ _) (og _ _ _ _ _)))) (OwnFrom.and (yx _ _) (own_below _ _ _ (Nat.le_refl _) HG2.out.1)))
  (λc=>yx _ _)
  ?sees ⟨⟨⟨r1,r2⟩,r4,by rw[show([]:List (Nat×Nat)).length=0 from rfl,ap8 T 4 hT aPl,Nat.zero_mul,Nat.zero_mod];exact r5,r6⟩,by simp,Below.refl _ _⟩
  (λx => { tmps:=#[.agg (gu .u64 64 4 a),.int .u64 n,.pointer (some ⟨g0,0,none⟩),undef,.pointer (some ⟨g1,0,none⟩),.pointer (some ⟨g2,0,none⟩),.pointer (some ⟨g4,0,none⟩),.pointer (some ⟨g5,0,none⟩),.int .i64 (x.1:Int),.int .u64 (x.2:Int),.int .u64 n,.bool false,undef,u13,u14,u15,u16,u17,.int .u64 n,.int .u64 ((n:Int) % 64),.slice (some ⟨g2,0,none⟩) 4 4,.func (.func 191) #[] #[.pointer (some ⟨g6,0,none⟩)],.int .i64 (x.1:Int),.int .u64 (x.2:Int),undef,undef,undef,undef,undef,undef,undef,undef,undef,undef,undef,undef],defers := [] }) ?assign ?body ?done ?stop
 case sees =>
  rintro pre W ⟨⟨⟨q1,q2⟩,q4,q5,q6⟩,hl4,_⟩
  refine⟨by rw[jq,q6];rfl,λhl=>?_⟩
  rw[jq,q2,mg,Nat.zero_add,aaj _ _ _ _ _ aPl,ar8 _ _ _ _ hl4 aPl,if_neg aPl]
 case assign =>
  intro l x W K hK
  gi_wp2
  exact hK
 case body =>
  rintro l pre x W ⟨⟨⟨q1,q2⟩,q4,q5,q6⟩,hl4,hB⟩ ⟨hlen,rfl,_⟩
  obtain⟨k,hk⟩:∃k,k=pre.length:=⟨_,rfl⟩
  obtain⟨i,hi⟩:∃i,i=3-k:=⟨_,rfl⟩
  have hi4:i<4:=by omega
  have li:(i:Int)<4:=by omega
  dsimp only
  rw[show 4-1-pre.length=i by omega]
  have HSR:=Lib.hid (show shR T r (k+1)=ala 64 (shR T r k) i (dgt 64 (T/2 ^ r) i) by rw[shR,←hi])
  have HJ:=Lib.hid (aM3 T r i HN.out.2.2)
  have HL:=Lib.hid (show(pre ++ [(i,dgt 64 T i)]).length=k+1∧4-(k+1)=i∧i+1=4-k by simp;omega)
  rw[←hk]at q2 q5
  rw[←HL.out.2.2]at q5
  have hU:=abq 64 T i
  have hbl:dgt 64 T (i+1)*2 ^ (64-r) % 2 ^ 64<2 ^ 64:=Nat.mod_lt _ (Nat.two_pow_pos _)
  obtain⟨B,hBe⟩:∃B,B=dgt 64 T (i+1)*2 ^ (64-r) % 2 ^ 64:=⟨_,rfl⟩
  rw[←hBe]at q5 hbl
  have HB:=Lib.hid hBe
  clear hi hk hlen hl4 hBe
  gi_wp2
  rw[←HR.out,aMc _ _ _ hU hbl]
  have hE:dgt 64 T i/2 ^ r ||| B=dgt 64 (T/2 ^ r) i:=by rw[HB.out,HJ.out]
  rw[hE]
  refine⟨((KeepsOthers.setCell _ _ _).trans (KeepsOthers.setCell _ _ _)).from _,trivial,⟨⟨?_,?_⟩,?_,?_,?_⟩,?_,?_⟩
  ·rw[dn _ _ _ _ _ n2,dn _ _ _ _ _ n1];exact q1
  ·rw[HL.out.1,dn _ _ _ _ _ n3,gq,q2,jr,acj _ _ _ (abq _ _ _),HSR.out]
  ·rw[dn _ _ _ _ _ n5,dn _ _ _ _ _ n4];exact q4
  ·rw[HL.out.1,HL.out.2.1,gq,dn _ _ _ _ _ n8,q5,jr,aAc]
   rfl
  ·rw[dn _ _ _ _ _ n7,dn _ _ _ _ _ n6];exact q6
  ·have:=HL.out;omega
  ·exact(hB.setCell (p:=⟨g2,i,none⟩) HG2.out.2.1 _).setCell (p:=⟨g5,0,none⟩) HG2.out.2.2.1 _
 case done =>
  rintro D ys W hD rfl ⟨⟨⟨q1,q2⟩,q4,q5,q6⟩,hl4,hB⟩ hK
  rw[aa2,aLm,HF.out]at q2
  clear q4 q5 q6
  gi_wp2
  have hD2:D≠g1:=λe=>by subst e;rw[q1]at hK;cases hK
  have hK':(W.setRow g1 (gu .u64 64 4 (a/2 ^ n))).heap[D]? = some (.deferred (some [])):=by rw[iy _ _ _ _ hD2];exact hK
  have hB':Below g0 W3 ((W.setRow g1 (gu .u64 64 4 (a/2 ^ n))).putObj D (.deferred none)):=by
   refine Below.trans (hB.trans ?_) (belowK_b (w:=W3) HG2.out.1 _ D _ (.deferred none) hD hK' rfl rfl)
   exact⟨rfl,rfl,rfl,by simp,λk hk=>setRow_other W g1 k _ (by have:=HG2.out;omega)⟩
  have hR:((W.setRow g1 (gu .u64 64 4 (a/2 ^ n))).putObj D (.deferred none)).heap[g1]? = some (.cells (gu .u64 64 4 (a/2 ^ n)) 143 (0,0)):=by
   rw[World.putObj_heap_other (λe=>hD2 e.symm),jc,q1];rfl
  refine⟨by simp,.inl ⟨_,_,rfl,run_takeDeferred hK',?_⟩⟩
  exact⟨_,results_cell_row rfl _ _ g1 _ _ _ _ rfl hR Tryz.underlying143 rfl zz75,rfl,f3.trans (Fr.uz hB') λi hi hk=>by have:=HG.out;omega⟩
 case stop =>
  rintro D c pre W hD h hK
  exact h.elim
theorem awp(a n:Nat)(hn:256≤n)(w:World):
  Calls Tryz.prog 170 #[.agg (gu .u64 64 4 a),.int .u64 n] w λe w'=>e = .returned (.agg (gu .u64 64 4 0))∧Fr F0 w w':=by
 have hge:decide ((256:Int)≤(n:Int))=true:=decide_eq_true aPl
 go_enter Tryz.func170,Tryz.ntmps170
 go_wp2
 refine bodyPost_ret (results_cell_row rfl _ _ (w.heap.size+1) _ _ _ _ rfl (by rw[jc,heap_alloc2_new];rfl) Tryz.underlying143 rfl zz75) rfl ⟨rfl,?_⟩
 exact(((Fr.refl F0 w).alloc _).alloc _).setRow (λh=>by omega) _
end Go.Proofs.YtjlelckefiannaaGreatDoor
namespace Go.Proofs.YtjlelckefiannaaGreatDoor
set_option linter.unusedVariables false
set_option linter.unusedSimpArgs false
open Go.RowKit
def aeb(a:Nat)(n:Int):Nat:=if n<0 then(if -n<256 then a/2 ^ (-n).toNat else 0)else(if n<256 then a*2 ^ n.toNat % ng else 0)
theorem avo(a n:Nat)(ha:a<ng)(hn:n<18446744073709551616)(w:World):
  Calls Tryz.prog 171 #[.agg (gu .u64 64 4 a),.int .u64 n] w λe w'=>e = .returned (.agg (gu .u64 64 4 (if n<256 then a*2 ^ n % ng else 0)))∧Fr F0 w w':=by
 by_cases h:n<256
 ·rw[if_pos h];exact apb a n ha h w
 ·rw[if_neg h];exact aBh a n aPl w
theorem apk(a n:Nat)(ha:a<ng)(hn:n<18446744073709551616)(w:World):
  Calls Tryz.prog 170 #[.agg (gu .u64 64 4 a),.int .u64 n] w λe w'=>e = .returned (.agg (gu .u64 64 4 (if n<256 then a/2 ^ n else 0)))∧Fr F0 w w':=by
 by_cases h:n<256
 ·rw[if_pos h];exact awq a n ha h w
 ·rw[if_neg h];exact awp a n aPl w
theorem aum{w w2:World}{A B:Obj}{c:Array Value}{g:Nat}(h:Fr F0 ((w.alloc A).alloc B) w2)(hg:w.heap.size≤g):Fr F0 w (w2.setRow g c) :=
 ((((Fr.refl F0 w).alloc _).alloc _).trans' h).setRow (λh=>by omega) _
theorem aBi(a:Nat)(n:Int)(ha:a<ng)(h1 : -9223372036854775808≤n)(h2:n≤9223372036854775807)(w:World):
  Calls Tryz.prog 139 #[.agg (gu .u64 64 4 a),.int .i64 n] w λe w'=>e = .returned (.agg (gu .u64 64 4 (aeb a (n))))∧Fr F0 w w':=by
 by_cases h:n<0
 ·have hd:decide (n<0)=true:=decide_eq_true h
  obtain⟨m,hm⟩:=Int.eq_ofNat_of_zero_le (show 0 ≤ -n by omega)
  have e2:IntKind.u64.wrap n=n+18446744073709551616:=by rw[IntKind.wrap_u64];omega
  have e3:IntKind.u64.wrap (-(n+18446744073709551616))=(m:Int):=by rw[IntKind.wrap_u64];omega
  have hr:aeb a (n)=if m<256 then a/2 ^ m else 0:=by
   obtain rfl:n = -(m:Int):=by omega
   have hmp:0<m:=by omega
   unfold aeb
   rw[if_pos aPl,Int.neg_neg,Int.toNat_natCast]
   by_cases h3:m<256
   ·rw[if_pos h3,if_pos aPl]
   ·rw[if_neg h3,if_neg aPl]
  rw[hr]
  have HC:=Lib.hid (apk a m ha aPl)
  generalize (if m<256 then a/2 ^ m else 0)=R at *
  clear hr hm
  go_enter Tryz.func139,Tryz.ntmps139
  go_wp2_with ((with_reducible refine(HC.out _).mono ?_);rintro e w2 ⟨rfl,hf⟩;have hr1:=hf.keeps (λf=>f) (heap_alloc2_new w _ _))
  refine bodyPost_ret (results_cell_row rfl _ _ (w.heap.size+1) _ _ _ _ rfl aOk Tryz.underlying143 rfl zz75) rfl ⟨rfl,aum hf aPl⟩
 ·have hd:decide (n<0)=false:=decide_eq_false h
  obtain⟨m,rfl⟩:=Int.eq_ofNat_of_zero_le (show 0≤n by omega)
  have e2:IntKind.u64.wrap (m:Int)=(m:Int):=by rw[IntKind.wrap_u64];omega
  have hr:aeb a ((m:Int))=if m<256 then a*2 ^ m % ng else 0:=by
   unfold aeb
   rw[if_neg aPl,Int.toNat_natCast]
   by_cases h3:m<256
   ·rw[if_pos h3,if_pos aPl]
   ·rw[if_neg h3,if_neg aPl]
  rw[hr]
  have HC:=Lib.hid (avo a m ha aPl)
  generalize (if m<256 then a*2 ^ m % ng else 0)=R at *
  clear hr
  go_enter Tryz.func139,Tryz.ntmps139
  go_wp2_with ((with_reducible refine(HC.out _).mono ?_);rintro e w2 ⟨rfl,hf⟩;have hr1:=hf.keeps (λf=>f) (heap_alloc2_new w _ _))
  refine bodyPost_ret (results_cell_row rfl _ _ (w.heap.size+1) _ _ _ _ rfl aOk Tryz.underlying143 rfl zz75) rfl ⟨rfl,aum hf aPl⟩
theorem ahy(a:Nat)(n:Int)(ha:a<ng)(h1 : -9223372036854775808≤n)(h2:n≤9223372036854775807)(w:World):
  Calls Tryz.prog 197 #[.agg (gu .u64 64 4 a),.int .i64 n] w λe w'=>e = .returned (.agg (gu .u64 64 4 (aeb a (-n))))∧Fr F0 w w':=by
 by_cases h:n<0
 ·have hd:decide (n<0)=true:=decide_eq_true h
  obtain⟨m,hm⟩:=Int.eq_ofNat_of_zero_le (show 0 ≤ -n by omega)
  have e2:IntKind.u64.wrap n=n+18446744073709551616:=by rw[IntKind.wrap_u64];omega
  have e3:IntKind.u64.wrap (-(n+18446744073709551616))=(m:Int):=by rw[IntKind.wrap_u64];omega
  have hr:aeb a (-n)=if m<256 then a*2 ^ m % ng else 0:=by
   obtain rfl:n = -(m:Int):=by omega
   have hmp:0<m:=by omega
   unfold aeb
   rw[Int.neg_neg,if_neg aPl,Int.toNat_natCast]
   by_cases h3:m<256
   ·rw[if_pos h3,if_pos aPl]
   ·rw[if_neg h3,if_neg aPl]
  rw[hr]
  have HC:=Lib.hid (avo a m ha aPl)
  generalize (if m<256 then a*2 ^ m % ng else 0)=R at *
  clear hr hm
  go_enter Tryz.func197,Tryz.ntmps197
  go_wp2_with ((with_reducible refine(HC.out _).mono ?_);rintro e w2 ⟨rfl,hf⟩;have hr1:=hf.keeps (λf=>f) (heap_alloc2_new w _ _))
  refine bodyPost_ret (results_cell_row rfl _ _ (w.heap.size+1) _ _ _ _ rfl aOk Tryz.underlying143 rfl zz75) rfl ⟨rfl,aum hf aPl⟩
 ·have hd:decide (n<0)=false:=decide_eq_false h
  obtain⟨m,rfl⟩:=Int.eq_ofNat_of_zero_le (show 0≤n by omega)
  have e2:IntKind.u64.wrap (m:Int)=(m:Int):=by rw[IntKind.wrap_u64];omega
  have hr:aeb a (-(m:Int))=if m<256 then a/2 ^ m else 0:=by
   unfold aeb
   by_cases h0:m=0
   ·subst h0
    simp[Nat.mod_eq_of_lt ha]
   ·rw[if_pos aPl,Int.neg_neg,Int.toNat_natCast]
    by_cases h3:m<256
    ·rw[if_pos h3,if_pos aPl]
    ·rw[if_neg h3,if_neg aPl]
  rw[hr]
  have HC:=Lib.hid (apk a m ha aPl)
  generalize (if m<256 then a/2 ^ m else 0)=R at *
  clear hr
  go_enter Tryz.func197,Tryz.ntmps197
  go_wp2_with ((with_reducible refine(HC.out _).mono ?_);rintro e w2 ⟨rfl,hf⟩;have hr1:=hf.keeps (λf=>f) (heap_alloc2_new w _ _))
  refine bodyPost_ret (results_cell_row rfl _ _ (w.heap.size+1) _ _ _ _ rfl aOk Tryz.underlying143 rfl zz75) rfl ⟨rfl,aum hf aPl⟩
end Go.Proofs.YtjlelckefiannaaGreatDoor
namespace Go.Proofs.YtjlelckefiannaaGreatDoor
set_option linter.unusedVariables false
set_option linter.unusedSimpArgs false
open Go.RowKit Go.Shelf
theorem ake(x:Nat)(hx:x<18446744073709551616)(w:World):
  Calls Tryz.prog 173 #[.int .u64 x] w λe w'=>e = .returned (.int .i64 (Lib.bitLen x:Nat))∧w'=w:=by
 by_cases c0:4294967296≤x
 ·obtain⟨x1,d0⟩:∃q,q=x/4294967296:=⟨_,rfl⟩
  have e0:(x:Int)/4294967296=(x1:Int):=by omega
  have f0:(4294967296:Int)≤(x:Int):=by omega
  have g0:x1<4294967296:=by omega
  have D0:=Lib.hid d0
  clear d0
  by_cases c1:65536≤x1
  ·obtain⟨x2,d1⟩:∃q,q=x1/65536:=⟨_,rfl⟩
   have e1:(x1:Int)/65536=(x2:Int):=by omega
   have f1:(65536:Int)≤(x1:Int):=by omega
   have g1:x2<65536:=by omega
   have D1:=Lib.hid d1
   clear d1
   by_cases c2:256≤x2
   ·obtain⟨x3,d2⟩:∃q,q=x2/256:=⟨_,rfl⟩
    have e2:(x2:Int)/256=(x3:Int):=by omega
    have f2:(256:Int)≤(x2:Int):=by omega
    have g2:x3<256:=by omega
    have D2:=Lib.hid d2
    clear d2
    have hl:=Lib.len8_of (x3:Int) aPl aPl
    have hl8:=Lib.bitLen_le8' (x3:Int) aPl aPl
    rw[Int.toNat_natCast]at hl hl8
    have hc:(x3:Int)≤255:=by omega
    have q0:=D0.out
    have q1:=D1.out
    have q2:=D2.out
    have HS:=Lib.hid (show Lib.bitLen x=56+Lib.bitLen x3 by have:=Lib.bitLen_shift 56 x aPl aPl;rw[show x/2 ^ 56=x3 by omega]at this;exact this)
    clear q0 q1 q2
    obtain⟨B,hB⟩:∃B,B=Lib.bitLen x3:=⟨_,rfl⟩
    rw[←hB]at hl hl8
    have HB:=Lib.hid hB
    clear hB
    clear c0 c1 c2
    try clear g0
    try clear g1
    try clear g2
    have z0:(0:Int)≤x:=by omega
    have z0u:(x:Int)<18446744073709551616:=by omega
    try(have z1:(0:Int)≤x1:=by omega)
    try(have z2:(0:Int)≤x2:=by omega)
    try(have z3:(0:Int)≤x3:=by omega)
    clear hx
    generalize (x:Int)=X at *
    try generalize (x1:Int)=X1 at *
    try generalize (x2:Int)=X2 at *
    try generalize (x3:Int)=X3 at *
    go_enter Tryz.func173,Tryz.ntmps173
    go_wp2
    go_ret
    refine⟨congrArg Ending.returned (congrArg (Value.int IntKind.i64) ?_),rfl⟩
    rw[HS.out,←HB.out]
    omega
   ·have f2:(x2:Int)<256:=by omega
    have hl:=Lib.len8_of (x2:Int) aPl aPl
    have hl8:=Lib.bitLen_le8' (x2:Int) aPl aPl
    rw[Int.toNat_natCast]at hl hl8
    have hc:(x2:Int)≤255:=by omega
    have q0:=D0.out
    have q1:=D1.out
    have HS:=Lib.hid (show Lib.bitLen x=48+Lib.bitLen x2 by have:=Lib.bitLen_shift 48 x aPl aPl;rw[show x/2 ^ 48=x2 by omega]at this;exact this)
    clear q0 q1
    obtain⟨B,hB⟩:∃B,B=Lib.bitLen x2:=⟨_,rfl⟩
    rw[←hB]at hl hl8
    have HB:=Lib.hid hB
    clear hB
    clear c0 c1 c2
    try clear g0
    try clear g1
    try clear g2
    have z0:(0:Int)≤x:=by omega
    have z0u:(x:Int)<18446744073709551616:=by omega
    try(have z1:(0:Int)≤x1:=by omega)
    try(have z2:(0:Int)≤x2:=by omega)
    try(have z3:(0:Int)≤x3:=by omega)
    clear hx
    generalize (x:Int)=X at *
    try generalize (x1:Int)=X1 at *
    try generalize (x2:Int)=X2 at *
    try generalize (x3:Int)=X3 at *
    go_enter Tryz.func173,Tryz.ntmps173
    go_wp2
    go_ret
    refine⟨congrArg Ending.returned (congrArg (Value.int IntKind.i64) ?_),rfl⟩
    rw[HS.out,←HB.out]
    omega
  ·have f1:(x1:Int)<65536:=by omega
   by_cases c2:256≤x1
   ·obtain⟨x3,d2⟩:∃q,q=x1/256:=⟨_,rfl⟩
    have e2:(x1:Int)/256=(x3:Int):=by omega
    have f2:(256:Int)≤(x1:Int):=by omega
    have g2:x3<256:=by omega
    have D2:=Lib.hid d2
    clear d2
    have hl:=Lib.len8_of (x3:Int) aPl aPl
    have hl8:=Lib.bitLen_le8' (x3:Int) aPl aPl
    rw[Int.toNat_natCast]at hl hl8
    have hc:(x3:Int)≤255:=by omega
    have q0:=D0.out
    have q2:=D2.out
    have HS:=Lib.hid (show Lib.bitLen x=40+Lib.bitLen x3 by have:=Lib.bitLen_shift 40 x aPl aPl;rw[show x/2 ^ 40=x3 by omega]at this;exact this)
    clear q0 q2
    obtain⟨B,hB⟩:∃B,B=Lib.bitLen x3:=⟨_,rfl⟩
    rw[←hB]at hl hl8
    have HB:=Lib.hid hB
    clear hB
    clear c0 c1 c2
    try clear g0
    try clear g1
    try clear g2
    have z0:(0:Int)≤x:=by omega
    have z0u:(x:Int)<18446744073709551616:=by omega
    try(have z1:(0:Int)≤x1:=by omega)
    try(have z2:(0:Int)≤x2:=by omega)
    try(have z3:(0:Int)≤x3:=by omega)
    clear hx
    generalize (x:Int)=X at *
    try generalize (x1:Int)=X1 at *
    try generalize (x2:Int)=X2 at *
    try generalize (x3:Int)=X3 at *
    go_enter Tryz.func173,Tryz.ntmps173
    go_wp2
    go_ret
    refine⟨congrArg Ending.returned (congrArg (Value.int IntKind.i64) ?_),rfl⟩
    rw[HS.out,←HB.out]
    omega
   ·have f2:(x1:Int)<256:=by omega
    have hl:=Lib.len8_of (x1:Int) aPl aPl
    have hl8:=Lib.bitLen_le8' (x1:Int) aPl aPl
    rw[Int.toNat_natCast]at hl hl8
    have hc:(x1:Int)≤255:=by omega
    have q0:=D0.out
    have HS:=Lib.hid (show Lib.bitLen x=32+Lib.bitLen x1 by have:=Lib.bitLen_shift 32 x aPl aPl;rw[show x/2 ^ 32=x1 by omega]at this;exact this)
    clear q0
    obtain⟨B,hB⟩:∃B,B=Lib.bitLen x1:=⟨_,rfl⟩
    rw[←hB]at hl hl8
    have HB:=Lib.hid hB
    clear hB
    clear c0 c1 c2
    try clear g0
    try clear g1
    try clear g2
    have z0:(0:Int)≤x:=by omega
    have z0u:(x:Int)<18446744073709551616:=by omega
    try(have z1:(0:Int)≤x1:=by omega)
    try(have z2:(0:Int)≤x2:=by omega)
    try(have z3:(0:Int)≤x3:=by omega)
    clear hx
    generalize (x:Int)=X at *
    try generalize (x1:Int)=X1 at *
    try generalize (x2:Int)=X2 at *
    try generalize (x3:Int)=X3 at *
    go_enter Tryz.func173,Tryz.ntmps173
    go_wp2
    go_ret
    refine⟨congrArg Ending.returned (congrArg (Value.int IntKind.i64) ?_),rfl⟩
    rw[HS.out,←HB.out]
    omega
 ·have f0:(x:Int)<4294967296:=by omega
  by_cases c1:65536≤x
  ·obtain⟨x2,d1⟩:∃q,q=x/65536:=⟨_,rfl⟩
   have e1:(x:Int)/65536=(x2:Int):=by omega
   have f1:(65536:Int)≤(x:Int):=by omega
   have g1:x2<65536:=by omega
   have D1:=Lib.hid d1
   clear d1
   by_cases c2:256≤x2
   ·obtain⟨x3,d2⟩:∃q,q=x2/256:=⟨_,rfl⟩
    have e2:(x2:Int)/256=(x3:Int):=by omega
    have f2:(256:Int)≤(x2:Int):=by omega
    have g2:x3<256:=by omega
    have D2:=Lib.hid d2
    clear d2
    have hl:=Lib.len8_of (x3:Int) aPl aPl
    have hl8:=Lib.bitLen_le8' (x3:Int) aPl aPl
    rw[Int.toNat_natCast]at hl hl8
    have hc:(x3:Int)≤255:=by omega
    have q1:=D1.out
    have q2:=D2.out
    have HS:=Lib.hid (show Lib.bitLen x=24+Lib.bitLen x3 by have:=Lib.bitLen_shift 24 x aPl aPl;rw[show x/2 ^ 24=x3 by omega]at this;exact this)
    clear q1 q2
    obtain⟨B,hB⟩:∃B,B=Lib.bitLen x3:=⟨_,rfl⟩
    rw[←hB]at hl hl8
    have HB:=Lib.hid hB
    clear hB
    clear c0 c1 c2
    try clear g0
    try clear g1
    try clear g2
    have z0:(0:Int)≤x:=by omega
    have z0u:(x:Int)<18446744073709551616:=by omega
    try(have z1:(0:Int)≤x1:=by omega)
    try(have z2:(0:Int)≤x2:=by omega)
    try(have z3:(0:Int)≤x3:=by omega)
    clear hx
    generalize (x:Int)=X at *
    try generalize (x1:Int)=X1 at *
    try generalize (x2:Int)=X2 at *
    try generalize (x3:Int)=X3 at *
    go_enter Tryz.func173,Tryz.ntmps173
    go_wp2
    go_ret
    refine⟨congrArg Ending.returned (congrArg (Value.int IntKind.i64) ?_),rfl⟩
    rw[HS.out,←HB.out]
    omega
   ·have f2:(x2:Int)<256:=by omega
    have hl:=Lib.len8_of (x2:Int) aPl aPl
    have hl8:=Lib.bitLen_le8' (x2:Int) aPl aPl
    rw[Int.toNat_natCast]at hl hl8
    have hc:(x2:Int)≤255:=by omega
    have q1:=D1.out
    have HS:=Lib.hid (show Lib.bitLen x=16+Lib.bitLen x2 by have:=Lib.bitLen_shift 16 x aPl aPl;rw[show x/2 ^ 16=x2 by omega]at this;exact this)
    clear q1
    obtain⟨B,hB⟩:∃B,B=Lib.bitLen x2:=⟨_,rfl⟩
    rw[←hB]at hl hl8
    have HB:=Lib.hid hB
    clear hB
    clear c0 c1 c2
    try clear g0
    try clear g1
    try clear g2
    have z0:(0:Int)≤x:=by omega
    have z0u:(x:Int)<18446744073709551616:=by omega
    try(have z1:(0:Int)≤x1:=by omega)
    try(have z2:(0:Int)≤x2:=by omega)
    try(have z3:(0:Int)≤x3:=by omega)
    clear hx
    generalize (x:Int)=X at *
    try generalize (x1:Int)=X1 at *
    try generalize (x2:Int)=X2 at *
    try generalize (x3:Int)=X3 at *
    go_enter Tryz.func173,Tryz.ntmps173
    go_wp2
    go_ret
    refine⟨congrArg Ending.returned (congrArg (Value.int IntKind.i64) ?_),rfl⟩
    rw[HS.out,←HB.out]
    omega
  ·have f1:(x:Int)<65536:=by omega
   by_cases c2:256≤x
   ·obtain⟨x3,d2⟩:∃q,q=x/256:=⟨_,rfl⟩
    have e2:(x:Int)/256=(x3:Int):=by omega
    have f2:(256:Int)≤(x:Int):=by omega
    have g2:x3<256:=by omega
    have D2:=Lib.hid d2
    clear d2
    have hl:=Lib.len8_of (x3:Int) aPl aPl
    have hl8:=Lib.bitLen_le8' (x3:Int) aPl aPl
    rw[Int.toNat_natCast]at hl hl8
    have hc:(x3:Int)≤255:=by omega
    have q2:=D2.out
    have HS:=Lib.hid (show Lib.bitLen x=8+Lib.bitLen x3 by have:=Lib.bitLen_shift 8 x aPl aPl;rw[show x/2 ^ 8=x3 by omega]at this;exact this)
    clear q2
    obtain⟨B,hB⟩:∃B,B=Lib.bitLen x3:=⟨_,rfl⟩
    rw[←hB]at hl hl8
    have HB:=Lib.hid hB
    clear hB
    clear c0 c1 c2
    try clear g0
    try clear g1
    try clear g2
    have z0:(0:Int)≤x:=by omega
    have z0u:(x:Int)<18446744073709551616:=by omega
    try(have z1:(0:Int)≤x1:=by omega)
    try(have z2:(0:Int)≤x2:=by omega)
    try(have z3:(0:Int)≤x3:=by omega)
    clear hx
    generalize (x:Int)=X at *
    try generalize (x1:Int)=X1 at *
    try generalize (x2:Int)=X2 at *
    try generalize (x3:Int)=X3 at *
    go_enter Tryz.func173,Tryz.ntmps173
    go_wp2
    go_ret
    refine⟨congrArg Ending.returned (congrArg (Value.int IntKind.i64) ?_),rfl⟩
    rw[HS.out,←HB.out]
    omega
   ·have f2:(x:Int)<256:=by omega
    have hl:=Lib.len8_of (x:Int) aPl aPl
    have hl8:=Lib.bitLen_le8' (x:Int) aPl aPl
    rw[Int.toNat_natCast]at hl hl8
    have hc:(x:Int)≤255:=by omega
    have HS:=Lib.hid (show Lib.bitLen x=0+Lib.bitLen x by rw[Nat.zero_add])
    obtain⟨B,hB⟩:∃B,B=Lib.bitLen x:=⟨_,rfl⟩
    rw[←hB]at hl hl8
    have HB:=Lib.hid hB
    clear hB
    clear c0 c1 c2
    try clear g0
    try clear g1
    try clear g2
    have z0:(0:Int)≤x:=by omega
    have z0u:(x:Int)<18446744073709551616:=by omega
    try(have z1:(0:Int)≤x1:=by omega)
    try(have z2:(0:Int)≤x2:=by omega)
    try(have z3:(0:Int)≤x3:=by omega)
    clear hx
    generalize (x:Int)=X at *
    try generalize (x1:Int)=X1 at *
    try generalize (x2:Int)=X2 at *
    try generalize (x3:Int)=X3 at *
    go_enter Tryz.func173,Tryz.ntmps173
    go_wp2
    go_ret
    refine⟨congrArg Ending.returned (congrArg (Value.int IntKind.i64) ?_),rfl⟩
    rw[HS.out,←HB.out]
    omega
end Go.Proofs.YtjlelckefiannaaGreatDoor
namespace Go.Proofs.YtjlelckefiannaaGreatDoor
set_option linter.unusedVariables false
set_option linter.unusedSimpArgs false
open Go.RowKit Go.Shelf
attribute [local go_sem] Oper.semAt_some
def nbits(n:Nat):Nat:=if n=0 then 0 else n.log2+1
theorem uw(n k:Nat):nbits n≤k↔n<2 ^ k:=by
 unfold nbits
 by_cases h:n=0
 ·subst h;simp[Nat.two_pow_pos]
 ·rw[if_neg h]
  exact Nat.log2_lt h
theorem aGx{m n:Nat}(h:∀k,m≤k↔n≤k):m=n:=Nat.le_antisymm ((h n).2 (Nat.le_refl _)) ((h m).1 (Nat.le_refl _))
theorem akq(a k:Nat)(h:2 ^ k≤a):nbits a=k+nbits (a/2 ^ k):=by
 refine aGx λj=>?_
 rw[uw]
 by_cases hj:k≤j
 ·obtain⟨d,rfl⟩:∃d,j=k+d:=⟨j-k,by omega⟩
  rw[Nat.add_le_add_iff_left,uw,Nat.div_lt_iff_lt_mul (Nat.two_pow_pos _),Nat.pow_add,Nat.mul_comm]
 ·have:2 ^ j≤2 ^ k:=Nat.pow_le_pow_right aPl aPl
  constructor
  ·intro h2;omega
  ·intro h2;omega
theorem axp(x:Nat)(h:x≠0):nbits x=1+nbits (x/2):=by
 by_cases h1:x=1
 ·subst h1;decide
 ·have:=akq x 1 aPl
  simpa using this
theorem ae8:∀(n x:Nat),x<2 ^ 64→x≤n→Lib.bitLen x=nbits x
 |0,x,_,h=>by
  obtain rfl:x=0:=by omega
  decide
 |n+1,x,hx,h=>by
  by_cases h0:x=0
  ·subst h0;decide
  ·rw[Lib.bitLen_half x h0 hx,axp x h0,ae8 n (x/2) aPl aPl]
theorem ahp(x:Nat)(hx:x<18446744073709551616)(w:World):
  Calls Tryz.prog 215 #[.int .u64 x] w λe w'=>e = .returned (.int .i64 ((64-nbits x:Nat):Int))∧w'=w:=by
 have hb:=ae8 x x hx (Nat.le_refl _)
 have hl:=(uw x 64).2 hx
 have HC:=Lib.hid (λw=>ake x hx w)
 rw[hb]at HC
 obtain⟨B,hB⟩:∃B,B=nbits x:=⟨_,rfl⟩
 rw[←hB]at HC hl ⊢
 clear hb hx hB
 have hw:IntKind.i64.wrap (64-(B:Int))=((64-B:Nat):Int):=by rw[IntWalk.i64_in _ aPl];omega
 go_enter Tryz.func215,Tryz.ntmps215
 go_wp2_with ((with_reducible refine(HC.out _).mono ?_);rintro e w' ⟨rfl,rfl⟩)
 go_ret
 refine⟨congrArg Ending.returned (congrArg (Value.int IntKind.i64) ?_),rfl⟩
 omega
theorem anr(a i:Nat)(h:a<2 ^ (64*(i+1))):a/2 ^ (64*i)=dgt 64 a i:=by
 rw[dgt,Nat.mod_eq_of_lt]
 rw[Nat.div_lt_iff_lt_mul (Nat.two_pow_pos _),Nat.mul_comm,←acn]
 exact h
theorem aHw(a i:Nat)(h:a<2 ^ (64*(i+1)))(h0:dgt 64 a i≠0):nbits a=64*i+nbits (dgt 64 a i):=by
 rw[←anr a i h]
 refine akq a (64*i) ?_
 rw[←anr a i h]at h0
 exact Nat.le_of_not_lt λhl=>h0 (Nat.div_eq_of_lt hl)
theorem aCn(a i:Nat)(h:a<2 ^ (64*(i+1)))(h0:dgt 64 a i=0):a<2 ^ (64*i):=by
 rw[←anr a i h]at h0
 rcases Nat.div_eq_zero_iff.1 h0 with h1|h1
 ·exact absurd h1 (Nat.ne_of_gt (Nat.two_pow_pos _))
 ·exact h1
theorem ajv(a:Nat)(ha:a<ng)(w:World):
  Calls Tryz.prog 140 #[.agg (gu .u64 64 4 a)] w λe w'=>e = .returned (.int .i64 (nbits a:Nat))∧Fr F0 w w':=by
 have H4:=Lib.hid (show a<2 ^ (64*4)from ha)
 clear ha
 refine callsIn_wide (n:=6) |>.1 ?_
 refine callsIn_of_wp_marks Tryz.func140 rfl trivial ?_ rfl
 simp only[Tryz.ntmps140,List.size_toArray,List.length_cons,List.length_nil,Nat.reduceAdd,Nat.reduceSub,Array.replicate_succ,Array.replicate_zero,List.push_toArray,List.append_toArray,List.nil_append,List.cons_append]
 gi_wp2_with (refine⟨trivial,?_⟩;gi_at_call 172;refine(ajc _ _ trivial rfl _ _ _ _).mono ?_;rintro e w2 ⟨rfl,rfl⟩)
 obtain⟨W1,hW1⟩:∃W1,W1=((w.alloc (.cells (gu .u64 64 4 a) 143)).alloc (.cells #[.int .i64 0] 3)).alloc (.cells #[.slice (some ⟨w.heap.size,0,none⟩) 4 4] 251):=⟨_,rfl⟩
 rw[←hW1]
 have f1:Fr F0 w W1:=by rw[hW1];exact(((Fr.refl F0 w).alloc _).alloc _).alloc _
 have hs1:W1.heap.size=w.heap.size+1+1+1:=by rw[hW1];simp
 obtain⟨r0,r2,r3⟩:=am3 w (.cells (gu .u64 64 4 a) 143) (.cells #[.int .i64 0] 3) (.cells #[.slice (some ⟨w.heap.size,0,none⟩) 4 4] 251)
 rw[←hW1]at r0 r2 r3
 clear hW1
 generalize hg0:w.heap.size=g0 at *
 generalize hg2:g0+1=g2 at *
 generalize hg3:g2+1=g3 at *
 have n0:g0≠g2:=by omega
 have n3:g3≠g2:=by omega
 have HG:=Lib.hid (show g0≤W1.heap.size∧g0≤g2∧w.heap.size=g0 by omega)
 clear hg0 hg2 hg3 hs1
 refine ahc rfl aPl (gf:=191) (lb:=#[.pointer (some ⟨g3,0,none⟩)]) rfl trivial (enters_of Tryz.func191 (by kernel_rfl) rfl)
  (aft Fence.wide 5 trivial rfl aPl (λpre=>dgt 64 a (3-pre.length)) 4 g3 g0 0 4 aPl) (λ_=>rfl)
  (λpre W=>(W.heap[g0]? = some (.cells (gu .u64 64 4 a) 143 (0,0))∧W.heap[g2]? = some (.cells #[.int .i64 0] 3 (0,0))∧W.heap[g3]? = some (.cells #[.slice (some ⟨g0,0,none⟩) 4 4] 251 (0,0)))∧(a<2 ^ (64*(4-pre.length)))∧Below g0 W1 W)
  (λc _ W=>c = .ret∧W.heap[g2]? = some (.cells #[.int .i64 (nbits a:Nat)] 3 (0,0))∧Below g0 W1 W)
  (OwnFrom.and (OwnFrom.and (og _ _ _ _ _) (OwnFrom.and (og _ _ _ _ _) (og _ _ _ _ _))) (OwnFrom.and (yx _ _) (own_below _ _ _ (Nat.le_refl _) HG.out.1)))
  (λc=>OwnFrom.and (yx _ _) (OwnFrom.and (og _ _ _ _ _) (own_below _ _ _ (Nat.le_refl _) HG.out.1)))
  ?sees ⟨⟨r0,r2,r3⟩,H4.out,Below.refl _ _⟩
  (λx => { tmps:=#[.agg (gu .u64 64 4 a),.pointer (some ⟨g0,0,none⟩),.pointer (some ⟨g2,0,none⟩),.int .i64 (x.1:Int),.int .u64 (x.2:Int),.slice (some ⟨g0,0,none⟩) 4 4,.func (.func 191) #[] #[.pointer (some ⟨g3,0,none⟩)],.int .i64 (x.1:Int),.int .u64 (x.2:Int),undef,undef,undef,undef,undef,undef,undef],defers := [] }) ?assign ?body ?done ?stop
 case sees =>
  rintro pre W ⟨⟨q0,q2,q3⟩,_,_⟩
  refine⟨by rw[jq,q3];rfl,λhl=>?_⟩
  rw[jq,q0,mg,Nat.zero_add]
  exact aaj _ _ _ _ _ aPl
 case assign =>
  intro l x W K hK
  gi_wp2
  exact hK
 case body =>
  rintro l pre x W ⟨⟨q0,q2,q3⟩,he,hB⟩ ⟨hlen,rfl,_⟩
  obtain⟨i,hi⟩:∃i,i=3-pre.length:=⟨_,rfl⟩
  have hi4:i<4:=by omega
  have li:(i:Int)<4:=by omega
  dsimp only
  rw[show 4-1-pre.length=i by omega]
  rw[show 4-pre.length=i+1 by omega]at he
  have hl2:4-(pre ++ [(i,dgt 64 a i)]).length=i:=by simp;omega
  have HE:=Lib.hid he
  have HL:=Lib.hid hl2
  clear he hl2 hi hlen
  by_cases hd:dgt 64 a i=0
  ·have hd':((dgt 64 a i:Int) != 0)=false:=by rw[hd];rfl
   have HD:=Lib.hid hd
   clear hd
   gi_wp2
   refine⟨KeepsFrom.refl _ _,trivial,⟨q0,q2,q3⟩,?_,hB⟩
   rw[HL.out]
   exact aCn _ _ HE.out HD.out
  ·have hd':((dgt 64 a i:Int) != 0)=true:=bne_iff_ne.2 aPl
   have hdl:=abq 64 a i
   have hS:=aHw a i HE.out hd
   have hbl:=ae8 _ _ hdl (Nat.le_refl _)
   have hn64:=(uw _ _).2 hdl
   have hlen:=ake _ hdl
   rw[hbl]at hlen
   have HLn:=Lib.hid hlen
   generalize nbits (dgt 64 a i)=B at *
   have hw1:IntKind.i64.wrap ((i:Int)*64+(B:Int))=((nbits a:Nat):Int):=by rw[IntWalk.i64_in _ aPl];omega
   have hw2:(i:Int)*64+(B:Int)=((nbits a:Nat):Int):=by omega
   have HW:=Lib.hid hw2
   clear hlen hbl hS hd hdl hw2
   gi_wp2_with (refine⟨trivial,?_⟩;gi_at_call 173;refine(CallsIn.inRound l (callsIn_wide.2 (HLn.out _))).mono ?_;rintro e w' ⟨rfl,rfl⟩)
   refine⟨(KeepsOthers.setCell _ _ _).from _,rfl,?_,hB.setCell (p:=⟨g2,0,none⟩) zz56 _⟩
   rw[gq,q2]
   first|(rw[HW.out];rfl)|rfl
 case done =>
  rintro D ys W hD rfl ⟨⟨q0,q2,q3⟩,he,hB⟩ hK
  rw[aa2]at he
  have hab:a=0:=by simpa using he
  have HE:=Lib.hid hab
  clear he hab
  gi_wp2
  have hD2:D≠g2:=λe=>by subst e;rw[q2]at hK;cases hK
  have hK':(W.setCell ⟨g2,0,none⟩ (.int .i64 0)).heap[D]? = some (.deferred (some [])):=by rw[dn _ _ _ _ _ hD2];exact hK
  have hB':=(hB.setCell (p:=⟨g2,0,none⟩) zz56 (.int .i64 0)).trans (belowK_b (w:=W1) HG.out.1 (W.setCell ⟨g2,0,none⟩ (.int .i64 0)) D _ (.deferred none) hD hK' rfl rfl)
  have hR:((W.setCell ⟨g2,0,none⟩ (.int .i64 0)).putObj D (.deferred none)).cell? ⟨g2,0,none⟩=some (.int .i64 0):=by
   rw[jq,World.putObj_heap_other (λe=>hD2 e.symm),gq,q2];rfl
  refine⟨by simp,.inl ⟨_,_,rfl,run_takeDeferred hK',?_⟩⟩
  exact⟨_,ahb rfl _ _ g2 _ rfl hR Tryz.underlying3,by rw[HE.out];rfl,f1.trans (Fr.uz hB') λi hi hk=>by have:=HG.out;omega⟩
 case stop =>
  rintro D c pre W hD ⟨rfl,q2,hB⟩ hK
  gi_wp2
  have hD2:D≠g2:=λe=>by subst e;rw[q2]at hK;cases hK
  have hB':=hB.trans (belowK_b (w:=W1) HG.out.1 W D _ (.deferred none) hD hK rfl rfl)
  have hR:(W.putObj D (.deferred none)).cell? ⟨g2,0,none⟩=some (.int .i64 (nbits a:Nat)):=by
   rw[jq,World.putObj_heap_other (λe=>hD2 e.symm),q2];rfl
  refine⟨by simp,.inl ⟨_,_,rfl,run_takeDeferred hK,?_⟩⟩
  exact⟨_,ahb rfl _ _ g2 _ rfl hR Tryz.underlying3,rfl,f1.trans (Fr.uz hB') λi hi hk=>by have:=HG.out;omega⟩
end Go.Proofs.YtjlelckefiannaaGreatDoor
namespace Go.Proofs.YtjlelckefiannaaGreatDoor
set_option linter.unusedVariables false
set_option linter.unusedSimpArgs false
open Go.RowKit
theorem aDv(lo y:Nat)(hy:0<y)(hlo:lo<18446744073709551616)(w:World):
  Calls Tryz.prog 202 #[.int .u64 0,.int .u64 lo,.int .u64 y] w λe w'=>e = .returned (.tuple #[.int .u64 ((lo/y:Nat):Int),.int .u64 ((lo % y:Nat):Int)])∧Fr F0 w w':=by
 have z0:((y:Int)==0)=false:=by simp;omega
 have z1:¬(y:Int)=0:=by omega
 have z4:¬y=0:=by omega
 have z5:IntKind.u64.wrap ((lo:Int)/(y:Int))=((lo/y:Nat):Int):=by
  have:=Nat.div_le_self lo y
  rw[←Int.natCast_ediv]
  generalize lo/y=z at *
  exact IntWalk.u64_in _ aPl
 clear hlo
 have z2:decide ((y:Int)≤0)=false:=decide_eq_false aPl
 go_enter Tryz.func202,Tryz.ntmps202
 go_wp2_with fail
 go_region
 all_goals go_wp2
 all_goals go_ret2
 all_goals refine⟨?_,(Fr.refl F0 w).drew⟩
 all_goals (rw[Int.natCast_emod];rfl)
theorem aci(x:Int):IntKind.u64.wrap x=x % 18446744073709551616:=IntKind.wrap_u64 x
theorem ayl(hi lo y:Nat)(hh:0<hi)(hlt:hi<y)(hlo:lo<18446744073709551616)(hy:y<18446744073709551616)(w:World):
  Calls Tryz.prog 202 #[.int .u64 hi,.int .u64 lo,.int .u64 y] w λe w'=>e = .returned (.tuple #[.int .u64 (((hi*18446744073709551616+lo)/y:Nat):Int),.int .u64 (((hi*18446744073709551616+lo) % y:Nat):Int)])∧Fr F0 w w':=by
 have z0:((y:Int)==0)=false:=by simp;omega
 have z2:decide (y≤hi)=false:=decide_eq_false aPl
 have z3:((hi:Int)==0)=false:=by simp;omega
 have HLZ:=Lib.hid (ahp y hy)
 obtain⟨s,hs⟩:∃s,s=64-nbits y:=⟨_,rfl⟩
 rw[←hs]at HLZ
 have hnb:0<nbits y:=Nat.pos_of_ne_zero λe=>by have:=(uw y 0).1 aPl;omega
 have hnb2:=(uw y 64).2 hy
 have hs64:(s:Int)<64:=by omega
 obtain⟨Y,hY⟩:∃Y,Y=y*2 ^ s:=⟨_,rfl⟩
 obtain⟨U,hU⟩:∃U,U=hi*2 ^ s+lo/2 ^ (64-s):=⟨_,rfl⟩
 obtain⟨V,hV⟩:∃V,V=lo*2 ^ s % 2 ^ 64:=⟨_,rfl⟩
 obtain⟨nUY,nE,nL⟩:=aGv hlt aPl hY hU hV hlo
 have hYb:2 ^ 63≤Y∧Y<2 ^ 64:=by
  have h1:=(uw y (nbits y)).1 (Nat.le_refl _)
  have h2:2 ^ (nbits y-1)≤y:=Nat.le_of_not_lt λh=>by have:=(uw y (nbits y-1)).2 h;omega
  have e1:(2:Nat) ^ 64=2 ^ nbits y*2 ^ s:=by rw[←Nat.pow_add];congr 1;omega
  have e2:(2:Nat) ^ 63=2 ^ (nbits y-1)*2 ^ s:=by rw[←Nat.pow_add];congr 1;omega
  rw[hY,e1,e2]
  exact⟨Nat.mul_le_mul_right _ h2,Nat.mul_lt_mul_of_pos_right h1 (Nat.two_pow_pos s)⟩
 have hres:(hi*18446744073709551616+lo)/y=(U*18446744073709551616+V)/Y∧(hi*18446744073709551616+lo) % y=(U*18446744073709551616+V) % Y/2 ^ s:=by
  rw[←nE,hY]
  exact⟨(akj _ _ _).1.symm,(akj _ _ _).2.symm⟩
 have hVl:V<2 ^ 64:=by rw[hV];exact Nat.mod_lt _ (Nat.two_pow_pos _)
 -- what the walk reckons
 have x1:IntKind.u64.wrap ((y:Int)*2 ^ s)=(Y:Int):=by
  have e:(y:Int)*2 ^ s=((y*2 ^ s:Nat):Int):=by rw[Int.natCast_mul,Int.natCast_pow];rfl
  rw[e,←hY,IntWalk.u64_in _ aPl]
 have x2:bits BinOp.or IntKind.u64 (IntKind.u64.wrap ((hi:Int)*2 ^ s)) ((lo:Int)/2 ^ (64-s))=(U:Int):=by
  have e2:(lo:Int)/2 ^ (64-s)=((lo/2 ^ (64-s):Nat):Int):=by rw[Int.natCast_ediv,Int.natCast_pow];rfl
  have hp:=Nat.two_pow_pos s
  have hps:2 ^ s≤2 ^ 64:=Nat.pow_le_pow_right aPl aPl
  rw[e2,or_val hi (lo/2 ^ (64-s)) s aPl]
  have h4:hi*2 ^ s≤U:=by rw[hU];exact Nat.le_add_right _ _
  have h3:hi*2 ^ s<2 ^ 64:=by omega
  rw[Nat.mod_eq_of_lt h3,Nat.mul_comm,←Nat.two_pow_add_eq_or_of_lt nL,Nat.mul_comm,←hU]
 have x3:IntKind.u64.wrap ((lo:Int)*2 ^ s)=(V:Int):=by rw[aAc,←hV]
 obtain⟨y1,hy1⟩:∃q,q=Y/4294967296:=⟨_,rfl⟩
 obtain⟨y0,hy0⟩:∃q,q=Y % 4294967296:=⟨_,rfl⟩
 obtain⟨v1,hv1⟩:∃q,q=V/4294967296:=⟨_,rfl⟩
 obtain⟨v0,hv0⟩:∃q,q=V % 4294967296:=⟨_,rfl⟩
 have x4:(Y:Int)/4294967296=(y1:Int):=by omega
 have x5:bits BinOp.and IntKind.u64 (Y:Int) 4294967295=(y0:Int):=by rw[ag2 _ aPl,←hy0]
 have x6:(V:Int)/4294967296=(v1:Int):=by omega
 have x7:bits BinOp.and IntKind.u64 (V:Int) 4294967295=(v0:Int):=by rw[ag2 _ aPl,←hv0]
 have hYe:Y=y1*4294967296+y0:=by omega
 have hVe:V=v1*4294967296+v0:=by omega
 have B0:y0<4294967296∧v0<4294967296∧v1<4294967296∧2147483648≤y1∧y1<4294967296:=by omega
 have hz1:(y1:Int)≠0:=by omega
 have g0:=akt (y1:=y1) (y0:=y0) (u:=U) (d:=v1) aPl B0.1 B0.2.2.1
 have s0:=aks (u:=U) B0.2.2.2.1 B0.1 aPl
 have r0:=Nat.mod_lt U (show 0<y1 by omega)
 obtain⟨q0,hq0⟩:∃q,q=U/y1:=⟨_,rfl⟩
 obtain⟨t0,ht0⟩:∃q,q=U % y1:=⟨_,rfl⟩
 have x8:(U:Int)/(y1:Int)=(q0:Int):=by rw[hq0,Int.natCast_ediv]
 rw[←hq0]at g0 s0
 rw[←ht0]at g0 r0
 have xq:IntKind.u64.wrap (q0:Int)=(q0:Int):=IntWalk.u64_in _ aPl
 have e9:(q0:Int)*(y1:Int)=((q0*y1:Nat):Int):=(Int.natCast_mul _ _).symm
 have x9:IntKind.u64.wrap ((U:Int)-IntKind.u64.wrap ((q0:Int)*(y1:Int)))=(t0:Int):=by
  have:=g0.eq
  rw[e9,IntWalk.u64_in ((q0*y1:Nat):Int) aPl,IntWalk.u64_in _ aPl]
  omega
 have HF:=Lib.hid (And.intro hres (And.intro hYe (And.intro hVe (And.intro B0 (And.intro g0 (And.intro s0 (And.intro r0 (And.intro nUY hYb))))))))
 clear hres hYe hVe B0 g0 s0 r0 nUY hYb e9 hq0 ht0 hy1 hy0 hv1 hv0 hVl hnb hnb2 nE nL hV hU hY hs hlt hlo hy hh
 go_enter Tryz.func202,Tryz.ntmps202
 go_upto_block 0 with((with_reducible refine(HLZ.out _).mono ?_);rintro e w' ⟨rfl,rfl⟩)
 go_cut [15,16] (λqv rv w''=>qv = .int .u64 (((U*4294967296+v1)/Y:Nat):Int)∧w''=w')
 case first =>
  go_wp2_with fail
  go_loopw [15,16] (λqv rv wr=>∃q r:Nat,qv = .int .u64 (q:Int)∧rv = .int .u64 (r:Int)∧agx y1 y0 U v1 q r∧q≤4294967297∧r<4294967296∧wr=w') (λqv _ _=>(intOf qv).toNat)
  case atStart =>
   obtain⟨_,_,_,B0,g0,s0,r0,_⟩:=HF.out
   exact⟨q0,t0,rfl,rfl,g0,s0,by omega,rfl⟩
  case round =>
   obtain⟨q,r,rfl,rfl,g,hq,hr,rfl⟩:=hrel
   obtain⟨_,hYe,_,B0,_,_,_,nUY,hYb⟩:=HF.out
   have hYp:0<y1*4294967296+y0:=by omega
   have hm1:q*y0≤4294967297*4294967295:=Nat.mul_le_mul hq aPl
   have w3:IntKind.u64.wrap ((q:Int)*(y0:Int))=((q*y0:Nat):Int):=by rw[←Int.natCast_mul,IntWalk.u64_in _ aPl]
   have w4:IntKind.u64.wrap (4294967296*(r:Int))=((4294967296*r:Nat):Int):=by rw[IntWalk.u64_in _ aPl];omega
   have w5:IntKind.u64.wrap (((4294967296*r:Nat):Int)+(v1:Int))=((4294967296*r+v1:Nat):Int):=by rw[IntWalk.u64_in _ aPl];omega
   have ht:=ah6 g
   have HQ:=Lib.hid (show q*y0>r*4294967296+v1↔4294967296*r+v1<q*y0 by omega)
   obtain⟨m,hm⟩:∃m,m=q*y0:=⟨_,rfl⟩
   obtain⟨n1,hn1⟩:∃m,m=4294967296*r:=⟨_,rfl⟩
   obtain⟨n2,hn2⟩:∃m,m=n1+v1:=⟨_,rfl⟩
   rw[←hm]at w3
   rw[←hn1]at w4 w5
   rw[←hn2]at w5
   have hdo:∀(hG:0<q∧agx y1 y0 U v1 (q-1) (r+y1)),IntKind.u64.wrap ((q:Int)-1)=((q-1:Nat):Int):=λhG=>by rw[IntWalk.u64_in _ aPl];omega
   have w2:IntKind.u64.wrap ((r:Int)+(y1:Int))=((r+y1:Nat):Int):=by rw[IntWalk.u64_in _ aPl];omega
   obtain⟨r',hr'⟩:∃q,q=r+y1:=⟨_,rfl⟩
   rw[←hr']at w2
   have T3:(4294967296≤r'∧decide ((4294967296:Int)≤(r':Int))=true)∨(r'<4294967296∧decide ((4294967296:Int)≤(r':Int))=false):=by
    by_cases h:4294967296≤r'
    ·exact .inl ⟨h,decide_eq_true aPl⟩
    ·exact .inr ⟨by omega,decide_eq_false aPl⟩
   have T1:(∃hG:0<q∧agx y1 y0 U v1 (q-1) (r+y1),(decide ((4294967296:Int)≤(q:Int))=true)∨(decide ((4294967296:Int)≤(q:Int))=false∧decide (n2<m)=true))∨(q=(U*4294967296+v1)/Y∧decide ((4294967296:Int)≤(q:Int))=false∧decide (n2<m)=false):=by
    by_cases hb:4294967296≤q
    ·exact .inl ⟨ap3 hYp aPl aPl g hb,.inl (decide_eq_true aPl)⟩
    ·by_cases hc:q*y0>r*4294967296+v1
     ·exact .inl ⟨ah7 hYp g (ht.1 hc),.inr ⟨decide_eq_false aPl,decide_eq_true (by have:=HQ.out.1 hc;omega)⟩⟩
     ·refine .inr ⟨?_,decide_eq_false aPl,decide_eq_false (by have:=HQ.out;omega)⟩
      rw[hYe]
      exact aj6 hYp g λh=>hc (ht.2 h)
   have HB:=Lib.hid (And.intro hYp (And.intro B0.1 (And.intro hq (And.intro hYe hr'))))
   have HT3:=Lib.hid T3
   have HT1:=Lib.hid T1
   have HD:=Lib.hid hdo
   clear hYe B0 nUY hYb hYp hm1 ht hm hn1 hn2 T3 T1 hdo hr' g hr hq HQ
   rcases HT1.out with⟨hG,hA⟩|⟨hR,hA,hA2⟩
   ·have w1:=HD.out hG
    have HG:=Lib.hid hG
    obtain⟨q',hq'⟩:∃p,p=q-1:=⟨_,rfl⟩
    rw[←hq']at w1 HG
    have HQ':=Lib.hid hq'
    clear hG hq'
    rcases HT3.out with⟨h3,hB3⟩|⟨h3,hB3⟩
    ·have H3:=Lib.hid h3
     clear h3
     rcases hA with hA|⟨hA,hA2⟩
     all_goals
      go_wp2
      go_meet
      case rel =>
       refine⟨?_,rfl⟩
       obtain⟨b1,b2,b3,b4,b5⟩:=HB.out
       rw[b4,←amu b1 b2 (by have:=HQ'.out;omega) HG.out.2 (by have:=H3.out;omega)]
    ·have H3:=Lib.hid h3
     clear h3
     rcases hA with hA|⟨hA,hA2⟩
     all_goals
      go_wp2
      go_roundw
      case rel =>
       obtain⟨b1,b2,b3,b4,b5⟩:=HB.out
       refine⟨q',r',rfl,rfl,by rw[b5];exact HG.out.2,by have:=HQ'.out;omega,H3.out,by first|rfl|trivial⟩
      case measure =>
       have h1:=HG.out.1
       have h2:=HQ'.out
       simp[intOf]
       omega
   ·have HR:=Lib.hid hR
    clear hR
    go_wp2
    go_meet
    case rel=>exact⟨by rw[←HR.out],rfl⟩
 case rest =>
  obtain⟨rfl,hw⟩:=hcut
  rw[hw]
  clear hw
  obtain⟨hres,hYe,hVe,B0,_,_,_,nUY,hYb⟩:=HF.out
  have hlt1:=Nat.mod_lt (U*4294967296+v1) (show 0<Y by omega)
  obtain⟨Q1,hQ1⟩:∃q,q=(U*4294967296+v1)/Y:=⟨_,rfl⟩
  rw[←hQ1]
  obtain⟨R1,hR1⟩:∃q,q=(U*4294967296+v1) % Y:=⟨_,rfl⟩
  have hd1:=avv (u:=U) (d:=v1) (y:=Y) (q:=Q1) aPl aPl aPl hQ1
  rw[←hR1]at hd1 hlt1
  have hq1:Q1<4294967296:=by rw[hQ1];exact azv aPl aPl aPl
  obtain⟨A1,hA1⟩:∃z:Int,z=(U:Int)*4294967296 % 18446744073709551616:=⟨_,rfl⟩
  have a1:IntKind.u64.wrap ((U:Int)*4294967296)=A1:=by rw[aci,hA1]
  rw[←hA1]at hd1
  obtain⟨B1,hB1⟩:∃z:Int,z=(A1+(v1:Int)) % 18446744073709551616:=⟨_,rfl⟩
  have b1:IntKind.u64.wrap (A1+(v1:Int))=B1:=by rw[aci,hB1]
  rw[←hB1]at hd1
  obtain⟨C1,hC1⟩:∃z:Int,z=(Q1:Int)*(Y:Int) % 18446744073709551616:=⟨_,rfl⟩
  have c1:IntKind.u64.wrap ((Q1:Int)*(Y:Int))=C1:=by rw[aci,hC1]
  rw[←hC1]at hd1
  have d1:IntKind.u64.wrap (B1-C1)=(R1:Int):=by rw[aci,hd1]
  have g2:=akt (y1:=y1) (y0:=y0) (u:=R1) (d:=v0) aPl B0.1 B0.2.1
  have s2:=aks (u:=R1) B0.2.2.2.1 B0.1 aPl
  have r2:=Nat.mod_lt R1 (show 0<y1 by omega)
  obtain⟨q2,hq2⟩:∃q,q=R1/y1:=⟨_,rfl⟩
  obtain⟨t2,ht2⟩:∃q,q=R1 % y1:=⟨_,rfl⟩
  have x8':(R1:Int)/(y1:Int)=(q2:Int):=by rw[hq2,Int.natCast_ediv]
  rw[←hq2]at g2 s2
  rw[←ht2]at g2 r2
  have xq':IntKind.u64.wrap (q2:Int)=(q2:Int):=IntWalk.u64_in _ aPl
  have e9':(q2:Int)*(y1:Int)=((q2*y1:Nat):Int):=(Int.natCast_mul _ _).symm
  have x9':IntKind.u64.wrap ((R1:Int)-IntKind.u64.wrap ((q2:Int)*(y1:Int)))=(t2:Int):=by
   have:=g2.eq
   rw[e9',IntWalk.u64_in ((q2*y1:Nat):Int) aPl,IntWalk.u64_in _ aPl]
   omega
  have H12:=awv U v1 v0 Y aPl
  rw[←hVe,←hR1,←hQ1]at H12
  have HH2:=Lib.hid (And.intro hres H12)
  have HF2:=Lib.hid (And.intro hq1 (And.intro hYe (And.intro hVe (And.intro B0 (And.intro g2 (And.intro s2 (And.intro r2 (And.intro hlt1 hYb))))))))
  clear hres hYe hVe B0 g2 s2 r2 nUY hYb e9' hq2 ht2 hlt1 hQ1 hR1 hd1 hq1 hA1 hB1 hC1 H12
  go_upto_block 2 with fail
  go_cut [18,16] (λqv rv w2=>qv = .int .u64 (((R1*4294967296+v0)/Y:Nat):Int)∧w2=w')
  case first =>
   go_wp2_with fail
   go_loopw [18,16] (λqv rv wr=>∃q r:Nat,qv = .int .u64 (q:Int)∧rv = .int .u64 (r:Int)∧agx y1 y0 R1 v0 q r∧q≤4294967297∧r<4294967296∧wr=w') (λqv _ _=>(intOf qv).toNat)
   case atStart =>
    obtain⟨_,_,_,B0,g0,s0,r0,_⟩:=HF2.out
    exact⟨q2,t2,rfl,rfl,g0,s0,by omega,rfl⟩
   case round =>
    obtain⟨q,r,rfl,rfl,g,hq,hr,rfl⟩:=hrel
    obtain⟨_,hYe,_,B0,_,_,_,nUY,hYb⟩:=HF2.out
    have hYp:0<y1*4294967296+y0:=by omega
    have hm1:q*y0≤4294967297*4294967295:=Nat.mul_le_mul hq aPl
    have w3:IntKind.u64.wrap ((q:Int)*(y0:Int))=((q*y0:Nat):Int):=by rw[←Int.natCast_mul,IntWalk.u64_in _ aPl]
    have w4:IntKind.u64.wrap (4294967296*(r:Int))=((4294967296*r:Nat):Int):=by rw[IntWalk.u64_in _ aPl];omega
    have w5:IntKind.u64.wrap (((4294967296*r:Nat):Int)+(v0:Int))=((4294967296*r+v0:Nat):Int):=by rw[IntWalk.u64_in _ aPl];omega
    have ht:=ah6 g
    have HQ:=Lib.hid (show q*y0>r*4294967296+v0↔4294967296*r+v0<q*y0 by omega)
    obtain⟨m,hm⟩:∃m,m=q*y0:=⟨_,rfl⟩
    obtain⟨n1,hn1⟩:∃m,m=4294967296*r:=⟨_,rfl⟩
    obtain⟨n2,hn2⟩:∃m,m=n1+v0:=⟨_,rfl⟩
    rw[←hm]at w3
    rw[←hn1]at w4 w5
    rw[←hn2]at w5
    have hdo:∀(hG:0<q∧agx y1 y0 R1 v0 (q-1) (r+y1)),IntKind.u64.wrap ((q:Int)-1)=((q-1:Nat):Int):=λhG=>by rw[IntWalk.u64_in _ aPl];omega
    have w2:IntKind.u64.wrap ((r:Int)+(y1:Int))=((r+y1:Nat):Int):=by rw[IntWalk.u64_in _ aPl];omega
    obtain⟨r',hr'⟩:∃q,q=r+y1:=⟨_,rfl⟩
    rw[←hr']at w2
    have T3:(4294967296≤r'∧decide ((4294967296:Int)≤(r':Int))=true)∨(r'<4294967296∧decide ((4294967296:Int)≤(r':Int))=false):=by
     by_cases h:4294967296≤r'
     ·exact .inl ⟨h,decide_eq_true aPl⟩
     ·exact .inr ⟨by omega,decide_eq_false aPl⟩
    have T1:(∃hG:0<q∧agx y1 y0 R1 v0 (q-1) (r+y1),(decide ((4294967296:Int)≤(q:Int))=true)∨(decide ((4294967296:Int)≤(q:Int))=false∧decide (n2<m)=true))∨(q=(R1*4294967296+v0)/Y∧decide ((4294967296:Int)≤(q:Int))=false∧decide (n2<m)=false):=by
     by_cases hb:4294967296≤q
     ·exact .inl ⟨ap3 hYp aPl aPl g hb,.inl (decide_eq_true aPl)⟩
     ·by_cases hc:q*y0>r*4294967296+v0
      ·exact .inl ⟨ah7 hYp g (ht.1 hc),.inr ⟨decide_eq_false aPl,decide_eq_true (by have:=HQ.out.1 hc;omega)⟩⟩
      ·refine .inr ⟨?_,decide_eq_false aPl,decide_eq_false (by have:=HQ.out;omega)⟩
       rw[hYe]
       exact aj6 hYp g λh=>hc (ht.2 h)
    have HB:=Lib.hid (And.intro hYp (And.intro B0.1 (And.intro hq (And.intro hYe hr'))))
    have HT3:=Lib.hid T3
    have HT1:=Lib.hid T1
    have HD:=Lib.hid hdo
    clear hYe B0 nUY hYb hYp hm1 ht hm hn1 hn2 T3 T1 hdo hr' g hr hq HQ
    rcases HT1.out with⟨hG,hA⟩|⟨hR,hA,hA2⟩
    ·have w1:=HD.out hG
     have HG:=Lib.hid hG
     obtain⟨q',hq'⟩:∃p,p=q-1:=⟨_,rfl⟩
     rw[←hq']at w1 HG
     have HQ':=Lib.hid hq'
     clear hG hq'
     rcases HT3.out with⟨h3,hB3⟩|⟨h3,hB3⟩
     ·have H3:=Lib.hid h3
      clear h3
      rcases hA with hA|⟨hA,hA2⟩
      all_goals
       go_wp2
       go_meet
       case rel =>
        refine⟨?_,rfl⟩
        obtain⟨b1,b2,b3,b4,b5⟩:=HB.out
        rw[b4,←amu b1 b2 (by have:=HQ'.out;omega) HG.out.2 (by have:=H3.out;omega)]
     ·have H3:=Lib.hid h3
      clear h3
      rcases hA with hA|⟨hA,hA2⟩
      all_goals
       go_wp2
       go_roundw
       case rel =>
        obtain⟨b1,b2,b3,b4,b5⟩:=HB.out
        refine⟨q',r',rfl,rfl,by rw[b5];exact HG.out.2,by have:=HQ'.out;omega,H3.out,by first|rfl|trivial⟩
       case measure =>
        have h1:=HG.out.1
        have h2:=HQ'.out
        simp[intOf]
        omega
    ·have HR:=Lib.hid hR
     clear hR
     go_wp2
     go_meet
     case rel=>exact⟨by rw[←HR.out],rfl⟩
  case rest =>
   obtain⟨rfl,hw⟩:=hcut
   rw[hw]
   clear hw
   obtain⟨hq1,hYe,hVe,B0,_,_,_,nUY,hYb⟩:=HF2.out
   have hlt2:=Nat.mod_lt (R1*4294967296+v0) (show 0<Y by omega)
   obtain⟨Q2,hQ2⟩:∃q,q=(R1*4294967296+v0)/Y:=⟨_,rfl⟩
   rw[←hQ2]
   obtain⟨R2,hR2⟩:∃q,q=(R1*4294967296+v0) % Y:=⟨_,rfl⟩
   have hd2:=avv (u:=R1) (d:=v0) (y:=Y) (q:=Q2) aPl aPl aPl hQ2
   rw[←hR2]at hd2 hlt2
   have hq2:Q2<4294967296:=by rw[hQ2];exact azv aPl aPl aPl
   obtain⟨A2,hA2⟩:∃z:Int,z=(R1:Int)*4294967296 % 18446744073709551616:=⟨_,rfl⟩
   have a2:IntKind.u64.wrap ((R1:Int)*4294967296)=A2:=by rw[aci,hA2]
   rw[←hA2]at hd2
   obtain⟨B2,hB2⟩:∃z:Int,z=(A2+(v0:Int)) % 18446744073709551616:=⟨_,rfl⟩
   have b2:IntKind.u64.wrap (A2+(v0:Int))=B2:=by rw[aci,hB2]
   rw[←hB2]at hd2
   obtain⟨C2,hC2⟩:∃z:Int,z=(Q2:Int)*(Y:Int) % 18446744073709551616:=⟨_,rfl⟩
   have c2:IntKind.u64.wrap ((Q2:Int)*(Y:Int))=C2:=by rw[aci,hC2]
   rw[←hC2]at hd2
   have d2:IntKind.u64.wrap (B2-C2)=(R2:Int):=by rw[aci,hd2]
   have k1:IntKind.u64.wrap ((Q1:Int)*4294967296)=((Q1*4294967296:Nat):Int):=by rw[IntWalk.u64_in _ aPl];omega
   have k2:IntKind.u64.wrap (((Q1*4294967296:Nat):Int)+(Q2:Int))=((Q1*4294967296+Q2:Nat):Int):=by rw[IntWalk.u64_in _ aPl];omega
   have hfin:Q1*4294967296+Q2=(hi*18446744073709551616+lo)/y∧R2/2 ^ s=(hi*18446744073709551616+lo) % y:=by
    obtain⟨⟨f1,f2⟩,f3,f4⟩:=HH2.out
    rw[f1,f2,f3,f4,←hQ2,←hR2]
    exact⟨rfl,rfl⟩
   obtain⟨N1,hN1⟩:∃z,z=Q1*4294967296:=⟨_,rfl⟩
   obtain⟨N2,hN2⟩:∃z,z=N1+Q2:=⟨_,rfl⟩
   rw[←hN1]at k1 k2 hfin
   rw[←hN2]at k2 hfin
   have HFIN:=Lib.hid hfin
   clear hfin hN1 hN2 hq1 hYe hVe B0 nUY hYb hlt2 hQ2 hR2 hd2 hq2 hA2 hB2 hC2
   go_wp2
   go_ret2
   refine⟨congrArg Ending.returned (congrArg Value.tuple ?_),Fr.refl _ _⟩
   rw[←HFIN.out.1,←HFIN.out.2]
   rfl
theorem aDw(hi lo y:Nat)(hlt:hi<y)(hlo:lo<18446744073709551616)(hy:y<18446744073709551616)(w:World):
  Calls Tryz.prog 202 #[.int .u64 hi,.int .u64 lo,.int .u64 y] w λe w'=>e = .returned (.tuple #[.int .u64 (((hi*18446744073709551616+lo)/y:Nat):Int),.int .u64 (((hi*18446744073709551616+lo) % y:Nat):Int)])∧Fr F0 w w':=by
 by_cases h:hi=0
 ·subst h
  have:=aDv lo y hlt hlo w
  simpa using this
 ·exact ayl hi lo y aPl hlt hlo hy w
theorem apd(x k:Nat)(hx:x<ng)(hk:k<256):aeb x (-(k:Int))=x/2 ^ k:=by
 unfold aeb
 by_cases h:k=0
 ·subst h;simp[Nat.mod_eq_of_lt hx]
 ·rw[if_pos aPl,if_pos aPl,Int.neg_neg,Int.toNat_natCast]
theorem az5(x k:Nat)(hk:k<256):aeb x (k:Int)=x*2 ^ k % ng:=by
 unfold aeb
 rw[if_neg aPl,if_pos aPl,Int.toNat_natCast]
theorem apr{b:Nat}(h:0<b):0<nbits b:=Nat.pos_of_ne_zero λe=>by have:=(uw b 0).1 aPl;omega
theorem aCh{b:Nat}(h:0<b):2 ^ (nbits b-1)≤b:=Nat.le_of_not_lt λhl=>by have:=(uw b (nbits b-1)).2 hl;have:=apr h;omega
theorem axo(b:Nat):b<2 ^ nbits b:=(uw b (nbits b)).1 (Nat.le_refl _)
theorem ax8(a b:Nat)(ha:a<ng)(hb:b<ng)(hb0:0<b)(hab:a<2 ^ 64*b):
  let l:Int:=(nbits b:Int)-64
  2 ^ 63≤aeb b (-l)∧aeb b (-l)<2 ^ 64∧aeb a (-l)<2 ^ 128∧a/b≤aeb a (-l)/aeb b (-l):=by
 intro l
 have hn:=apr hb0
 have hlo:=aCh hb0
 have hhi:=axo b
 have h256:=(uw b 256).2 hb
 by_cases h:64≤nbits b
 ·obtain⟨k,hk⟩:∃k,nbits b=64+k:=⟨nbits b-64,by omega⟩
  have hl:l=(k:Int):=by omega
  rw[hl,apd b k hb aPl,apd a k ha aPl]
  rw[hk]at hlo hhi
  have hp:=Nat.two_pow_pos k
  have e1:(2:Nat) ^ (64+k)=2 ^ 64*2 ^ k:=Nat.pow_add _ _ _
  have e2:(2:Nat) ^ (64+k-1)=2 ^ 63*2 ^ k:=by rw[←Nat.pow_add];congr 1;omega
  have t1:2 ^ 63≤b/2 ^ k:=by rw[Nat.le_div_iff_mul_le hp,←e2];exact hlo
  have t2:b/2 ^ k<2 ^ 64:=by rw[Nat.div_lt_iff_lt_mul hp,←e1];exact hhi
  refine⟨t1,t2,?_,?_⟩
  ·rw[Nat.div_lt_iff_lt_mul hp]
   have:2 ^ 64*b<2 ^ 64*(2 ^ 64*2 ^ k):=by rw[←e1];exact Nat.mul_lt_mul_of_pos_left hhi (Nat.two_pow_pos 64)
   rw[←Nat.mul_assoc]at this
   exact Nat.lt_trans hab this
  ·rw[Nat.le_div_iff_mul_le aPl,Nat.le_div_iff_mul_le hp]
   calc a/b*(b/2 ^ k)*2 ^ k=a/b*(b/2 ^ k*2 ^ k):=Nat.mul_assoc _ _ _
    _≤a/b*b:=Nat.mul_le_mul_left _ (Nat.div_mul_le_self _ _)
    _≤a:=Nat.div_mul_le_self _ _
 ·obtain⟨k,hk⟩:∃k,nbits b+k=64:=⟨64-nbits b,by omega⟩
  have hl : -l=(k:Int):=by omega
  have hp:=Nat.two_pow_pos k
  have e1:(2:Nat) ^ 64=2 ^ nbits b*2 ^ k:=by rw[←Nat.pow_add,hk]
  have e2:(2:Nat) ^ 63=2 ^ (nbits b-1)*2 ^ k:=by rw[←Nat.pow_add];congr 1;omega
  have t2:b*2 ^ k<2 ^ 64:=by rw[e1];exact Nat.mul_lt_mul_of_pos_right hhi hp
  have t3:a*2 ^ k<2 ^ 128:=by
   have h1:a*2 ^ k<2 ^ 64*b*2 ^ k:=Nat.mul_lt_mul_of_pos_right hab hp
   rw[Nat.mul_assoc]at h1
   have h2:2 ^ 64*(b*2 ^ k)≤2 ^ 64*2 ^ 64:=Nat.mul_le_mul_left _ aPl
   exact Nat.lt_of_lt_of_le h1 h2
  have w1:(2:Nat) ^ 64≤ng:=Nat.pow_le_pow_right aPl aPl
  have w2:(2:Nat) ^ 128≤ng:=Nat.pow_le_pow_right aPl aPl
  rw[hl,az5 b k aPl,az5 a k aPl,Nat.mod_eq_of_lt (Nat.lt_of_lt_of_le t2 w1),Nat.mod_eq_of_lt (Nat.lt_of_lt_of_le t3 w2)]
  refine⟨by rw[e2];exact Nat.mul_le_mul_right _ hlo,t2,t3,?_⟩
  rw[Nat.mul_div_mul_right _ _ hp]
  exact Nat.le_refl _
def aN0(a b:Nat)(w:World)(e:Ending)(w':World):Prop:=∃g:Nat,e = .returned (.int .u64 (g:Int))∧a/b≤g∧g<2 ^ 64∧Fr F0 w w'
theorem aHi(x:Nat)(h:x<2 ^ 64):dgt 64 x 0=x:=by
 rw[dgt,Nat.mul_zero,Nat.pow_zero,Nat.div_one,Nat.mod_eq_of_lt h]
theorem aBj(x:Nat)(h:x<2 ^ 128):dgt 64 x 1*2 ^ 64+dgt 64 x 0=x:=by
 have h1:x/2 ^ 64<2 ^ 64:=by rw[Nat.div_lt_iff_lt_mul (Nat.two_pow_pos _)];exact h
 simp only[dgt,Nat.mul_one,Nat.mul_zero,Nat.pow_zero,Nat.div_one]
 rw[Nat.mod_eq_of_lt h1]
 have:=Nat.mod_add_div x (2 ^ 64)
 omega
theorem awt(a b:Nat)(ha:a<ng)(hb:b<ng)(hb0:0<b)(hab:a<2 ^ 64*b)(w:World):
  Calls Tryz.prog 193 #[.agg (gu .u64 64 4 a),.agg (gu .u64 64 4 b)] w (aN0 a b w):=by
 obtain⟨t1,t2,t3,t4⟩:=ax8 a b ha hb hb0 hab
 have h256:=(uw b 256).2 hb
 obtain⟨l,hl⟩:∃l:Int,l=(nbits b:Int)-64:=⟨_,rfl⟩
 rw[←hl]at t1 t2 t3 t4
 have HB:=Lib.hid (ajv b hb)
 have HR1:=Lib.hid (ahy b l hb aPl aPl)
 have HR2:=Lib.hid (ahy a l ha aPl aPl)
 have x1:IntKind.i64.wrap ((nbits b:Int)-64)=l:=by rw[IntWalk.i64_in _ aPl];omega
 have x1':(nbits b:Int)-64=l:=hl.symm
 generalize nbits b=nb at *
 generalize aeb b (-l)=top at *
 generalize aeb a (-l)=part at *
 have d0:dgt 64 top 0=top:=aHi top t2
 have HW:=Lib.hid (aBj part t3)
 have p1:=abq 64 part 1
 have p0:=abq 64 part 0
 obtain⟨ph,hph⟩:∃p,p=dgt 64 part 1:=⟨_,rfl⟩
 obtain⟨pl,hpl⟩:∃p,p=dgt 64 part 0:=⟨_,rfl⟩
 rw[←hph]at p1 HW
 rw[←hpl]at p0 HW
 have d1:dgt 64 part 1=ph:=hph.symm
 have d2:dgt 64 part 0=pl:=hpl.symm
 have HF:=Lib.hid (And.intro t1 (And.intro t2 (And.intro t3 (And.intro t4 (And.intro p1 p0)))))
 have HAB:=Lib.hid hab
 have HB0:=Lib.hid hb0
 clear t1 t2 t3 t4 p1 p0 hph hpl hl h256 ha hb hab hb0 x1'
 go_enter Tryz.func193,Tryz.ntmps193
 go_wp2_with fail
 obtain⟨r0,r1⟩:=heap2 w (.cells (gu .u64 64 4 a) 143) (.cells (gu .u64 64 4 b) 143)
 refine(HB.out _).mono ?_
 rintro e w1 ⟨rfl,f1⟩
 replace r0:=f1.keeps (λf=>f) r0
 replace r1:=f1.keeps (λf=>f) r1
 have F1:Fr F0 w w1:=(((Fr.refl F0 w).alloc _).alloc _).trans' f1
 clear f1
 generalize w.heap.size=g0 at *
 generalize g0+1=g1 at *
 go_wp2_with fail
 refine(HR1.out _).mono ?_
 rintro e w2 ⟨rfl,f2⟩
 replace r0:=f2.keeps (λf=>f) r0
 have F2:Fr F0 w w2:=F1.trans' f2
 clear f2 F1 r1
 go_wp2_with fail
 refine(HR2.out _).mono ?_
 rintro e w3 ⟨rfl,f3⟩
 have F3:Fr F0 w w3:=F2.trans' f3
 clear f3 F2 r0
 by_cases hbig:top≤ph
 ·have hc:decide (top≤ph)=true:=decide_eq_true hbig
  go_wp2_with fail
  go_ret
  obtain⟨t1,t2,t3,t4,p1,p0⟩:=HF.out
  have hq:a/b<2 ^ 64:=by rw[Nat.div_lt_iff_lt_mul HB0.out];exact HAB.out
  refine⟨18446744073709551615,rfl,by omega,by omega,?_⟩
  exact(F3.alloc _).setRow (λh=>by have:=F3.size;omega) _
 ·have hc:decide (top≤ph)=false:=decide_eq_false hbig
  obtain⟨t1,t2,t3,t4,p1,p0⟩:=HF.out
  have HD:=Lib.hid (aDw ph pl top aPl aPl aPl)
  have hpp:(ph*18446744073709551616+pl)/top=part/top:=by rw[←HW.out]
  have hqb:part/top<2 ^ 64:=by
   rw[Nat.div_lt_iff_lt_mul aPl,←HW.out]
   have:(ph+1)*2 ^ 64≤top*2 ^ 64:=Nat.mul_le_mul_right _ aPl
   omega
  rw[hpp]at HD
  generalize (ph*18446744073709551616+pl) % top=rr at *
  generalize part/top=qq at *
  have HQ:=Lib.hid (And.intro t4 hqb)
  clear t1 t2 t3 t4 p1 p0 hpp hqb hbig
  go_wp2_with fail
  refine(HD.out _).mono ?_
  rintro e w4 ⟨rfl,f4⟩
  go_wp2_with fail
  go_ret
  exact⟨qq,rfl,HQ.out.1,HQ.out.2,((F3.alloc _).setRow (λh=>by have:=F3.size;omega) _).trans' f4⟩
theorem ata{P:Program}{fn:Func}{p u:Tmp}{ty:TypeId}(h:fn.results=#[.tmp u,.cell p ty])(tmps:Array Value)(w:World)(g:Nat)(t:TypeId)(cs:Array Value)(fr:Nat×Nat)(d:TypeDesc)
  (hp:tmps.getD p undef = .pointer (some ⟨g,0,none⟩)) (hg:w.heap[g]? = some (.cells cs t fr))
  (hu:P.underlying ty=some d) (hd:(match d with|.struct _|.array _ _=>true|_=>false)=true) (hi:(P.info? ty).map (·.size)=some cs.size) :
  (results fn tmps).run P w = .ok (.tuple #[tmps.getD u undef,.agg cs]) w:=by
 have hp':tmps[p]?.getD undef = .pointer (some ⟨g,0,none⟩):=by simpa using hp
 simp[results,h,hp',asAddr,run_loadVar_row w g t ty cs fr d hg hu hd hi]
theorem aLn{x y:Nat}(h:y<x):sgn x y=1:=by unfold sgn;rw[if_neg aPl,if_pos h]
theorem aLo{x y:Nat}(h:x≤y):sgn x y≤0:=by unfold sgn;split<;>(try split)<;>omega
theorem aqj(a b:Nat)(ha:a<ng)(hb:b<ng)(hb0:0<b)(hab:a<2 ^ 64*b)(w:World):
  Calls Tryz.prog 175 #[.agg (gu .u64 64 4 a),.agg (gu .u64 64 4 b)] w λe w'=>e = .returned (.tuple #[.int .u64 ((a/b:Nat):Int),.agg (gu .u64 64 4 (a % b))])∧Fr F0 w w':=by
 have HG:=Lib.hid (awt a b ha hb hb0 hab)
 have HM:=Lib.hid (λx (hx:x<2 ^ 64) w=>auw b x hb hx w)
 have HC:=Lib.hid (λx (hx:x<ng) w=>afd x a hx ha w)
 have HS:=Lib.hid (λx (hx:x<ng) w=>aFi a x ha hx w)
 have HF:=Lib.hid (And.intro ha (And.intro hb (And.intro hb0 hab)))
 clear ha hb hb0 hab
 go_enter Tryz.func175,Tryz.ntmps175
 go_wp2_with fail
 obtain⟨r0,r1,r2⟩:=am3 w (.cells (gu .u64 64 4 a) 143) (.cells (gu .u64 64 4 b) 143) (.cells (gu .u64 64 4 0) 143)
 refine(HG.out _).mono ?_
 rintro e w1 ⟨g,rfl,hg1,hg2,f1⟩
 replace r0:=f1.keeps (λf=>f) r0
 replace r1:=f1.keeps (λf=>f) r1
 replace r2:=f1.keeps (λf=>f) r2
 have F1:Fr F0 w w1:=((((Fr.refl F0 w).alloc _).alloc _).alloc _).trans' f1
 clear f1
 generalize hn0:w.heap.size=g0 at *
 generalize hn1:g0+1=g1 at *
 generalize hn2:g1+1=g2 at *
 have HG1:=Lib.hid hg1
 have HG2:=Lib.hid hg2
 have HN:=Lib.hid (show w.heap.size=g0∧g0<g1∧g1<g2 by omega)
 clear hg1 hg2 hn0 hn1 hn2
 go_wp2_with fail
 refine(HM.out g HG2.out _).mono ?_
 rintro e w2 ⟨rfl,f2⟩
 replace r0:=f2.keeps (λf=>f) r0
 replace r1:=f2.keeps (λf=>f) r1
 replace r2:=f2.keeps (λf=>f) r2
 have F2:Fr F0 w w2:=F1.trans' f2
 clear f2 F1
 have hs2:g2<w2.heap.size:=(Array.getElem?_eq_some_iff.1 r2).1
 have HS2:=Lib.hid hs2
 clear hs2
 go_wp2_with fail
 obtain⟨W3,hW3⟩:∃W3,W3=(w2.alloc (.cells (gu .u64 64 4 0) 143)).setRow w2.heap.size (gu .u64 64 4 (b*g % ng)):=⟨_,rfl⟩
 refine jo W3 hW3 ?_
 have s0:W3.heap[g0]? = some (.cells (gu .u64 64 4 a) 143 (0,0)):=by
  have:=HS2.out;have:=HN.out
  rw[hW3,iy _ _ _ _ aPl,heap_alloc_old _ _ aPl];exact r0
 have s1:W3.heap[g1]? = some (.cells (gu .u64 64 4 b) 143 (0,0)):=by
  have:=HS2.out;have:=HN.out
  rw[hW3,iy _ _ _ _ aPl,heap_alloc_old _ _ aPl];exact r1
 have s2:W3.heap[g2]? = some (.cells (gu .u64 64 4 0) 143 (0,0)):=by
  have:=HS2.out;have:=HN.out
  rw[hW3,iy _ _ _ _ aPl,heap_alloc_old _ _ aPl];exact r2
 have s3:W3.heap[w2.heap.size]? = some (.cells (gu .u64 64 4 (b*g % ng)) 143 (0,0)):=by
  rw[hW3,jc,heap_alloc_new];rfl
 have F3:Fr F0 w W3:=by rw[hW3];exact(F2.alloc _).setRow (λh=>by have:=F2.size;omega) _
 have hx3:=F2.size
 generalize hn3:w2.heap.size=g3 at *
 have n0:g0≠g3:=by have:=HS2.out;have:=HN.out;omega
 have n1:g1≠g3:=by have:=HS2.out;have:=HN.out;omega
 have n2:g2≠g3:=by have:=HS2.out;have:=HN.out;omega
 have HX:=Lib.hid (show w.heap.size≤g3∧w.heap.size≤g2 by have:=HN.out;omega)
 clear hW3 F2 r0 r1 r2 hx3 hn3
 go_loopw [6,8] (λgv ov wr=>∃g:Nat,gv = .int .u64 (g:Int)∧ov = .bool (decide (ng≤b*g))∧a/b≤g∧g<2 ^ 64∧wr.heap[g0]? = some (.cells (gu .u64 64 4 a) 143 (0,0))∧wr.heap[g1]? = some (.cells (gu .u64 64 4 b) 143 (0,0))∧wr.heap[g2]? = some (.cells (gu .u64 64 4 0) 143 (0,0))∧wr.heap[g3]? = some (.cells (gu .u64 64 4 (b*g % ng)) 143 (0,0))∧Fr F0 w wr) (λgv _ _=>(intOf gv).toNat)
 case atStart=>exact⟨g,rfl,rfl,HG1.out,HG2.out,s0,s1,s2,s3,F3⟩
 case round =>
  clear s0 s1 s2 s3 F3
  obtain⟨g,rfl,rfl,hq,hl,s0,s1,s2,s3,F3⟩:=hrel
  have HQ:=Lib.hid (And.intro hq hl)
  clear hq hl
  have go:∀(wx:World),a<b*g→0<g∧a/b≤g-1∧g-1<2 ^ 64∧IntKind.u64.wrap ((g:Int)-1)=((g-1:Nat):Int):=λwx h=>by
   have hb0:=HF.out.2.2.1
   have hlt:a/b<g:=by rw[Nat.div_lt_iff_lt_mul hb0,Nat.mul_comm];exact h
   have:=HQ.out
   generalize a/b=z at *
   refine⟨by omega,by omega,by omega,?_⟩
   rw[IntWalk.u64_in _ aPl]
   omega
  have GO:=Lib.hid (go W3)
  clear go
  by_cases ho:ng≤b*g
  ·have hov:decide (ng≤b*g)=true:=decide_eq_true ho
   obtain⟨k1,k2,k3,k4⟩:=GO.out (Nat.lt_of_lt_of_le HF.out.1 ho)
   obtain⟨g',hg'⟩:∃q,q=g-1:=⟨_,rfl⟩
   rw[←hg']at k2 k3 k4
   have HK:=Lib.hid (And.intro k1 (And.intro k2 (And.intro k3 hg')))
   rw[hov]
   clear ho hov k1 k2 k3 hg'
   go_wp2_with fail
   refine(HM.out g' HK.out.2.2.1 _).mono ?_
   rintro e w4 ⟨rfl,f4⟩
   replace s0:=f4.keeps (λf=>f) s0
   replace s1:=f4.keeps (λf=>f) s1
   replace s2:=f4.keeps (λf=>f) s2
   replace s3:=f4.keeps (λf=>f) s3
   have F4:Fr F0 w w4:=F3.trans' f4
   clear f4 F3
   go_wp2_with fail
   go_roundw
   case rel =>
    refine⟨g',rfl,rfl,HK.out.2.1,HK.out.2.2.1,?_,?_,?_,?_,F4.setRow (λh=>by have:=HX.out;omega) _⟩
    ·rw[iy _ _ _ _ n0];exact s0
    ·rw[iy _ _ _ _ n1];exact s1
    ·rw[iy _ _ _ _ n2];exact s2
    ·rw[jc,s3];rfl
   case measure =>
    have:=HK.out
    simp[intOf]
    omega
  ·have hov:decide (ng≤b*g)=false:=decide_eq_false ho
   have hbg:b*g<ng:=by omega
   rw[Nat.mod_eq_of_lt hbg]at s3
   have HBG:=Lib.hid hbg
   rw[hov]
   clear ho hov hbg
   go_wp2_with fail
   refine(HC.out (b*g) HBG.out _).mono ?_
   rintro e w4 ⟨rfl,f4⟩
   replace s0:=f4.keeps (λf=>f) s0
   replace s1:=f4.keeps (λf=>f) s1
   replace s2:=f4.keeps (λf=>f) s2
   replace s3:=f4.keeps (λf=>f) s3
   have F4:Fr F0 w w4:=F3.trans' f4
   clear f4 F3
   by_cases hc:a<b*g
   ·obtain⟨k1,k2,k3,k4⟩:=GO.out hc
    obtain⟨g',hg'⟩:∃q,q=g-1:=⟨_,rfl⟩
    rw[←hg']at k2 k3 k4
    have HK:=Lib.hid (And.intro k1 (And.intro k2 (And.intro k3 hg')))
    have hsg:=aLn hc
    clear k1 k2 k3 hg' hc
    go_wp2_with fail
    refine(HM.out g' HK.out.2.2.1 _).mono ?_
    rintro e w5 ⟨rfl,f5⟩
    replace s0:=f5.keeps (λf=>f) s0
    replace s1:=f5.keeps (λf=>f) s1
    replace s2:=f5.keeps (λf=>f) s2
    replace s3:=f5.keeps (λf=>f) s3
    have F5:Fr F0 w w5:=F4.trans' f5
    clear f5 F4
    go_wp2_with fail
    go_roundw
    case rel =>
     refine⟨g',rfl,rfl,HK.out.2.1,HK.out.2.2.1,?_,?_,?_,?_,F5.setRow (λh=>by have:=HX.out;omega) _⟩
     ·rw[iy _ _ _ _ n0];exact s0
     ·rw[iy _ _ _ _ n1];exact s1
     ·rw[iy _ _ _ _ n2];exact s2
     ·rw[jc,s3];rfl
    case measure =>
     have:=HK.out
     simp[intOf]
     omega
   ·have hgq:g=a/b:=by
     have h1:g≤a/b:=by rw[Nat.le_div_iff_mul_le HF.out.2.2.1,Nat.mul_comm];omega
     exact Nat.le_antisymm h1 HQ.out.1
    have hres:(a+ng-b*g) % ng=a % b:=by
     have h1:=Nat.mod_add_div a b
     rw[←hgq]at h1
     have h2:=HF.out.1
     rw[show a+ng-b*g=a % b+ng by omega,Nat.add_mod_right,Nat.mod_eq_of_lt aPl]
    have hsg:=aLo (show b*g≤a by omega)
    have hsg2:decide (0<sgn (b*g) a)=false:=decide_eq_false aPl
    have HR:=Lib.hid hres
    have HGQ:=Lib.hid hgq
    clear hc hgq hres
    go_wp2_with fail
    refine(HS.out (b*g) HBG.out _).mono ?_
    rintro e w5 ⟨rfl,f5⟩
    rw[HR.out]
    replace s2:=f5.keeps (λf=>f) s2
    have F5:Fr F0 w w5:=F4.trans' f5
    have hs5:g2<w5.heap.size:=(Array.getElem?_eq_some_iff.1 s2).1
    have HS5:=Lib.hid hs5
    clear f5 F4 hs5 s0 s1 s3
    go_wp2_with fail
    obtain⟨W7,hW7⟩:∃W7,W7=(w5.alloc (.cells (gu .u64 64 4 0) 143)).setRow w5.heap.size (gu .u64 64 4 (a % b)):=⟨_,rfl⟩
    refine jo W7 hW7 ?_
    have q2:W7.heap[g2]? = some (.cells (gu .u64 64 4 0) 143 (0,0)):=by
     rw[hW7,iy _ _ _ _ (by have:=HS5.out;omega),heap_alloc_old _ _ HS5.out];exact s2
    have q5:W7.heap[w5.heap.size]? = some (.cells (gu .u64 64 4 (a % b)) 143 (0,0)):=by
     rw[hW7,jc,heap_alloc_new];rfl
    have F7:Fr F0 w W7:=by rw[hW7];exact(F5.alloc _).setRow (λh=>by have:=F5.size;omega) _
    have n5:w5.heap.size≠g2:=by have:=HS5.out;omega
    generalize w5.heap.size=g5 at *
    clear hW7 F5 s2
    refine jm (S:=(λw'=>w'.heap[g5]? = some (.cells (gu .u64 64 4 (a % b)) 143 (0,0)))) ?_ λak=>?_
    ·exact(by((try dsimp only)<;>(exact q5)))
    refine aj 0 ?_
    refine aj 1 ?_
    refine aj 2 ?_
    refine jf 3 λK hK=>?_
    go_simp
    refine rpu hK (by((try dsimp only)<;>(first|exact q5|(rw[iy _ _ _ _ (by assumption)];exact q5)))) λak=>?_
    clear hK K
    refine jg ?_
    all_goals
     go_wp2_with fail
     refine bodyPost_ret (ata rfl _ _ g2 _ _ (0,0) _ rfl (by rw[jc,show(World.drew W7).heap=W7.heap from rfl,q2];rfl) Tryz.underlying143 rfl zz75) rfl ⟨?_,?_⟩
     ·rw[←HGQ.out];rfl
     ·exact(Fr.drew F7).setRow (λh=>by have:=HX.out;omega) _
end Go.Proofs.YtjlelckefiannaaGreatDoor
namespace Go.Proofs.YtjlelckefiannaaGreatDoor
set_option linter.unusedVariables false
set_option linter.unusedSimpArgs false
open Go.RowKit Go.Shelf
attribute [local go_sem] Oper.semAt_some
theorem aws(a i:Nat):a/2 ^ (64*i)=a/2 ^ (64*(i+1))*2 ^ 64+dgt 64 a i:=by
 have h2:=Nat.mod_add_div (a/2 ^ (64*i)) (2 ^ 64)
 rw[Nat.div_div_eq_div_mul,show 2 ^ (64*i)*2 ^ 64=2 ^ (64*(i+1)) by rw[←Nat.pow_add];congr 1]at h2
 rw[dgt]
 omega
theorem aC8(A d b:Nat)(hb:0<b):(A*2 ^ 64+d)/b=A/b*2 ^ 64+(A % b*2 ^ 64+d)/b∧(A*2 ^ 64+d) % b=(A % b*2 ^ 64+d) % b:=by
 have h:=Nat.mod_add_div A b
 have e:A*2 ^ 64+d=(A % b*2 ^ 64+d)+b*(A/b*2 ^ 64):=by
  rw[←Nat.mul_assoc]
  generalize b*(A/b)=z at *
  omega
 rw[e,Nat.add_mul_div_left _ _ hb,Nat.add_mul_mod_self_left]
 exact⟨Nat.add_comm _ _,rfl⟩
theorem an4(q v i:Nat):ala 64 (q*2 ^ (64*(i+1))) i v=(q*2 ^ 64+v)*2 ^ (64*i):=by
 have e:2 ^ (64*(i+1))=2 ^ 64*2 ^ (64*i):=by rw[←Nat.pow_add];congr 1;omega
 rw[ala,Nat.mul_div_cancel _ (Nat.two_pow_pos _)]
 conv=>lhs;rw[e]
 rw[←Nat.mul_assoc,Nat.mul_mod_left,Nat.zero_add,Nat.mul_comm,Nat.add_comm v,Nat.mul_comm (2 ^ 64) q]
theorem axi(z v:Nat):ala 64 (z*2 ^ 64) 0 v=z*2 ^ 64+v:=by
 have:=an4 z v 0
 simpa using this
theorem ak3{P:Program}{fn:Func}{p q u:Tmp}{ty:TypeId}(h:fn.results=#[.cell p ty,.cell q ty,.tmp u])(tmps:Array Value)(w:World)(g g':Nat)(t t':TypeId)(cs cs':Array Value)(fr fr':Nat×Nat)(d:TypeDesc)
  (hp:tmps.getD p undef = .pointer (some ⟨g,0,none⟩)) (hq:tmps.getD q undef = .pointer (some ⟨g',0,none⟩)) (hg:w.heap[g]? = some (.cells cs t fr)) (hg':w.heap[g']? = some (.cells cs' t' fr'))
  (hu:P.underlying ty=some d) (hd:(match d with|.struct _|.array _ _=>true|_=>false)=true) (hi:(P.info? ty).map (·.size)=some cs.size) (hi':(P.info? ty).map (·.size)=some cs'.size) :
  (results fn tmps).run P w = .ok (.tuple #[.agg cs,.agg cs',tmps.getD u undef]) w:=by
 have hp':tmps[p]?.getD undef = .pointer (some ⟨g,0,none⟩):=by simpa using hp
 have hq':tmps[q]?.getD undef = .pointer (some ⟨g',0,none⟩):=by simpa using hq
 simp[results,h,hp',hq',asAddr,run_loadVar_row w g t ty cs fr d hg hu hd hi,run_loadVar_row w g' t' ty cs' fr' d hg' hu hd hi']
theorem Fr.aex{W W':World}(h:Fr F0 W W')(B:Nat):KeepsFrom B W W' :=
 ⟨h.size,λk o _ hk _=>h.keeps (λf=>f) hk⟩
theorem below_setRow{n g:Nat}(W:World)(c:Array Value)(h:n≤g):Below n W (W.setRow g c):=⟨rfl,rfl,rfl,by simp,λk hk=>setRow_other W g k c aPl⟩
theorem KeepsFrom.aAe(B:Nat)(W:World)(g:Nat)(c cs:Array Value)(t:TypeId)(f:Nat×Nat)(hg:W.heap[g]? = some (.cells c t f)):KeepsFrom B W (W.setRow g cs) :=
 ⟨by simp,λk o _ hk ho=>by
  by_cases e:k=g
  ·subst e
   rw[hg]at hk
   cases hk
   cases ho
  ·rw[setRow_other W g k cs e];exact hk⟩
theorem anq(a b:Nat)(ha:a<ng)(hb:b<ng)(hb0:0<b)(w:World):
  Calls Tryz.prog 147 #[.agg (gu .u64 64 4 a),.agg (gu .u64 64 4 b)] w λe w'=>e = .returned (.tuple #[.agg (gu .u64 64 4 (a/b)),.agg (gu .u64 64 4 (a % b)),.int .i64 0])∧Fr F0 w w':=by
 have hE:adq 256 b 0=false:=by
  rw[anz b 0 hb aam]
  exact decide_eq_false aPl
 have HA:=Lib.hid (And.intro ha (And.intro hb hb0))
 have HL:=Lib.hid (λr (hr:r<ng) w=>show Calls Tryz.prog 171 #[.agg (gu .u64 64 4 r),.int .u64 64] w _ from apb r 64 hr aPl w)
 have HD:=Lib.hid (λx (hx:x<ng) (h:x<2 ^ 64*b) w=>aqj x b hx hb hb0 h w)
 have ha4:a/2 ^ (64*4)=0:=Nat.div_eq_of_lt ha
 have HA4:=Lib.hid ha4
 clear ha hb hb0 ha4
 refine callsIn_wide (n:=6) |>.1 ?_
 refine callsIn_of_wp_marks Tryz.func147 rfl trivial ?_ rfl
 simp only[Tryz.ntmps147,List.size_toArray,List.length_cons,List.length_nil,Nat.reduceAdd,Nat.reduceSub,Array.replicate_succ,Array.replicate_zero,List.push_toArray,List.append_toArray,List.nil_append,List.cons_append]
 gi_wp2_with (refine⟨trivial,?_⟩;gi_at_call 172;refine(ajc _ _ trivial rfl _ _ _ _).mono ?_;rintro e w4 ⟨rfl,rfl⟩)
 obtain⟨W1,hW1⟩:∃W1,W1 = [Obj.cells (gu .u64 64 4 a) 143,.cells (gu .u64 64 4 b) 143,.cells (gu .u64 64 4 0) 143,.cells (gu .u64 64 4 0) 143,.cells (gu .u64 64 4 0) 143,.cells (gu .u64 64 4 0) 143,.cells #[.slice (some ⟨w.heap.size,0,none⟩) 4 4] 251].foldl World.alloc w:=⟨_,rfl⟩
 refine ad6 W1 hW1 ?_
 have f1:Fr F0 w W1:=by rw[hW1];exact(Fr.refl F0 w).allocs _
 have hs1:=asy [Obj.cells (gu .u64 64 4 a) 143,.cells (gu .u64 64 4 b) 143,.cells (gu .u64 64 4 0) 143,.cells (gu .u64 64 4 0) 143,.cells (gu .u64 64 4 0) 143,.cells (gu .u64 64 4 0) 143,.cells #[.slice (some ⟨w.heap.size,0,none⟩) 4 4] 251] w
 have hr:=ato [Obj.cells (gu .u64 64 4 a) 143,.cells (gu .u64 64 4 b) 143,.cells (gu .u64 64 4 0) 143,.cells (gu .u64 64 4 0) 143,.cells (gu .u64 64 4 0) 143,.cells (gu .u64 64 4 0) 143,.cells #[.slice (some ⟨w.heap.size,0,none⟩) 4 4] 251] w
 rw[←hW1]at hs1 hr
 clear hW1
 have r0:=hr 0 (by simp)
 have r1:=hr 1 (by simp)
 have r2:=hr 2 (by simp)
 have r3:=hr 3 (by simp)
 have r4:=hr 4 (by simp)
 have r5:=hr 5 (by simp)
 have r6:=hr 6 (by simp)
 replace r0:W1.heap[w.heap.size]? = some (.cells (gu .u64 64 4 a) 143 (0,0)):=r0
 replace r1:W1.heap[w.heap.size+1]? = some (.cells (gu .u64 64 4 b) 143 (0,0)):=r1
 replace r2:W1.heap[w.heap.size+1+1]? = some (.cells (gu .u64 64 4 0) 143 (0,0)):=r2
 replace r3:W1.heap[w.heap.size+1+1+1]? = some (.cells (gu .u64 64 4 0) 143 (0,0)):=r3
 replace r4:W1.heap[w.heap.size+1+1+1+1]? = some (.cells (gu .u64 64 4 0) 143 (0,0)):=r4
 replace r5:W1.heap[w.heap.size+1+1+1+1+1]? = some (.cells (gu .u64 64 4 0) 143 (0,0)):=r5
 replace r6:W1.heap[w.heap.size+1+1+1+1+1+1]? = some (.cells #[.slice (some ⟨w.heap.size,0,none⟩) 4 4] 251 (0,0)):=r6
 clear hr
 generalize hn0:w.heap.size=g0 at *
 generalize hn1:g0+1=g1 at *
 generalize hn2:g1+1=g2 at *
 generalize hn3:g2+1=g3 at *
 generalize hn4:g3+1=g4 at *
 generalize hn5:g4+1=g5 at *
 generalize hn6:g5+1=g6 at *
 have HN:=Lib.hid (show w.heap.size=g0∧g0≤g4∧g0≤g5∧g0≤W1.heap.size∧g0≤g2∧g0≤g3 by simp at hs1;omega)
 have m4:g0≠g4∧g1≠g4∧g2≠g4∧g3≠g4∧g5≠g4∧g6≠g4∧g4≠g5:=by omega
 have m5:g0≠g5∧g1≠g5∧g2≠g5∧g3≠g5∧g6≠g5∧g2≠g3∧g3≠g2∧g4≠g2∧g5≠g2∧g4≠g3∧g5≠g3:=by omega
 obtain⟨a04,a14,a24,a34,a54,a64,a45⟩:=m4
 obtain⟨a05,a15,a25,a35,a65,a23,a32,a42,a52,a43,a53⟩:=m5
 clear hn0 hn1 hn2 hn3 hn4 hn5 hn6 hs1
 refine ahc rfl aPl (gf:=191) (lb:=#[.pointer (some ⟨g6,0,none⟩)]) rfl trivial (enters_of Tryz.func191 (by kernel_rfl) rfl)
  (aft Fence.wide 5 trivial rfl aPl (λpre=>dgt 64 a (3-pre.length)) 4 g6 g0 0 4 aPl) (λ_=>rfl)
  (λpre W=>((W.heap[g0]? = some (.cells (gu .u64 64 4 a) 143 (0,0))∧W.heap[g1]? = some (.cells (gu .u64 64 4 b) 143 (0,0)))∧(W.heap[g2]? = some (.cells (gu .u64 64 4 0) 143 (0,0))∧W.heap[g3]? = some (.cells (gu .u64 64 4 0) 143 (0,0)))∧(W.heap[g4]? = some (.cells (gu .u64 64 4 (a/2 ^ (64*(4-pre.length))/b*2 ^ (64*(4-pre.length)))) 143 (0,0))∧W.heap[g5]? = some (.cells (gu .u64 64 4 (a/2 ^ (64*(4-pre.length)) % b)) 143 (0,0))∧W.heap[g6]? = some (.cells #[.slice (some ⟨g0,0,none⟩) 4 4] 251 (0,0))))∧(pre.length≤4)∧Below g0 W1 W)
  (λc _ W=>False)
  (OwnFrom.and (OwnFrom.and (OwnFrom.and (og _ _ _ _ _) (og _ _ _ _ _)) (OwnFrom.and (OwnFrom.and (og _ _ _ _ _) (og _ _ _ _ _)) (OwnFrom.and (og _ _ (λpre:List (Nat×Nat)=>gu .u64 64 4 (a/2 ^ (64*(4-pre.length))/b*2 ^ (64*(4-pre.length)))) _ _) (OwnFrom.and (og _ _ (λpre:List (Nat×Nat)=>gu .u64 64 4 (a/2 ^ (64*(4-pre.length)) % b)) _ _) (og _ _ _ _ _))))) (OwnFrom.and (yx _ _) (own_below _ _ _ (Nat.le_refl _) HN.out.2.2.2.1)))
  (λc=>yx _ _)
  ?sees ⟨⟨⟨r0,r1⟩,⟨r2,r3⟩,by rw[show 4-([]:List (Nat×Nat)).length=4 from rfl,HA4.out,Nat.zero_div,Nat.zero_mul];exact r4,by rw[show 4-([]:List (Nat×Nat)).length=4 from rfl,HA4.out,Nat.zero_mod];exact r5,r6⟩,by simp,Below.refl _ _⟩
  (λx => { tmps:=#[.agg (gu .u64 64 4 a),.agg (gu .u64 64 4 b),.pointer (some ⟨g0,0,none⟩),.pointer (some ⟨g1,0,none⟩),.pointer (some ⟨g2,0,none⟩),.pointer (some ⟨g3,0,none⟩),.int .i64 0,.pointer (some ⟨g4,0,none⟩),.pointer (some ⟨g5,0,none⟩),.int .i64 (x.1:Int),.int .u64 (x.2:Int),.agg (gu .u64 64 4 b),.agg (gu .u64 64 4 0),.bool false,undef,undef,.slice (some ⟨g0,0,none⟩) 4 4,.func (.func 191) #[] #[.pointer (some ⟨g6,0,none⟩)],.int .i64 (x.1:Int),.int .u64 (x.2:Int),undef,undef,undef,undef,undef,undef,undef,undef,undef,undef,undef,undef,undef,undef],defers := [] }) ?assign ?body ?done ?stop
 case sees =>
  rintro pre W ⟨⟨⟨q0,q1⟩,_,q4,q5,q6⟩,hl4,_⟩
  refine⟨by rw[jq,q6];rfl,λhl=>?_⟩
  rw[jq,q0,mg,Nat.zero_add]
  exact aaj _ _ _ _ _ aPl
 case assign =>
  intro l x W K hK
  gi_wp2
  exact hK
 case body =>
  rintro l pre x W ⟨⟨⟨q0,q1⟩,⟨q2,q3⟩,q4,q5,q6⟩,hl4,hB⟩ ⟨hlen,rfl,_⟩
  obtain⟨k,hk⟩:∃k,k=pre.length:=⟨_,rfl⟩
  obtain⟨i,hi⟩:∃i,i=3-k:=⟨_,rfl⟩
  have hi4:i<4:=by omega
  have li:(i:Int)<4:=by omega
  dsimp only
  rw[show 4-1-pre.length=i by omega]
  rw[show 4-pre.length=i+1 by omega]at q4 q5
  have HI:=Lib.hid (show(pre ++ [(i,dgt 64 a i)]).length=k+1∧4-(k+1)=i∧k+1≤4 by simp;omega)
  have hws:=aws a i
  have hd:=abq 64 a i
  have hAb:a/2 ^ (64*(i+1))<2 ^ 192:=by
   rw[Nat.div_lt_iff_lt_mul (Nat.two_pow_pos _)]
   refine Nat.lt_of_lt_of_le HA.out.1 ?_
   rw[abk,←Nat.pow_add]
   exact Nat.pow_le_pow_right aPl aPl
  obtain⟨A,hA⟩:∃A,A=a/2 ^ (64*(i+1)):=⟨_,rfl⟩
  rw[←hA]at q4 q5 hws hAb
  obtain⟨rr,hrr⟩:∃r,r=A % b:=⟨_,rfl⟩
  rw[←hrr]at q5
  have hrb:rr<b:=by rw[hrr];exact Nat.mod_lt _ HA.out.2.2
  have hrA:rr<2 ^ 192:=by rw[hrr];exact Nat.lt_of_le_of_lt (Nat.mod_le _ _) hAb
  have e256:(2:Nat) ^ 192*2 ^ 64=ng:=by rw[←Nat.pow_add];rfl
  have hr2:rr*2 ^ 64+2 ^ 64≤ng:=by
   have:(rr+1)*2 ^ 64≤2 ^ 192*2 ^ 64:=Nat.mul_le_mul_right _ hrA
   rw[e256,Nat.add_mul]at this
   omega
  have hr3:rr*2 ^ 64+2 ^ 64≤2 ^ 64*b:=by
   have:(rr+1)*2 ^ 64≤b*2 ^ 64:=Nat.mul_le_mul_right _ hrb
   rw[Nat.add_mul,Nat.mul_comm b]at this
   omega
  have dv:=aC8 A (dgt 64 a i) b HA.out.2.2
  rw[←hrr,←hws]at dv
  obtain⟨d,hdd⟩:∃d,d=dgt 64 a i:=⟨_,rfl⟩
  rw[←hdd]at hd dv HI ⊢
  obtain⟨x,hx⟩:∃x,x=rr*2 ^ 64+d:=⟨_,rfl⟩
  rw[←hx]at dv
  have hxq:x/b<2 ^ 64:=by rw[Nat.div_lt_iff_lt_mul HA.out.2.2];omega
  have HX:=Lib.hid (show rr<ng∧x<ng∧x<2 ^ 64*b∧rr*2 ^ 64 % ng=rr*2 ^ 64 from⟨by omega,by omega,by omega,Nat.mod_eq_of_lt aPl⟩)
  have HDV:=Lib.hid dv
  have HPX:=Lib.hid hx
  clear hws hAb hrb hrA e256 hr2 hr3 dv hx hl4 hlen hi hk hA hrr hdd
  gi_wp2_with (refine⟨trivial,?_⟩;gi_at_call 171;refine(CallsIn.inRound l (callsIn_wide.2 (HL.out rr HX.out.1 _))).mono ?_;rintro e w4 ⟨rfl,f4⟩;rw[HX.out.2.2.2];replace q0:=f4.keeps (λf=>f) q0;replace q1:=f4.keeps (λf=>f) q1;replace q2:=f4.keeps (λf=>f) q2;replace q3:=f4.keeps (λf=>f) q3;replace q4:=f4.keeps (λf=>f) q4;replace q5:=f4.keeps (λf=>f) q5;replace q6:=f4.keeps (λf=>f) q6;have H4:=Lib.hid f4;clear f4)
  refine⟨trivial,?_⟩
  have hpx:ala 64 (rr*18446744073709551616) 0 d=x:=by rw[HPX.out];exact axi rr d
  rw[hpx]
  obtain⟨W5,hW5⟩:∃W5,W5=((w4.setRow g5 (gu .u64 64 4 (rr*18446744073709551616))).setCell ⟨g5,0,none⟩ (.int .u64 (d:Int))):=⟨_,rfl⟩
  rw[←hW5]
  have k5:W5.heap[g5]? = some (.cells (gu .u64 64 4 x) 143 (0,0)):=by
   rw[hW5,gq,jc,q5,ad7,jr,acj _ _ _ hd,hpx]
  have ko:∀g,g≠g5→W5.heap[g]? = w4.heap[g]? := λg hg=>by rw[hW5,dn _ _ _ _ _ hg,iy _ _ _ _ hg]
  have b4:Below g0 W1 w4:=hB.trans (H4.out.below (Nat.le_trans HN.out.2.2.2.1 hB.size) λ_ _ f=>f)
  have b5:Below g0 W1 W5:=by
   rw[hW5]
   exact(b4.trans (below_setRow _ _ HN.out.2.2.1)).setCell (p:=⟨g5,0,none⟩) HN.out.2.2.1 _
  have kf5:KeepsFrom W1.heap.size W W5:=by
   rw[hW5]
   exact((H4.out.aex _).trans (KeepsFrom.aAe _ _ _ _ _ _ _ q5)).trans ((KeepsOthers.setCell _ _ _).from _)
  replace q0:=(ko g0 a05).trans q0
  replace q1:=(ko g1 a15).trans q1
  replace q2:=(ko g2 a25).trans q2
  replace q3:=(ko g3 a35).trans q3
  replace q4:=(ko g4 a45).trans q4
  replace q6:=(ko g6 a65).trans q6
  have HBB:=Lib.hid (And.intro b5 kf5)
  clear hW5 ko q5 b4 b5 kf5 hpx hB
  refine(CallsIn.inRound l (callsIn_wide.2 (HD.out x HX.out.2.1 HX.out.2.2.1 W5))).mono ?_
  rintro e w6 ⟨rfl,f6⟩
  replace q0:=f6.keeps (λf=>f) q0
  replace q1:=f6.keeps (λf=>f) q1
  replace q2:=f6.keeps (λf=>f) q2
  replace q3:=f6.keeps (λf=>f) q3
  replace q4:=f6.keeps (λf=>f) q4
  replace k5:=f6.keeps (λf=>f) k5
  replace q6:=f6.keeps (λf=>f) q6
  have H6:=Lib.hid f6
  clear f6
  gi_wp2
  have b6:Below g0 W1 w6:=HBB.out.1.trans (H6.out.below (Nat.le_trans HN.out.2.2.2.1 HBB.out.1.size) λ_ _ f=>f)
  have b7:=b6.setCell (p:=⟨g4,i,none⟩) HN.out.2.1 (.int .u64 ((x/b:Nat):Int))
  have kf6:=(HBB.out.2.trans (H6.out.aex _)).trans ((KeepsOthers.setCell w6 ⟨g4,i,none⟩ (.int .u64 ((x/b:Nat):Int))).from W1.heap.size)
  have k5':(w6.setCell ⟨g4,i,none⟩ (.int .u64 ((x/b:Nat):Int))).heap[g5]? = some (.cells (gu .u64 64 4 x) 143 (0,0)):=by
   rw[dn _ _ _ _ _ a54];exact k5
  refine⟨kf6.trans (KeepsFrom.aAe _ _ _ _ _ _ _ k5'),trivial,⟨⟨?_,?_⟩,⟨?_,?_⟩,?_,?_,?_⟩,?_,?_⟩
  ·rw[iy _ _ _ _ a05,dn _ _ _ _ _ a04];exact q0
  ·rw[iy _ _ _ _ a15,dn _ _ _ _ _ a14];exact q1
  ·rw[iy _ _ _ _ a25,dn _ _ _ _ _ a24];exact q2
  ·rw[iy _ _ _ _ a35,dn _ _ _ _ _ a34];exact q3
  ·rw[iy _ _ _ _ a45,gq,q4,jr,HI.out.1,HI.out.2.1,HDV.out.1]
   first|rw[acj _ _ _ hxq,an4]|(rw[←an4,←acj _ _ _ hxq];rfl)
  ·rw[HI.out.1,HI.out.2.1,HDV.out.2,jc,dn _ _ _ _ _ a54,k5];rfl
  ·rw[iy _ _ _ _ a65,dn _ _ _ _ _ a64];exact q6
  ·rw[HI.out.1];exact HI.out.2.2
  ·exact b7.trans (below_setRow _ _ HN.out.2.2.1)
 case done =>
  rintro D ys W hD rfl ⟨⟨⟨q0,q1⟩,⟨q2,q3⟩,q4,q5,q6⟩,hl4,hB⟩ hK
  rw[aa2,Nat.sub_self,Nat.mul_zero,Nat.pow_zero,Nat.div_one,Nat.mul_one]at q4
  rw[aa2,Nat.sub_self,Nat.mul_zero,Nat.pow_zero,Nat.div_one]at q5
  clear q0 q1 q6 hl4
  gi_wp2
  refine wpIn_wide.2 ?_
  refine jm (S:=(λw'=>w'.heap[g4]? = some (.cells (gu .u64 64 4 (a/b)) 143 (0,0))∧w'.heap[g5]? = some (.cells (gu .u64 64 4 (a % b)) 143 (0,0)))) ?_ λak=>?_
  ·exact(by((try dsimp only)<;>(exact⟨q4,q5⟩)))
  refine aj 0 ?_
  refine aj 1 ?_
  refine jf 2 λK hK=>?_
  go_simp
  refine rpu hK (by((try dsimp only)<;>(first|exact⟨q4,q5⟩|(refine⟨?_,?_⟩<;>(repeat rw[iy _ _ _ _ (by assumption)])<;>assumption)))) λak=>?_
  clear hK K
  refine jf 3 λK hK=>?_
  go_simp
  refine rpu hK (by((try dsimp only)<;>(first|exact⟨q4,q5⟩|(refine⟨?_,?_⟩<;>(repeat rw[iy _ _ _ _ (by assumption)])<;>assumption)))) λak=>?_
  clear hK K
  refine aj 4 ?_
  refine jg ?_
  all_goals
   generalize hW9:World.setRow (World.setRow _ _ _) _ _=W9
   have c2:W9.heap[g2]? = some (.cells (gu .u64 64 4 (a/b)) 143 (0,0)):=by
    rw[←hW9]
    first
     |(rw[iy _ _ _ _ a23,jc,show W.drew.heap=W.heap from rfl,q2];rfl)
     |(rw[jc,iy _ _ _ _ a23,show W.drew.heap=W.heap from rfl,q2];rfl)
   have c3:W9.heap[g3]? = some (.cells (gu .u64 64 4 (a % b)) 143 (0,0)):=by
    rw[←hW9]
    first
     |(rw[iy _ _ _ _ a32,jc,show W.drew.heap=W.heap from rfl,q3];rfl)
     |(rw[jc,iy _ _ _ _ a32,show W.drew.heap=W.heap from rfl,q3];rfl)
   have hD2:D≠g2:=λe=>by subst e;rw[q2]at hK;cases hK
   have hD3:D≠g3:=λe=>by subst e;rw[q3]at hK;cases hK
   have hK':W9.heap[D]? = some (.deferred (some [])):=by
    rw[←hW9]
    first
     |(rw[iy _ _ _ _ hD2,iy _ _ _ _ hD3];exact hK)
     |(rw[iy _ _ _ _ hD3,iy _ _ _ _ hD2];exact hK)
   have b9:Below g0 W1 W9:=by
    rw[←hW9]
    exact((hB.drew).trans (below_setRow _ _ aOi)).trans (below_setRow _ _ aOi)
   clear hW9
   have b10:=b9.trans (belowK_b (w:=W1) HN.out.2.2.2.1 W9 D _ (.deferred none) hD hK' rfl rfl)
   have e2:(W9.putObj D (.deferred none)).heap[g2]? = some (.cells (gu .u64 64 4 (a/b)) 143 (0,0)):=(World.putObj_heap_other (λe=>hD2 e.symm)).trans c2
   have e3:(W9.putObj D (.deferred none)).heap[g3]? = some (.cells (gu .u64 64 4 (a % b)) 143 (0,0)):=(World.putObj_heap_other (λe=>hD3 e.symm)).trans c3
   gi_wp2
   refine⟨by simp,.inl ⟨_,_,rfl,run_takeDeferred hK',?_⟩⟩
   exact⟨_,ak3 rfl _ _ g2 g3 _ _ _ _ (0,0) (0,0) _ rfl rfl e2 e3 Tryz.underlying143 rfl zz75 zz75,rfl,f1.trans (Fr.uz b10) λi hi hk=>by have:=HN.out;omega⟩
 case stop =>
  rintro D c pre W hD h hK
  exact h.elim
end Go.Proofs.YtjlelckefiannaaGreatDoor
namespace Go.Proofs.YtjlelckefiannaaGreatDoor
set_option linter.unusedVariables false
set_option linter.unusedSimpArgs false
open Go.RowKit
theorem aRp(a:Nat)(ha:a<ng):adq 256 a (dgt 64 a 0)=decide (a<18446744073709551616):=by
 have h0:dgt 64 a 0=a % 18446744073709551616:=by unfold dgt;rw[Nat.mul_zero,Nat.pow_zero,Nat.div_one]
 have hl:dgt 64 a 0<ng:=Nat.lt_of_le_of_lt (by rw[h0];exact Nat.mod_le _ _) ha
 rw[anz a _ ha hl,h0]
 by_cases h:a<18446744073709551616
 ·rw[decide_eq_true h,decide_eq_true (Nat.mod_eq_of_lt h).symm]
 ·rw[decide_eq_false h,decide_eq_false]
  intro e
  have:=Nat.mod_lt a (show 0<18446744073709551616 by omega)
  omega
theorem awu(a d u:Nat)(o:Bool)(hE:adq 256 a d=o)(hd:dgt 64 a 0=d)(hu:u=if o then d else 0)(w:World):
  Calls Tryz.prog 198 #[.agg (gu .u64 64 4 a)] w λe w'=>e = .returned (.tuple #[.int .u64 (u:Int),.bool o])∧Fr F0 w w':=by
 have HO:=Lib.hid (λw=>show Calls Tryz.prog 137 #[.int .u64 (dgt 64 a 0:Nat)] w _ from ajl (dgt 64 a 0) (abq _ _ _) w)
 rw[hd]at HO
 have HU:=Lib.hid hu
 clear hu
 go_enter Tryz.func198,Tryz.ntmps198
 go_wp2_with fail
 have r0:=heap_alloc_new w (.cells (gu .u64 64 4 a) 143)
 have F:=(Fr.refl F0 w).alloc (.cells (gu .u64 64 4 a) 143)
 obtain⟨W1,hW1⟩:∃W1,W1=w.alloc (.cells (gu .u64 64 4 a) 143):=⟨_,rfl⟩
 rw[←hW1]at r0 F
 refine jo W1 hW1 ?_
 clear hW1
 generalize w.heap.size=g0 at *
 refine jm (S:=(λw'=>w'.heap[g0]? = some (.cells (gu .u64 64 4 a) 143 (0,0))∧Fr F0 w w')) ?_ λak=>?_
 ·exact(by((try dsimp only)<;>(exact⟨r0,F.drew⟩)))
 refine aj 0 ?_
 refine aj 1 ?_
 refine aj 2 ?_
 refine jf 3 λK hK=>?_
 go_simp
 ((with_reducible refine(HO.out _).mono ?_);rintro e w5 ⟨rfl,f5⟩)
 refine rpu hK (by((try dsimp only)<;>(exact⟨au f5 ak.1,ak.2.trans' f5⟩))) λak=>?_
 clear hK K
 refine aj 4 ?_
 refine jg ?_
 all_goals
  clear r0 F
  obtain⟨r0,F⟩:=ak
  cases o
  ·go_wp2
   go_ret2
   exact⟨by rw[HU.out];rfl,F⟩
  ·go_wp2
   go_ret2
   exact⟨by rw[HU.out];rfl,F⟩
theorem apc(a:Nat)(ha:a<ng)(w:World):
  Calls Tryz.prog 198 #[.agg (gu .u64 64 4 a)] w λe w'=>e = .returned (.tuple #[.int .u64 ((if a<18446744073709551616 then a else 0:Nat):Int),.bool (decide (a<18446744073709551616))])∧Fr F0 w w':=by
 refine awu a (dgt 64 a 0) _ _ (aRp a ha) rfl ?_ w
 have h0:dgt 64 a 0=a % 18446744073709551616:=by unfold dgt;rw[Nat.mul_zero,Nat.pow_zero,Nat.div_one]
 by_cases h:a<18446744073709551616
 ·rw[decide_eq_true h,if_pos h,if_pos rfl,h0,Nat.mod_eq_of_lt h]
 ·rw[decide_eq_false h,if_neg h];rfl
theorem abl(x:Nat)(o:Bool)(ho:decide (x≤4611686018427387904)=o)(w:World):
  Calls Tryz.prog 118 #[.int .u64 (x:Int)] w λe w'=>e = .returned (.bool o)∧w'=w:=by
 cases o
 ·have l1:¬(x:Int)≤4611686018427387904:=by have:=of_decide_eq_false ho;omega
  clear ho
  go_enter Tryz.func118,Tryz.ntmps118
  go_wp2
  go_ret
  exact⟨rfl,rfl⟩
 ·have l1:(x:Int)≤4611686018427387904:=by have:=of_decide_eq_true ho;omega
  clear ho
  go_enter Tryz.func118,Tryz.ntmps118
  go_wp2
  go_ret
  exact⟨rfl,rfl⟩
def adV(a b:Nat):Nat:=if a≤4611686018427387904∧b≤4611686018427387904∧a+b≤4611686018427387904 then a+b else 0
def adE(a b:Nat):Int:=if a≤4611686018427387904∧b≤4611686018427387904 then(if a+b≤4611686018427387904 then 0 else 4)else 1
theorem aH9(a b:Nat)(ha:a<18446744073709551616)(hb:b<18446744073709551616)(w:World):
  Calls Tryz.prog 165 #[.int .u64 (a:Int),.int .u64 (b:Int)] w λe w'=>e = .returned (.tuple #[.int .u64 (adV a b:Nat),.int .i64 (adE a b)])∧Fr F0 w w':=by
 by_cases h1:a≤4611686018427387904
 ·have HA:=Lib.hid (abl a true (decide_eq_true h1))
  by_cases h2:b≤4611686018427387904
  ·have HB:=Lib.hid (abl b true (decide_eq_true h2))
   have hw:IntKind.u64.wrap ((a:Int)+(b:Int))=((a+b:Nat):Int):=by rw[IntWalk.u64_in _ aPl];omega
   by_cases h3:a+b≤4611686018427387904
   ·have ev:adV a b=a+b:=if_pos ⟨h1,h2,h3⟩
    have ee:adE a b=0:=by unfold adE;rw[if_pos ⟨h1,h2⟩,if_pos h3]
    rw[ev,ee]
    have HC:=Lib.hid (abl (a+b) true (decide_eq_true h3))
    generalize a+b=s at *
    clear ev ee h1 h2 h3 ha hb
    go_enter Tryz.func165,Tryz.ntmps165
    go_wp2_with fail
    (with_reducible refine(HA.out _).mono ?_);rintro e w1 ⟨rfl,rfl⟩
    go_wp2_with fail
    (with_reducible refine(HB.out _).mono ?_);rintro e w1 ⟨rfl,rfl⟩
    go_wp2_with fail
    (with_reducible refine(HC.out _).mono ?_);rintro e w1 ⟨rfl,rfl⟩
    go_wp2_with fail
    go_ret2
    exact⟨rfl,Fr.refl _ _⟩
   ·have ev:adV a b=0:=if_neg λh=>h3 h.2.2
    have ee:adE a b=4:=by unfold adE;rw[if_pos ⟨h1,h2⟩,if_neg h3]
    rw[ev,ee]
    have HC:=Lib.hid (abl (a+b) false (decide_eq_false h3))
    generalize a+b=s at *
    clear ev ee h1 h2 h3 ha hb
    go_enter Tryz.func165,Tryz.ntmps165
    go_wp2_with fail
    (with_reducible refine(HA.out _).mono ?_);rintro e w1 ⟨rfl,rfl⟩
    go_wp2_with fail
    (with_reducible refine(HB.out _).mono ?_);rintro e w1 ⟨rfl,rfl⟩
    go_wp2_with fail
    (with_reducible refine(HC.out _).mono ?_);rintro e w1 ⟨rfl,rfl⟩
    go_wp2_with fail
    go_ret2
    exact⟨rfl,Fr.refl _ _⟩
  ·have HB:=Lib.hid (abl b false (decide_eq_false h2))
   have ev:adV a b=0:=if_neg λh=>h2 h.2.1
   have ee:adE a b=1:=if_neg λh=>h2 h.2
   rw[ev,ee]
   clear ev ee h1 h2 ha hb
   go_enter Tryz.func165,Tryz.ntmps165
   go_wp2_with fail
   (with_reducible refine(HA.out _).mono ?_);rintro e w1 ⟨rfl,rfl⟩
   go_wp2_with fail
   (with_reducible refine(HB.out _).mono ?_);rintro e w1 ⟨rfl,rfl⟩
   go_wp2_with fail
   go_ret2
   exact⟨rfl,Fr.refl _ _⟩
 ·have HA:=Lib.hid (abl a false (decide_eq_false h1))
  have ev:adV a b=0:=if_neg λh=>h1 h.1
  have ee:adE a b=1:=if_neg λh=>h1 h.1
  rw[ev,ee]
  clear ev ee h1 ha hb
  go_enter Tryz.func165,Tryz.ntmps165
  go_wp2_with fail
  (with_reducible refine(HA.out _).mono ?_);rintro e w1 ⟨rfl,rfl⟩
  go_wp2_with fail
  go_ret2
  exact⟨rfl,Fr.refl _ _⟩
def bs(n x:Nat):List Nat:=(List.range n).map (dgt 1 x)
end Go.Proofs.YtjlelckefiannaaGreatDoor
namespace Go.Proofs.YtjlelckefiannaaGreatDoor
set_option linter.unusedVariables false
set_option linter.unusedSimpArgs false
def by2(k:Nat):Nat:=256 ^ k
theorem ac8(k:Nat):0<by2 k:=Nat.pow_pos aPl
theorem abb(i j:Nat):by2 (i+j)=by2 i*by2 j:=Nat.pow_add _ _ _
theorem al3{i j:Nat}(h:i≤j):by2 i≤by2 j:=Nat.pow_le_pow_right aPl h
theorem ac7(k:Nat):by2 k=2 ^ (8*k):=by unfold by2;rw[Nat.pow_mul]
def nby(t:Nat):Nat:=(nbits t+7)/8
theorem ao2(t k:Nat):nby t≤k↔t<by2 k:=by
 rw[ac7,←uw]
 unfold nby
 omega
theorem auj(t:Nat):t<by2 (nby t):=(ao2 t _).1 (Nat.le_refl _)
theorem ajh{t:Nat}(h:0<t):0<nby t∧by2 (nby t-1)≤t:=by
 have h1:0<nby t:=Nat.pos_of_ne_zero λe=>by
  have:=auj t
  rw[e]at this
  simp[by2]at this
  omega
 refine⟨h1,Nat.le_of_not_lt λh2=>?_⟩
 have:=(ao2 t (nby t-1)).2 h2
 omega
theorem aJ0{t n:Nat}(h1:by2 (n-1)≤t)(h2:t<by2 n)(h0:0<n):nby t=n:=by
 have a:=(ao2 t n).2 h2
 refine Nat.le_antisymm a (Nat.le_of_not_lt λh=>?_)
 have:=(ao2 t (n-1)).1 aPl
 omega
def tgt(e m:Nat):Nat:=if 3≤e then m*by2 (e-3)else m/by2 (3-e)
def aeh(t:Nat):Nat:=if 3≤nby t then t/by2 (nby t-3)else t*by2 (3-nby t)
def enE(t:Nat):Nat:=if 8388608≤aeh t then nby t+1 else nby t
def enM(t:Nat):Nat:=if 8388608≤aeh t then aeh t/256 else aeh t
theorem ar0:by2 1=256:=rfl
theorem am4:by2 2=65536:=rfl
theorem aFd:by2 3=16777216:=rfl
theorem afj{t:Nat}(h:0<t):65536≤aeh t∧aeh t<16777216:=by
 obtain⟨h0,h1⟩:=ajh h
 have h2:=auj t
 unfold aeh
 split
 ·rename_i h3
  constructor
  ·rw[Nat.le_div_iff_mul_le (ac8 _),←am4,←abb]
   rwa [show 2+(nby t-3)=nby t-1 by omega]
  ·rw[Nat.div_lt_iff_lt_mul (ac8 _),←aFd,←abb]
   rwa [show 3+(nby t-3)=nby t by omega]
 ·rename_i h3
  have e1:by2 (nby t-1)*by2 (3-nby t)=65536:=by rw[←abb,←am4];congr 1;omega
  have e2:by2 (nby t)*by2 (3-nby t)=16777216:=by rw[←abb,←aFd];congr 1;omega
  constructor
  ·rw[←e1];exact Nat.mul_le_mul_right _ h1
  ·rw[←e2];exact Nat.mul_lt_mul_of_pos_right h2 (ac8 _)
theorem aJ4{t:Nat}(h:0<t):enM t<8388608:=by
 have:=(afj h).2
 unfold enM
 split<;>omega
theorem aRz{t:Nat}(h:0<t):32768≤enM t:=by
 have:=(afj h).1
 unfold enM
 split<;>omega
def aot(t:Nat):Nat:=if 8388608≤aeh t then nby t-2 else nby t-3
theorem avu(t i:Nat)(h:3≤i):t/by2 (i-3)/256=t/by2 (i-2):=by
 rw[Nat.div_div_eq_div_mul,←ar0,←abb]
 congr 2
 omega
theorem azi{t:Nat}(h:0<t):tgt (enE t) (enM t)=t/by2 (aot t)*by2 (aot t):=by
 obtain⟨h0,h1⟩:=ajh h
 unfold tgt enE enM aot
 split
 ·-- the highest bit would be the sign
  by_cases h3:3≤nby t
  ·rw[if_pos aPl]
   have e:aeh t/256=t/by2 (nby t-2):=by
    unfold aeh
    rw[if_pos h3]
    exact avu t _ h3
   rw[e,show nby t+1-3=nby t-2 by omega]
  ·have e:aeh t=t*by2 (3-nby t):=by unfold aeh;rw[if_neg h3]
   rw[e]
   have h12:nby t=1∨nby t=2:=by omega
   rcases h12 with h2|h2
   ·rw[h2]
    show t*65536/256/256=t/1*1
    omega
   ·rw[h2]
    show t*256/256*1=t/1*1
    omega
 ·by_cases h3:3≤nby t
  ·rw[if_pos h3]
   unfold aeh
   rw[if_pos h3]
  ·rw[if_neg h3]
   unfold aeh
   rw[if_neg h3,show nby t-3=0 by omega,Nat.mul_div_cancel _ (ac8 _)]
   simp[by2]
theorem aBo{t:Nat}(h:0<t):tgt (enE t) (enM t)≤t:=by
 rw[azi h]
 exact Nat.div_mul_le_self _ _
theorem aJ6{t:Nat}(h:8388608≤aeh t):enM t=aeh t/256:=if_pos h
theorem aJ5{t:Nat}(h:¬8388608≤aeh t):enM t=aeh t:=if_neg h
theorem aDo{t:Nat}(h:0<t):0<tgt (enE t) (enM t)∧enE (tgt (enE t) (enM t))=enE t∧enM (tgt (enE t) (enM t))=enM t:=by
 obtain⟨h0,h1⟩:=ajh h
 have h2:=auj t
 have hr:=afj h
 by_cases h3:3≤nby t
 ·have ht:aeh t=t/by2 (nby t-3):=by unfold aeh;rw[if_pos h3]
  by_cases h4:8388608≤aeh t
  ·have ec:aot t=nby t-2:=if_pos h4
   have e1:enE t=nby t+1:=if_pos h4
   have e2:enM t=aeh t/256:=if_pos h4
   have eb:tgt (enE t) (enM t)=enM t*by2 (nby t-2):=by
    unfold tgt
    rw[e1,if_pos aPl,show nby t+1-3=nby t-2 by omega]
   have hm1:32768≤enM t:=aRz h
   have hm2:enM t<65536:=by rw[e2];omega
   rw[eb]
   have hp:=ac8 (nby t-2)
   have n1:by2 (nby t-1)=256*by2 (nby t-2):=by rw[←ar0,←abb];congr 1;omega
   have n2:by2 (nby t)=65536*by2 (nby t-2):=by rw[←am4,←abb];congr 1;omega
   have hn:nby (enM t*by2 (nby t-2))=nby t:=by
    refine aJ0 ?_ ?_ h0
    ·rw[n1];exact Nat.mul_le_mul_right _ aPl
    ·rw[n2];exact Nat.mul_lt_mul_of_pos_right hm2 hp
   have ht3:aeh (enM t*by2 (nby t-2))=enM t*256:=by
    unfold aeh
    rw[hn,if_pos h3,show nby t-2=1+(nby t-3) by omega,abb,←Nat.mul_assoc,Nat.mul_div_cancel _ (ac8 _),ar0]
   refine⟨Nat.mul_pos aPl hp,?_,?_⟩
   ·rw[e1];unfold enE;rw[ht3,if_pos aPl,hn]
   ·rw[aJ6 (by rw[ht3];omega),ht3]
    omega
  ·have e1:enE t=nby t:=if_neg h4
   have e2:enM t=aeh t:=if_neg h4
   have eb:tgt (enE t) (enM t)=enM t*by2 (nby t-3):=by
    unfold tgt
    rw[e1,if_pos h3]
   have hm1:65536≤enM t:=by omega
   have hm2:enM t<8388608:=by omega
   rw[eb]
   have hp:=ac8 (nby t-3)
   have n1:by2 (nby t-1)=65536*by2 (nby t-3):=by rw[←am4,←abb];congr 1;omega
   have n2:by2 (nby t)=16777216*by2 (nby t-3):=by rw[←aFd,←abb];congr 1;omega
   have hn:nby (enM t*by2 (nby t-3))=nby t:=by
    refine aJ0 ?_ ?_ h0
    ·rw[n1];exact Nat.mul_le_mul_right _ aPl
    ·rw[n2];exact Nat.mul_lt_mul_of_pos_right aPl hp
   have ht3:aeh (enM t*by2 (nby t-3))=enM t:=by
    unfold aeh
    rw[hn,if_pos h3,Nat.mul_div_cancel _ (ac8 _)]
   refine⟨Nat.mul_pos aPl hp,?_,?_⟩
   ·rw[e1];unfold enE;rw[ht3,if_neg aPl,hn]
   ·rw[aJ5 (by rw[ht3];omega),ht3]
 ·-- all bytes are told
  have ec:aot t=0:=by unfold aot;split<;>omega
  have e:=azi h
  rw[ec,show by2 0=1 from rfl,Nat.div_one,Nat.mul_one]at e
  rw[e]
  exact⟨h,rfl,rfl⟩
end Go.Proofs.YtjlelckefiannaaGreatDoor
namespace Go.Proofs.YtjlelckefiannaaGreatDoor
set_option linter.unusedVariables false
set_option linter.unusedSimpArgs false
open Go.RowKit
theorem zero32:(#[.int .u8 0,.int .u8 0,.int .u8 0,.int .u8 0,.int .u8 0,.int .u8 0,.int .u8 0,.int .u8 0,.int .u8 0,.int .u8 0,.int .u8 0,.int .u8 0,.int .u8 0,.int .u8 0,.int .u8 0,.int .u8 0,
  .int .u8 0,.int .u8 0,.int .u8 0,.int .u8 0,.int .u8 0,.int .u8 0,.int .u8 0,.int .u8 0,.int .u8 0,.int .u8 0,.int .u8 0,.int .u8 0,.int .u8 0,.int .u8 0,.int .u8 0,.int .u8 0]:Array Value)=gu .u8 8 32 0:=by
 simp[gu,dgt,List.range_succ]
attribute [local go_sem high] zero32
end Go.Proofs.YtjlelckefiannaaGreatDoor
namespace Go.Proofs.YtjlelckefiannaaGreatDoor
set_option linter.unusedVariables false
set_option linter.unusedSimpArgs false
open Go.RowKit
theorem aMy(x i:Nat)(hi:i<32):
  let A:=x % 2 ^ (8*i)
  dgt 64 A (i/8)<2 ^ (i % 8*8)∧dgt 64 A (i/8)+dgt 8 x i*2 ^ (i % 8*8)<2 ^ 64∧ala 64 A (i/8) (dgt 64 A (i/8)+dgt 8 x i*2 ^ (i % 8*8))=x % 2 ^ (8*(i+1)):=by
 intro A
 obtain⟨q,hq⟩:∃q,q=i/8:=⟨_,rfl⟩
 obtain⟨r,hr⟩:∃r,r=i % 8:=⟨_,rfl⟩
 rw[←hq,←hr]
 have hA:A<2 ^ (64*q+r*8):=by
  have:A<2 ^ (8*i):=Nat.mod_lt _ (Nat.two_pow_pos _)
  rwa [show 8*i=64*q+r*8 by omega]at this
 have hr8:r<8:=by omega
 have hA1:A<2 ^ (64*(q+1)):=Nat.lt_of_lt_of_le hA (Nat.pow_le_pow_right aPl aPl)
 have hm:dgt 64 A q=A/2 ^ (64*q):=by
  unfold dgt
  refine Nat.mod_eq_of_lt ?_
  rw[Nat.div_lt_iff_lt_mul (Nat.two_pow_pos _),←Nat.pow_add]
  rwa [show 64+64*q=64*(q+1) by omega]
 have hml:A/2 ^ (64*q)<2 ^ (r*8):=by
  rw[Nat.div_lt_iff_lt_mul (Nat.two_pow_pos _),←Nat.pow_add,Nat.add_comm]
  exact hA
 have hc:=abq 8 x i
 have hA3:=mod_succ 8 x i
 have hpow:2 ^ (8*i)=2 ^ (64*q)*2 ^ (r*8):=by rw[←Nat.pow_add];congr 1;omega
 have hsplit:A % 2 ^ (64*q)+2 ^ (64*q)*(A/2 ^ (64*q))=A:=Nat.mod_add_div _ _
 have hz:A/2 ^ (64*(q+1))=0:=Nat.div_eq_of_lt hA1
 rw[hm]
 generalize dgt 8 x i=c at *
 generalize A/2 ^ (64*q)=m at *
 refine⟨hml,?_,?_⟩
 ·have h1:(c+1)*2 ^ (r*8)≤2 ^ 8*2 ^ (r*8):=Nat.mul_le_mul_right _ hc
  have h2:2 ^ 8*2 ^ (r*8)≤2 ^ 64:=by rw[←Nat.pow_add];exact Nat.pow_le_pow_right aPl aPl
  rw[Nat.add_mul,Nat.one_mul]at h1
  generalize c*2 ^ (r*8)=u at *
  generalize 2 ^ (r*8)=t at *
  omega
 ·have e:2 ^ (64*q)*(c*2 ^ (r*8))=2 ^ (8*i)*c:=by rw[hpow,Nat.mul_assoc,Nat.mul_comm c]
  rw[ala,hz,Nat.mul_zero,Nat.add_zero,Nat.mul_add,←Nat.add_assoc,hsplit,e,hA3]
theorem aRi(m c s:Nat)(hm:m<2 ^ s)(h:m+c*2 ^ s<2 ^ 64):bits BinOp.or IntKind.u64 (m:Int) (IntKind.u64.wrap ((c:Int)*2 ^ s))=((m+c*2 ^ s:Nat):Int):=by
 have e:IntKind.u64.wrap ((c:Int)*2 ^ s)=((c*2 ^ s:Nat):Int):=by
  have:(c:Int)*2 ^ s=((c*2 ^ s:Nat):Int):=by rw[Int.natCast_mul,Int.natCast_pow];rfl
  rw[this]
  exact IntWalk.u64_in _ aPl
 rw[e,u64_or_nat _ _ aPl aPl]
 congr 1
 have:=Nat.shiftLeft_add_eq_or_of_lt (a:=c) (i:=s) (b:=m) hm
 rw[Nat.shiftLeft_eq]at this
 rw[Nat.or_comm,←this,Nat.add_comm]
theorem ale(x:Nat)(hx:x<ng)(w:World):
  Calls Tryz.prog 141 #[.agg (gu .u8 8 32 x)] w λe w'=>e = .returned (.agg (gu .u64 64 4 x))∧Fr F0 w w':=by
 have HA:=Lib.hid (show x % 2 ^ (8*32)=x from Nat.mod_eq_of_lt hx)
 clear hx
 go_enter Tryz.func141,Tryz.ntmps141
 go_upto_region 2 with fail
 obtain⟨W1,hW1⟩:∃W1,W1=((w.alloc (.cells (gu .u8 8 32 x) 23)).alloc (.cells (gu .u64 64 4 0) 143)).alloc (.cells (gu .u64 64 4 0) 143):=⟨_,rfl⟩
 refine jo W1 hW1 ?_
 have f1:Fr F0 w W1:=by rw[hW1];exact(((Fr.refl F0 w).alloc _).alloc _).alloc _
 obtain⟨r0,r1,r2⟩:=am3 w (.cells (gu .u8 8 32 x) 23) (.cells (gu .u64 64 4 0) 143) (.cells (gu .u64 64 4 0) 143)
 rw[←hW1]at r0 r1 r2
 clear hW1
 generalize hg0:w.heap.size=g0 at *
 generalize hg1:g0+1=g1 at *
 generalize hg2:g1+1=g2 at *
 have n1:g1≠g2:=by omega
 have HG:=Lib.hid (show w.heap.size≤g1∧w.heap.size≤g2 by omega)
 clear hg0 hg1 hg2
 go_wp2_with fail
 go_loopw [7] (λiv wr=>∃i:Nat,i≤32∧iv = .int .i64 i∧wr.heap[g1]? = some (.cells (gu .u64 64 4 0) 143 (0,0))∧wr.heap[g2]? = some (.cells (gu .u64 64 4 (x % 2 ^ (8*i))) 143 (0,0))∧Fr F0 w wr) (λiv _=>32-(intOf iv).toNat)
 case atStart=>exact⟨0,by omega,rfl,r1,by simpa [Nat.mod_one]using r2,f1⟩
 case round =>
  clear r0 r1 r2 f1
  obtain⟨i,hi,rfl,r1,r2,f1⟩:=hrel
  by_cases hi32:i<32
  ·have li:(i:Int)<32:=by omega
   obtain⟨h1,h2,h3⟩:=aMy x i hi32
   have hd8:=abq 8 x i
   obtain⟨q,hq⟩:∃q,q=i/8:=⟨_,rfl⟩
   obtain⟨r,hr⟩:∃r,r=i % 8:=⟨_,rfl⟩
   obtain⟨s,hs⟩:∃s,s=r*8:=⟨_,rfl⟩
   rw[←hq,←hr,←hs]at h1 h2 h3
   have eq1:(i:Int)/8=(q:Int):=by omega
   have eq2:Int.tdiv (i:Int) 8=(q:Int):=by rw[Int.tdiv_eq_ediv_of_nonneg aPl];omega
   have er1:(i:Int) % 8=(r:Int):=by omega
   have er2:Int.tmod (i:Int) 8=(r:Int):=by rw[Int.tmod_eq_emod_of_nonneg aPl];omega
   have es:IntKind.i64.wrap ((r:Int)*8)=(s:Int):=by rw[IntWalk.i64_in _ aPl];omega
   have lq:(q:Int)<4:=by omega
   have lqn:q<4:=by omega
   have ls:(s:Int)≤64:=by omega
   have ewq:IntKind.i64.wrap (q:Int)=(q:Int):=IntWalk.i64_in _ aPl
   have ewr:IntKind.i64.wrap (r:Int)=(r:Int):=IntWalk.i64_in _ aPl
   have ls0:¬(s:Int)<0:=by omega
   generalize hz:x % 2 ^ (8*i)=z at *
   generalize hz2:x % 2 ^ (8*(i+1))=z2 at *
   have HZ2:=Lib.hid hz2
   have ho:=aRi _ _ _ h1 h2
   obtain⟨c,hc⟩:∃c,c=dgt 8 x i:=⟨_,rfl⟩
   rw[←hc]at ho h2 h3 hd8
   replace hc:=hc.symm
   obtain⟨m,hm⟩:∃m,m=dgt 64 z q:=⟨_,rfl⟩
   rw[←hm]at ho h1 h2 h3
   replace hm:=hm.symm
   generalize hv:m+c*2 ^ s=v at *
   have HV:=Lib.hid (And.intro h2 h3)
   have cw:IntKind.u64.wrap (c:Int)=(c:Int):=IntWalk.u64_in _ aPl
   clear hq hr hs hz hz2 h1 h2 h3 hv
   go_wp2_with fail
   refine jm (S:=(λw'=>w'.heap[g1]? = some (.cells (gu .u64 64 4 0) 143 (0,0)))) ?_ λak=>?_
   ·exact(by((try dsimp only)<;>(exact r1)))
   refine aj 0 ?_
   refine aj 1 ?_
   refine aj 2 ?_
   refine aj 4 ?_
   refine aj 5 ?_
   refine aj 6 ?_
   refine aj 7 ?_
   refine aj 8 ?_
   refine aj 9 ?_
   refine jf 3 λK hK=>?_
   go_simp
   refine rpu hK zz26 λak=>?_
   clear hK K
   refine aj 10 ?_
   refine aj 11 ?_
   refine jf 12 λK hK=>?_
   go_simp
   refine rpu hK zz26 λak=>?_
   clear hK K
   refine jg ?_
   all_goals
    go_wp2
    go_roundw
    case rel =>
     refine⟨i+1,by omega,by go_num,?_,?_,((f1.setCell (p:=⟨g2,q,none⟩) (λh=>by have:=HG.out;simp only at h;omega) _).drew)⟩
     ·rw[dh,dn _ _ _ _ _ n1];exact r1
     ·rw[dh,gq,r2,jr,acj _ _ _ HV.out.1,HV.out.2,HZ2.out]
    case measure=>simp[intOf];omega
  ·obtain rfl:i=32:=by omega
   rw[HA.out]at r2
   go_wp2
   refine bodyPost_ret (results_cell_row rfl _ _ g1 _ _ _ _ rfl aPp Tryz.underlying143 rfl zz75) rfl ⟨rfl,?_⟩
   exact f1.setRow (λh=>by have:=HG.out;omega) _
end Go.Proofs.YtjlelckefiannaaGreatDoor
namespace Go.Proofs.YtjlelckefiannaaGreatDoor
set_option linter.unusedVariables false
set_option linter.unusedSimpArgs false
theorem aM8{t c:Nat}(hc:1≤c)(h:0<t):c≤aot t↔32768*by2 c≤t:=by
 obtain⟨h0,h1⟩:=ajh h
 have h2:=auj t
 have hb:=al3 hc
 rw[ar0]at hb
 by_cases h3:3≤nby t
 ·have ht:aeh t=t/by2 (nby t-3):=by unfold aeh;rw[if_pos h3]
  obtain⟨n,hn⟩:∃n,nby t=n+3:=⟨nby t-3,by omega⟩
  rw[hn]at h1 h2 ht
  rw[show n+3-3=n by omega]at ht
  have e1:by2 (n+3-1)=65536*by2 n:=by rw[←am4,←abb];congr 1;omega
  have e2:by2 (n+3)=16777216*by2 n:=by rw[←aFd,←abb];congr 1;omega
  have e3:by2 (n+1)=256*by2 n:=by rw[←ar0,←abb];congr 1;omega
  have hp:=ac8 n
  rw[e1]at h1
  rw[e2]at h2
  by_cases h4:8388608≤aeh t
  ·have ec:aot t=n+1:=by unfold aot;rw[if_pos h4,hn];omega
   have h5:8388608*by2 n≤t:=by rw[ht,Nat.le_div_iff_mul_le hp]at h4;exact h4
   rw[ec]
   constructor
   ·intro h6
    have:=al3 h6
    omega
   ·intro h6
    refine Nat.le_of_not_lt λh7=>?_
    have h8:=al3 (show n+2≤c by omega)
    have e4:by2 (n+2)=65536*by2 n:=by rw[←am4,←abb];congr 1;omega
    omega
  ·have ec:aot t=n:=by unfold aot;rw[if_neg h4,hn];omega
   have h5:t<8388608*by2 n:=by
    rw[ht]at h4
    have:=mt (Nat.le_div_iff_mul_le hp).2 h4
    omega
   rw[ec]
   constructor
   ·intro h6
    have:=al3 h6
    omega
   ·intro h6
    refine Nat.le_of_not_lt λh7=>?_
    have h8:=al3 (show n+1≤c by omega)
    omega
 ·have ec:aot t=0:=by unfold aot;split<;>omega
  have h5:=al3 (show nby t≤2 by omega)
  rw[am4]at h5
  rw[ec]
  omega
theorem aQ8(t x s top:Nat)(ht:0<top):0<(if top<t*x/s then top else if t*x/s=0 then 1 else t*x/s):=by
 generalize t*x/s=p
 split<;>(try split)<;>omega
theorem aLq(t x s top:Nat)(ht:0<top):(if top<t*x/s then top else if t*x/s=0 then 1 else t*x/s)≤top:=by
 generalize t*x/s=p
 split<;>(try split)<;>omega
def tkN(s:Nat)(took:Int):Nat:=if took≤0∨took.toNat<s/4 then max (s/4) 1 else if 4*s<took.toNat then 4*s else took.toNat
theorem aQ0{s:Nat}(hs:0<s)(k:Int):tkN s k≤4*s:=by unfold tkN;split<;>(try split)<;>omega
end Go.Proofs.YtjlelckefiannaaGreatDoor
namespace Go.Proofs.YtjlelckefiannaaGreatDoor
set_option linter.unusedVariables false
set_option linter.unusedSimpArgs false
open Go.RowKit
theorem av7(x:Nat)(h:x<18446744073709551616)(w:World):Calls Tryz.prog 149 #[.int .u64 (x:Int)] w λe w'=>e = .returned (.int .i64 (Lib.bitLen x:Nat))∧w'=w:=by
 have H:=Lib.hid (λw=>ake x h w)
 clear h
 go_enter Tryz.func149,Tryz.ntmps149
 go_wp2_with fail
 (with_reducible refine(H.out _).mono ?_);rintro e w1 ⟨rfl,hw⟩;subst hw
 go_wp2
 go_ret
 exact⟨rfl,rfl⟩
def CL(cs:Array Value)(L:List Nat):Prop:=L.length≤cs.size∧∀i,i<L.length→cs[i]? = some (.int .u32 ((L.getD i 0:Nat):Int))
theorem CL.set{cs:Array Value}{L:List Nat}(h:CL cs L)(i x:Nat):CL (cs.setIfInBounds i (.int .u32 (x:Int))) (L.set i x):=by
 refine⟨by simpa using h.1,λj hj=>?_⟩
 rw[List.length_set]at hj
 have h1:=h.1
 rw[Array.getElem?_setIfInBounds]
 by_cases e:i=j
 ·subst e
  rw[if_pos rfl,if_pos aPl]
  simp[List.getD,hj]
 ·rw[if_neg e,h.2 j hj]
  simp[List.getD,List.getElem?_set,e]
theorem au4(L:List Nat)(i j x:Nat)(hi:i<L.length):(L.set i x).getD j 0=if j=i then x else L.getD j 0:=by
 by_cases e:j=i
 ·subst e;simp[List.getD,hi]
 ·rw[if_neg e];simp[List.getD,List.getElem?_set,Ne.symm e]
def swp(L:List Nat)(j p:Nat):List Nat:=(L.set j (L.getD p 0)).set p (L.getD j 0)
theorem aFw{L:List Nat}{j p:Nat}(hj:j<L.length)(hp:p<L.length):(swp L j p).Perm L:=by
 unfold swp
 have e1:L.getD p 0=L[p]:=by simp[List.getD,hp]
 have e2:L.getD j 0=L[j]:=by simp[List.getD,hj]
 rw[e1,e2]
 exact List.set_set_perm hj hp
theorem au1{L:List Nat}{j p:Nat}(hj:j<L.length)(hp:p<L.length)(q:Nat):(swp L j p).getD q 0=if q=p then L.getD j 0 else if q=j then L.getD p 0 else L.getD q 0:=by
 unfold swp
 rw[au4 _ _ _ _ (by rw[List.length_set];exact hp)]
 by_cases e:q=p
 ·rw[if_pos e,if_pos e]
 ·rw[if_neg e,if_neg e,au4 _ _ _ _ hj]
def SO(L:List Nat)(k:Nat):Prop:=∀p q,p<q→q<k→L.getD p 0≤L.getD q 0
def SX(L:List Nat)(i j:Nat):Prop:=∀p q,p<q→q≤i→q≠j→L.getD p 0≤L.getD q 0
theorem SO.sx{L:List Nat}{i:Nat}(h:SO L i):SX L i i:=λp q h1 h2 h3=>h p q h1 aPl
theorem SX.so{L:List Nat}{i j:Nat}(h:SX L i j)(hj:j=0∨L.getD (j-1) 0≤L.getD j 0):SO L (i+1):=by
 intro p q h1 h2
 by_cases e:q=j
 ·subst e
  rcases hj with rfl|hj
  ·omega
  ·by_cases e2:p=q-1
   ·rw[e2];exact hj
   ·exact Nat.le_trans (h p (q-1) aPl aPl aPl) hj
 ·exact h p q h1 aPl e
theorem SX.swp{L:List Nat}{i j p:Nat}(h:SX L i j)(hp:j=p+1)(hi:j≤i)(hl:i<L.length)(hlt:L.getD j 0<L.getD p 0):SX (swp L j p) i p:=by
 intro a b h1 h2 h3
 subst hp
 rw[au1 aPl aPl,au1 aPl aPl,if_neg h3]
 by_cases e:b=p+1
 ·rw[if_pos e]
  by_cases e2:a=p
  ·rw[if_pos e2];omega
  ·rw[if_neg e2,if_neg aPl]
   exact h a p aPl aPl aPl
 ·rw[if_neg e]
  by_cases e2:a=p
  ·rw[if_pos e2]
   exact h (p+1) b aPl h2 e
  ·rw[if_neg e2]
   by_cases e3:a=p+1
   ·rw[if_pos e3];exact h p b aPl h2 e
   ·rw[if_neg e3];exact h a b h1 h2 e
theorem atn(x:Int)(w:World):Calls Tryz.prog 221 #[.int .u32 x] w λe w'=>e = .returned (.bool false)∧w'=w:=by
 go_enter Tryz.func221,Tryz.ntmps221
 go_wp2
 go_ret
 exact⟨rfl,rfl⟩
theorem ayk(x y:Int)(o:Bool)(ho:decide (x<y)=o)(w:World):Calls Tryz.prog 212 #[.int .u32 x,.int .u32 y] w λe w'=>e = .returned (.bool o)∧w'=w:=by
 have H:=Lib.hid (λw=>atn x w)
 go_enter Tryz.func212,Tryz.ntmps212
 go_wp2_with fail
 (with_reducible refine(H.out _).mono ?_);rintro e w1 ⟨rfl,hw⟩;subst hw
 go_wp2_with fail
 go_ret
 exact⟨rfl,rfl⟩
def Fg(g:Nat):Nat→Prop:=λk=>k=g
def Sorted(g n m:Nat)(t:TypeId)(L:List Nat)(k:Nat)(w w':World):Prop :=
 ∃cs' L',w'.heap[g]? = some (.cells cs' t (0,0))∧cs'.size=m∧CL cs' L'∧L'.Perm L∧SO L' k∧Fr (Fg g) w w'
theorem aCw(g n c m:Nat)(cs:Array Value)(L:List Nat)(t:TypeId)(w:World)(hn:L.length=n)(hn2:n≤1000)(hm:cs.size=m)(hcs:CL cs L)(hg:w.heap[g]? = some (.cells cs t (0,0))):
  Calls Tryz.prog 206 #[.slice (some ⟨g,0,none⟩) n c,.int .i64 0,.int .i64 (n:Int)] w λe w'=>e = .returned (.tuple #[])∧Sorted g n m t L n w w':=by
 have HLs:=Lib.hid fun(x y:Int) (o:Bool) (ho:decide (x<y)=o) w=>ayk x y o ho w
 have HN:=Lib.hid hn
 clear hn
 go_enter Tryz.func206,Tryz.ntmps206
 go_wp2_with fail
 go_loopw [6] (λiv wr=>∃i cs' L',iv = .int .i64 (i:Nat)∧1≤i∧(i≤n∨i=1)∧wr.heap[g]? = some (.cells cs' t (0,0))∧cs'.size=m∧CL cs' L'∧L'.Perm L∧SO L' i∧Fr (Fg g) w wr) (λiv _=>n+1-(intOf iv).toNat)
 case atStart=>exact⟨1,cs,L,rfl,by omega,.inr rfl,hg,hm,hcs,List.Perm.refl _,λp q h1 h2=>by omega,Fr.refl _ _⟩
 case round =>
  clear hg hcs hm cs
  obtain⟨i,cs,L1,rfl,hi,hin,hg,hm,hcs,hp,hso,hf⟩:=hrel
  by_cases h1:i<n
  ·have l1:(i:Int)<(n:Int):=by omega
   have HI:=Lib.hid (And.intro hi h1)
   clear h1 hi hin
   go_wp2_with fail
   go_loopw [7] (λjv wr=>∃j cs' L',jv = .int .i64 (j:Nat)∧j≤i∧wr.heap[g]? = some (.cells cs' t (0,0))∧cs'.size=m∧CL cs' L'∧L'.Perm L∧SX L' i j∧Fr (Fg g) w wr) (λjv _=>(intOf jv).toNat)
   case atStart=>exact⟨i,cs,L1,rfl,Nat.le_refl _,hg,hm,hcs,hp,hso.sx,hf⟩
   case round =>
    clear hg hcs hm cs hp hso hf
    obtain⟨j,cs,L2,rfl,hj,hg,hm,hcs,hp,hsx,hf⟩:=hrel
    have hl2:=hp.length_eq
    have hln:=HN.out
    have hin:=HI.out
    by_cases h2:0<j
    ·have l2:(0:Int)<(j:Int):=by omega
     obtain⟨p,hjp⟩:∃p,j-1=p:=⟨_,rfl⟩
     have m1:IntKind.i64.wrap ((j:Int)-1)=(p:Int):=by rw[IntWalk.i64_in _ aPl];omega
     have b1:(j:Int)<(n:Int):=by omega
     have b2:(p:Int)<(n:Int):=by omega
     have c1:=hcs.2 j aPl
     have c2:=hcs.2 p aPl
     have hsz:=hcs.1
     have HJ:=Lib.hid (show j=p+1∧j≤i∧i<n∧L2.length=n∧n≤cs.size by omega)
     obtain⟨x,hx⟩:∃x,L2.getD j 0=x:=⟨_,rfl⟩
     obtain⟨y,hy⟩:∃y,L2.getD p 0=y:=⟨_,rfl⟩
     rw[hx]at c1
     rw[hy]at c2
     have HXY:=Lib.hid (And.intro hx hy)
     have HCS:=Lib.hid (And.intro hcs (And.intro hp (And.intro hsx hm)))
     clear hjp hx hy hin hl2 hln hsz hcs hp hsx hj hm
     have s1:j<cs.size:=by have:=HJ.out;omega
     have s2:p<cs.size:=by have:=HJ.out;omega
     have d1:cs[j] = .int .u32 (x:Int):=(Array.getElem?_eq_some_iff.1 c1).2
     have d2:cs[p] = .int .u32 (y:Int):=(Array.getElem?_eq_some_iff.1 c2).2
     by_cases h3:(x:Int)<(y:Int)
     ·have HQ:=Lib.hid (λw=>HLs.out x y true (decide_eq_true h3) w)
      have H3:=Lib.hid h3
      clear h3
      go_wp2_with fail
      refine jm (S:=(λw'=>w'.heap[g]? = some (.cells cs t (0,0))∧Fr (Fg g) w w')) ?_ λak=>?_
      ·exact zz47
      refine aj 0 ?_
      refine aj 1 ?_
      refine aj 2 ?_
      refine aj 3 ?_
      refine aj 4 ?_
      refine aj 5 ?_
      refine aj 6 ?_
      refine aj 7 ?_
      refine aj 8 ?_
      refine aj 9 ?_
      refine aj 10 ?_
      refine aj 11 ?_
      refine aj 12 ?_
      refine jf 13 λK hK=>?_
      go_simp
      ((with_reducible refine(HQ.out _).mono ?_);rintro e w5 ⟨rfl,hw⟩;have hw:=hw.symm;subst hw)
      refine rpu hK abz λak=>?_
      clear hK K
      refine aj 14 ?_
      refine jg ?_
      clear hg hf
      obtain⟨hg,hf⟩:=ak
      clear hw
      generalize wr.drew=w6 at *
      go_wp2_with fail
      go_region
      obtain⟨j1,j2,j3,j4,j5⟩:=HJ.out
      obtain⟨e1,e2⟩:=HXY.out
      obtain⟨h4,h5,h6,h7⟩:=HCS.out
      have hlt:=H3.out
      have q1:((w6.setCell ⟨g,j,none⟩ (.int .u32 (y:Int))).setCell ⟨g,p,none⟩ (.int .u32 (x:Int))).drew.heap[g]? = some (.cells ((cs.setIfInBounds j (.int .u32 (y:Int))).setIfInBounds p (.int .u32 (x:Int))) t (0,0)):=by
       rw[dh,gq,gq,hg,jr,jr]
      have q2:Fr (Fg g) w ((w6.setCell ⟨g,j,none⟩ (.int .u32 (y:Int))).setCell ⟨g,p,none⟩ (.int .u32 (x:Int))).drew:=((hf.setCell (p:=⟨g,j,none⟩) (λ_=>rfl) _).setCell (p:=⟨g,p,none⟩) (λ_=>rfl) _).drew
      have q3:CL ((cs.setIfInBounds j (.int .u32 (y:Int))).setIfInBounds p (.int .u32 (x:Int))) (swp L2 j p):=by
       unfold swp;rw[e1,e2];exact(h4.set j y).set p x
      have q4:((cs.setIfInBounds j (.int .u32 (y:Int))).setIfInBounds p (.int .u32 (x:Int))).size=m:=by simpa using h7
      have q5:=(aFw (L:=L2) (j:=j) (p:=p) aPl aPl).trans h5
      have q6:=h6.swp j1 j2 aPl (by rw[e1,e2];omega)
      have HW:=Lib.hid (And.intro q1 (And.intro q4 (And.intro q3 (And.intro q5 (And.intro q6 q2)))))
      clear q1 q2 q3 q4 q5 q6 h4 h5 h6 h7 e1 e2 j1 j3 j4 j5 hlt hg hf ak c1 c2 d1 d2 s1 s2
      generalize ((w6.setCell ⟨g,j,none⟩ (.int .u32 (y:Int))).setCell ⟨g,p,none⟩ (.int .u32 (x:Int))).drew=w7 at *
      go_wp2_with fail
      go_roundw
      case rel=>exact⟨p,_,_,rfl,by have:=HJ.out;omega,HW.out.1,HW.out.2.1,HW.out.2.2.1,HW.out.2.2.2.1,HW.out.2.2.2.2.1,HW.out.2.2.2.2.2⟩
      case measure=>have:=HJ.out;simp[intOf];omega
     ·have HQ:=Lib.hid (λw=>HLs.out x y false (decide_eq_false h3) w)
      have H3:=Lib.hid h3
      clear h3
      go_wp2_with fail
      refine jm (S:=(λw'=>w'.heap[g]? = some (.cells cs t (0,0))∧Fr (Fg g) w w')) ?_ λak=>?_
      ·exact zz47
      refine aj 0 ?_
      refine aj 1 ?_
      refine aj 2 ?_
      refine aj 3 ?_
      refine aj 4 ?_
      refine aj 5 ?_
      refine aj 6 ?_
      refine aj 7 ?_
      refine aj 8 ?_
      refine aj 9 ?_
      refine aj 10 ?_
      refine aj 11 ?_
      refine aj 12 ?_
      refine jf 13 λK hK=>?_
      go_simp
      ((with_reducible refine(HQ.out _).mono ?_);rintro e w5 ⟨rfl,hw⟩;have hw:=hw.symm;subst hw)
      refine rpu hK abz λak=>?_
      clear hK K
      refine aj 14 ?_
      refine jg ?_
      clear hg hf
      obtain⟨hg,hf⟩:=ak
      clear hw
      generalize wr.drew=w6 at *
      go_wp2_with fail
      go_roundw
      case rel =>
       obtain⟨j1,j2,j3,j4,j5⟩:=HJ.out
       obtain⟨e1,e2⟩:=HXY.out
       obtain⟨h4,h5,h6,h7⟩:=HCS.out
       exact⟨i+1,cs,L2,by go_num,by omega,by omega,hg,h7,h4,h5,h6.so (.inr (by rw[show j-1=p by omega,e1,e2];have:=H3.out;omega)),hf⟩
      case measure=>have:=HI.out;simp[intOf];omega
    ·obtain rfl:j=0:=by omega
     have l2:¬(0:Int)<((0:Nat):Int):=by omega
     have HJ:=Lib.hid (show L2.length=n∧n≤cs.size by have:=hcs.1;omega)
     have HCS:=Lib.hid (And.intro hcs (And.intro hp (And.intro hsx hm)))
     clear hcs hp hsx hm hl2 hln hin hj
     go_wp2_with fail
     refine jm (S:=(λw'=>w'.heap[g]? = some (.cells cs t (0,0))∧Fr (Fg g) w w')) ?_ λak=>?_
     ·exact zz47
     refine aj 0 ?_
     refine aj 1 ?_
     refine aj 2 ?_
     refine aj 3 ?_
     refine uo 4 ?_
     refine uo 5 ?_
     refine uo 6 ?_
     refine uo 7 ?_
     refine uo 8 ?_
     refine uo 9 ?_
     refine uo 10 ?_
     refine uo 11 ?_
     refine uo 12 ?_
     refine uo 13 ?_
     refine aj 14 ?_
     refine jg ?_
     clear hg hf
     obtain⟨hg,hf⟩:=ak
     generalize wr.drew=w6 at *
     go_wp2_with fail
     go_roundw
     case rel =>
      obtain⟨h4,h5,h6,h7⟩:=HCS.out
      have:=HI.out
      exact⟨i+1,cs,L2,by go_num,by omega,by omega,hg,h7,h4,h5,h6.so (.inl rfl),hf⟩
     case measure=>have:=HI.out;simp[intOf];omega
  ·have l1:¬(i:Int)<(n:Int):=by omega
   have HS:=Lib.hid (show Sorted g n m t L n w wr from⟨cs,L1,hg,hm,hcs,hp,λp q h2 h3=>hso p q h2 aPl,hf⟩)
   clear h1 hi hin hm hcs hp hso
   go_wp2_with fail
   go_end0
   exact⟨rfl,HS.out⟩
theorem Tryz.infoU32:(Tryz.prog.info? 25).map (λi=>(i.zero,i.size,i.bytes))=some (some (.int .u32 0),1,4):=by kernel_rfl
def U32(x:Nat):Value := .int .u32 (x:Int)
def Vs(w:World)(a:Option Addr)(c:Nat)(l:List Nat):Prop:=Sl w 1 a c l.length (l.map U32)
theorem Vs.one{l:List Nat}:∀u∈l.map U32,u.oneCell'=true:=by
 intro u hu
 simp only[List.mem_map]at hu
 obtain⟨x,_,rfl⟩:=hu
 rfl
theorem Vs.aMf(w:World)(l:List Nat)(t:TypeId)(hl:l.length≤1000):Vs (w.alloc (.cells (l.map U32).toArray t)) (some ⟨w.heap.size,0,none⟩) l.length l :=
 ⟨by simp,Nat.le_refl _,by unfold maxLen;omega,(λe=>by cases e),λj u hj=>⟨w.heap.size,0,rfl,by
  rw[Nat.zero_add,cell_of_row _ _ j _ _ _ (heap_alloc_new w _)]
  simpa using hj⟩⟩
theorem asv{w:World}{ops:Array Oper}{rest:List Oper}{o:Oper}{a:Act}{Q:Exit→Act→World→Prop}(hgd:o.guard=none)(s x:Operand)
  (ho:o.op = .call { callee := .builtin .append,args:=#[s,x],argTypes:=#[226,226] })
  (v:Value) (b0:List Nat) (hs:a.eval s=v) (hown:w.ownsRow 0 25 1 v b0.length (b0.map U32)) (ad:Option Addr) (m c:Nat) (l:List Nat) (hx:a.eval x = .slice ad m c) (hsl:Vs w ad c l) (hm:m=l.length)
  (hb:b0.length+l.length≤1000000)
  (h:∀a' c' w',w'.ownsRow 0 25 1 (.slice a' (b0.length+l.length) c') (b0.length+l.length) ((b0++l).map U32)→w.grownBy w' v.ownBlock→(∀k,ql a'=some k→v.ownBlock=some k∨w.heap.size≤k) →
   wpList Tryz.prog ops Q rest (a.put o.dst (.slice a' (b0.length+l.length) c')) w'):wpList Tryz.prog ops Q (o::rest) a w:=by
 subst hm
 obtain⟨i0,hi,hz0,hz1,hz2⟩:=info_parts Tryz.infoU32
 refine al5 hgd s x 226 ho 25 i0 (.int .u32 0) 1 4 Tryz.underlying226 hi hz0 hz1 hz2 rfl (by decide) v _ _ hs hown ad c _ _ hx hsl Vs.one aPn aPl ?_
 intro a' c' w' h1 h2 h3
 exact h a' c' w' (by simpa using h1) h2 h3
def NewV(l:List Nat)(w:World)(e:Ending)(w':World):Prop :=
 ∃g c cs,e = .returned (.slice (some ⟨g,0,none⟩) l.length c)∧w'.heap[g]? = some (.cells cs 25 (0,0))∧CL cs l∧w.heap.size≤g∧Fr F0 w w'
theorem CL.aMe{cs:Array Value}{l:List Nat}(h:cs.toList.take l.length=l.map U32)(hs:l.length≤cs.size):CL cs l:=by
 refine⟨hs,λi hi=>?_⟩
 have e:=congrArg (λz:List Value=>z[i]?) h
 simp only[List.getElem?_take,List.getElem?_map,if_pos hi]at e
 rw[←Array.getElem?_toList,e]
 simp[List.getD,hi,U32]
theorem atz(a:Option Addr)(n c:Nat)(l:List Nat)(w:World)(h:Vs w a c l)(hn:n=l.length)(h0:l ≠ [])(hl:l.length≤1000000):
  Calls Tryz.prog 181 #[.slice a n c] w (NewV l w):=by
 subst hn
 cases a with
 |none =>
  have h2:=h.nil rfl
  exact absurd (List.eq_nil_of_length_eq_zero (by have:=h.room;omega)) h0
 |some ad =>
  have H1:Vs (w.alloc (.cells #[] 25)) (some ad) c l:=Sl.fr h ((Fr.refl F0 w).alloc _) λ_ _=>id
  have H2:(w.alloc (.cells #[] 25)).ownsRow 0 25 1 (.slice (some ⟨w.heap.size,0,none⟩) 0 0) ([]:List Nat).length (([]:List Nat).map U32):=World.ownsRow_made w #[] 0 (Nat.zero_le _) (Nat.zero_le _) rfl
  go_enter Tryz.func181,Tryz.ntmps181
  go_wp2_with (at_builtin;refine asv rfl _ _ rfl _ [] rfl H2 _ _ _ _ rfl H1 rfl (by simpa using hl) ?_;intro a' c' w' ho hg hb)
  simp only[List.length_nil,Nat.zero_add,List.nil_append]at ho ⊢
  go_wp2
  go_ret
  obtain⟨hlen,hr⟩:=ho
  rcases hr with⟨hr,h3⟩|⟨g,cap,cur,hr,h3,h4,h5,h6,h7,h8⟩
  ·exact absurd (List.eq_nil_of_length_eq_zero h3) h0
  ·simp only[Value.slice.injEq]at hr
   obtain⟨rfl,_,rfl⟩:=hr
   rw[Nat.mul_one]at h7 h8
   refine⟨g,_,cur,rfl,h4,CL.aMe h8 aPl,?_,((Fr.refl F0 w).alloc (.cells #[] 25)).grown hg λk hk hl=>?_⟩
   ·rcases hb g rfl with h|h
    ·cases h
     exact Nat.le_refl _
    ·simp at h
     omega
   ·cases hk
    exact absurd hl (Nat.lt_irrefl _)
theorem aB9(g n c m:Nat)(k:Int)(cs:Array Value)(L:List Nat)(t:TypeId)(w:World)(hn:L.length=n)(hn2:n≤12)(hm:cs.size=m)(hcs:CL cs L)(hg:w.heap[g]? = some (.cells cs t (0,0))):
  Calls Tryz.prog 199 #[.slice (some ⟨g,0,none⟩) n c,.int .i64 0,.int .i64 (n:Int),.int .i64 k] w λe w'=>e = .returned (.tuple #[])∧Sorted g n m t L n w w':=by
 have H:=Lib.hid (aCw g n c m cs L t w hn aPl hm hcs hg)
 have l1:(n:Int)≤12:=by omega
 have m1:IntKind.i64.wrap (n:Int)=(n:Int):=IntWalk.i64_in _ aPl
 clear hn hm hcs hg
 go_enter Tryz.func199,Tryz.ntmps199
 go_wp2_with fail
 go_loopw [1,2] (λav bv wr=>wr=w∧av = .int .i64 0∧bv = .int .i64 (n:Int)) (λav _ _=>(intOf av).toNat)
 case atStart=>exact⟨rfl,rfl,rfl⟩
 case round =>
  obtain⟨rfl,rfl,rfl⟩:=hrel
  go_wp2_with fail
  (with_reducible refine(H.out).mono ?_);rintro e w1 ⟨rfl,hS⟩
  replace hS:=Lib.hid hS
  go_wp2_with fail
  refine bodyPost_ret (results_none rfl _ _ _) rfl ?_
  exact⟨rfl,hS.out⟩
theorem ayj(g n c m:Nat)(cs:Array Value)(L:List Nat)(t:TypeId)(w:World)(hn:L.length=n)(hn2:n≤12)(hm:cs.size=m)(hcs:CL cs L)(hg:w.heap[g]? = some (.cells cs t (0,0))):
  Calls Tryz.prog 182 #[.slice (some ⟨g,0,none⟩) n c] w λe w'=>e = .returned (.tuple #[])∧Sorted g n m t L n w w':=by
 have HB:=Lib.hid (av7 n aPl)
 have H:=Lib.hid fun(k:Int)=>aB9 g n c m k cs L t w hn hn2 hm hcs hg
 have m1:IntKind.u64.wrap (n:Int)=(n:Int):=IntWalk.u64_in _ aPl
 clear hn hm hcs hg
 go_enter Tryz.func182,Tryz.ntmps182
 go_wp2_with fail
 (with_reducible refine(HB.out _).mono ?_);rintro e w1 ⟨rfl,hw⟩;subst hw
 go_wp2_with fail
 (with_reducible refine(H.out _).mono ?_);rintro e w1 ⟨rfl,hS⟩
 replace hS:=Lib.hid hS
 go_wp2_with fail
 go_end0
 exact⟨rfl,hS.out⟩
theorem atm(a:Option Addr)(c:Nat)(l:List Nat)(w:World)(h:Vs w a c l)(h0:l ≠ [])(hl:l.length≤12):
  Calls Tryz.prog 154 #[.slice a l.length c] w λe w'=>(∃L:List Nat,L.Perm l∧SO L l.length∧e = .returned (.int .u32 ((L.getD (l.length/2) 0:Nat):Int)))∧Fr F0 w w':=by
 have hpos:0<l.length:=List.length_pos_iff.2 h0
 generalize hn:l.length=n at *
 have HC:=Lib.hid (atz a n c l w h hn.symm h0 aPl)
 have HS:=Lib.hid λg c m cs w (hm:cs.size=m) (hcs:CL cs l) (hg:w.heap[g]? = some (.cells cs 25 (0,0)))=>ayj g n c m cs l 25 w hn hl hm hcs hg
 have l1:¬(n:Int)=0:=by omega
 obtain⟨k,hk⟩:∃k,n/2=k:=⟨_,rfl⟩
 have m1:(n:Int)/2=(k:Int):=by omega
 have l2:(k:Int)<(n:Int):=by omega
 have m2:IntKind.i64.wrap (k:Int)=(k:Int):=IntWalk.i64_in _ aPl
 have m3:wrap64 (k:Int)=(k:Int):=IntWalk.wrap64_in _ aPl
 have HN:=Lib.hid (And.intro hn (And.intro hk (show k<n by omega)))
 rw[hk]
 clear h hn hk h0 hl
 go_enter Tryz.func154,Tryz.ntmps154
 go_wp2_with fail
 (with_reducible refine(HC.out).mono ?_);rintro e w1 ⟨g,c1,cs,rfl,hg,hcs,hsz,F⟩
 rw[HN.out.1]
 go_wp2_with fail
 (with_reducible refine(HS.out _ _ _ _ _ rfl hcs hg).mono ?_);rintro e w2 ⟨rfl,cs2,L2,hg2,hm2,hcs2,hp,hso,f2⟩
 have F2:Fr F0 w w2:=F.trans f2 (λi hi e=>by unfold Fg at e;omega)
 have hll:=hp.length_eq
 have c1:=hcs2.2 k aOi
 have s1:k<cs2.size:=by have:=hcs2.1;have:=HN.out;omega
 have HL:=Lib.hid (And.intro hp (And.intro hso F2))
 obtain⟨x,hx⟩:∃x,L2.getD k 0=x:=⟨_,rfl⟩
 rw[hx]at c1
 have d1:=(Array.getElem?_eq_some_iff.1 c1).2
 have HX:=Lib.hid hx
 clear hg hcs F f2 hp hso F2 hm2 hcs2 hll hx hsz
 go_wp2_with fail
 go_ret
 exact⟨⟨L2,HL.out.1,HL.out.2.1,by rw[HX.out];rfl⟩,HL.out.2.2⟩
end Go.Proofs.YtjlelckefiannaaGreatDoor
