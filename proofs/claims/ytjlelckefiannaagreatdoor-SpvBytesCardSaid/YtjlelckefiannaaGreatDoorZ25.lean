import Derived.Test.YtjlelckefiannaaGreatDoorZ10
import Derived.Test.YtjlelckefiannaaGreatDoorZ9
import Derived.Test.YtjlelckefiannaaGreatDoorZ2
import Derived.Test.YtjlelckefiannaaGreatDoorZ1
set_option maxRecDepth 100000
set_option maxHeartbeats 64000000
namespace Go.Proofs.YtjlelckefiannaaGreatDoor
set_option linter.unusedVariables false
set_option linter.unusedSimpArgs false
open Go.RowKit
theorem Tryz.szHash:(Tryz.prog.info? 24).map (·.size)=some 32:=by kernel_rfl
@[go_sem ↓ high] theorem aSt (p:Value):Instr.loadAt 24 p=iq 24 p:=rfl
@[go_sem] theorem aIk (w:World) (g:Nat):(iq 24 (.pointer (some ⟨g,0,none⟩))).run Tryz.prog w=aa8 Tryz.prog 24 (.pointer (some ⟨g,0,none⟩)) w 32 w.heap[g]? :=
 qc w _ g 32 _ Tryz.underlying24 rfl Tryz.szHash
def aJi:Prop:=∀(b:Nat),b<4294967296 →
 (btP b→∀w,Calls Tryz.prog 86 #[.int .u32 (b:Int)] w λe w'=>e = .returned (.tuple #[.agg (gu .u64 64 4 (btT b)),.int .i64 0])∧Fr F0 w w') ∧
 (¬btP b→∀w,Calls Tryz.prog 86 #[.int .u32 (b:Int)] w λe w'=>e = .returned (.tuple #[.agg (gu .u64 64 4 0),.int .i64 6])∧Fr F0 w w')
def EncC:Prop:=∀(t:Nat),t<ng→∀w,Calls Tryz.prog 180 #[.agg (gu .u64 64 4 t)] w λe w'=>e = .returned (.int .u32 (enB t:Nat))∧Fr F0 w w'
def aQo:Prop:=∀(t:Nat),t<ng→∀w,Calls Tryz.prog 89 #[.agg (gu .u64 64 4 t)] w λe w'=>e = .returned (.agg (gu .u64 64 4 (wkN t)))∧Fr F0 w w'
def aSl:Prop:=∀(h t:Nat) (o:Bool),h<ng→t<ng→decide (h≤t)=o→∀w,Calls Tryz.prog 87 #[.agg (gu .u8 8 32 h),.agg (gu .u64 64 4 t)] w λe w'=>e = .returned (.bool o)∧Fr F0 w w'
def scE(by' most:Nat):Int:=if by'=0 then 5 else if most=0 then 1 else 0
def scV(t up by' most:Nat):Nat:=if by'=0 then 0 else if most=0 then 0 else scN t up by' most
def aup:Prop:=∀(t up by' most:Nat),t<ng→up<18446744073709551616→by'<18446744073709551616→most<ng→∀w,
 Calls Tryz.prog 178 #[.agg (gu .u64 64 4 t),.int .u64 (up:Int),.int .u64 (by':Int),.agg (gu .u64 64 4 most)] w λe w'=>e = .returned (.tuple #[.agg (gu .u64 64 4 (scV t up by' most)),.int .i64 (scE by' most)])∧Fr F0 w w'
theorem al8(e:Nat)(he:e≤255)(w:World):
  Calls Tryz.prog 138 #[.int .i64 (e:Int)] w λo w'=>o = .returned (.int .i64 (8*((e:Int)-3)))∧w'=w:=by
 have e1:IntKind.i64.wrap ((e:Int)-3)=(e:Int)-3:=IntWalk.i64_in _ aPl
 have e2:IntKind.i64.wrap (8*((e:Int)-3))=8*((e:Int)-3):=IntWalk.i64_in _ aPl
 clear he
 go_enter Tryz.func138,Tryz.ntmps138
 go_wp2_with fail
 go_ret
 exact⟨rfl,rfl⟩
theorem azj(x y:Nat):(sgn x y≤0)↔x≤y:=by
 unfold sgn
 by_cases h1:x<y
 ·rw[if_pos h1];omega
 ·rw[if_neg h1]
  by_cases h2:y<x
  ·rw[if_pos h2];omega
  ·rw[if_neg h2];omega
theorem azr:aSl:=by
 intro h t o hh ht ho w
 have HF:=Lib.hid (ale h hh)
 have HC:=Lib.hid (afd h t hh ht)
 have hle:decide (sgn h t≤0)=o:=by rw[←ho];exact decide_eq_decide.2 (azj h t)
 generalize sgn h t=s at *
 clear hh ht ho
 go_enter Tryz.func87,Tryz.ntmps87
 go_wp2_with fail
 obtain⟨W1,hW1⟩:∃W,W=(w.alloc (.cells (gu .u8 8 32 h) 24)).alloc (.cells (gu .u64 64 4 t) 143):=⟨_,rfl⟩
 obtain⟨r1,r2⟩:=heap2 w (.cells (gu .u8 8 32 h) 24) (.cells (gu .u64 64 4 t) 143)
 have F:Fr F0 w W1:=by rw[hW1];exact((Fr.refl _ _).alloc _).alloc _
 rw[←hW1]at r1 r2
 refine jo W1 hW1 ?_
 clear hW1
 generalize w.heap.size+1=g2 at *
 generalize w.heap.size=g1 at *
 refine jm (S:=(λw'=>(w'.heap[g1]? = some (.cells (gu .u8 8 32 h) 24 (0,0))∧w'.heap[g2]? = some (.cells (gu .u64 64 4 t) 143 (0,0)))∧Fr F0 w w')) ?_ λak=>?_
 ·exact zz46
 refine aj 0 ?_
 refine aj 2 ?_
 refine jf 1 λK hK=>?_
 go_simp
 ((with_reducible refine(HF.out _).mono ?_);rintro e w5 ⟨rfl,f5⟩)
 refine rpu hK ak5 λak=>?_
 clear hK K
 refine jf 3 λK hK=>?_
 go_simp
 ((with_reducible refine(HC.out _).mono ?_);rintro e w5 ⟨rfl,f5⟩)
 refine rpu hK ak5 λak=>?_
 clear hK K
 refine aj 4 ?_
 refine aj 5 ?_
 refine jg ?_
 all_goals
  go_wp2
  go_ret
  exact⟨rfl,ak.2⟩
theorem aGw(m k:Nat)(hm:0<m):nbits m+k≤256↔m*2 ^ k<ng:=by
 rw[aIa]
 by_cases hk:k≤256
 ·have e:nbits m+k≤256↔nbits m≤256-k:=by omega
  rw[e,uw]
  have e2:2 ^ 256=2 ^ (256-k)*2 ^ k:=by rw[←Nat.pow_add];congr 1;omega
  rw[e2]
  exact(Nat.mul_lt_mul_right (Nat.two_pow_pos k)).symm
 ·constructor
  ·intro h;omega
  ·intro h
   have h1:2 ^ 256≤2 ^ k:=Nat.pow_le_pow_right aPl aPl
   have h2:2 ^ k≤m*2 ^ k:=Nat.le_mul_of_pos_left _ hm
   omega
theorem aJl(n:Int):aeb 0 n=0:=by
 unfold aeb
 by_cases h:n<0
 ·rw[if_pos h]
  by_cases h2 : -n<256
  ·rw[if_pos h2,Nat.zero_div]
  ·rw[if_neg h2]
 ·rw[if_neg h]
  by_cases h2:n<256
  ·rw[if_pos h2,Nat.zero_mul,Nat.zero_mod]
  ·rw[if_neg h2]
theorem up_down(a k:Nat)(hk:0<k)(h:k<256):aeb a (-(k:Int))=a/2 ^ k:=by
 unfold aeb
 rw[if_pos aPl,Int.neg_neg,if_pos aPl,Int.toNat_natCast]
theorem aP5(a k:Nat)(h:k<256):aeb a (k:Int)=a*2 ^ k % ng:=by
 unfold aeb
 rw[if_neg aPl,if_pos aPl,Int.toNat_natCast]
theorem aM7(e m:Nat)(hm:m<8388608)(he:e≤255):
  (0<aeb m (8*((e:Int)-3))∧(nbits m:Int)+8*((e:Int)-3)≤256↔0<tgt e m∧tgt e m<ng)∧(0<tgt e m∧tgt e m<ng→aeb m (8*((e:Int)-3))=tgt e m):=by
 by_cases h0:m=0
 ·subst h0
  have:tgt e 0=0:=by unfold tgt;simp
  rw[this,aJl]
  exact⟨⟨λh=>absurd h.1 aPl,λh=>absurd h.1 aPl⟩,λh=>absurd h.1 aPl⟩
 ·by_cases h3:3≤e
  ·have hk:8*((e:Int)-3)=((8*(e-3):Nat):Int):=by omega
   have ht:tgt e m=m*2 ^ (8*(e-3)):=by unfold tgt;rw[if_pos h3,ac7]
   rw[hk,ht]
   generalize 8*(e-3)=k at *
   have hb:=aGw m k aPl
   have hp:0<m*2 ^ k:=Nat.mul_pos aPl (Nat.two_pow_pos k)
   have hb2:((nbits m:Int)+(k:Int)≤256)↔nbits m+k≤256:=by omega
   have hbm:0<nbits m:=by
    refine Nat.pos_of_ne_zero λh=>?_
    have:=(uw m 0).1 aPl
    omega
   rw[hb2,hb]
   have key:m*2 ^ k<ng→aeb m (k:Int)=m*2 ^ k:=λh=>by
    have hk2:k<256:=by have:=hb.2 h;omega
    rw[aP5 m k hk2,Nat.mod_eq_of_lt h]
   exact⟨⟨λh=>⟨hp,h.2⟩,λh=>⟨by rw[key h.2];exact hp,h.2⟩⟩,λh=>key h.2⟩
  ·have hk:8*((e:Int)-3) = -((8*(3-e):Nat):Int):=by omega
   have ht:tgt e m=m/2 ^ (8*(3-e)):=by unfold tgt;rw[if_neg h3,ac7]
   have hmm:m/2 ^ (8*(3-e))<ng:=Nat.lt_of_le_of_lt (Nat.div_le_self _ _) (aia aPl)
   have hb:nbits m≤23:=(uw m 23).2 aPl
   rw[hk,ht,up_down m _ aPl aPl]
   refine⟨⟨λh=>⟨h.1,hmm⟩,λh=>⟨h.1,?_⟩⟩,λ_=>rfl⟩
   clear hmm ht hk
   omega
theorem aNp(b:Nat)(hb:b<4294967296):bits BinOp.and IntKind.u32 (b:Int) 8388607=((b % 8388608:Nat):Int):=by
 have h1:=u32_and_nat b 8388607 hb (by decide)
 rw[show((8388607:Nat):Int)=8388607 from rfl]at h1
 rw[h1,show(8388607:Nat)=2 ^ 23-1 from rfl,Nat.and_two_pow_sub_one_eq_mod]
theorem aNo(b k:Nat):b &&& 2 ^ k=b/2 ^ k % 2*2 ^ k:=by
 apply Nat.eq_of_testBit_eq
 intro i
 rw[Nat.testBit_and,Nat.testBit_two_pow,Nat.testBit_mul_two_pow]
 by_cases h:k=i
 ·subst h
  rw[Nat.sub_self,Nat.testBit_zero,Nat.testBit_eq_decide_div_mod_eq]
  simp
 ·by_cases h2:k≤i
  ·obtain⟨j,hj⟩:∃j,i-k=j+1:=⟨i-k-1,by omega⟩
   rw[hj,Nat.testBit_succ,Nat.div_eq_of_lt (Nat.mod_lt _ aPl),Nat.zero_testBit]
   simp[h]
  ·simp[h,h2]
theorem aH2(b:Nat)(hb:b<4294967296):bits BinOp.and IntKind.u32 (b:Int) 8388608=((b/8388608 % 2*8388608:Nat):Int):=by
 have h1:=u32_and_nat b 8388608 hb (by decide)
 rw[show((8388608:Nat):Int)=8388608 from rfl]at h1
 rw[h1,show(8388608:Nat)=2 ^ 23 from rfl,aNo]
theorem ael(x:Nat)(hx:x<ng)(o:Bool)(h:decide (x=0)=o):adq 256 x 0=o:=by rw[anz x 0 hx aam];exact h
theorem aLg(a:Nat)(n:Int)(ha:a<ng):aeb a n<ng:=by
 unfold aeb
 split
 ·split
  ·exact Nat.lt_of_le_of_lt (Nat.div_le_self _ _) ha
  ·exact aam
 ·split
  ·exact Nat.mod_lt _ aam
  ·exact aam
theorem aqs(b m t:Nat)(e:Nat)(n V:Nat)(u z E:Int)(os oz ob:Bool)(hb:b<4294967296)
  (hm:bits BinOp.and IntKind.u32 (b:Int) 8388607=(m:Int)) (hm2:(m:Int)<18446744073709551616) (hs:bits BinOp.and IntKind.u32 (b:Int) 8388608=z) (hs0:decide (z=0) = !os) (he:(b:Int)/16777216=(e:Int)) (he2:(e:Int)≤255) (hn:(n:Int)≤256)
  (hu:IntKind.i64.wrap ((n:Int)+u)=(n:Int)+u)
  (HO:Hid (∀w,Calls Tryz.prog 137 #[.int .u64 (m:Int)] w λo w'=>o = .returned (.agg (gu .u64 64 4 m))∧Fr F0 w w'))
  (HM:Hid (∀w,Calls Tryz.prog 138 #[.int .i64 (e:Int)] w λo w'=>o = .returned (.int .i64 u)∧w'=w))
  (HL:Hid (∀w,Calls Tryz.prog 139 #[.agg (gu .u64 64 4 m),.int .i64 u] w λo w'=>o = .returned (.agg (gu .u64 64 4 t))∧Fr F0 w w'))
  (HB:Hid (∀w,Calls Tryz.prog 140 #[.agg (gu .u64 64 4 m)] w λo w'=>o = .returned (.int .i64 (n:Int))∧Fr F0 w w'))
  (ht:adq 256 t 0=oz) (hob:decide (256<(n:Int)+u)=ob) (hV:V=if(os||oz||ob)=true then 0 else t) (hE:E=if(os||oz||ob)=true then 6 else 0) (w:World) :
  Calls Tryz.prog 86 #[.int .u32 (b:Int)] w λo w'=>o = .returned (.tuple #[.agg (gu .u64 64 4 V),.int .i64 E])∧Fr F0 w w':=by
 have HV:=Lib.hid (And.intro hV hE)
 clear hV hE
 have c1:IntKind.u64.wrap (m:Int)=(m:Int):=IntWalk.u64_in _ aPl
 have c2:IntKind.i64.wrap (e:Int)=(e:Int):=IntWalk.i64_in _ aPl
 go_enter Tryz.func86,Tryz.ntmps86
 go_wp2_with fail
 (with_reducible refine(HO.out _).mono ?_);rintro o w1 ⟨rfl,f1⟩
 go_wp2_with fail
 (with_reducible refine(HM.out _).mono ?_);rintro o w2 ⟨rfl,rfl⟩
 obtain⟨W2,hW2⟩:∃W,W=(w1.alloc (.cells (gu .u64 64 4 0) 143)).setRow w1.heap.size (gu .u64 64 4 m):=⟨_,rfl⟩
 rw[←hW2]
 have N:=aa9 w1 (gu .u64 64 4 0) (gu .u64 64 4 m) 143
 rw[←hW2]at N
 have r1:=N.new
 have F:=((Fr.refl F0 w).alloc (.cells (gu .u64 64 4 0) 143)).trans' f1
 replace r0:=au f1 (heap_alloc_new w _)
 replace r0:=N.old r0
 replace F:=F.trans' N.fr
 clear N hW2 f1
 generalize w1.heap.size=g1 at *
 generalize hg:w.heap.size=g0 at *
 have HG:=Lib.hid (show w.heap.size≤g0 by omega)
 clear hg
 go_wp2_with fail
 (with_reducible refine(HL.out _).mono ?_);rintro o w3 ⟨rfl,f⟩
 replace r0:=au f r0
 replace r1:=au f r1
 replace F:=F.trans' f
 clear f
 go_upto_region 4 with fail
 obtain⟨W4,hW4⟩:∃W,W=(w3.alloc (.cells (gu .u64 64 4 0) 143)).setRow w3.heap.size (gu .u64 64 4 t):=⟨_,rfl⟩
 have N:=aa9 w3 (gu .u64 64 4 0) (gu .u64 64 4 t) 143
 rw[←hW4]at N
 refine jo W4 hW4 ?_
 have r2:=N.new
 replace r0:=N.old r0
 replace r1:=N.old r1
 replace F:=F.trans' N.fr
 clear N hW4
 generalize w3.heap.size=g2 at *
 clear hm hb hm2 he he2 hn c1 c2
 cases os
 ·replace hs0:z=0:=of_decide_eq_true hs0
  cases oz
  ·go_wp2_with fail
   (with_reducible refine(HB.out _).mono ?_);rintro o w5 ⟨rfl,f⟩
   replace r0:=au f r0
   replace r2:=au f r2
   replace F:=F.trans' f
   clear f
   cases ob
   ·go_wp2_with fail
    refine bodyPost_ret (tq rfl _ _ g0 _ _ _ _ rfl (qp r0) Tryz.underlying143 rfl zz75) rfl ⟨by rw[HV.out.1,HV.out.2];rfl,F.setRow (λh=>by have:=HG.out;omega) _⟩
   ·go_wp2_with fail
    refine bodyPost_ret (tq rfl _ _ g0 _ _ _ _ rfl (qp r0) Tryz.underlying143 rfl zz75) rfl ⟨by rw[HV.out.1,HV.out.2];rfl,F.setRow (λh=>by have:=HG.out;omega) _⟩
  ·go_wp2_with fail
   refine bodyPost_ret (tq rfl _ _ g0 _ _ _ _ rfl (qp r0) Tryz.underlying143 rfl zz75) rfl ⟨by rw[HV.out.1,HV.out.2];rfl,F.setRow (λh=>by have:=HG.out;omega) _⟩
 ·replace hs0:¬z=0:=of_decide_eq_false hs0
  go_wp2_with fail
  refine bodyPost_ret (tq rfl _ _ g0 _ _ _ _ rfl (qp r0) Tryz.underlying143 rfl zz75) rfl ⟨by rw[HV.out.1,HV.out.2];rfl,F.setRow (λh=>by have:=HG.out;omega) _⟩
theorem aFz(b:Nat):decide (((b/8388608 % 2*8388608:Nat):Int)=0) = !decide (btS b=1):=by
 unfold btS
 by_cases h:b/8388608 % 2=1
 ·rw[decide_eq_true h,h];rfl
 ·have h0:b/8388608 % 2=0:=by omega
  rw[h0];rfl
theorem aJe:aJi:=by
 intro b hb
 have hm2:btM b<8388608:=by unfold btM;omega
 have he2:btE b≤255:=by unfold btE;omega
 have hmW:btM b<ng:=aia aPl
 have hn:nbits (btM b)≤23:=(uw _ 23).2 aPl
 obtain⟨d1,d2⟩:=aM7 (btE b) (btM b) hm2 he2
 have hl:=aLg (btM b) (8*((btE b:Int)-3)) hmW
 have core:=aqs b (btM b) (aeb (btM b) (8*((btE b:Int)-3))) (btE b) (nbits (btM b))
 have hor:∀os oz ob:Bool,os=decide (btS b=1)→oz=decide (aeb (btM b) (8*((btE b:Int)-3))=0)→ob=decide (256<(nbits (btM b):Int)+8*((btE b:Int)-3))→((os||oz||ob)=true↔¬btP b):=by
  intro os oz ob h1 h2 h3
  subst h1 h2 h3
  rw[Bool.or_eq_true,Bool.or_eq_true,decide_eq_true_iff,decide_eq_true_iff,decide_eq_true_iff]
  unfold btP btT
  constructor
  ·intro h hp
   have h4:=d1.2 hp.2
   rcases h with(h|h)|h
   ·refine hp.1 ⟨h,Nat.pos_of_ne_zero λh5=>?_⟩
    rw[h5,aJl]at h4
    omega
   ·omega
   ·omega
  ·intro hp
   by_cases h1:btS b=1
   ·exact .inl (.inl h1)
   ·by_cases h2:aeb (btM b) (8*((btE b:Int)-3))=0
    ·exact .inl (.inr h2)
    ·refine .inr (Int.not_le.1 λh3=>hp ⟨λh=>h1 h.1,d1.1 ⟨Nat.pos_of_ne_zero h2,h3⟩⟩)
 have run:=λV E h1 h2 w=>core V (8*((btE b:Int)-3)) ((b/8388608 % 2*8388608:Nat):Int) E (decide (btS b=1)) (decide (aeb (btM b) (8*((btE b:Int)-3))=0)) (decide (256<(nbits (btM b):Int)+8*((btE b:Int)-3))) hb
  (aNp b hb) aPl (aH2 b hb) (aFz b) (by unfold btE;omega) aPl aPl (IntWalk.i64_in _ aPl)
  (Lib.hid λw=>ajl (btM b) aPl w) (Lib.hid λw=>al8 (btE b) he2 w) (Lib.hid λw=>aBi (btM b) _ hmW aPl aPl w) (Lib.hid λw=>ajv (btM b) hmW w) (ael _ hl _ rfl) rfl h1 h2 w
 refine⟨λhp w=>?_,λhp w=>?_⟩
 ·have hno:=mt (hor _ _ _ rfl rfl rfl).1 (λh=>h hp)
  refine run (btT b) 0 ?_ ?_ w
  ·rw[if_neg hno];exact(d2 hp.2).symm
  ·rw[if_neg hno]
 ·have hyes:=(hor _ _ _ rfl rfl rfl).2 hp
  refine run 0 6 ?_ ?_ w
  ·rw[if_pos hyes]
  ·rw[if_pos hyes]
theorem aF1{t up by' most:Nat}(hm:most<ng):scN t up by' most<ng:=by
 unfold scN
 split
 ·exact hm
 ·split
  ·exact aia aPl
  ·omega
theorem aun(t:Nat):enM t<8388608:=by
 by_cases h:0<t
 ·exact aJ4 h
 ·obtain rfl:t=0:=by omega
  decide
theorem aR0{t:Nat}(h:t<ng):enB t<4294967296:=by
 have h1:=azu h
 have h2:=aun t
 unfold enB
 omega
theorem enB_E(t:Nat):btE (enB t)=enE t:=by
 have h2:=aun t
 unfold btE enB
 omega
theorem enB_M(t:Nat):btM (enB t)=enM t:=by
 have h2:=aun t
 unfold btM enB
 omega
theorem enB_S(t:Nat):btS (enB t)=0:=by
 have h2:=aun t
 unfold btS enB
 omega
theorem aFc(t:Nat):btT (enB t)=tgt (enE t) (enM t):=by
 unfold btT
 rw[enB_E,enB_M]
theorem aM2{t:Nat}(h:0<t)(ht:t<ng):btP (enB t)∧btT (enB t)≤t∧enB (btT (enB t))=enB t:=by
 have hb:=aDo h
 have hl:=aBo h
 rw[aFc]
 refine⟨⟨λh1=>?_,?_,?_⟩,hl,?_⟩
 ·rw[enB_S]at h1;omega
 ·rw[aFc];exact hb.1
 ·rw[aFc];omega
 ·conv=>lhs;unfold enB
  rw[hb.2.1,hb.2.2]
  rfl
theorem aFl{t:Nat}(ht:0<t):aeh t<8388608↔nbits t+1≤8*nby t:=by
 have h0:=(ajh ht).1
 unfold aeh
 by_cases h3:3≤nby t
 ·rw[if_pos h3,ac7,Nat.div_lt_iff_lt_mul (Nat.two_pow_pos _),show 8388608=2 ^ 23 from rfl,←Nat.pow_add,←uw]
  omega
 ·rw[if_neg h3,ac7]
  have e:8388608=2 ^ (8*nby t-1)*2 ^ (8*(3-nby t)):=by
   rw[←Nat.pow_add,show 8*nby t-1+8*(3-nby t)=23 by omega]
  rw[e,Nat.mul_lt_mul_right (Nat.two_pow_pos _),←uw]
  omega
theorem aHg{t:Nat}(ht:0<t):enE t=nbits t/8+1:=by
 have h:=aFl ht
 have h2:nby t=(nbits t+7)/8:=rfl
 have h3:=(ajh ht).1
 unfold enE
 by_cases h4:8388608≤aeh t
 ·rw[if_pos h4];omega
 ·rw[if_neg h4];omega
theorem ai0(a k:Nat)(h:k<256)(h2:a*2 ^ k<ng):aeb a (k:Int)=a*2 ^ k:=by rw[aP5 a k h,Nat.mod_eq_of_lt h2]
theorem ajo{x:Nat}(h:x<16777216):x<ng:=aia aPl
theorem aM0{t:Nat}(ht:0<t)(h33:enE t≤33):aeb t (-(8*((enE t:Int)-3)))=enM t:=by
 have h1:=afj ht
 have h0:=(ajh ht).1
 by_cases hi:8388608≤aeh t
 ·have e1:enE t=nby t+1:=if_pos hi
  rw[aJ6 hi]
  rw[e1]at h33 ⊢
  unfold aeh at h1 ⊢
  by_cases h3:3≤nby t
  ·rw[if_pos h3,avu t (nby t) h3,ac7]
   have : -(8*(((nby t+1:Nat):Int)-3)) = -((8*(nby t-2):Nat):Int):=by omega
   rw[this,up_down t _ aPl aPl]
  ·rw[if_neg h3]at h1 ⊢
   have hc:nby t=1∨nby t=2:=by omega
   rcases hc with h|h
   ·rw[h,am4]at h1
    rw[h,am4,show -(8*(((1+1:Nat):Int)-3))=((8:Nat):Int) by omega,ai0 t 8 aPl (ajo aPl)]
    omega
   ·rw[h,ar0]at h1
    rw[h,ar0,show -(8*(((2+1:Nat):Int)-3))=((0:Nat):Int) by omega,ai0 t 0 aPl (ajo aPl)]
    omega
 ·have e1:enE t=nby t:=if_neg hi
  rw[aJ5 hi]
  rw[e1]at h33 ⊢
  unfold aeh at h1 ⊢
  by_cases h3:3≤nby t
  ·rw[if_pos h3,ac7]
   by_cases h4:nby t=3
   ·rw[h4,show -(8*(((3:Nat):Int)-3))=((0:Nat):Int) by omega,ai0 t 0 aPl ?_]
    ·simp
    ·rw[if_pos h3,h4]at h1
     refine ajo ?_
     simp[by2]at h1
     omega
   ·have : -(8*((nby t:Int)-3)) = -((8*(nby t-3):Nat):Int):=by omega
    rw[this,up_down t _ aPl aPl]
  ·rw[if_neg h3]at h1 ⊢
   have : -(8*((nby t:Int)-3))=((8*(3-nby t):Nat):Int):=by omega
   rw[ac7]at h1
   rw[this,ac7,ai0 t _ aPl (ajo h1.2)]
theorem aRj(e m:Nat)(he:e≤33)(hm:m<8388608):bits BinOp.or IntKind.u32 ((e*16777216:Nat):Int) (m:Int)=((m+e*16777216:Nat):Int):=by
 rw[u32_or_nat _ _ aPl aPl]
 congr 1
 rw[Nat.or_comm,show(16777216:Nat)=2 ^ 24 from rfl,Nat.mul_comm,Nat.or_comm,Nat.two_pow_add_eq_or_of_lt aPl _ |>.symm]
 omega
theorem aqr(t n e m B:Nat)(u:Int)(hB:B<4294967296)(hn:(n:Int)≤256)(he:(n:Int)/8+1=(e:Int))(he2:(e:Int)≤33)(hm2:(m:Int)<8388608)
  (ht:adq 256 t 0=false) (ho:bits BinOp.or IntKind.u32 ((e*16777216:Nat):Int) (m:Int)=(B:Int))
  (HB:Hid (∀w,Calls Tryz.prog 140 #[.agg (gu .u64 64 4 t)] w λo w'=>o = .returned (.int .i64 (n:Int))∧Fr F0 w w'))
  (HM:Hid (∀w,Calls Tryz.prog 138 #[.int .i64 (e:Int)] w λo w'=>o = .returned (.int .i64 u)∧w'=w))
  (HR:Hid (∀w,Calls Tryz.prog 197 #[.agg (gu .u64 64 4 t),.int .i64 u] w λo w'=>o = .returned (.agg (gu .u64 64 4 m))∧Fr F0 w w'))
  (HU:Hid (∀w,Calls Tryz.prog 198 #[.agg (gu .u64 64 4 m)] w λo w'=>o = .returned (.tuple #[.int .u64 (m:Int),.bool true])∧Fr F0 w w')) (w:World) :
  Calls Tryz.prog 180 #[.agg (gu .u64 64 4 t)] w λo w'=>o = .returned (.int .u32 (B:Int))∧Fr F0 w w':=by
 obtain⟨q,hq⟩:∃q:Int,(n:Int)/8=q:=⟨_,rfl⟩
 have c0:Int.tdiv (n:Int) 8=q:=by rw[Int.tdiv_eq_ediv_of_nonneg aPl];exact hq
 have c1:IntKind.i64.wrap q=q:=IntWalk.i64_in _ aPl
 have c2:IntKind.i64.wrap (q+1)=(e:Int):=by rw[IntWalk.i64_in _ aPl];omega
 have c3:IntKind.u32.wrap (e:Int)=(e:Int):=IntWalk.u32_in _ aPl
 have c4:IntKind.u32.wrap ((e:Int)*16777216)=((e*16777216:Nat):Int):=by rw[IntWalk.u32_in _ aPl];omega
 have c5:IntKind.u32.wrap (m:Int)=(m:Int):=IntWalk.u32_in _ aPl
 generalize e*16777216=E at *
 clear hB hn he he2 hm2
 go_enter Tryz.func180,Tryz.ntmps180
 go_wp2_with fail
 (with_reducible refine(HB.out _).mono ?_);rintro o w1 ⟨rfl,f⟩
 have r0:=au f (heap_alloc_new w _)
 have F:=((Fr.refl F0 w).alloc (.cells (gu .u64 64 4 t) 143)).trans' f
 clear f
 generalize w.heap.size=g0 at *
 go_wp2_with fail
 refine jm (S:=(λw'=>w'.heap[g0]? = some (.cells (gu .u64 64 4 t) 143 (0,0))∧Fr F0 w w')) ?_ λak=>?_
 ·exact(by((try dsimp only)<;>(exact⟨r0,F.drew⟩)))
 refine aj 0 ?_
 refine aj 1 ?_
 refine jf 2 λK hK=>?_
 go_simp
 ((with_reducible refine(HM.out _).mono ?_);rintro e w5 ⟨rfl,rfl⟩)
 refine rpu hK aPr λak=>?_
 clear hK K
 refine jf 3 λK hK=>?_
 go_simp
 ((with_reducible refine(HR.out _).mono ?_);rintro e w5 ⟨rfl,f5⟩)
 refine rpu hK aPr λak=>?_
 clear hK K
 refine jf 4 λK hK=>?_
 go_simp
 ((with_reducible refine(HU.out _).mono ?_);rintro e w5 ⟨rfl,f5⟩)
 refine rpu hK aPr λak=>?_
 clear hK K
 refine aj 5 ?_
 refine aj 6 ?_
 refine aj 7 ?_
 refine aj 8 ?_
 refine aj 9 ?_
 refine jg ?_
 all_goals
  go_wp2
  go_ret
  exact⟨by simp,ak.2⟩
theorem aqp(w:World):Calls Tryz.prog 180 #[.agg (gu .u64 64 4 0)] w λo w'=>o = .returned (.int .u32 0)∧Fr F0 w w':=by
 have hz:adq 256 0 0=true:=rfl
 go_enter Tryz.func180,Tryz.ntmps180
 go_wp2_with fail
 go_ret
 exact⟨rfl,(Fr.refl F0 w).alloc _⟩
theorem ap7(t:Nat):enM t<8388608:=by
 by_cases h:0<t
 ·exact aJ4 h
 ·obtain rfl:t=0:=by omega
  decide
theorem aC6{t:Nat}(h:t<ng):enB t<4294967296:=by
 have h1:=azu h
 have h2:=ap7 t
 unfold enB
 omega
theorem aQj:EncC:=by
 intro t ht w
 by_cases h0:0<t
 ·have h33:=azu ht
  have hE:=aHg h0
  have hm:=ap7 t
  have hn:nbits t≤256:=(uw t 256).2 ht
  have hmW:enM t<ng:=ajo aPl
  refine aqr t (nbits t) (enE t) (enM t) (enB t) (8*((enE t:Int)-3)) (aC6 ht) aPl aPl aPl aPl (ael t ht _ (decide_eq_false aPl)) ?_
   (Lib.hid (ajv t ht)) (Lib.hid (al8 (enE t) aPl)) (Lib.hid λw=>?_) (Lib.hid λw=>?_) w
  ·rw[aRj _ _ h33 hm];rfl
  ·have:=ahy t (8*((enE t:Int)-3)) ht aPl aPl w
   rwa [aM0 h0 h33]at this
  ·have:=apc (enM t) hmW w
   rwa [if_pos aPl,decide_eq_true aPl]at this
 ·obtain rfl:t=0:=by omega
  exact aqp w
theorem tk7{s0 s5 s6 s7 s8 s9 s10 s11 s12 s13 s14 s15 s16 s17 s18 s19 s20 s21 s22 s23 s24 s25 s26 s27 s28 s29 s30 s31 s32 s33 s34 s35 s36 s37 s38 s39 s40 s41:Value}{K:Act→World→Prop}{Q:Exit→Act→World→Prop}(w w6:World)(t n m q r g1 g2 g3 g4:Nat)(HN:RowKit.Hid (∀w:World,Calls Tryz.prog 146 #[.agg (gu .u64 64 4 t)] w λe w'=>e = .returned (.agg (gu .u64 64 4 n))∧Fr F0 w w'))(HD:RowKit.Hid (∀w:World,Calls Tryz.prog 147 #[.agg (gu .u64 64 4 n),.agg (gu .u64 64 4 m)] w λe w'=>e = .returned (.tuple #[.agg (gu .u64 64 4 q),.agg (gu .u64 64 4 r),.int .i64 0])∧Fr F0 w w'))(r1:w6.heap[g1]? = some (.cells (gu .u64 64 4 t) 143 (0,0)))(r2:w6.heap[g2]? = some (.cells (gu .u64 64 4 0) 143 (0,0)))(r3:w6.heap[g3]? = some (.cells (gu .u64 64 4 1) 143 (0,0)))(r4:w6.heap[g4]? = some (.cells (gu .u64 64 4 m) 143 (0,0)))(F:Fr F0 w w6)
  (hK:RowKit.Hid (∀{u6 u7 u8 u27 u28 u29 u30 u31 u32 u33 u34:Value} {w':World},((∃p1:Nat,u6 = .pointer (some ⟨p1,0,none⟩)∧w'.heap[p1]? = some (.cells (gu .u64 64 4 q) 143 (0,0)))∧(w'.heap[g1]? = some (.cells (gu .u64 64 4 t) 143 (0,0))∧w'.heap[g2]? = some (.cells (gu .u64 64 4 0) 143 (0,0))∧w'.heap[g3]? = some (.cells (gu .u64 64 4 1) 143 (0,0))∧w'.heap[g4]? = some (.cells (gu .u64 64 4 m) 143 (0,0)))∧Fr F0 w w')→K ⟨#[s0,.pointer (some ⟨g1,0,none⟩),.pointer (some ⟨g2,0,none⟩),.pointer (some ⟨g3,0,none⟩),.pointer (some ⟨g4,0,none⟩),s5,u6,u7,u8,s9,s10,s11,s12,s13,s14,s15,s16,s17,s18,s19,s20,s21,s22,s23,s24,s25,s26,u27,u28,u29,u30,u31,u32,u33,u34,s35,s36,s37,s38,s39,s40,s41],[]⟩ w')) :
  Code.wp Tryz.prog ((Tryz.f89.body.bind (jw 7)).getD .skip) (Exit.then K Q) ⟨#[s0,.pointer (some ⟨g1,0,none⟩),.pointer (some ⟨g2,0,none⟩),.pointer (some ⟨g3,0,none⟩),.pointer (some ⟨g4,0,none⟩),s5,s6,s7,s8,s9,s10,s11,s12,s13,s14,s15,s16,s17,s18,s19,s20,s21,s22,s23,s24,s25,s26,s27,s28,s29,s30,s31,s32,s33,s34,s35,s36,s37,s38,s39,s40,s41],[]⟩ w6:=by
 conv=>arg 2;whnf
 have HG0:=Lib.hid (And.intro (Array.getElem?_eq_some_iff.1 r1).1 (And.intro (Array.getElem?_eq_some_iff.1 r2).1 (And.intro (Array.getElem?_eq_some_iff.1 r3).1 (And.intro (Array.getElem?_eq_some_iff.1 r4).1 F.size))))
 refine jm (S:=(λw'=>(w'.heap[g1]? = some (.cells (gu .u64 64 4 t) 143 (0,0))∧w'.heap[g2]? = some (.cells (gu .u64 64 4 0) 143 (0,0))∧w'.heap[g3]? = some (.cells (gu .u64 64 4 1) 143 (0,0))∧w'.heap[g4]? = some (.cells (gu .u64 64 4 m) 143 (0,0)))∧Fr F0 w w')) ?_ λak=>?_
 ·exact(by((try dsimp only)<;>(exact⟨⟨r1,r2,r3,r4⟩,F.drew⟩)))
 refine aj 0 ?_
 refine aj 2 ?_
 refine rdy [1,8,9] ?_
 refine rco (λK hK=>?_) (rco (λK hK=>?_) (rco (λK hK=>?_) AllReadyH.nil))
 go_simp
 (refine(HN.out _).mono ?_;rintro e w5 ⟨rfl,f5⟩;have z5:=f5.size;(try simp only[World.size_alloc,dh]at z5))
 refine rpu hK arn λak=>?_
 clear hK K
 refine rdy [3,8,9] ?_
 refine rco (λK hK=>?_) (rco (λK hK=>?_) (rco (λK hK=>?_) AllReadyH.nil))
 go_simp
 (refine(HD.out _).mono ?_;rintro e w5 ⟨rfl,f5⟩;have z5:=f5.size;(try simp only[World.size_alloc,dh]at z5))
 refine rpu hK arn λak=>?_
 clear hK K
 refine aj 4 ?_
 refine aj 5 ?_
 refine aj 6 ?_
 refine aj 7 ?_
 refine rdy [8,9] ?_
 refine rco (λK hK=>?_) (rco (λK hK=>?_) AllReadyH.nil)
 go_simp
 refine rpu hK zz4 λak=>?_
 clear hK K
 refine jf 9 λK hK=>?_
 go_simp
 refine rpu hK zz4 λak=>?_
 clear hK K
 refine jf 10 λK hK=>?_
 go_simp
 (try(rw[je (old:=gu .u64 64 4 0) (t':=143) (by((try rw[←Array.getElem?_eq_getElem]);repeat(first|exact heap_alloc_new _ _|exact heap_alloc2_new _ _ _|refine bg ?_|refine au (by assumption) ?_))) (dw _ _ _ _) (dw _ _ _ _) (iw _ _ _ _)];go_simp))
 refine rpu hK zz4 λak=>?_
 clear hK K
 refine jf 11 λK hK=>?_
 go_simp
 (try(rw[je (old:=gu .u64 64 4 0) (t':=143) (by((try rw[←Array.getElem?_eq_getElem]);repeat(first|exact heap_alloc_new _ _|exact heap_alloc2_new _ _ _|refine jk zz48 ?_|refine bg ?_|refine au (by assumption) ?_))) (dw _ _ _ _) (dw _ _ _ _) (iw _ _ _ _)];go_simp))
 refine rpu hK zz4 λak=>?_
 clear hK K
 refine aj 12 ?_
 refine jg ?_
 rotate_left
 go_simp
 refine rpu hK zz4 λak=>?_
 clear hK K
 refine jf 8 λK hK=>?_
 go_simp
 refine rpu hK zz4 λak=>?_
 clear hK K
 refine jf 10 λK hK=>?_
 go_simp
 (try(rw[je (old:=gu .u64 64 4 0) (t':=143) (by((try rw[←Array.getElem?_eq_getElem]);repeat(first|exact heap_alloc_new _ _|exact heap_alloc2_new _ _ _|refine bg ?_|refine au (by assumption) ?_))) (dw _ _ _ _) (dw _ _ _ _) (iw _ _ _ _)];go_simp))
 refine rpu hK zz4 λak=>?_
 clear hK K
 refine jf 11 λK hK=>?_
 go_simp
 (try(rw[je (old:=gu .u64 64 4 0) (t':=143) (by((try rw[←Array.getElem?_eq_getElem]);repeat(first|exact heap_alloc_new _ _|exact heap_alloc2_new _ _ _|refine jk zz48 ?_|refine bg ?_|refine au (by assumption) ?_))) (dw _ _ _ _) (dw _ _ _ _) (iw _ _ _ _)];go_simp))
 refine rpu hK zz4 λak=>?_
 clear hK K
 refine aj 12 ?_
 refine jg ?_
 rotate_left
 go_simp
 refine rpu hK zz4 λak=>?_
 clear hK K
 refine rdy [3,9] ?_
 refine rco (λK hK=>?_) (rco (λK hK=>?_) AllReadyH.nil)
 go_simp
 (refine(HD.out _).mono ?_;rintro e w5 ⟨rfl,f5⟩;have z5:=f5.size;(try simp only[World.size_alloc,dh]at z5))
 refine rpu hK arn λak=>?_
 clear hK K
 refine aj 4 ?_
 refine aj 5 ?_
 refine aj 6 ?_
 refine aj 7 ?_
 refine jf 9 λK hK=>?_
 go_simp
 refine rpu hK zz4 λak=>?_
 clear hK K
 refine jf 10 λK hK=>?_
 go_simp
 (try(rw[je (old:=gu .u64 64 4 0) (t':=143) (by((try rw[←Array.getElem?_eq_getElem]);repeat(first|exact heap_alloc_new _ _|exact heap_alloc2_new _ _ _|refine bg ?_|refine au (by assumption) ?_))) (dw _ _ _ _) (dw _ _ _ _) (iw _ _ _ _)];go_simp))
 refine rpu hK zz4 λak=>?_
 clear hK K
 refine jf 11 λK hK=>?_
 go_simp
 (try(rw[je (old:=gu .u64 64 4 0) (t':=143) (by((try rw[←Array.getElem?_eq_getElem]);repeat(first|exact heap_alloc_new _ _|exact heap_alloc2_new _ _ _|refine jk zz48 ?_|refine bg ?_|refine au (by assumption) ?_))) (dw _ _ _ _) (dw _ _ _ _) (iw _ _ _ _)];go_simp))
 refine rpu hK zz4 λak=>?_
 clear hK K
 refine aj 12 ?_
 refine jg ?_
 rotate_left
 go_simp
 refine rpu hK zz4 λak=>?_
 clear hK K
 refine jf 3 λK hK=>?_
 go_simp
 (refine(HD.out _).mono ?_;rintro e w5 ⟨rfl,f5⟩;have z5:=f5.size;(try simp only[World.size_alloc,dh]at z5))
 refine rpu hK arn λak=>?_
 clear hK K
 refine aj 4 ?_
 refine aj 5 ?_
 refine aj 6 ?_
 refine aj 7 ?_
 refine jf 10 λK hK=>?_
 go_simp
 (try(rw[je (old:=gu .u64 64 4 0) (t':=143) (by((try rw[←Array.getElem?_eq_getElem]);repeat(first|exact heap_alloc_new _ _|exact heap_alloc2_new _ _ _|refine bg ?_|refine au (by assumption) ?_))) (dw _ _ _ _) (dw _ _ _ _) (iw _ _ _ _)];go_simp))
 refine rpu hK zz4 λak=>?_
 clear hK K
 refine jf 11 λK hK=>?_
 go_simp
 (try(rw[je (old:=gu .u64 64 4 0) (t':=143) (by((try rw[←Array.getElem?_eq_getElem]);repeat(first|exact heap_alloc_new _ _|exact heap_alloc2_new _ _ _|refine jk zz48 ?_|refine bg ?_|refine au (by assumption) ?_))) (dw _ _ _ _) (dw _ _ _ _) (iw _ _ _ _)];go_simp))
 refine rpu hK zz4 λak=>?_
 clear hK K
 refine aj 12 ?_
 refine jg ?_
 rotate_left
 go_simp
 refine rpu hK zz4 λak=>?_
 clear hK K
 refine rdy [3,8] ?_
 refine rco (λK hK=>?_) (rco (λK hK=>?_) AllReadyH.nil)
 go_simp
 (refine(HD.out _).mono ?_;rintro e w5 ⟨rfl,f5⟩;have z5:=f5.size;(try simp only[World.size_alloc,dh]at z5))
 refine rpu hK arn λak=>?_
 clear hK K
 refine aj 4 ?_
 refine aj 5 ?_
 refine aj 6 ?_
 refine aj 7 ?_
 refine jf 8 λK hK=>?_
 go_simp
 refine rpu hK zz4 λak=>?_
 clear hK K
 refine jf 10 λK hK=>?_
 go_simp
 (try(rw[je (old:=gu .u64 64 4 0) (t':=143) (by((try rw[←Array.getElem?_eq_getElem]);repeat(first|exact heap_alloc_new _ _|exact heap_alloc2_new _ _ _|refine bg ?_|refine au (by assumption) ?_))) (dw _ _ _ _) (dw _ _ _ _) (iw _ _ _ _)];go_simp))
 refine rpu hK zz4 λak=>?_
 clear hK K
 refine jf 11 λK hK=>?_
 go_simp
 (try(rw[je (old:=gu .u64 64 4 0) (t':=143) (by((try rw[←Array.getElem?_eq_getElem]);repeat(first|exact heap_alloc_new _ _|exact heap_alloc2_new _ _ _|refine jk zz48 ?_|refine bg ?_|refine au (by assumption) ?_))) (dw _ _ _ _) (dw _ _ _ _) (iw _ _ _ _)];go_simp))
 refine rpu hK zz4 λak=>?_
 clear hK K
 refine aj 12 ?_
 refine jg ?_
 rotate_left
 go_simp
 refine rpu hK zz4 λak=>?_
 clear hK K
 refine jf 3 λK hK=>?_
 go_simp
 (refine(HD.out _).mono ?_;rintro e w5 ⟨rfl,f5⟩;have z5:=f5.size;(try simp only[World.size_alloc,dh]at z5))
 refine rpu hK arn λak=>?_
 clear hK K
 refine aj 4 ?_
 refine aj 5 ?_
 refine aj 6 ?_
 refine aj 7 ?_
 refine jf 10 λK hK=>?_
 go_simp
 (try(rw[je (old:=gu .u64 64 4 0) (t':=143) (by((try rw[←Array.getElem?_eq_getElem]);repeat(first|exact heap_alloc_new _ _|exact heap_alloc2_new _ _ _|refine bg ?_|refine au (by assumption) ?_))) (dw _ _ _ _) (dw _ _ _ _) (iw _ _ _ _)];go_simp))
 refine rpu hK zz4 λak=>?_
 clear hK K
 refine jf 11 λK hK=>?_
 go_simp
 (try(rw[je (old:=gu .u64 64 4 0) (t':=143) (by((try rw[←Array.getElem?_eq_getElem]);repeat(first|exact heap_alloc_new _ _|exact heap_alloc2_new _ _ _|refine jk zz48 ?_|refine bg ?_|refine au (by assumption) ?_))) (dw _ _ _ _) (dw _ _ _ _) (iw _ _ _ _)];go_simp))
 refine rpu hK zz4 λak=>?_
 clear hK K
 refine aj 12 ?_
 refine jg ?_
 rotate_left
 go_simp
 refine rpu hK zz4 λak=>?_
 clear hK K
 refine rdy [1,9] ?_
 refine rco (λK hK=>?_) (rco (λK hK=>?_) AllReadyH.nil)
 go_simp
 (refine(HN.out _).mono ?_;rintro e w5 ⟨rfl,f5⟩;have z5:=f5.size;(try simp only[World.size_alloc,dh]at z5))
 refine rpu hK arn λak=>?_
 clear hK K
 refine rdy [3,9] ?_
 refine rco (λK hK=>?_) (rco (λK hK=>?_) AllReadyH.nil)
 go_simp
 (refine(HD.out _).mono ?_;rintro e w5 ⟨rfl,f5⟩;have z5:=f5.size;(try simp only[World.size_alloc,dh]at z5))
 refine rpu hK arn λak=>?_
 clear hK K
 refine aj 4 ?_
 refine aj 5 ?_
 refine aj 6 ?_
 refine aj 7 ?_
 refine jf 9 λK hK=>?_
 go_simp
 refine rpu hK zz4 λak=>?_
 clear hK K
 refine jf 10 λK hK=>?_
 go_simp
 (try(rw[je (old:=gu .u64 64 4 0) (t':=143) (by((try rw[←Array.getElem?_eq_getElem]);repeat(first|exact heap_alloc_new _ _|exact heap_alloc2_new _ _ _|refine bg ?_|refine au (by assumption) ?_))) (dw _ _ _ _) (dw _ _ _ _) (iw _ _ _ _)];go_simp))
 refine rpu hK zz4 λak=>?_
 clear hK K
 refine jf 11 λK hK=>?_
 go_simp
 (try(rw[je (old:=gu .u64 64 4 0) (t':=143) (by((try rw[←Array.getElem?_eq_getElem]);repeat(first|exact heap_alloc_new _ _|exact heap_alloc2_new _ _ _|refine jk zz48 ?_|refine bg ?_|refine au (by assumption) ?_))) (dw _ _ _ _) (dw _ _ _ _) (iw _ _ _ _)];go_simp))
 refine rpu hK zz4 λak=>?_
 clear hK K
 refine aj 12 ?_
 refine jg ?_
 rotate_left
 go_simp
 refine rpu hK zz4 λak=>?_
 clear hK K
 refine jf 3 λK hK=>?_
 go_simp
 (refine(HD.out _).mono ?_;rintro e w5 ⟨rfl,f5⟩;have z5:=f5.size;(try simp only[World.size_alloc,dh]at z5))
 refine rpu hK arn λak=>?_
 clear hK K
 refine aj 4 ?_
 refine aj 5 ?_
 refine aj 6 ?_
 refine aj 7 ?_
 refine jf 10 λK hK=>?_
 go_simp
 (try(rw[je (old:=gu .u64 64 4 0) (t':=143) (by((try rw[←Array.getElem?_eq_getElem]);repeat(first|exact heap_alloc_new _ _|exact heap_alloc2_new _ _ _|refine bg ?_|refine au (by assumption) ?_))) (dw _ _ _ _) (dw _ _ _ _) (iw _ _ _ _)];go_simp))
 refine rpu hK zz4 λak=>?_
 clear hK K
 refine jf 11 λK hK=>?_
 go_simp
 (try(rw[je (old:=gu .u64 64 4 0) (t':=143) (by((try rw[←Array.getElem?_eq_getElem]);repeat(first|exact heap_alloc_new _ _|exact heap_alloc2_new _ _ _|refine jk zz48 ?_|refine bg ?_|refine au (by assumption) ?_))) (dw _ _ _ _) (dw _ _ _ _) (iw _ _ _ _)];go_simp))
 refine rpu hK zz4 λak=>?_
 clear hK K
 refine aj 12 ?_
 refine jg ?_
 rotate_left
 go_simp
 refine rpu hK zz4 λak=>?_
 clear hK K
 refine jf 1 λK hK=>?_
 go_simp
 (refine(HN.out _).mono ?_;rintro e w5 ⟨rfl,f5⟩;have z5:=f5.size;(try simp only[World.size_alloc,dh]at z5))
 refine rpu hK arn λak=>?_
 clear hK K
 refine jf 3 λK hK=>?_
 go_simp
 (refine(HD.out _).mono ?_;rintro e w5 ⟨rfl,f5⟩;have z5:=f5.size;(try simp only[World.size_alloc,dh]at z5))
 refine rpu hK arn λak=>?_
 clear hK K
 refine aj 4 ?_
 refine aj 5 ?_
 refine aj 6 ?_
 refine aj 7 ?_
 refine jf 10 λK hK=>?_
 go_simp
 (try(rw[je (old:=gu .u64 64 4 0) (t':=143) (by((try rw[←Array.getElem?_eq_getElem]);repeat(first|exact heap_alloc_new _ _|exact heap_alloc2_new _ _ _|refine bg ?_|refine au (by assumption) ?_))) (dw _ _ _ _) (dw _ _ _ _) (iw _ _ _ _)];go_simp))
 refine rpu hK zz4 λak=>?_
 clear hK K
 refine jf 11 λK hK=>?_
 go_simp
 (try(rw[je (old:=gu .u64 64 4 0) (t':=143) (by((try rw[←Array.getElem?_eq_getElem]);repeat(first|exact heap_alloc_new _ _|exact heap_alloc2_new _ _ _|refine jk zz48 ?_|refine bg ?_|refine au (by assumption) ?_))) (dw _ _ _ _) (dw _ _ _ _) (iw _ _ _ _)];go_simp))
 refine rpu hK zz4 λak=>?_
 clear hK K
 refine aj 12 ?_
 refine jg ?_
 rotate_left
 go_simp
 refine rpu hK zz4 λak=>?_
 clear hK K
 refine rdy [1,8] ?_
 refine rco (λK hK=>?_) (rco (λK hK=>?_) AllReadyH.nil)
 go_simp
 (refine(HN.out _).mono ?_;rintro e w5 ⟨rfl,f5⟩;have z5:=f5.size;(try simp only[World.size_alloc,dh]at z5))
 refine rpu hK arn λak=>?_
 clear hK K
 refine rdy [3,8] ?_
 refine rco (λK hK=>?_) (rco (λK hK=>?_) AllReadyH.nil)
 go_simp
 (refine(HD.out _).mono ?_;rintro e w5 ⟨rfl,f5⟩;have z5:=f5.size;(try simp only[World.size_alloc,dh]at z5))
 refine rpu hK arn λak=>?_
 clear hK K
 refine aj 4 ?_
 refine aj 5 ?_
 refine aj 6 ?_
 refine aj 7 ?_
 refine jf 8 λK hK=>?_
 go_simp
 refine rpu hK zz4 λak=>?_
 clear hK K
 refine jf 10 λK hK=>?_
 go_simp
 (try(rw[je (old:=gu .u64 64 4 0) (t':=143) (by((try rw[←Array.getElem?_eq_getElem]);repeat(first|exact heap_alloc_new _ _|exact heap_alloc2_new _ _ _|refine bg ?_|refine au (by assumption) ?_))) (dw _ _ _ _) (dw _ _ _ _) (iw _ _ _ _)];go_simp))
 refine rpu hK zz4 λak=>?_
 clear hK K
 refine jf 11 λK hK=>?_
 go_simp
 (try(rw[je (old:=gu .u64 64 4 0) (t':=143) (by((try rw[←Array.getElem?_eq_getElem]);repeat(first|exact heap_alloc_new _ _|exact heap_alloc2_new _ _ _|refine jk zz48 ?_|refine bg ?_|refine au (by assumption) ?_))) (dw _ _ _ _) (dw _ _ _ _) (iw _ _ _ _)];go_simp))
 refine rpu hK zz4 λak=>?_
 clear hK K
 refine aj 12 ?_
 refine jg ?_
 rotate_left
 go_simp
 refine rpu hK zz4 λak=>?_
 clear hK K
 refine jf 3 λK hK=>?_
 go_simp
 (refine(HD.out _).mono ?_;rintro e w5 ⟨rfl,f5⟩;have z5:=f5.size;(try simp only[World.size_alloc,dh]at z5))
 refine rpu hK arn λak=>?_
 clear hK K
 refine aj 4 ?_
 refine aj 5 ?_
 refine aj 6 ?_
 refine aj 7 ?_
 refine jf 10 λK hK=>?_
 go_simp
 (try(rw[je (old:=gu .u64 64 4 0) (t':=143) (by((try rw[←Array.getElem?_eq_getElem]);repeat(first|exact heap_alloc_new _ _|exact heap_alloc2_new _ _ _|refine bg ?_|refine au (by assumption) ?_))) (dw _ _ _ _) (dw _ _ _ _) (iw _ _ _ _)];go_simp))
 refine rpu hK zz4 λak=>?_
 clear hK K
 refine jf 11 λK hK=>?_
 go_simp
 (try(rw[je (old:=gu .u64 64 4 0) (t':=143) (by((try rw[←Array.getElem?_eq_getElem]);repeat(first|exact heap_alloc_new _ _|exact heap_alloc2_new _ _ _|refine jk zz48 ?_|refine bg ?_|refine au (by assumption) ?_))) (dw _ _ _ _) (dw _ _ _ _) (iw _ _ _ _)];go_simp))
 refine rpu hK zz4 λak=>?_
 clear hK K
 refine aj 12 ?_
 refine jg ?_
 rotate_left
 go_simp
 refine rpu hK zz4 λak=>?_
 clear hK K
 refine jf 1 λK hK=>?_
 go_simp
 (refine(HN.out _).mono ?_;rintro e w5 ⟨rfl,f5⟩;have z5:=f5.size;(try simp only[World.size_alloc,dh]at z5))
 refine rpu hK arn λak=>?_
 clear hK K
 refine jf 3 λK hK=>?_
 go_simp
 (refine(HD.out _).mono ?_;rintro e w5 ⟨rfl,f5⟩;have z5:=f5.size;(try simp only[World.size_alloc,dh]at z5))
 refine rpu hK arn λak=>?_
 clear hK K
 refine aj 4 ?_
 refine aj 5 ?_
 refine aj 6 ?_
 refine aj 7 ?_
 refine jf 10 λK hK=>?_
 go_simp
 (try(rw[je (old:=gu .u64 64 4 0) (t':=143) (by((try rw[←Array.getElem?_eq_getElem]);repeat(first|exact heap_alloc_new _ _|exact heap_alloc2_new _ _ _|refine bg ?_|refine au (by assumption) ?_))) (dw _ _ _ _) (dw _ _ _ _) (iw _ _ _ _)];go_simp))
 refine rpu hK zz4 λak=>?_
 clear hK K
 refine jf 11 λK hK=>?_
 go_simp
 (try(rw[je (old:=gu .u64 64 4 0) (t':=143) (by((try rw[←Array.getElem?_eq_getElem]);repeat(first|exact heap_alloc_new _ _|exact heap_alloc2_new _ _ _|refine jk zz48 ?_|refine bg ?_|refine au (by assumption) ?_))) (dw _ _ _ _) (dw _ _ _ _) (iw _ _ _ _)];go_simp))
 refine rpu hK zz4 λak=>?_
 clear hK K
 refine aj 12 ?_
 refine jg ?_
 rotate_left
 all_goals
  refine hK.out ⟨⟨_,rfl,?_⟩,ak.1,ak.2⟩
  refine jk zz48 (qp (z:=gu .u64 64 4 0) (t:=143) (f:=(0,0)) ?_)
  repeat(first|exact heap_alloc_new _ _|exact heap_alloc2_new _ _ _|refine bg ?_|refine au (by assumption) ?_)
theorem aw2(t m n q r v:Nat)(oz oo:Bool)(hz:adq 256 t 0=oz)(w:World)
  (HO:Hid (∀w,Calls Tryz.prog 137 #[.int .u64 1] w λo w'=>o = .returned (.agg (gu .u64 64 4 1))∧Fr F0 w w'))
  (HA:Hid (∀w,Calls Tryz.prog 105 #[.agg (gu .u64 64 4 t),.agg (gu .u64 64 4 1)] w λo w'=>o = .returned (.tuple #[.agg (gu .u64 64 4 m),.bool oo])∧Fr F0 w w'))
  (HN:Hid (∀w,Calls Tryz.prog 146 #[.agg (gu .u64 64 4 t)] w λo w'=>o = .returned (.agg (gu .u64 64 4 n))∧Fr F0 w w'))
  (HD:Hid (oz=false→oo=false→∀w,Calls Tryz.prog 147 #[.agg (gu .u64 64 4 n),.agg (gu .u64 64 4 m)] w λo w'=>o = .returned (.tuple #[.agg (gu .u64 64 4 q),.agg (gu .u64 64 4 r),.int .i64 0])∧Fr F0 w w'))
  (HB:Hid (oz=false→oo=false→∀w,Calls Tryz.prog 105 #[.agg (gu .u64 64 4 q),.agg (gu .u64 64 4 1)] w λo w'=>o = .returned (.tuple #[.agg (gu .u64 64 4 v),.bool false])∧Fr F0 w w')) :
  Calls Tryz.prog 89 #[.agg (gu .u64 64 4 t)] w λo w'=>o = .returned (.agg (gu .u64 64 4 (if oz=true then n else if oo=true then 1 else v)))∧Fr F0 w w':=by
 have HR:Hid (∃R,R=(if oz=true then n else if oo=true then 1 else v)):=Lib.hid ⟨_,rfl⟩
 obtain⟨R,hR⟩:=HR.out
 rw[←hR]
 have HR2:=Lib.hid hR
 clear HR hR
 go_enter Tryz.func89,Tryz.ntmps89
 go_wp2_with fail
 (with_reducible refine(HO.out _).mono ?_);rintro o w1 ⟨rfl,f⟩
 obtain⟨r1,r2⟩:=heap2 w (.cells (gu .u64 64 4 t) 143) (.cells (gu .u64 64 4 0) 143)
 replace r1:=au f r1
 replace r2:=au f r2
 have F:=(((Fr.refl F0 w).alloc (.cells (gu .u64 64 4 t) 143)).alloc (.cells (gu .u64 64 4 0) 143)).trans' f
 clear f
 generalize hg2:w.heap.size+1=g2 at *
 generalize hg1:w.heap.size=g1 at *
 have HG:=Lib.hid (show w.heap.size≤g2 by omega)
 clear hg1 hg2
 go_upto_region 2 with fail
 obtain⟨W2,hW2⟩:∃W,W=(w1.alloc (.cells (gu .u64 64 4 0) 143)).setRow w1.heap.size (gu .u64 64 4 1):=⟨_,rfl⟩
 have N:=aa9 w1 (gu .u64 64 4 0) (gu .u64 64 4 1) 143
 rw[←hW2]at N
 refine jo W2 hW2 ?_
 have r3:=N.new
 replace r1:=N.old r1
 replace r2:=N.old r2
 replace F:=F.trans' N.fr
 clear N hW2
 generalize w1.heap.size=g3 at *
 go_wp2_with fail
 (with_reducible refine(HA.out _).mono ?_);rintro o w4 ⟨rfl,f⟩
 replace r1:=au f r1
 replace r2:=au f r2
 replace r3:=au f r3
 replace F:=F.trans' f
 clear f
 go_upto_region 3 with fail
 obtain⟨W5,hW5⟩:∃W,W=(w4.alloc (.cells (gu .u64 64 4 0) 143)).setRow w4.heap.size (gu .u64 64 4 m):=⟨_,rfl⟩
 have N:=aa9 w4 (gu .u64 64 4 0) (gu .u64 64 4 m) 143
 rw[←hW5]at N
 refine jo W5 hW5 ?_
 have r4:=N.new
 replace r1:=N.old r1
 replace r2:=N.old r2
 replace r3:=N.old r3
 replace F:=F.trans' N.fr
 clear N hW5
 generalize w4.heap.size=g4 at *
 cases oz
 ·cases oo
  ·have HD2:=Lib.hid (HD.out rfl rfl)
   have HB2:=Lib.hid (HB.out rfl rfl)
   clear HD HB
   go_upto_region 7 with fail
   refine tk7 w W5 t n m q r g1 g2 g3 g4 HN HD2 r1 r2 r3 r4 F (Lib.hid ?_)
   clear r1 r2 r3 r4 F
   rename_i w7
   rintro⟨⟨p1,rfl,r6⟩,⟨r1,r2,r3,r4⟩,F⟩
   go_wp2_with fail
   (with_reducible refine(HB2.out _).mono ?_);rintro o w8 ⟨rfl,f⟩
   replace r2:=au f r2
   replace F:=F.trans' f
   clear f r1 r3 r4 r6
   go_upto_region 9 with fail
   obtain⟨W9,hW9⟩:∃W,W=(w8.alloc (.cells (gu .u64 64 4 0) 143)).setRow w8.heap.size (gu .u64 64 4 v):=⟨_,rfl⟩
   have N:=aa9 w8 (gu .u64 64 4 0) (gu .u64 64 4 v) 143
   rw[←hW9]at N
   refine jo W9 hW9 ?_
   have r9:=N.new
   replace r2:=N.old r2
   replace F:=F.trans' N.fr
   clear N hW9
   generalize w8.heap.size=g9 at *
   go_wp2_with fail
   refine bodyPost_ret (results_cell_row rfl _ _ g2 _ _ _ _ rfl (qp r2) Tryz.underlying143 rfl zz75) rfl ⟨by rw[HR2.out];rfl,F.setRow (λh=>by have:=HG.out;omega) _⟩
  ·go_wp2_with fail
   refine bodyPost_ret (results_cell_row rfl _ _ g2 _ _ _ _ rfl (qp r2) Tryz.underlying143 rfl zz75) rfl ⟨by rw[HR2.out];rfl,F.setRow (λh=>by have:=HG.out;omega) _⟩
 ·go_wp2_with fail
  (with_reducible refine(HN.out _).mono ?_);rintro o w8 ⟨rfl,f⟩
  replace r2:=au f r2
  replace F:=F.trans' f
  go_wp2_with fail
  refine bodyPost_ret (results_cell_row rfl _ _ g2 _ _ _ _ rfl (qp r2) Tryz.underlying143 rfl zz75) rfl ⟨by rw[HR2.out];rfl,F.setRow (λh=>by have:=HG.out;omega) _⟩
theorem aP2:aQo:=by
 intro t ht w
 have h1W:1<ng:=aia aPl
 have hz:=ael t ht _ rfl
 have hA:=λw=>aiz t 1 ht h1W w
 have key:wkN t=if decide (t=0)=true then ng-1-t else if decide (ng≤t+1)=true then 1 else(ng-1-t)/(t+1)+1:=by
  unfold wkN
  by_cases h0:t=0
  ·rw[if_pos h0,decide_eq_true h0,if_pos rfl,h0];rfl
  ·rw[if_neg h0,decide_eq_false h0,if_neg (by decide)]
   by_cases h1:ng≤t+1
   ·rw[decide_eq_true h1,if_pos rfl]
    have:t+1=ng:=by omega
    rw[this,Nat.div_self aam]
   ·rw[decide_eq_false h1,if_neg (by decide),←Nat.add_div_right _ aPl]
    congr 1
    omega
 rw[key]
 refine aw2 t ((t+1) % ng) (ng-1-t) ((ng-1-t)/(t+1)) ((ng-1-t) % (t+1)) ((ng-1-t)/(t+1)+1) (decide (t=0)) (decide (ng≤t+1)) hz w
  (Lib.hid λw=>show Calls Tryz.prog 137 #[.int .u64 1] w _ from ajl 1 aPl w) (Lib.hid hA) (Lib.hid λw=>aFk t ht w) (Lib.hid λh0 h1 w=>?_) (Lib.hid λh0 h1 w=>?_)
 ·have h2:t+1<ng:=Nat.not_le.1 (of_decide_eq_false h1)
  rw[Nat.mod_eq_of_lt h2]
  exact anq _ _ aPl h2 aPl w
 ·have h2:t+1<ng:=Nat.not_le.1 (of_decide_eq_false h1)
  have h3:t≠0:=of_decide_eq_false h0
  have h4:(ng-1-t)/(t+1)+1<ng:=by
   have:(ng-1-t)/(t+1)≤(ng-1-t):=Nat.div_le_self _ _
   omega
  have:=aiz ((ng-1-t)/(t+1)) 1 aPl h1W w
  rwa [Nat.mod_eq_of_lt h4,decide_eq_false aPl]at this
theorem tm1{s0 s1 s4 s5 s7 s8 s9 s10 s11 s12 s13 s14 s15 s16 s17 s18 s19 s20 s21 s22 s23 s24 s25 s26 s27 s28 s29 s30 s31 s32 s33 s34 s35 s36 s37 s38 s39 s40 s41 s42 s43 s44 s45 s46 s47 s48 s49 s50 s51 s52 s53 s54 s55 s56 s57 s58 s59:Value}{K:Act→World→Prop}{Q:Exit→Act→World→Prop}(w w6:World)(a x q r g0 g6:Nat)(HO:RowKit.Hid (∀w:World,Calls Tryz.prog 137 #[.int .u64 x] w λe w'=>e = .returned (.agg (gu .u64 64 4 x))∧Fr F0 w w'))(HD:RowKit.Hid (∀w:World,Calls Tryz.prog 147 #[.agg (gu .u64 64 4 a),.agg (gu .u64 64 4 x)] w λe w'=>e = .returned (.tuple #[.agg (gu .u64 64 4 q),.agg (gu .u64 64 4 r),.int .i64 0])∧Fr F0 w w'))(r0:w6.heap[g0]? = some (.cells (gu .u64 64 4 a) 143 (0,0)))(r6:w6.heap[g6]? = some (.cells (gu .u64 64 4 0) 143 (0,0)))(F:Fr F0 w w6)
  (hK:RowKit.Hid (∀{u8 u9 u10 u20 u21 u22 u23 u24 u25 u26 u27:Value} {w':World},((∃p1 p2:Nat,u8 = .pointer (some ⟨p1,0,none⟩)∧u9 = .pointer (some ⟨p2,0,none⟩)∧w'.heap[p1]? = some (.cells (gu .u64 64 4 q) 143 (0,0))∧w'.heap[p2]? = some (.cells (gu .u64 64 4 r) 143 (0,0)))∧(w'.heap[g0]? = some (.cells (gu .u64 64 4 a) 143 (0,0))∧w'.heap[g6]? = some (.cells (gu .u64 64 4 0) 143 (0,0)))∧Fr F0 w w')→K ⟨#[s0,s1,.int .u64 x,.pointer (some ⟨g0,0,none⟩),s4,s5,.pointer (some ⟨g6,0,none⟩),s7,u8,u9,u10,s11,s12,s13,s14,s15,s16,s17,s18,s19,u20,u21,u22,u23,u24,u25,u26,u27,s28,s29,s30,s31,s32,s33,s34,s35,s36,s37,s38,s39,s40,s41,s42,s43,s44,s45,s46,s47,s48,s49,s50,s51,s52,s53,s54,s55,s56,s57,s58,s59],[]⟩ w')) :
  Code.wp Tryz.prog ((Tryz.f196.body.bind (jw 1)).getD .skip) (Exit.then K Q) ⟨#[s0,s1,.int .u64 x,.pointer (some ⟨g0,0,none⟩),s4,s5,.pointer (some ⟨g6,0,none⟩),s7,s8,s9,s10,s11,s12,s13,s14,s15,s16,s17,s18,s19,s20,s21,s22,s23,s24,s25,s26,s27,s28,s29,s30,s31,s32,s33,s34,s35,s36,s37,s38,s39,s40,s41,s42,s43,s44,s45,s46,s47,s48,s49,s50,s51,s52,s53,s54,s55,s56,s57,s58,s59],[]⟩ w6:=by
 conv=>arg 2;whnf
 have HG0:=Lib.hid (And.intro (Array.getElem?_eq_some_iff.1 r0).1 (And.intro (Array.getElem?_eq_some_iff.1 r6).1 F.size))
 refine jm (S:=(λw'=>(w'.heap[g0]? = some (.cells (gu .u64 64 4 a) 143 (0,0))∧w'.heap[g6]? = some (.cells (gu .u64 64 4 0) 143 (0,0)))∧Fr F0 w w')) ?_ λak=>?_
 ·exact(by((try dsimp only)<;>(exact⟨⟨r0,r6⟩,F.drew⟩)))
 refine aj 0 ?_
 refine aj 1 ?_
 refine rdy [2,8,9] ?_
 refine rco (λK hK=>?_) (rco (λK hK=>?_) (rco (λK hK=>?_) AllReadyH.nil))
 go_simp
 (refine(HO.out _).mono ?_;rintro e w5 ⟨rfl,f5⟩;have z5:=f5.size;(try simp only[World.size_alloc,dh]at z5))
 refine rpu hK arl λak=>?_
 clear hK K
 refine rdy [3,8,9] ?_
 refine rco (λK hK=>?_) (rco (λK hK=>?_) (rco (λK hK=>?_) AllReadyH.nil))
 go_simp
 (refine(HD.out _).mono ?_;rintro e w5 ⟨rfl,f5⟩;have z5:=f5.size;(try simp only[World.size_alloc,dh]at z5))
 refine rpu hK arl λak=>?_
 clear hK K
 refine aj 4 ?_
 refine aj 5 ?_
 refine aj 6 ?_
 refine aj 7 ?_
 refine rdy [8,9] ?_
 refine rco (λK hK=>?_) (rco (λK hK=>?_) AllReadyH.nil)
 go_simp
 refine rpu hK ade λak=>?_
 clear hK K
 refine jf 9 λK hK=>?_
 go_simp
 refine rpu hK ade λak=>?_
 clear hK K
 refine jf 10 λK hK=>?_
 go_simp
 (try(rw[je (old:=gu .u64 64 4 0) (t':=143) (by((try rw[←Array.getElem?_eq_getElem]);repeat(first|exact heap_alloc_new _ _|exact heap_alloc2_new _ _ _|refine bg ?_|refine au (by assumption) ?_))) (dw _ _ _ _) (dw _ _ _ _) (iw _ _ _ _)];go_simp))
 refine rpu hK ade λak=>?_
 clear hK K
 refine jf 11 λK hK=>?_
 go_simp
 (try(rw[je (old:=gu .u64 64 4 0) (t':=143) (by((try rw[←Array.getElem?_eq_getElem]);repeat(first|exact heap_alloc_new _ _|exact heap_alloc2_new _ _ _|refine jk zz48 ?_|refine bg ?_|refine au (by assumption) ?_))) (dw _ _ _ _) (dw _ _ _ _) (iw _ _ _ _)];go_simp))
 refine rpu hK ade λak=>?_
 clear hK K
 refine aj 12 ?_
 refine jg ?_
 rotate_left
 go_simp
 refine rpu hK ade λak=>?_
 clear hK K
 refine jf 8 λK hK=>?_
 go_simp
 refine rpu hK ade λak=>?_
 clear hK K
 refine jf 10 λK hK=>?_
 go_simp
 (try(rw[je (old:=gu .u64 64 4 0) (t':=143) (by((try rw[←Array.getElem?_eq_getElem]);repeat(first|exact heap_alloc_new _ _|exact heap_alloc2_new _ _ _|refine bg ?_|refine au (by assumption) ?_))) (dw _ _ _ _) (dw _ _ _ _) (iw _ _ _ _)];go_simp))
 refine rpu hK ade λak=>?_
 clear hK K
 refine jf 11 λK hK=>?_
 go_simp
 (try(rw[je (old:=gu .u64 64 4 0) (t':=143) (by((try rw[←Array.getElem?_eq_getElem]);repeat(first|exact heap_alloc_new _ _|exact heap_alloc2_new _ _ _|refine jk zz48 ?_|refine bg ?_|refine au (by assumption) ?_))) (dw _ _ _ _) (dw _ _ _ _) (iw _ _ _ _)];go_simp))
 refine rpu hK ade λak=>?_
 clear hK K
 refine aj 12 ?_
 refine jg ?_
 rotate_left
 go_simp
 refine rpu hK ade λak=>?_
 clear hK K
 refine rdy [3,9] ?_
 refine rco (λK hK=>?_) (rco (λK hK=>?_) AllReadyH.nil)
 go_simp
 (refine(HD.out _).mono ?_;rintro e w5 ⟨rfl,f5⟩;have z5:=f5.size;(try simp only[World.size_alloc,dh]at z5))
 refine rpu hK arl λak=>?_
 clear hK K
 refine aj 4 ?_
 refine aj 5 ?_
 refine aj 6 ?_
 refine aj 7 ?_
 refine jf 9 λK hK=>?_
 go_simp
 refine rpu hK ade λak=>?_
 clear hK K
 refine jf 10 λK hK=>?_
 go_simp
 (try(rw[je (old:=gu .u64 64 4 0) (t':=143) (by((try rw[←Array.getElem?_eq_getElem]);repeat(first|exact heap_alloc_new _ _|exact heap_alloc2_new _ _ _|refine bg ?_|refine au (by assumption) ?_))) (dw _ _ _ _) (dw _ _ _ _) (iw _ _ _ _)];go_simp))
 refine rpu hK ade λak=>?_
 clear hK K
 refine jf 11 λK hK=>?_
 go_simp
 (try(rw[je (old:=gu .u64 64 4 0) (t':=143) (by((try rw[←Array.getElem?_eq_getElem]);repeat(first|exact heap_alloc_new _ _|exact heap_alloc2_new _ _ _|refine jk zz48 ?_|refine bg ?_|refine au (by assumption) ?_))) (dw _ _ _ _) (dw _ _ _ _) (iw _ _ _ _)];go_simp))
 refine rpu hK ade λak=>?_
 clear hK K
 refine aj 12 ?_
 refine jg ?_
 rotate_left
 go_simp
 refine rpu hK ade λak=>?_
 clear hK K
 refine jf 3 λK hK=>?_
 go_simp
 (refine(HD.out _).mono ?_;rintro e w5 ⟨rfl,f5⟩;have z5:=f5.size;(try simp only[World.size_alloc,dh]at z5))
 refine rpu hK arl λak=>?_
 clear hK K
 refine aj 4 ?_
 refine aj 5 ?_
 refine aj 6 ?_
 refine aj 7 ?_
 refine jf 10 λK hK=>?_
 go_simp
 (try(rw[je (old:=gu .u64 64 4 0) (t':=143) (by((try rw[←Array.getElem?_eq_getElem]);repeat(first|exact heap_alloc_new _ _|exact heap_alloc2_new _ _ _|refine bg ?_|refine au (by assumption) ?_))) (dw _ _ _ _) (dw _ _ _ _) (iw _ _ _ _)];go_simp))
 refine rpu hK ade λak=>?_
 clear hK K
 refine jf 11 λK hK=>?_
 go_simp
 (try(rw[je (old:=gu .u64 64 4 0) (t':=143) (by((try rw[←Array.getElem?_eq_getElem]);repeat(first|exact heap_alloc_new _ _|exact heap_alloc2_new _ _ _|refine jk zz48 ?_|refine bg ?_|refine au (by assumption) ?_))) (dw _ _ _ _) (dw _ _ _ _) (iw _ _ _ _)];go_simp))
 refine rpu hK ade λak=>?_
 clear hK K
 refine aj 12 ?_
 refine jg ?_
 rotate_left
 go_simp
 refine rpu hK ade λak=>?_
 clear hK K
 refine rdy [3,8] ?_
 refine rco (λK hK=>?_) (rco (λK hK=>?_) AllReadyH.nil)
 go_simp
 (refine(HD.out _).mono ?_;rintro e w5 ⟨rfl,f5⟩;have z5:=f5.size;(try simp only[World.size_alloc,dh]at z5))
 refine rpu hK arl λak=>?_
 clear hK K
 refine aj 4 ?_
 refine aj 5 ?_
 refine aj 6 ?_
 refine aj 7 ?_
 refine jf 8 λK hK=>?_
 go_simp
 refine rpu hK ade λak=>?_
 clear hK K
 refine jf 10 λK hK=>?_
 go_simp
 (try(rw[je (old:=gu .u64 64 4 0) (t':=143) (by((try rw[←Array.getElem?_eq_getElem]);repeat(first|exact heap_alloc_new _ _|exact heap_alloc2_new _ _ _|refine bg ?_|refine au (by assumption) ?_))) (dw _ _ _ _) (dw _ _ _ _) (iw _ _ _ _)];go_simp))
 refine rpu hK ade λak=>?_
 clear hK K
 refine jf 11 λK hK=>?_
 go_simp
 (try(rw[je (old:=gu .u64 64 4 0) (t':=143) (by((try rw[←Array.getElem?_eq_getElem]);repeat(first|exact heap_alloc_new _ _|exact heap_alloc2_new _ _ _|refine jk zz48 ?_|refine bg ?_|refine au (by assumption) ?_))) (dw _ _ _ _) (dw _ _ _ _) (iw _ _ _ _)];go_simp))
 refine rpu hK ade λak=>?_
 clear hK K
 refine aj 12 ?_
 refine jg ?_
 rotate_left
 go_simp
 refine rpu hK ade λak=>?_
 clear hK K
 refine jf 3 λK hK=>?_
 go_simp
 (refine(HD.out _).mono ?_;rintro e w5 ⟨rfl,f5⟩;have z5:=f5.size;(try simp only[World.size_alloc,dh]at z5))
 refine rpu hK arl λak=>?_
 clear hK K
 refine aj 4 ?_
 refine aj 5 ?_
 refine aj 6 ?_
 refine aj 7 ?_
 refine jf 10 λK hK=>?_
 go_simp
 (try(rw[je (old:=gu .u64 64 4 0) (t':=143) (by((try rw[←Array.getElem?_eq_getElem]);repeat(first|exact heap_alloc_new _ _|exact heap_alloc2_new _ _ _|refine bg ?_|refine au (by assumption) ?_))) (dw _ _ _ _) (dw _ _ _ _) (iw _ _ _ _)];go_simp))
 refine rpu hK ade λak=>?_
 clear hK K
 refine jf 11 λK hK=>?_
 go_simp
 (try(rw[je (old:=gu .u64 64 4 0) (t':=143) (by((try rw[←Array.getElem?_eq_getElem]);repeat(first|exact heap_alloc_new _ _|exact heap_alloc2_new _ _ _|refine jk zz48 ?_|refine bg ?_|refine au (by assumption) ?_))) (dw _ _ _ _) (dw _ _ _ _) (iw _ _ _ _)];go_simp))
 refine rpu hK ade λak=>?_
 clear hK K
 refine aj 12 ?_
 refine jg ?_
 rotate_left
 go_simp
 refine rpu hK ade λak=>?_
 clear hK K
 refine rdy [2,9] ?_
 refine rco (λK hK=>?_) (rco (λK hK=>?_) AllReadyH.nil)
 go_simp
 (refine(HO.out _).mono ?_;rintro e w5 ⟨rfl,f5⟩;have z5:=f5.size;(try simp only[World.size_alloc,dh]at z5))
 refine rpu hK arl λak=>?_
 clear hK K
 refine rdy [3,9] ?_
 refine rco (λK hK=>?_) (rco (λK hK=>?_) AllReadyH.nil)
 go_simp
 (refine(HD.out _).mono ?_;rintro e w5 ⟨rfl,f5⟩;have z5:=f5.size;(try simp only[World.size_alloc,dh]at z5))
 refine rpu hK arl λak=>?_
 clear hK K
 refine aj 4 ?_
 refine aj 5 ?_
 refine aj 6 ?_
 refine aj 7 ?_
 refine jf 9 λK hK=>?_
 go_simp
 refine rpu hK ade λak=>?_
 clear hK K
 refine jf 10 λK hK=>?_
 go_simp
 (try(rw[je (old:=gu .u64 64 4 0) (t':=143) (by((try rw[←Array.getElem?_eq_getElem]);repeat(first|exact heap_alloc_new _ _|exact heap_alloc2_new _ _ _|refine bg ?_|refine au (by assumption) ?_))) (dw _ _ _ _) (dw _ _ _ _) (iw _ _ _ _)];go_simp))
 refine rpu hK ade λak=>?_
 clear hK K
 refine jf 11 λK hK=>?_
 go_simp
 (try(rw[je (old:=gu .u64 64 4 0) (t':=143) (by((try rw[←Array.getElem?_eq_getElem]);repeat(first|exact heap_alloc_new _ _|exact heap_alloc2_new _ _ _|refine jk zz48 ?_|refine bg ?_|refine au (by assumption) ?_))) (dw _ _ _ _) (dw _ _ _ _) (iw _ _ _ _)];go_simp))
 refine rpu hK ade λak=>?_
 clear hK K
 refine aj 12 ?_
 refine jg ?_
 rotate_left
 go_simp
 refine rpu hK ade λak=>?_
 clear hK K
 refine jf 3 λK hK=>?_
 go_simp
 (refine(HD.out _).mono ?_;rintro e w5 ⟨rfl,f5⟩;have z5:=f5.size;(try simp only[World.size_alloc,dh]at z5))
 refine rpu hK arl λak=>?_
 clear hK K
 refine aj 4 ?_
 refine aj 5 ?_
 refine aj 6 ?_
 refine aj 7 ?_
 refine jf 10 λK hK=>?_
 go_simp
 (try(rw[je (old:=gu .u64 64 4 0) (t':=143) (by((try rw[←Array.getElem?_eq_getElem]);repeat(first|exact heap_alloc_new _ _|exact heap_alloc2_new _ _ _|refine bg ?_|refine au (by assumption) ?_))) (dw _ _ _ _) (dw _ _ _ _) (iw _ _ _ _)];go_simp))
 refine rpu hK ade λak=>?_
 clear hK K
 refine jf 11 λK hK=>?_
 go_simp
 (try(rw[je (old:=gu .u64 64 4 0) (t':=143) (by((try rw[←Array.getElem?_eq_getElem]);repeat(first|exact heap_alloc_new _ _|exact heap_alloc2_new _ _ _|refine jk zz48 ?_|refine bg ?_|refine au (by assumption) ?_))) (dw _ _ _ _) (dw _ _ _ _) (iw _ _ _ _)];go_simp))
 refine rpu hK ade λak=>?_
 clear hK K
 refine aj 12 ?_
 refine jg ?_
 rotate_left
 go_simp
 refine rpu hK ade λak=>?_
 clear hK K
 refine jf 2 λK hK=>?_
 go_simp
 (refine(HO.out _).mono ?_;rintro e w5 ⟨rfl,f5⟩;have z5:=f5.size;(try simp only[World.size_alloc,dh]at z5))
 refine rpu hK arl λak=>?_
 clear hK K
 refine jf 3 λK hK=>?_
 go_simp
 (refine(HD.out _).mono ?_;rintro e w5 ⟨rfl,f5⟩;have z5:=f5.size;(try simp only[World.size_alloc,dh]at z5))
 refine rpu hK arl λak=>?_
 clear hK K
 refine aj 4 ?_
 refine aj 5 ?_
 refine aj 6 ?_
 refine aj 7 ?_
 refine jf 10 λK hK=>?_
 go_simp
 (try(rw[je (old:=gu .u64 64 4 0) (t':=143) (by((try rw[←Array.getElem?_eq_getElem]);repeat(first|exact heap_alloc_new _ _|exact heap_alloc2_new _ _ _|refine bg ?_|refine au (by assumption) ?_))) (dw _ _ _ _) (dw _ _ _ _) (iw _ _ _ _)];go_simp))
 refine rpu hK ade λak=>?_
 clear hK K
 refine jf 11 λK hK=>?_
 go_simp
 (try(rw[je (old:=gu .u64 64 4 0) (t':=143) (by((try rw[←Array.getElem?_eq_getElem]);repeat(first|exact heap_alloc_new _ _|exact heap_alloc2_new _ _ _|refine jk zz48 ?_|refine bg ?_|refine au (by assumption) ?_))) (dw _ _ _ _) (dw _ _ _ _) (iw _ _ _ _)];go_simp))
 refine rpu hK ade λak=>?_
 clear hK K
 refine aj 12 ?_
 refine jg ?_
 rotate_left
 go_simp
 refine rpu hK ade λak=>?_
 clear hK K
 refine rdy [2,8] ?_
 refine rco (λK hK=>?_) (rco (λK hK=>?_) AllReadyH.nil)
 go_simp
 (refine(HO.out _).mono ?_;rintro e w5 ⟨rfl,f5⟩;have z5:=f5.size;(try simp only[World.size_alloc,dh]at z5))
 refine rpu hK arl λak=>?_
 clear hK K
 refine rdy [3,8] ?_
 refine rco (λK hK=>?_) (rco (λK hK=>?_) AllReadyH.nil)
 go_simp
 (refine(HD.out _).mono ?_;rintro e w5 ⟨rfl,f5⟩;have z5:=f5.size;(try simp only[World.size_alloc,dh]at z5))
 refine rpu hK arl λak=>?_
 clear hK K
 refine aj 4 ?_
 refine aj 5 ?_
 refine aj 6 ?_
 refine aj 7 ?_
 refine jf 8 λK hK=>?_
 go_simp
 refine rpu hK ade λak=>?_
 clear hK K
 refine jf 10 λK hK=>?_
 go_simp
 (try(rw[je (old:=gu .u64 64 4 0) (t':=143) (by((try rw[←Array.getElem?_eq_getElem]);repeat(first|exact heap_alloc_new _ _|exact heap_alloc2_new _ _ _|refine bg ?_|refine au (by assumption) ?_))) (dw _ _ _ _) (dw _ _ _ _) (iw _ _ _ _)];go_simp))
 refine rpu hK ade λak=>?_
 clear hK K
 refine jf 11 λK hK=>?_
 go_simp
 (try(rw[je (old:=gu .u64 64 4 0) (t':=143) (by((try rw[←Array.getElem?_eq_getElem]);repeat(first|exact heap_alloc_new _ _|exact heap_alloc2_new _ _ _|refine jk zz48 ?_|refine bg ?_|refine au (by assumption) ?_))) (dw _ _ _ _) (dw _ _ _ _) (iw _ _ _ _)];go_simp))
 refine rpu hK ade λak=>?_
 clear hK K
 refine aj 12 ?_
 refine jg ?_
 rotate_left
 go_simp
 refine rpu hK ade λak=>?_
 clear hK K
 refine jf 3 λK hK=>?_
 go_simp
 (refine(HD.out _).mono ?_;rintro e w5 ⟨rfl,f5⟩;have z5:=f5.size;(try simp only[World.size_alloc,dh]at z5))
 refine rpu hK arl λak=>?_
 clear hK K
 refine aj 4 ?_
 refine aj 5 ?_
 refine aj 6 ?_
 refine aj 7 ?_
 refine jf 10 λK hK=>?_
 go_simp
 (try(rw[je (old:=gu .u64 64 4 0) (t':=143) (by((try rw[←Array.getElem?_eq_getElem]);repeat(first|exact heap_alloc_new _ _|exact heap_alloc2_new _ _ _|refine bg ?_|refine au (by assumption) ?_))) (dw _ _ _ _) (dw _ _ _ _) (iw _ _ _ _)];go_simp))
 refine rpu hK ade λak=>?_
 clear hK K
 refine jf 11 λK hK=>?_
 go_simp
 (try(rw[je (old:=gu .u64 64 4 0) (t':=143) (by((try rw[←Array.getElem?_eq_getElem]);repeat(first|exact heap_alloc_new _ _|exact heap_alloc2_new _ _ _|refine jk zz48 ?_|refine bg ?_|refine au (by assumption) ?_))) (dw _ _ _ _) (dw _ _ _ _) (iw _ _ _ _)];go_simp))
 refine rpu hK ade λak=>?_
 clear hK K
 refine aj 12 ?_
 refine jg ?_
 rotate_left
 go_simp
 refine rpu hK ade λak=>?_
 clear hK K
 refine jf 2 λK hK=>?_
 go_simp
 (refine(HO.out _).mono ?_;rintro e w5 ⟨rfl,f5⟩;have z5:=f5.size;(try simp only[World.size_alloc,dh]at z5))
 refine rpu hK arl λak=>?_
 clear hK K
 refine jf 3 λK hK=>?_
 go_simp
 (refine(HD.out _).mono ?_;rintro e w5 ⟨rfl,f5⟩;have z5:=f5.size;(try simp only[World.size_alloc,dh]at z5))
 refine rpu hK arl λak=>?_
 clear hK K
 refine aj 4 ?_
 refine aj 5 ?_
 refine aj 6 ?_
 refine aj 7 ?_
 refine jf 10 λK hK=>?_
 go_simp
 (try(rw[je (old:=gu .u64 64 4 0) (t':=143) (by((try rw[←Array.getElem?_eq_getElem]);repeat(first|exact heap_alloc_new _ _|exact heap_alloc2_new _ _ _|refine bg ?_|refine au (by assumption) ?_))) (dw _ _ _ _) (dw _ _ _ _) (iw _ _ _ _)];go_simp))
 refine rpu hK ade λak=>?_
 clear hK K
 refine jf 11 λK hK=>?_
 go_simp
 (try(rw[je (old:=gu .u64 64 4 0) (t':=143) (by((try rw[←Array.getElem?_eq_getElem]);repeat(first|exact heap_alloc_new _ _|exact heap_alloc2_new _ _ _|refine jk zz48 ?_|refine bg ?_|refine au (by assumption) ?_))) (dw _ _ _ _) (dw _ _ _ _) (iw _ _ _ _)];go_simp))
 refine rpu hK ade λak=>?_
 clear hK K
 refine aj 12 ?_
 refine jg ?_
 rotate_left
 all_goals
  refine hK.out ⟨⟨_,_,rfl,rfl,?_,?_⟩,ak.1,ak.2⟩
  ·refine jk zz48 (qp (z:=gu .u64 64 4 0) (t:=143) (f:=(0,0)) ?_)
   repeat(first|exact heap_alloc_new _ _|exact heap_alloc2_new _ _ _|refine bg ?_|refine au (by assumption) ?_)
  ·refine qp (z:=gu .u64 64 4 0) (t:=143) (f:=(0,0)) (jk zz48 ?_)
   repeat(first|exact heap_alloc_new _ _|exact heap_alloc2_new _ _ _|refine bg ?_|refine au (by assumption) ?_)
theorem aw0(t up by' Q R M X P r2' S:Nat)(bm bo o:Bool)(ho:(bm||bo)=o)
  (HO:Hid (∀w,Calls Tryz.prog 137 #[.int .u64 (by':Int)] w λo w'=>o = .returned (.agg (gu .u64 64 4 by'))∧Fr F0 w w'))
  (HD:Hid (∀w,Calls Tryz.prog 147 #[.agg (gu .u64 64 4 t),.agg (gu .u64 64 4 by')] w λo w'=>o = .returned (.tuple #[.agg (gu .u64 64 4 Q),.agg (gu .u64 64 4 R),.int .i64 0])∧Fr F0 w w'))
  (HU:Hid (∀w,Calls Tryz.prog 198 #[.agg (gu .u64 64 4 R)] w λo w'=>o = .returned (.tuple #[.int .u64 (R:Int),.bool true])∧Fr F0 w w'))
  (HM:Hid (∀w,Calls Tryz.prog 194 #[.agg (gu .u64 64 4 Q),.int .u64 (up:Int)] w λo w'=>o = .returned (.tuple #[.agg (gu .u64 64 4 M),.bool bm])∧Fr F0 w w'))
  (HP:Hid (∀w,Calls Tryz.prog 205 #[.int .u64 (R:Int),.int .u64 (up:Int)] w λo w'=>o = .returned (.agg (gu .u64 64 4 X))∧Fr F0 w w'))
  (HE:Hid (∀w,Calls Tryz.prog 147 #[.agg (gu .u64 64 4 X),.agg (gu .u64 64 4 by')] w λo w'=>o = .returned (.tuple #[.agg (gu .u64 64 4 P),.agg (gu .u64 64 4 r2'),.int .i64 0])∧Fr F0 w w'))
  (HA:Hid (∀w,Calls Tryz.prog 105 #[.agg (gu .u64 64 4 M),.agg (gu .u64 64 4 P)] w λo w'=>o = .returned (.tuple #[.agg (gu .u64 64 4 S),.bool bo])∧Fr F0 w w')) (w:World) :
  Calls Tryz.prog 196 #[.agg (gu .u64 64 4 t),.int .u64 (up:Int),.int .u64 (by':Int)] w λe w'=>e = .returned (.tuple #[.agg (gu .u64 64 4 S),.bool o])∧Fr F0 w w':=by
 have HO2:=Lib.hid ho
 clear ho
 go_enter Tryz.func196,Tryz.ntmps196
 go_upto_region 1 with fail
 obtain⟨r0,r6⟩:=heap2 w (.cells (gu .u64 64 4 t) 143) (.cells (gu .u64 64 4 0) 143)
 have F:=(((Fr.refl F0 w).alloc (.cells (gu .u64 64 4 t) 143)).alloc (.cells (gu .u64 64 4 0) 143))
 obtain⟨W0,hW0⟩:∃W,W=(w.alloc (.cells (gu .u64 64 4 t) 143)).alloc (.cells (gu .u64 64 4 0) 143):=⟨_,rfl⟩
 rw[←hW0]at r0 r6 F
 refine jo W0 hW0 ?_
 clear hW0
 generalize hg6:w.heap.size+1=g6 at *
 generalize hg0:w.heap.size=g0 at *
 have HG:=Lib.hid (show w.heap.size≤g6 by omega)
 clear hg0 hg6
 refine tm1 w W0 t by' Q R g0 g6 HO HD r0 r6 F (Lib.hid ?_)
 clear r0 r6 F
 rename_i w1
 rintro⟨⟨p1,p2,rfl,rfl,r8,r9⟩,⟨r0,r6⟩,F⟩
 clear r0
 go_wp2_with fail
 (with_reducible refine(HU.out _).mono ?_);rintro e w2 ⟨rfl,f⟩
 replace r6:=au f r6
 replace r8:=au f r8
 replace F:=F.trans' f
 clear f r9
 go_wp2_with fail
 (with_reducible refine(HM.out _).mono ?_);rintro e w3 ⟨rfl,f⟩
 replace r6:=au f r6
 replace F:=F.trans' f
 clear f r8
 go_upto_region 4 with fail
 obtain⟨W4,hW4⟩:∃W,W=(w3.alloc (.cells (gu .u64 64 4 0) 143)).setRow w3.heap.size (gu .u64 64 4 M):=⟨_,rfl⟩
 have N:=aa9 w3 (gu .u64 64 4 0) (gu .u64 64 4 M) 143
 rw[←hW4]at N
 refine jo W4 hW4 ?_
 have r13:=N.new
 replace r6:=N.old r6
 replace F:=F.trans' N.fr
 clear N hW4
 generalize w3.heap.size=g13 at *
 go_wp2_with fail
 (with_reducible refine(HP.out _).mono ?_);rintro e w5 ⟨rfl,f⟩
 replace r6:=au f r6
 replace r13:=au f r13
 replace F:=F.trans' f
 clear f
 go_wp2_with fail
 (with_reducible refine(HO.out _).mono ?_);rintro e w6 ⟨rfl,f⟩
 replace r6:=au f r6
 replace r13:=au f r13
 replace F:=F.trans' f
 clear f
 go_wp2_with fail
 (with_reducible refine(HE.out _).mono ?_);rintro e w7 ⟨rfl,f⟩
 replace r6:=au f r6
 replace r13:=au f r13
 replace F:=F.trans' f
 clear f
 go_upto_region 5 with fail
 obtain⟨W8,hW8⟩:∃W,W=(((w7.alloc (.cells (gu .u64 64 4 0) 143)).alloc (.cells (gu .u64 64 4 0) 143)).setRow w7.heap.size (gu .u64 64 4 P)).setRow (w7.heap.size+1) (gu .u64 64 4 r2'):=⟨_,rfl⟩
 refine jo W8 hW8 ?_
 have hs:=F.size
 have hl6:=(Array.getElem?_eq_some_iff.1 r6).1
 have hl13:=(Array.getElem?_eq_some_iff.1 r13).1
 replace F:Fr F0 w W8:=by rw[hW8];exact((F.alloc _).alloc _ |>.setRow (λh=>by omega) _).setRow (λh=>by omega) _
 replace r6:W8.heap[g6]? = some (.cells (gu .u64 64 4 0) 143 (0,0)):=by rw[hW8];exact jk aPl (jk aPl (bg (bg r6)))
 replace r13:W8.heap[g13]? = some (.cells (gu .u64 64 4 M) 143 (0,0)):=by rw[hW8];exact jk aPl (jk aPl (bg (bg r13)))
 obtain⟨r15,r16⟩:=heap2 w7 (.cells (gu .u64 64 4 0) 143) (.cells (gu .u64 64 4 0) 143)
 clear r16
 replace r15:W8.heap[w7.heap.size]? = some (.cells (gu .u64 64 4 P) 143 (0,0)):=by rw[hW8,iy _ _ _ _ aPl,jc,r15];rfl
 clear hW8 hs hl6 hl13
 generalize w7.heap.size+1=g16 at *
 generalize w7.heap.size=g15 at *
 go_wp2_with fail
 (with_reducible refine(HA.out _).mono ?_);rintro e w9 ⟨rfl,f⟩
 replace r6:=au f r6
 replace F:=F.trans' f
 clear f r13 r15
 go_upto_region 6 with fail
 obtain⟨W9,hW9⟩:∃W,W=(w9.alloc (.cells (gu .u64 64 4 0) 143)).setRow w9.heap.size (gu .u64 64 4 S):=⟨_,rfl⟩
 have N:=aa9 w9 (gu .u64 64 4 0) (gu .u64 64 4 S) 143
 rw[←hW9]at N
 refine jo W9 hW9 ?_
 have r18:=N.new
 replace r6:=N.old r6
 replace F:=F.trans' N.fr
 clear N hW9
 generalize w9.heap.size=g18 at *
 cases bm
 ·go_wp2_with fail
  refine bodyPost_ret (tq rfl _ _ g6 _ _ _ _ rfl (qp r6) Tryz.underlying143 rfl zz75) rfl ⟨by rw[←HO2.out];rfl,F.setRow (λh=>by have:=HG.out;omega) _⟩
 ·go_wp2_with fail
  refine bodyPost_ret (tq rfl _ _ g6 _ _ _ _ rfl (qp r6) Tryz.underlying143 rfl zz75) rfl ⟨by rw[←HO2.out];rfl,F.setRow (λh=>by have:=HG.out;omega) _⟩
theorem aBn(t up b:Nat)(hb:0<b):t*up/b=t/b*up+t % b*up/b:=by
 have h:=Nat.div_add_mod t b
 have e:t*up=b*(t/b*up)+t % b*up:=by
  conv=>lhs;rw[←h]
  rw[Nat.add_mul,Nat.mul_assoc]
 rw[e,Nat.mul_add_div hb]
theorem aBk{a p n W:Nat}(hn:n=a+p)(hW:0<W):(n<W→(a % W+p) % W=n)∧(decide (W≤a)||decide (W≤a % W+p))=decide (W≤n):=by
 subst hn
 refine⟨λh=>?_,?_⟩
 ·rw[Nat.mod_eq_of_lt (show a<W by omega),Nat.mod_eq_of_lt h]
 ·by_cases h1:W≤a
  ·rw[decide_eq_true h1,Bool.true_or,decide_eq_true aPl]
  ·rw[decide_eq_false h1,Bool.false_or,Nat.mod_eq_of_lt aPl]
theorem times_any(t up by':Nat)(ht:t<ng)(hup:up<18446744073709551616)(hby:by'<18446744073709551616)(hb:0<by'):
  ∃S,S<ng∧(t*up/by'<ng→S=t*up/by')∧∀w,Calls Tryz.prog 196 #[.agg (gu .u64 64 4 t),.int .u64 (up:Int),.int .u64 (by':Int)] w λe w'=>e = .returned (.tuple #[.agg (gu .u64 64 4 S),.bool (decide (ng≤t*up/by'))])∧Fr F0 w w':=by
 have hR:t % by'<18446744073709551616:=Nat.lt_trans (Nat.mod_lt _ hb) hby
 have hQ:t/by'<ng:=Nat.lt_of_le_of_lt (Nat.div_le_self _ _) ht
 have hbW:=aia hby
 have hX:t % by'*up<ng:=Nat.lt_of_lt_of_le (Nat.mul_lt_mul'' hR hup) (show 2 ^ 64*2 ^ 64≤ng by rw[←Nat.pow_add];exact Nat.pow_le_pow_right aPl aPl)
 have hP:t % by'*up/by'<ng:=Nat.lt_of_le_of_lt (Nat.div_le_self _ _) hX
 have hn:=aBn t up by' hb
 have hM:t/by'*up % ng<ng:=Nat.mod_lt _ aam
 have h2:=aBk hn aam
 refine⟨(t/by'*up % ng+t % by'*up/by') % ng,Nat.mod_lt _ aam,h2.1,λw=>?_⟩
 ·refine aw0 t up by' (t/by') (t % by') (t/by'*up % ng) (t % by'*up) (t % by'*up/by') (t % by'*up % by') _ (decide (ng≤t/by'*up)) (decide (ng≤t/by'*up % ng+t % by'*up/by')) _ h2.2
   (Lib.hid λw=>ajl by' hby w) (Lib.hid λw=>anq t by' ht hbW hb w) (Lib.hid λw=>?_) (Lib.hid λw=>auw _ up hQ hup w) (Lib.hid λw=>aqk _ up hR hup w) (Lib.hid λw=>anq _ by' hX hbW hb w) (Lib.hid λw=>aiz _ _ hM hP w) w
  ·have:=apc (t % by') (aia hR) w
   rwa [if_pos hR,decide_eq_true hR]at this
theorem akg(t up most S R:Nat)(z:Int)(oz om oo os:Bool)(c:Int)(hz:decide (z=0)=oz)(hm:adq 256 most 0=om)(hs:adq 256 S 0=os)
  (HT:Hid (oz=false→om=false→∀w,Calls Tryz.prog 196 #[.agg (gu .u64 64 4 t),.int .u64 (up:Int),.int .u64 z] w λe w'=>e = .returned (.tuple #[.agg (gu .u64 64 4 S),.bool oo])∧Fr F0 w w'))
  (HC:Hid (∀w,Calls Tryz.prog 142 #[.agg (gu .u64 64 4 S),.agg (gu .u64 64 4 most)] w λe w'=>e = .returned (.int .i64 c)∧Fr F0 w w'))
  (HO:Hid (∀w,Calls Tryz.prog 137 #[.int .u64 1] w λo w'=>o = .returned (.agg (gu .u64 64 4 1))∧Fr F0 w w'))
  (oc:Bool) (hc:decide (0<c)=oc) (E:Int) (HE:Hid (E=if oz=true then 5 else if om=true then 1 else 0)) (HV:Hid (R=if oz=true then 0 else if om=true then 0 else if(oo||oc)=true then most else if os=true then 1 else S)) (w:World) :
  Calls Tryz.prog 178 #[.agg (gu .u64 64 4 t),.int .u64 (up:Int),.int .u64 z,.agg (gu .u64 64 4 most)] w λe w'=>e = .returned (.tuple #[.agg (gu .u64 64 4 R),.int .i64 E])∧Fr F0 w w':=by
 go_enter Tryz.func178,Tryz.ntmps178
 go_upto_region 1 with fail
 obtain⟨r4,r7,r8⟩:=am3 w (.cells (gu .u64 64 4 t) 143) (.cells (gu .u64 64 4 most) 143) (.cells (gu .u64 64 4 0) 143)
 have F:=(((Fr.refl F0 w).alloc (.cells (gu .u64 64 4 t) 143)).alloc (.cells (gu .u64 64 4 most) 143)).alloc (.cells (gu .u64 64 4 0) 143)
 obtain⟨W0,hW0⟩:∃W,W=((w.alloc (.cells (gu .u64 64 4 t) 143)).alloc (.cells (gu .u64 64 4 most) 143)).alloc (.cells (gu .u64 64 4 0) 143):=⟨_,rfl⟩
 rw[←hW0]at r4 r7 r8 F
 refine jo W0 hW0 ?_
 clear hW0
 generalize hg8:w.heap.size+1+1=g8 at *
 generalize hg7:w.heap.size+1=g7 at *
 generalize hg4:w.heap.size=g4 at *
 have HG:=Lib.hid (show w.heap.size≤g8 by omega)
 clear hg4 hg7 hg8
 cases oz
 ·replace hz:¬z=0:=of_decide_eq_false hz
  cases om
  ·have HT2:=Lib.hid (HT.out rfl rfl)
   clear HT
   go_wp2_with fail
   (with_reducible refine(HT2.out _).mono ?_);rintro e w1 ⟨rfl,f⟩
   replace r7:=au f r7
   replace r8:=au f r8
   replace F:=F.trans' f
   clear f r4
   go_upto_region 6 with fail
   obtain⟨W2,hW2⟩:∃W,W=(w1.alloc (.cells (gu .u64 64 4 0) 143)).setRow w1.heap.size (gu .u64 64 4 S):=⟨_,rfl⟩
   have N:=aa9 w1 (gu .u64 64 4 0) (gu .u64 64 4 S) 143
   rw[←hW2]at N
   refine jo W2 hW2 ?_
   have r10:=N.new
   replace r7:=N.old r7
   replace r8:=N.old r8
   replace F:=F.trans' N.fr
   clear N hW2
   generalize w1.heap.size=g10 at *
   cases oo
   ·go_wp2_with fail
    (with_reducible refine(HC.out _).mono ?_);rintro e w3 ⟨rfl,f⟩
    replace r7:=au f r7
    replace r8:=au f r8
    replace r10:=au f r10
    replace F:=F.trans' f
    clear f
    cases oc
    ·cases os
     ·go_wp2_with fail
      refine bodyPost_ret (tq rfl _ _ g8 _ _ _ _ rfl (qp r8) Tryz.underlying143 rfl zz75) rfl ⟨by rw[HV.out,HE.out];rfl,F.setRow (λh=>by have:=HG.out;omega) _⟩
     ·go_wp2_with fail
      (with_reducible refine(HO.out _).mono ?_);rintro e w4 ⟨rfl,f⟩
      replace r8:=au f r8
      replace F:=F.trans' f
      clear f r7 r10
      go_wp2_with fail
      refine bodyPost_ret (tq rfl _ _ g8 _ _ _ _ rfl (qp r8) Tryz.underlying143 rfl zz75) rfl ⟨by rw[HV.out,HE.out];rfl,F.setRow (λh=>by have:=HG.out;omega) _⟩
    ·go_wp2_with fail
     refine bodyPost_ret (tq rfl _ _ g8 _ _ _ _ rfl (qp r8) Tryz.underlying143 rfl zz75) rfl ⟨by rw[HV.out,HE.out];rfl,F.setRow (λh=>by have:=HG.out;omega) _⟩
   ·go_wp2_with fail
    refine bodyPost_ret (tq rfl _ _ g8 _ _ _ _ rfl (qp r8) Tryz.underlying143 rfl zz75) rfl ⟨by rw[HV.out,HE.out];rfl,F.setRow (λh=>by have:=HG.out;omega) _⟩
  ·clear HT
   go_wp2_with fail
   refine bodyPost_ret (tq rfl _ _ g8 _ _ _ _ rfl (qp r8) Tryz.underlying143 rfl zz75) rfl ⟨by rw[HV.out,HE.out];rfl,F.setRow (λh=>by have:=HG.out;omega) _⟩
 ·replace hz:z=0:=of_decide_eq_true hz
  clear HT
  go_wp2_with fail
  refine bodyPost_ret (tq rfl _ _ g8 _ _ _ _ rfl (qp r8) Tryz.underlying143 rfl zz75) rfl ⟨by rw[HV.out,HE.out];rfl,F.setRow (λh=>by have:=HG.out;omega) _⟩
theorem aJp:aup:=by
 intro t up by' most ht hup hby aiw w
 have h1W:1<ng:=aia aPl
 have hO:=Lib.hid λw=>show Calls Tryz.prog 137 #[.int .u64 1] w λo w'=>o = .returned (.agg (gu .u64 64 4 1))∧Fr F0 w w' from ajl 1 aPl w
 have hdz:decide ((by':Int)=0)=decide (by'=0):=decide_eq_decide.2 aPl
 have hE:scE by' most=if decide (by'=0)=true then 5 else if decide (most=0)=true then 1 else 0:=by
  unfold scE;simp only[decide_eq_true_iff]
 by_cases hb:0<by'
 ·obtain⟨S,hS,hS2,hT⟩:=times_any t up by' ht hup hby hb
  refine akg t up most S _ (by':Int) (decide (by'=0)) (decide (most=0)) (decide (ng≤t*up/by')) (decide (S=0)) (sgn S most) hdz (ael _ aiw _ rfl) (ael _ hS _ rfl) (Lib.hid λ_ _=>hT) (Lib.hid λw=>afd S most hS aiw w) hO _ rfl _ (Lib.hid hE) (Lib.hid ?_) w
  have hc:decide (0<sgn S most)=decide (most<S):=decide_eq_decide.2 (by have:=azj S most;omega)
  rw[hc]
  simp only[decide_eq_true_iff,Bool.or_eq_true]
  unfold scV scN
  by_cases h0:by'=0
  ·rw[if_pos h0,if_pos h0]
  ·rw[if_neg h0,if_neg h0]
   by_cases h1:most=0
   ·rw[if_pos h1,if_pos h1]
   ·rw[if_neg h1,if_neg h1]
    by_cases h2:ng≤t*up/by'
    ·rw[if_pos aPl,if_pos (.inl h2)]
    ·rw[hS2 aPl]
     by_cases h3:most<t*up/by'
     ·rw[if_pos h3,if_pos (.inr h3)]
     ·rw[if_neg h3,if_neg (show ¬(ng≤t*up/by'∨most<t*up/by')from λh=>h.elim h2 h3)]
 ·refine akg t up most 0 _ (by':Int) (decide (by'=0)) (decide (most=0)) false true (sgn 0 most) hdz (ael _ aiw _ rfl) rfl (Lib.hid λh=>absurd (of_decide_eq_false h) aPl) (Lib.hid λw=>afd 0 most aam aiw w) hO _ rfl _ (Lib.hid hE) (Lib.hid ?_) w
  rw[decide_eq_true (show by'=0 by omega),if_pos rfl]
  exact if_pos aPl
end Go.Proofs.YtjlelckefiannaaGreatDoor
