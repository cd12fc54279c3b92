import Derived.Test.YtjlelckefiannaaGreatDoorZ3
import Derived.Test.YtjlelckefiannaaGreatDoorZ25
import Derived.Test.YtjlelckefiannaaGreatDoorZ9
import Derived.Test.YtjlelckefiannaaGreatDoorZ2
import Derived.Test.YtjlelckefiannaaGreatDoorZ1
set_option maxRecDepth 100000
set_option maxHeartbeats 64000000
namespace Go.Proofs.YtjlelckefiannaaGreatDoor
set_option linter.unusedVariables false
set_option linter.unusedSimpArgs false
open Go.RowKit
theorem Tryz.szRules:(Tryz.prog.info? 49).map (·.size)=some 72:=by kernel_rfl
@[go_sem ↓ high] theorem aPb (p:Value):Instr.loadAt 49 p=iq 49 p:=rfl
@[go_sem ↓ high] theorem aN3 (p v:Value):Instr.storeAt 49 p v=ji 49 p v:=rfl
@[go_sem] theorem aEf (w:World) (g:Nat):(iq 49 (.pointer (some ⟨g,0,none⟩))).run Tryz.prog w=aa8 Tryz.prog 49 (.pointer (some ⟨g,0,none⟩)) w 72 w.heap[g]? :=
 qc w _ g 72 _ Tryz.underlying49 rfl Tryz.szRules
@[go_sem] theorem aDy (w:World) (g:Nat) (cells:Array Value):(ji 49 (.pointer (some ⟨g,0,none⟩)) (.agg cells)).run Tryz.prog w=aeg Tryz.prog 49 (.pointer (some ⟨g,0,none⟩)) cells g w 72 w.heap[g]? :=
 oq w _ g 72 cells Tryz.szRules
structure aJh (C:Array Value) (every:Int) (span limit:Nat) (confirm:Int):Prop where
 size:C.size=72
 c0:C[0]? = some (.int .i64 every)
 c1:C[1]? = some (.int .u32 (span:Int))
 c2:C[2]? = some (.int .u32 (limit:Int))
 c3:C[3]? = some (.int .i64 confirm)
 one:jh C
 aAb:span<4294967296
 avn:limit<4294967296
open Classical in
noncomputable def ayq (limit:Nat):Nat:=if btP limit then btT limit else 0
theorem azy{b:Nat}(h:btP b):btT b<ng:=h.2.2
theorem az8(l:Nat):ayq l<ng:=by
 unfold ayq;split
 ·exact azy ‹_›
 ·exact aam
theorem aJm(l:Nat):ayq l=0↔¬btP l:=by
 unfold ayq;split
 ·rename_i h;exact⟨λe=>absurd h.2.1 aPl,λh2=>absurd h h2⟩
 ·rename_i h;exact⟨λ_=>h,λ_=>rfl⟩
theorem avq(HD:aJi){C:Array Value}{every:Int}{span limit:Nat}{confirm:Int}(h:aJh C every span limit confirm)(w:World):
  Calls Tryz.prog 143 #[.agg C] w λe w'=>e = .returned (.agg (gu .u64 64 4 (ayq limit)))∧Fr F0 w w':=by
 have H1:Hid (∃E:Int,∀w,Calls Tryz.prog 86 #[.int .u32 (limit:Int)] w λe w'=>e = .returned (.tuple #[.agg (gu .u64 64 4 (ayq limit)),.int .i64 E])∧Fr F0 w w'):=by
  refine Lib.hid ?_
  unfold ayq
  by_cases hp:btP limit
  ·exact⟨0,by rw[if_pos hp];exact(HD limit h.avn).1 hp⟩
  ·exact⟨6,by rw[if_neg hp];exact(HD limit h.avn).2 hp⟩
 obtain⟨E,H1⟩:=H1.out
 replace H1:=Lib.hid H1
 generalize ayq limit=T at *
 obtain⟨s,c0,c1,c2,c3,_,_,_⟩:=h
 have s2:2<C.size:=by omega
 have d2:=jd c2 s2
 clear HD c0 c1 c3
 go_enter Tryz.func143,Tryz.ntmps143
 go_wp2_with fail
 (with_reducible refine(H1.out _).mono ?_);rintro e w1 ⟨rfl,f⟩
 obtain⟨r1,r2⟩:=heap2 w (.cells C 49) (.cells (gu .u64 64 4 0) 143)
 replace r1:=au f r1
 replace r2:=au f r2
 have F:=(((Fr.refl F0 w).alloc (.cells C 49)).alloc (.cells (gu .u64 64 4 0) 143)).trans' f
 clear f
 generalize hg2:w.heap.size+1=g2 at *
 generalize hg1:w.heap.size=g1 at *
 have HG:=Lib.hid (show w.heap.size≤g2 by omega)
 clear hg1 hg2
 go_upto_region 2 with fail
 refine uy λW N=>?_
 have r3:=N.new
 replace r1:=N.old r1
 replace r2:=N.old r2
 replace F:=F.trans' N.fr
 clear N
 generalize w1.heap.size=g3 at *
 go_wp2_with fail
 refine bodyPost_ret (results_cell_row rfl _ _ g2 _ _ _ _ rfl (qp r2) Tryz.underlying143 rfl zz75) rfl ⟨rfl,F.setRow (λh=>by have:=HG.out;omega) _⟩
theorem anv(ts:Array TypeId)(t:TypeId)(x y z:Int)(h:max x y=z)(w:World):(Builtin.max_ ts t #[.int .i64 x,.int .i64 y]).run Tryz.prog w = .ok (.int .i64 z) w:=by
 rw[run_max_int2,show(if y>x then y else x)=z by split<;>omega]
theorem aF6(ts:Array TypeId)(t:TypeId)(x y z:Int)(h:min x y=z)(w:World):(Builtin.min_ ts t #[.int .i64 x,.int .i64 y]).run Tryz.prog w = .ok (.int .i64 z) w:=by
 rw[run_min_int2,show(if y<x then y else x)=z by split<;>omega]
theorem ax1{C:Array Value}{every:Int}{span limit:Nat}{confirm:Int}(h:aJh C every span limit confirm)(hs:0<span)(k:Int)(w:World):
  Calls Tryz.prog 179 #[.agg C,.int .i64 k] w λe w'=>e = .returned (.int .u64 ((tkN span k:Nat):Int))∧Fr F0 w w':=by
 obtain⟨s,c0,c1,c2,c3,_,hlt,_⟩:=h
 have s1:1<C.size:=by omega
 have d1:=jd c1 s1
 obtain⟨q,hq⟩:∃q,span/4=q:=⟨_,rfl⟩
 obtain⟨l,hl⟩:∃l,max (q:Int) 1=l:=⟨_,rfl⟩
 obtain⟨a,ha⟩:∃a,max k l=a:=⟨_,rfl⟩
 obtain⟨m,hm⟩:∃m,span*4=m:=⟨_,rfl⟩
 obtain⟨r,hr⟩:∃r:Nat,min a (m:Int)=(r:Int):=⟨(min a (m:Int)).toNat,by omega⟩
 have hR:tkN span k=r:=by
  unfold tkN
  split<;>(try split)<;>omega
 have m0:IntKind.i64.wrap (span:Int)=(span:Int):=IntWalk.i64_in _ aPl
 have m1:(span:Int)/4=(q:Int):=by omega
 have m2:IntKind.i64.wrap (q:Int)=(q:Int):=IntWalk.i64_in _ aPl
 have m3:wrap64 (q:Int)=(q:Int):=IntWalk.wrap64_in _ aPl
 have m4:IntKind.i64.wrap ((span:Int)*4)=(m:Int):=by rw[IntWalk.i64_in _ aPl];omega
 have m5:IntKind.u64.wrap (r:Int)=(r:Int):=IntWalk.u64_in _ aPl
 have q1:=λts t w=>anv ts t (q:Int) 1 l hl w
 have q2:=λts t w=>anv ts t k l a ha w
 have q3:=λts t w=>aF6 ts t a (m:Int) (r:Int) hr w
 rw[hR]
 have F:=(Fr.refl F0 w).alloc (.cells C 49)
 have HF:=Lib.hid F
 clear hq hl ha hm hr hR hlt hs c0 c2 c3 F
 go_enter Tryz.func179,Tryz.ntmps179
 go_wp2_with fail
 trace_state
 go_ret
 exact⟨rfl,HF.out⟩
end Go.Proofs.YtjlelckefiannaaGreatDoor
namespace Go.Proofs.YtjlelckefiannaaGreatDoor
set_option linter.unusedVariables false
set_option linter.unusedSimpArgs false
open Go.RowKit
theorem nx7{s0 s1 s4 s5 s6 s7 s9 s11 s12 s13 s14 s15 s16 s17 s18 s19 s20 s21 s22 s23 s24 s25 s26 s27 s28 s29 s30 s31 s32 s33 s34 s35 s36 s37 s38 s39 s40 s41 s42 s43 s44 s45:Value}{K:Act→World→Prop}{Q:Exit→Act→World→Prop}(w w6:World)(C:Array Value)(T M S tk span g1 g2 g3:Nat)(k:Int)(HT:RowKit.Hid (∀w:World,Calls Tryz.prog 179 #[.agg C,.int .i64 k] w λe w'=>e = .returned (.int .u64 (tk:Int))∧Fr F0 w w'))(HS:RowKit.Hid (∀w:World,Calls Tryz.prog 178 #[.agg (gu .u64 64 4 T),.int .u64 (tk:Int),.int .u64 (span:Int),.agg (gu .u64 64 4 M)] w λe w'=>e = .returned (.tuple #[.agg (gu .u64 64 4 S),.int .i64 0])∧Fr F0 w w'))(m6:IntKind.u64.wrap (span:Int)=(span:Int))(hs:C.size=72)(hc1:C[1]? = some (.int .u32 (span:Int)))(hs1:1<C.size)(hd1:C[1] = .int .u32 (span:Int))(r1:w6.heap[g1]? = some (.cells C 49 (0,0)))(r2:w6.heap[g2]? = some (.cells (gu .u64 64 4 T) 143 (0,0)))(r3:w6.heap[g3]? = some (.cells (gu .u64 64 4 M) 143 (0,0)))(F:Fr F0 w w6)
  (hK:RowKit.Hid (∀{u11 u12 u32 u33 u34 u35 u36 u37 u38 u39 u40 u41 u42 u43:Value} {w':World},((∃p1:Nat,u11 = .pointer (some ⟨p1,0,none⟩)∧w'.heap[p1]? = some (.cells (gu .u64 64 4 S) 143 (0,0)))∧Fr F0 w w')→K ⟨#[s0,s1,.int .i64 k,.pointer (some ⟨g1,0,none⟩),s4,s5,s6,s7,.pointer (some ⟨g2,0,none⟩),s9,.pointer (some ⟨g3,0,none⟩),u11,u12,s13,s14,s15,s16,s17,s18,s19,s20,s21,s22,s23,s24,s25,s26,s27,s28,s29,s30,s31,u32,u33,u34,u35,u36,u37,u38,u39,u40,u41,u42,u43,s44,s45],[]⟩ w')) :
  Code.wp Tryz.prog ((Tryz.f153.body.bind (jw 7)).getD .skip) (Exit.then K Q) ⟨#[s0,s1,.int .i64 k,.pointer (some ⟨g1,0,none⟩),s4,s5,s6,s7,.pointer (some ⟨g2,0,none⟩),s9,.pointer (some ⟨g3,0,none⟩),s11,s12,s13,s14,s15,s16,s17,s18,s19,s20,s21,s22,s23,s24,s25,s26,s27,s28,s29,s30,s31,s32,s33,s34,s35,s36,s37,s38,s39,s40,s41,s42,s43,s44,s45],[]⟩ w6:=by
 conv=>arg 2;whnf
 have HG0:=Lib.hid (And.intro (Array.getElem?_eq_some_iff.1 r1).1 (And.intro (Array.getElem?_eq_some_iff.1 r2).1 (And.intro (Array.getElem?_eq_some_iff.1 r3).1 F.size)))
 refine jm (S:=(λw'=>(w'.heap[g1]? = some (.cells C 49 (0,0))∧w'.heap[g2]? = some (.cells (gu .u64 64 4 T) 143 (0,0))∧w'.heap[g3]? = some (.cells (gu .u64 64 4 M) 143 (0,0)))∧Fr F0 w w')) ?_ λak=>?_
 ·exact zz43
 refine aj 0 ?_
 refine aj 1 ?_
 refine aj 2 ?_
 refine aj 4 ?_
 refine aj 5 ?_
 refine aj 6 ?_
 refine aj 7 ?_
 refine rdy [3,12] ?_
 refine rco (λK hK=>?_) (rco (λK hK=>?_) AllReadyH.nil)
 go_simp
 ((with_reducible refine(HT.out _).mono ?_);rintro e w5 ⟨rfl,f5⟩;have z5:=f5.size;(try simp only[World.size_alloc,dh]at z5))
 refine rpu hK aPt λak=>?_
 clear hK K
 refine rdy [8,12] ?_
 refine rco (λK hK=>?_) (rco (λK hK=>?_) AllReadyH.nil)
 go_simp
 ((with_reducible refine(HS.out _).mono ?_);rintro e w5 ⟨rfl,f5⟩;have z5:=f5.size;(try simp only[World.size_alloc,dh]at z5))
 refine rpu hK aPt λak=>?_
 clear hK K
 refine aj 9 ?_
 refine aj 10 ?_
 refine aj 11 ?_
 refine jf 12 λK hK=>?_
 go_simp
 refine rpu hK zz8 λak=>?_
 clear hK K
 refine jf 13 λK hK=>?_
 go_simp
 (try(rw[je (old:=gu .u64 64 4 0) (t':=143) (by((try rw[←Array.getElem?_eq_getElem]);repeat(first|exact heap_alloc_new _ _|refine bg ?_|refine au (by assumption) ?_))) (dw _ _ _ _) (dw _ _ _ _) (iw _ _ _ _)];go_simp))
 refine rpu hK zz8 λak=>?_
 clear hK K
 refine aj 14 ?_
 refine jg ?_
 rotate_left
 go_simp
 refine rpu hK zz8 λak=>?_
 clear hK K
 refine jf 8 λK hK=>?_
 go_simp
 ((with_reducible refine(HS.out _).mono ?_);rintro e w5 ⟨rfl,f5⟩;have z5:=f5.size;(try simp only[World.size_alloc,dh]at z5))
 refine rpu hK aPt λak=>?_
 clear hK K
 refine aj 9 ?_
 refine aj 10 ?_
 refine aj 11 ?_
 refine jf 13 λK hK=>?_
 go_simp
 (try(rw[je (old:=gu .u64 64 4 0) (t':=143) (by((try rw[←Array.getElem?_eq_getElem]);repeat(first|exact heap_alloc_new _ _|refine bg ?_|refine au (by assumption) ?_))) (dw _ _ _ _) (dw _ _ _ _) (iw _ _ _ _)];go_simp))
 refine rpu hK zz8 λak=>?_
 clear hK K
 refine aj 14 ?_
 refine jg ?_
 rotate_left
 go_simp
 refine rpu hK zz8 λak=>?_
 clear hK K
 refine jf 3 λK hK=>?_
 go_simp
 ((with_reducible refine(HT.out _).mono ?_);rintro e w5 ⟨rfl,f5⟩;have z5:=f5.size;(try simp only[World.size_alloc,dh]at z5))
 refine rpu hK aPt λak=>?_
 clear hK K
 refine jf 8 λK hK=>?_
 go_simp
 ((with_reducible refine(HS.out _).mono ?_);rintro e w5 ⟨rfl,f5⟩;have z5:=f5.size;(try simp only[World.size_alloc,dh]at z5))
 refine rpu hK aPt λak=>?_
 clear hK K
 refine aj 9 ?_
 refine aj 10 ?_
 refine aj 11 ?_
 refine jf 13 λK hK=>?_
 go_simp
 (try(rw[je (old:=gu .u64 64 4 0) (t':=143) (by((try rw[←Array.getElem?_eq_getElem]);repeat(first|exact heap_alloc_new _ _|refine bg ?_|refine au (by assumption) ?_))) (dw _ _ _ _) (dw _ _ _ _) (iw _ _ _ _)];go_simp))
 refine rpu hK zz8 λak=>?_
 clear hK K
 refine aj 14 ?_
 refine jg ?_
 rotate_left
 all_goals
  refine hK.out ⟨⟨_,rfl,?_⟩,ak.2⟩
  refine qp (z:=gu .u64 64 4 0) (t:=143) (f:=(0,0)) ?_
  repeat(first|exact heap_alloc_new _ _|refine bg ?_|refine au (by assumption) ?_)
theorem afm{C:Array Value}{every:Int}{span limit:Nat}{confirm:Int}(h:aJh C every span limit confirm)(bits:Nat)(k:Int)(T M:Nat)(E V Z:Int)(oz:Bool)
  (HD:Hid (∀w,Calls Tryz.prog 86 #[.int .u32 (bits:Int)] w λe w'=>e = .returned (.tuple #[.agg (gu .u64 64 4 T),.int .i64 E])∧Fr F0 w w'))
  (HM:Hid (∀w,Calls Tryz.prog 143 #[.agg C] w λe w'=>e = .returned (.agg (gu .u64 64 4 M))∧Fr F0 w w'))
  (hz:adq 256 M 0=oz)
  (HC:Hid ((¬E=0∧V=0∧Z=6)∨(E=0∧oz=true∧V=0∧Z=6)∨(E=0∧oz=false∧span=0∧V=0∧Z=1)∨(E=0∧oz=false∧0<span∧Z=0∧∃tk S:Nat,
   Hid (∀w:World,Calls Tryz.prog 179 #[.agg C,.int .i64 k] w λe w'=>e = .returned (.int .u64 (tk:Int))∧Fr F0 w w') ∧
   Hid (∀w:World,Calls Tryz.prog 178 #[.agg (gu .u64 64 4 T),.int .u64 (tk:Int),.int .u64 (span:Int),.agg (gu .u64 64 4 M)] w λe w'=>e = .returned (.tuple #[.agg (gu .u64 64 4 S),.int .i64 0])∧Fr F0 w w') ∧
   Hid (∀w:World,Calls Tryz.prog 180 #[.agg (gu .u64 64 4 S)] w λe w'=>e = .returned (.int .u32 V)∧Fr F0 w w')))) (w:World) :
  Calls Tryz.prog 153 #[.agg C,.int .u32 (bits:Int),.int .i64 k] w λe w'=>e = .returned (.tuple #[.int .u32 V,.int .i64 Z])∧Fr F0 w w':=by
 obtain⟨s,c0,c1,c2,c3,_,hlt,_⟩:=h
 have s1:1<C.size:=by omega
 have d1:=jd c1 s1
 have m6:IntKind.u64.wrap (span:Int)=(span:Int):=IntWalk.u64_in _ aPl
 clear c0 c2 c3 hlt
 go_enter Tryz.func153,Tryz.ntmps153
 go_wp2_with fail
 refine ru λW0 N=>?_
 have r1:=N.new
 have F:=N.fr
 clear N
 generalize w.heap.size=g1 at *
 (with_reducible refine(HD.out _).mono ?_);rintro e w1 ⟨rfl,f⟩
 replace r1:=au f r1
 replace F:=F.trans' f
 clear f
 go_upto_region 2 with fail
 refine uy λW N=>?_
 have r2:=N.new
 replace r1:=N.old r1
 replace F:=F.trans' N.fr
 clear N
 generalize w1.heap.size=g2 at *
 go_wp2_with fail
 (with_reducible refine(HM.out _).mono ?_);rintro e w2 ⟨rfl,f⟩
 replace r1:=au f r1
 replace r2:=au f r2
 replace F:=F.trans' f
 clear f
 go_upto_region 3 with fail
 refine uy λW3 N=>?_
 have r3:=N.new
 replace r1:=N.old r1
 replace r2:=N.old r2
 replace F:=F.trans' N.fr
 clear N
 generalize w2.heap.size=g3 at *
 rcases HC.out with⟨l1,rfl,rfl⟩|⟨rfl,rfl,rfl,rfl⟩|⟨rfl,rfl,rfl,rfl,rfl⟩|⟨rfl,rfl,l1,rfl,tk,S,H1,H2,H3⟩
 ·clear HC
  go_wp2_with fail
  go_ret2
  exact⟨rfl,F⟩
 ·clear HC
  go_wp2_with fail
  go_ret2
  exact⟨rfl,F⟩
 ·clear HC
  go_wp2_with fail
  go_ret2
  exact⟨rfl,F⟩
 ·clear HC
  have l2:¬(span:Int)=0:=by omega
  go_upto_region 7 with fail
  refine nx7 w _ C T M S tk span g1 g2 g3 k H1 H2 m6 s c1 s1 d1 r1 r2 r3 F (Lib.hid ?_)
  clear r1 r2 r3 F
  rename_i w7
  rintro⟨⟨p1,rfl,r4⟩,F⟩
  go_wp2_with fail
  (with_reducible refine(H3.out _).mono ?_);rintro e w8 ⟨rfl,f⟩
  replace F:=F.trans' f
  go_wp2_with fail
  go_ret2
  exact⟨rfl,F⟩
open Classical in
noncomputable def nxE (span limit bits:Nat):Int:=if btP bits∧btP limit then(if span=0 then 1 else 0)else 6
open Classical in
noncomputable def nxV (span limit bits:Nat) (k:Int):Nat:=if btP bits∧btP limit then(if span=0 then 0 else enB (scN (btT bits) (tkN span k) span (btT limit)))else 0
theorem aFs{span:Nat}(hs:0<span)(h:span<4294967296)(k:Int):tkN span k<18446744073709551616:=by have:=aQ0 hs k;omega
theorem aE7{span limit bits:Nat}(k:Int)(h:¬(btP bits∧btP limit)):nxV span limit bits k=0∧nxE span limit bits=6:=⟨if_neg h,if_neg h⟩
theorem aAt{limit bits:Nat}(k:Int)(h:btP bits∧btP limit):nxV 0 limit bits k=0∧nxE 0 limit bits=1:=⟨(if_pos h).trans (if_pos rfl),(if_pos h).trans (if_pos rfl)⟩
theorem azq{span limit bits:Nat}(k:Int)(h:btP bits∧btP limit)(h0:0<span):nxV span limit bits k=enB (scN (btT bits) (tkN span k) span (btT limit))∧nxE span limit bits=0:=⟨(if_pos h).trans (if_neg aPl),(if_pos h).trans (if_neg aPl)⟩
theorem aCt(HD:aJi)(HE:EncC)(HS:aup){C:Array Value}{every:Int}{span limit:Nat}{confirm:Int}(h:aJh C every span limit confirm)(bits:Nat)(hb:bits<4294967296)(k:Int)(w:World):
  Calls Tryz.prog 153 #[.agg C,.int .u32 (bits:Int),.int .i64 k] w λe w'=>e = .returned (.tuple #[.int .u32 ((nxV span limit bits k:Nat):Int),.int .i64 (nxE span limit bits)])∧Fr F0 w w':=by
 have HT:=Lib.hid (avq HD h)
 have hz:=ael (ayq limit) (az8 limit) _ rfl
 by_cases hp:btP bits
 ·have H1:=Lib.hid ((HD bits hb).1 hp)
  by_cases hl:btP limit
  ·have hz2:decide (ayq limit=0)=false:=decide_eq_false (by rw[aJm];exact λf=>f hl)
   have ht:ayq limit=btT limit:=if_pos hl
   by_cases h0:span=0
   ·subst h0
    rw[(aAt k ⟨hp,hl⟩).1,(aAt k ⟨hp,hl⟩).2]
    exact afm h bits k _ _ 0 _ _ _ H1 HT (hz.trans hz2) (Lib.hid (.inr (.inr (.inl ⟨rfl,rfl,rfl,rfl,rfl⟩)))) w
   ·have hW:=Lib.hid (HS (btT bits) (tkN span k) span (btT limit) (azy hp) (aFs aPl h.aAb k) (by have:=h.aAb;omega) (azy hl))
    rw[scV,if_neg h0,if_neg (by have:=hl.2.1;omega),scE,if_neg h0,if_neg (by have:=hl.2.1;omega)]at hW
    rw[(azq k ⟨hp,hl⟩ aPl).1,(azq k ⟨hp,hl⟩ aPl).2]
    rw[←ht]at hW ⊢
    refine afm h bits k _ _ 0 _ _ _ H1 HT (hz.trans hz2) (Lib.hid (.inr (.inr (.inr ⟨rfl,rfl,by omega,rfl,_,_,Lib.hid (ax1 h aPl k),hW,Lib.hid (HE _ (aF1 (az8 _)))⟩)))) w
  ·rw[(aE7 k (λf=>hl f.2)).1,(aE7 k (λf=>hl f.2)).2]
   exact afm h bits k _ _ 0 _ _ _ H1 HT (hz.trans (decide_eq_true ((aJm _).2 hl))) (Lib.hid (.inr (.inl ⟨rfl,rfl,rfl,rfl⟩))) w
 ·rw[(aE7 k (λf=>hp f.1)).1,(aE7 k (λf=>hp f.1)).2]
  exact afm h bits k _ _ 6 _ _ _ (Lib.hid ((HD bits hb).2 hp)) HT hz (Lib.hid (.inl ⟨by omega,rfl,rfl⟩)) w
end Go.Proofs.YtjlelckefiannaaGreatDoor
