import Derived.Test.YtjlelckefiannaaGreatDoorZ2
import Derived.Test.YtjlelckefiannaaGreatDoorZ45
import Derived.Test.YtjlelckefiannaaGreatDoorZ44
import Derived.Test.YtjlelckefiannaaGreatDoorZ24
import Derived.Test.YtjlelckefiannaaGreatDoorZ1
import Derived.Test.YtjlelckefiannaaGreatDoorZ40
set_option maxRecDepth 100000
set_option maxHeartbeats 64000000
namespace Go.Proofs.YtjlelckefiannaaGreatDoor
set_option linter.unusedVariables false
set_option linter.unusedSimpArgs false
open Go.RowKit
theorem aCj{W:World}{g:Nat}{t:TypeId}{h:List UInt8}{x i c y:Value}(hl:h.length=32)(r:W.heap[g]? = some (.cells (rowP x h i c y) t (0,0))):
  aec Tryz.prog 24 (.pointer (some ⟨g,1,none⟩)) W 32 1 68 (some (.cells (rowP x h i c y) t (0,0))) = .ok (.agg (hc h)) W:=by
 unfold aec
 dsimp only
 rw[if_neg (by rw[pq hl];omega)]
 exact abf hl (ahz hl r)
theorem aBg:Tryz.zeroCells47.size=68:=by kernel_rfl
theorem ck7{s1 s2 s4 s5 s6 s7 s8 s9 s10 s11 s12 s13 s14 s15 s16 s17 s18 s19 s20 s21 s22 s23 s24 s25 s26 s27 s28 s29 s30 s31 s32 s33 s34 s35 s36 s37 s38 s39 s40 s41 s42 s43 s44 s45 s46 s47 s48 s49 s50 s51 s52 s53:Value}{K:Act→World→Prop}{Q:Exit→Act→World→Prop}(w:World)(q p g3:Nat)(C HC X:Array Value)(H1:RowKit.Hid (∀W:World,Fr F0 w W→Calls Tryz.prog 24 #[.pointer (some ⟨q,0,none⟩)] W λe w'=>e = .returned (.pointer (some ⟨p,0,none⟩))∧Fr F0 W w'))(H2:RowKit.Hid (∀W:World,Fr F0 w W→Calls Tryz.prog 25 #[.pointer (some ⟨p,0,none⟩),.agg X] W λe w'=>e = .returned (.tuple #[.agg HC,.bool true])∧Fr F0 W w'))(hmo:RowKit.Hid (∀W:World,W.heap[g3]? = some (.cells C 28 (0,0))→aec Tryz.prog 24 (.pointer (some ⟨g3,1,none⟩)) W 32 1 68 (some (.cells C 28 (0,0))) = .ok (.agg X) W))(r3:w.heap[g3]? = some (.cells C 28 (0,0)))(sH:HC.size=68)(oH:jh HC)(zH:Tryz.zeroCells47.size=68)
  (hK:RowKit.Hid (∀{u9 u10 u29 u30 u31 u32 u33 u34 u35 u36:Value} {w':World},((∃g:Nat,u9 = .pointer (some ⟨g,0,none⟩)∧w'.heap[g]? = some (.cells HC 47 (0,0))∧w.heap.size≤g)∧Fr F0 w w')→K ⟨#[.pointer (some ⟨q,0,none⟩),s1,s2,.pointer (some ⟨g3,0,none⟩),s4,s5,s6,s7,s8,u9,u10,s11,s12,s13,s14,s15,s16,s17,s18,s19,s20,s21,s22,s23,s24,s25,s26,s27,s28,u29,u30,u31,u32,u33,u34,u35,u36,s37,s38,s39,s40,s41,s42,s43,s44,s45,s46,s47,s48,s49,s50,s51,s52,s53],[]⟩ w')) :
  Code.wp Tryz.prog ((Tryz.f20.body.bind (jw 7)).getD .skip) (Exit.then K Q) ⟨#[.pointer (some ⟨q,0,none⟩),s1,s2,.pointer (some ⟨g3,0,none⟩),s4,s5,s6,s7,s8,s9,s10,s11,s12,s13,s14,s15,s16,s17,s18,s19,s20,s21,s22,s23,s24,s25,s26,s27,s28,s29,s30,s31,s32,s33,s34,s35,s36,s37,s38,s39,s40,s41,s42,s43,s44,s45,s46,s47,s48,s49,s50,s51,s52,s53],[]⟩ w:=by
 conv=>arg 2;whnf
 have F9:=Fr.refl F0 w
 have z5:=Nat.le_refl w.heap.size
 have z3:=Lib.hid (Array.getElem?_eq_some_iff.1 r3).1
 have HK:=Lib.hid (λW (h:W.heap[g3]? = some (.cells C 28 (0,0)))=>And.intro h (hmo.out W h))
 refine jm (S:=(λw'=>(w'.heap[g3]? = some (.cells C 28 (0,0))∧aec Tryz.prog 24 (.pointer (some ⟨g3,1,none⟩)) w' 32 1 68 (some (.cells C 28 (0,0))) = .ok (.agg X) w')∧Fr F0 w w')) ?_ λak=>?_
 ·exact(by((try dsimp only)<;>(exact⟨HK.out _ (ku r3),F9.drew⟩)))
 refine aj 0 ?_
 refine aj 2 ?_
 refine aj 3 ?_
 refine rdy [1,8] ?_
 refine rco (λK hK=>?_) (rco (λK hK=>?_) AllReadyH.nil)
 go_simp
 ((with_reducible refine(H1.out _ ak.2).mono ?_);rintro e w5 ⟨rfl,f5⟩;have z5:=(ak.2.trans' f5).size;(try simp only[World.size_alloc,dh]at z5))
 refine rpu hK aPs λak=>?_
 clear hK K
 refine rdy [4,8] ?_
 refine rco (λK hK=>?_) (rco (λK hK=>?_) AllReadyH.nil)
 go_simp
 ((with_reducible refine(H2.out _ ak.2).mono ?_);rintro e w5 ⟨rfl,f5⟩;have z5:=(ak.2.trans' f5).size;(try simp only[World.size_alloc,dh]at z5))
 refine rpu hK aPs λak=>?_
 clear hK K
 refine aj 5 ?_
 refine aj 6 ?_
 refine aj 7 ?_
 refine jf 8 λK hK=>?_
 go_simp
 refine rpu hK zz9 λak=>?_
 clear hK K
 refine jf 9 λK hK=>?_
 go_simp
 (try(rw[je (old:=Tryz.zeroCells47) (t':=47) (by((try rw[←Array.getElem?_eq_getElem]);repeat(first|rfl|exact heap_alloc_new _ _|refine bg ?_|refine au (by assumption) ?_))) zH sH oH];go_simp))
 refine rpu hK zz9 λak=>?_
 clear hK K
 refine aj 10 ?_
 refine jg ?_
 rotate_left
 go_simp
 refine rpu hK zz9 λak=>?_
 clear hK K
 refine jf 4 λK hK=>?_
 go_simp
 ((with_reducible refine(H2.out _ ak.2).mono ?_);rintro e w5 ⟨rfl,f5⟩;have z5:=(ak.2.trans' f5).size;(try simp only[World.size_alloc,dh]at z5))
 refine rpu hK aPs λak=>?_
 clear hK K
 refine aj 5 ?_
 refine aj 6 ?_
 refine aj 7 ?_
 refine jf 9 λK hK=>?_
 go_simp
 (try(rw[je (old:=Tryz.zeroCells47) (t':=47) (by((try rw[←Array.getElem?_eq_getElem]);repeat(first|rfl|exact heap_alloc_new _ _|refine bg ?_|refine au (by assumption) ?_))) zH sH oH];go_simp))
 refine rpu hK zz9 λak=>?_
 clear hK K
 refine aj 10 ?_
 refine jg ?_
 rotate_left
 go_simp
 refine rpu hK zz9 λak=>?_
 clear hK K
 refine jf 1 λK hK=>?_
 go_simp
 ((with_reducible refine(H1.out _ ak.2).mono ?_);rintro e w5 ⟨rfl,f5⟩;have z5:=(ak.2.trans' f5).size;(try simp only[World.size_alloc,dh]at z5))
 refine rpu hK aPs λak=>?_
 clear hK K
 refine jf 4 λK hK=>?_
 go_simp
 ((with_reducible refine(H2.out _ ak.2).mono ?_);rintro e w5 ⟨rfl,f5⟩;have z5:=(ak.2.trans' f5).size;(try simp only[World.size_alloc,dh]at z5))
 refine rpu hK aPs λak=>?_
 clear hK K
 refine aj 5 ?_
 refine aj 6 ?_
 refine aj 7 ?_
 refine jf 9 λK hK=>?_
 go_simp
 (try(rw[je (old:=Tryz.zeroCells47) (t':=47) (by((try rw[←Array.getElem?_eq_getElem]);repeat(first|rfl|exact heap_alloc_new _ _|refine bg ?_|refine au (by assumption) ?_))) zH sH oH];go_simp))
 refine rpu hK zz9 λak=>?_
 clear hK K
 refine aj 10 ?_
 refine jg ?_
 rotate_left
 all_goals
  refine hK.out ⟨⟨_,rfl,?_,by(try simp only[World.size_alloc,dh]at z5 ⊢);omega⟩,ak.2⟩
  refine(qp (z:=Tryz.zeroCells47) (t:=47) (f:=(0,0)) ?_)
  repeat(first|exact heap_alloc_new _ _|refine bg ?_|refine au (by assumption) ?_)
theorem ck8{s0 s1 s2 s4 s5 s6 s7 s8 s10 s11 s12 s13 s14 s15 s16 s17 s18 s19 s20 s21 s22 s23 s24 s25 s26 s27 s28 s29 s30 s31 s32 s33 s34 s35 s36 s37 s38 s39 s40 s41 s42 s43 s44 s45 s46 s47 s48 s49 s50 s51 s52 s53:Value}{K:Act→World→Prop}{Q:Exit→Act→World→Prop}(w:World)(g3 g9 tn c m d ix cn:Nat)(a b:Option Addr)(C HC X RO:Array Value)(ok:Bool)(H1:RowKit.Hid (∀W:World,Fr F0 w W→Calls Tryz.prog 28 #[.slice a tn c] W λe w'=>e = .returned (.agg X)∧Fr F0 W w'))(H2:RowKit.Hid (∀W:World,Fr F0 w W→Calls Tryz.prog 27 #[.agg RO,.agg X,.int .i64 (ix:Int),.int .i64 (cn:Int),.slice b m d] W λe w'=>e = .returned (.bool ok)∧Fr F0 W w'))(r3:w.heap[g3]? = some (.cells C 28 (0,0)))(r9:w.heap[g9]? = some (.cells HC 47 (0,0)))(sH:HC.size=68)(x33:HC.extract 33 65=RO)(sC:C.size=36)(c0:C[0]? = some (.slice a tn c))(c33:C[33]? = some (.int .u32 (ix:Int)))(c34:C[34]? = some (.int .u32 (cn:Int)))(c35:C[35]? = some (.slice b m d))(hi:IntKind.i64.wrap (ix:Int)=(ix:Int))(hcn:IntKind.i64.wrap (cn:Int)=(cn:Int))
  (hK:RowKit.Hid (∀{u37 u38 u39 u40 u41 u42 u43 u44 u45 u46 u47 u48 u49 u50 u51:Value} {w':World},(u51 = .bool (!ok)∧Fr F0 w w')→K ⟨#[s0,s1,s2,.pointer (some ⟨g3,0,none⟩),s4,s5,s6,s7,s8,.pointer (some ⟨g9,0,none⟩),s10,s11,s12,s13,s14,s15,s16,s17,s18,s19,s20,s21,s22,s23,s24,s25,s26,s27,s28,s29,s30,s31,s32,s33,s34,s35,s36,u37,u38,u39,u40,u41,u42,u43,u44,u45,u46,u47,u48,u49,u50,u51,s52,s53],[]⟩ w')) :
  Code.wp Tryz.prog ((Tryz.f20.body.bind (jw 8)).getD .skip) (Exit.then K Q) ⟨#[s0,s1,s2,.pointer (some ⟨g3,0,none⟩),s4,s5,s6,s7,s8,.pointer (some ⟨g9,0,none⟩),s10,s11,s12,s13,s14,s15,s16,s17,s18,s19,s20,s21,s22,s23,s24,s25,s26,s27,s28,s29,s30,s31,s32,s33,s34,s35,s36,s37,s38,s39,s40,s41,s42,s43,s44,s45,s46,s47,s48,s49,s50,s51,s52,s53],[]⟩ w:=by
 conv=>arg 2;whnf
 have F9:=Fr.refl F0 w
 have z0:0<C.size:=by omega
 have z33:33<C.size:=by omega
 have z34:34<C.size:=by omega
 have z35:35<C.size:=by omega
 have d0:=jd c0 z0
 have d33:=jd c33 z33
 have d34:=jd c34 z34
 have d35:=jd c35 z35
 refine jm (S:=(λw'=>(w'.heap[g3]? = some (.cells C 28 (0,0))∧w'.heap[g9]? = some (.cells HC 47 (0,0)))∧Fr F0 w w')) ?_ λak=>?_
 ·exact(by((try dsimp only)<;>(exact⟨⟨ku r3,ku r9⟩,F9.drew⟩)))
 refine aj 0 ?_
 refine aj 1 ?_
 refine aj 2 ?_
 refine aj 3 ?_
 refine aj 5 ?_
 refine aj 6 ?_
 refine aj 7 ?_
 refine aj 8 ?_
 refine aj 9 ?_
 refine aj 10 ?_
 refine aj 11 ?_
 refine aj 12 ?_
 refine jf 4 λK hK=>?_
 go_simp
 ((with_reducible refine(H1.out _ ak.2).mono ?_);rintro e w5 ⟨rfl,f5⟩)
 refine rpu hK ak5 λak=>?_
 clear hK K
 refine jf 13 λK hK=>?_
 go_simp
 ((with_reducible refine(H2.out _ ak.2).mono ?_);rintro e w5 ⟨rfl,f5⟩)
 refine rpu hK ak5 λak=>?_
 clear hK K
 refine aj 14 ?_
 refine jg ?_
 all_goals
  exact hK.out ⟨by cases ok<;>rfl,ak.2⟩
def ckR(H:List Hd)(L:List Bk)(k:Nat)(p:MP):Int :=
 if prs p.tx=none then 2 else if cfE L k p.bk≠0 then cfE L k p.bk else if ckM (hdT H (yj L p.bk).toNat).root (uj p.tx) p.ix p.cn p.wy=true then 0 else 14
def CkQ(r:Int)(bs:List UInt8)(w:World)(e:Ending)(w':World):Prop :=
 ∃t:TT,e = .returned (.tuple #[.agg t.cells,.int .i64 r])∧((r=0∧prs bs=some t.m)∨(r≠0∧t=TT.zero))∧alv w.heap.size w' t∧Fr F0 w w'
theorem CkQ.no{r:Int}{bs:List UInt8}{w w':World}(h:r≠0)(f:Fr F0 w w'):CkQ r bs w (.returned (.tuple #[.agg #[.int .u32 0,.slice none 0 0,.slice none 0 0,.int .u32 0],.int .i64 r])) w' :=
 ⟨TT.zero,rfl,.inr ⟨h,rfl⟩,alv.zero _ _,f⟩
theorem aR7{L:List Bk}{k:Nat}{h:List UInt8}(e:cfE L k h=0):0≤yj L h:=by
 unfold cfE at e
 by_cases h1:yj L h<0
 ·rw[if_pos h1]at e;cases e
 ·omega
theorem axk{w:World}{q p k dd:Nat}{R:Array Value}{bm:Nat}{H:List Hd}{L:List Bk}{ps:List Nat}{v:Value}(hR:R.size=72)(I:TI H L ps)(T:TM w p R bm H L ps v (chn L))(rq:w.heap[q]? = some (.cells (ryC p k dd) 118 (0,0)))
  (f:MP) (o:f.Ok) (a:Option Addr) (c:Nat) (b:Option Addr) (d:Nat) (hb:Bs w a c f.tx) (hs:Hs w b d f.wy) (h1:f.tx.length≤100000) (h2:f.wy.length≤100000) (zn:Cub w) :
  Calls Tryz.prog 20 #[.pointer (some ⟨q,0,none⟩),.agg (pfC f a c b d)] w (CkQ (ckR H L k f) f.tx w):=by
 obtain⟨tx,bk,ix,cn,wy⟩:=f
 obtain⟨o1,o2,o3,o4⟩:=o
 simp only at o1 o2 o3 o4 hb hs h1 h2
 simp only[pfC]
 obtain⟨tn,htn⟩:∃n,n=tx.length:=⟨_,rfl⟩
 obtain⟨m,hm⟩:∃n,n=wy.length:=⟨_,rfl⟩
 rw[←htn,←hm]
 have HP:=Lib.hid (λW (fr:Fr F0 w W)=>aw4 a tn c tx W (Bs.fr7 hb fr) htn h1)
 have HCf:=Lib.hid (λW (fr:Fr F0 w W)=>ali hR I (T.fr fr) (au fr rq) bk o1)
 have HT:=Lib.hid (λW (fr:Fr F0 w W)=>show Calls Tryz.prog 24 #[.pointer (some ⟨q,0,none⟩)] W λe w'=>e = .returned (.pointer (some ⟨p,0,none⟩))∧Fr F0 W w' from
  (aj3 (au fr rq)).mono (by rintro e w' ⟨rfl,rfl⟩;exact⟨rfl,Fr.refl _ _⟩))
 have HH:=Lib.hid (fun(i:Nat) (hi:i<L.length) W (fr:Fr F0 w W)=>atl hR I (T.fr fr) i hi)
 have HD:=Lib.hid (λW (fr:Fr F0 w W)=>show Calls Tryz.prog 28 #[.slice a tn c] W λe w'=>e = .returned (.agg (hc (uj tx)))∧Fr F0 W w' from adl a tn c tx htn aPl W (Bs.fr7 hb fr) (zn.fr fr λf=>f))
 have HM:=Lib.hid (λroot (hr:root.length=32) W (fr:Fr F0 w W)=>axx root (uj tx) ix cn wy b m d W hr (hs.fr fr) hm aEl aPl (zn.fr fr λf=>f))
 have HI:=Lib.hid I
 have hmo:=Lib.hid (fun(W:World) (g:Nat) (r:W.heap[g]? = some (.cells (rowP (.slice a tn c) bk (.int .u32 (ix:Int)) (.int .u32 (cn:Int)) (.slice b m d)) 28 (0,0)))=>aCj o1 r)
 have s0:=pq o1 (.slice a tn c) (.int .u32 (ix:Int)) (.int .u32 (cn:Int)) (.slice b m d)
 have c0:=alz (.slice a tn c) bk (.int .u32 (ix:Int)) (.int .u32 (cn:Int)) (.slice b m d)
 have c33:=ajq o1 (.slice a tn c) (.int .u32 (ix:Int)) (.int .u32 (cn:Int)) (.slice b m d)
 have c34:=ahs o1 (.slice a tn c) (.int .u32 (ix:Int)) (.int .u32 (cn:Int)) (.slice b m d)
 have c35:=ac6 o1 (.slice a tn c) (.int .u32 (ix:Int)) (.int .u32 (cn:Int)) (.slice b m d)
 obtain⟨C,hC⟩:∃C,C=rowP (.slice a tn c) bk (.int .u32 (ix:Int)) (.int .u32 (cn:Int)) (.slice b m d):=⟨_,rfl⟩
 rw[←hC]at s0 c0 c33 c34 c35 hmo ⊢
 clear hC
 have z0:0<C.size:=by omega
 have d0:=jd c0 z0
 have hi:=IntWalk.i64_in (ix:Int) aPl
 have hcw:=IntWalk.i64_in (cn:Int) aPl
 obtain⟨r,hr⟩:∃r,r=ckR H L k ⟨tx,bk,ix,cn,wy⟩:=⟨_,rfl⟩
 rw[←hr]
 have HRr:=Lib.hid (show r=if prs tx=none then 2 else if cfE L k bk≠0 then cfE L k bk else if ckM (hdT H (yj L bk).toNat).root (uj tx) ix cn wy=true then 0 else 14 from hr)
 obtain⟨X,hX⟩:∃X,X=hc bk:=⟨_,rfl⟩
 rw[←hX]at HCf hmo
 have HX:=Lib.hid hX
 obtain⟨E,hE⟩:∃E,E=cfE L k bk:=⟨_,rfl⟩
 rw[←hE]at HCf
 have HE:=Lib.hid hE
 clear hr hX hE hb hs h1 h2 o1 o2 o3 o4 htn hm zn rq T I hR
 go_enter Tryz.func20,Tryz.ntmps20
 go_upto_region 1 with fail
 refine lu λW1 N1=>?_
 have r4:=N1.new
 have r3:=N1.old (heap_alloc_new w (.cells C 28))
 have F:=((Fr.refl F0 w).alloc (.cells C 28)).trans' N1.fr
 have n34:=N1.ne (heap_alloc_new w (.cells C 28))
 rw[World.size_alloc]at r4 n34
 try rw[World.size_alloc]
 clear N1
 obtain⟨g4,hg4⟩:∃g,g=w.heap.size+1:=⟨_,rfl⟩
 obtain⟨g3,hg3⟩:∃g,g=w.heap.size:=⟨_,rfl⟩
 rw[←hg4]at r4 n34
 rw[←hg3]at r3 n34
 try rw[←hg4]
 try rw[←hg3]
 have hz1:=Lib.hid (show g4<W1.heap.size∧w.heap.size≤W1.heap.size from⟨(Array.getElem?_eq_some_iff.1 r4).1,F.size⟩)
 replace hg4:=Lib.hid (show w.heap.size≤g4 by omega)
 clear hg3
 go_wp2_with fail
 (with_reducible refine(HP.out _ F).mono ?_);rintro e w2 ⟨t,E0,rfl,hcase,hT,f2⟩
 replace r3:=au f2 r3
 replace r4:=au f2 r4
 have hTN:=Lib.hid hT
 replace F:=F.trans' f2
 clear f2 HP hT
 obtain⟨x0,x3,ia,oa,ni,mo,ic,oc,hTC⟩:=t.ajf
 rw[hTC]
 have HTC:=Lib.hid hTC
 clear hTC
 go_upto_region 2 with fail
 refine lu λW3 N3=>?_
 have r6:=N3.new
 replace r3:=N3.old r3
 replace r4:=N3.old r4
 have aOt:=Lib.hid (hTN.out.fr N3.fr λ_ e=>e.elim)
 replace F:=F.trans' N3.fr
 clear N3 hTN
 generalize w2.heap.size=g6 at *
 rcases hcase with⟨hp,rfl⟩|⟨hp,rfl,rfl⟩
 ·have mo4:=hmo.out W3 g3 r3
  have HPr:=Lib.hid hp
  clear hp
  go_wp2_with fail
  (with_reducible refine(HCf.out _ F).mono ?_);rintro e w4 ⟨rfl,f4⟩
  replace r3:=au f4 r3
  replace r4:=au f4 r4
  replace r6:=au f4 r6
  have hTN4:=Lib.hid (aOt.out.fr f4 λ_ e=>e.elim)
  replace F:=F.trans' f4
  clear f4 HCf mo4 aOt
  by_cases hE:E=0
  ·subst hE
   have hfi:=aR7 HE.out.symm
   obtain⟨i,hi2⟩:=Int.eq_ofNat_of_zero_le hfi
   obtain⟨hil,hih⟩:=ai6 hi2
   have aFa:=(HI.out.hd i hil).1
   have HRt:=Lib.hid (show r=if ckM (hdT H i).root (uj tx) ix cn wy=true then 0 else 14 from by
    rw[HRr.out,if_neg (by rw[HPr.out];simp),if_neg (by rw[←HE.out];simp),hi2];rfl)
   have HHi:=Lib.hid (λW (fr:Fr F0 w W)=>HH.out i hil W fr)
   rw[hih,←HX.out]at HHi
   have HMi:=Lib.hid (λW (fr:Fr F0 w W)=>HM.out (hdT H i).root aFa.root W fr)
   have sY:=Hd.qw aFa
   have oY:jh (hdT H i).cells:=Hd.one
   have xR:=Hd.aLb aFa
   replace xR:(hdT H i).cells.extract 33 65=hc (hdT H i).root:=xR
   obtain⟨cb,hcb⟩:∃cb,cb=ckM (hdT H i).root (uj tx) ix cn wy:=⟨_,rfl⟩
   rw[←hcb]at HMi HRt
   obtain⟨Y,hY⟩:∃Y,Y=(hdT H i).cells:=⟨_,rfl⟩
   rw[←hY]at HHi sY oY xR
   clear hcb hY aFa hih hil hi2 hfi HH HM HE HRr
   go_upto_region 7 with fail
   refine ck7 w4 q p g3 C Y X (Lib.hid λW fr=>HT.out W (F.trans' fr)) (Lib.hid λW fr=>HHi.out W (F.trans' fr)) (Lib.hid λW rr=>hmo.out W g3 rr) r3 sY oY aBg (Lib.hid ?_)
   rename_i w5
   rintro⟨⟨g9,rfl,r9,_⟩,f5⟩
   replace r3:=au f5 r3
   replace r4:=au f5 r4
   replace r6:=au f5 r6
   have hTN5:=Lib.hid (hTN4.out.fr f5 λ_ e=>e.elim)
   replace F:=F.trans' f5
   clear f5 HT HHi hTN4
   go_upto_region 8 with fail
   refine ck8 w5 g3 g9 tn c m d ix cn a b C Y (hc (uj tx)) (hc (hdT H i).root) cb (Lib.hid λW fr=>HD.out W (F.trans' fr)) (Lib.hid λW fr=>HMi.out W (F.trans' fr)) r3 r9 sY xR s0 c0 c33 c34 c35 hi hcw (Lib.hid ?_)
   rename_i w6
   rintro⟨rfl,f6⟩
   replace r4:=au f6 r4
   replace r6:=au f6 r6
   have hTN6:=Lib.hid (hTN5.out.fr f6 λ_ e=>e.elim)
   replace F:=F.trans' f6
   clear f6 HD HMi hTN5 r9 xR sY oY
   cases cb with
   |false =>
    go_wp2_with fail
    refine bodyPost_ret (cu rfl _ _ g4 _ _ _ _ rfl (agu r4) Tryz.underlying59 rfl zz79) rfl ?_
    have:=CkQ.no (bs:=tx) (show r≠0 by rw[HRt.out];decide) (F.agu hg4.out (a' := .int .u32 0) (b' := .slice none 0 0) (c' := .slice none 0 0) (d' := .int .u32 0))
    rw[HRt.out]at this ⊢
    exact this
   |true =>
    go_wp2_with fail
    refine bodyPost_ret (cu rfl _ _ g4 _ _ _ _ rfl (agu r4) Tryz.underlying59 rfl zz79) rfl ?_
    have hr0:r=0:=by rw[HRt.out];rfl
    refine⟨t,by rw[HTC.out,hr0];rfl,.inl ⟨hr0,HPr.out⟩,?_,F.agu hg4.out⟩
    exact(hTN6.out.fr Fr.aza λk e=>by have:=hz1.out;omega).mono hz1.out.2
  ·have l1:(E != 0)=true:=bne_iff_ne.2 hE
   have hrE:r=E:=by rw[HRr.out,if_neg (by rw[HPr.out];simp),if_pos (by rw[←HE.out];exact hE),←HE.out]
   have HrE:=Lib.hid (And.intro hrE hE)
   clear hE hrE
   go_wp2_with fail
   refine bodyPost_ret (cu rfl _ _ g4 _ _ _ _ rfl (agu r4) Tryz.underlying59 rfl zz79) rfl ?_
   have:=CkQ.no (bs:=tx) (show r≠0 by rw[HrE.out.1];exact HrE.out.2) (F.agu hg4.out (a' := .int .u32 0) (b' := .slice none 0 0) (c' := .slice none 0 0) (d' := .int .u32 0))
   rw[HrE.out.1]at this ⊢
   exact this
 ·have hr2:r=2:=by rw[HRr.out,if_pos hp]
  have Hr2:=Lib.hid hr2
  clear hr2 hp
  go_wp2_with fail
  refine bodyPost_ret (cu rfl _ _ g4 _ _ _ _ rfl (agu r4) Tryz.underlying59 rfl zz79) rfl ?_
  have:=CkQ.no (bs:=tx) (show r≠0 by rw[Hr2.out];decide) (F.agu hg4.out (a' := .int .u32 0) (b' := .slice none 0 0) (c' := .slice none 0 0) (d' := .int .u32 0))
  rw[Hr2.out]at this ⊢
  exact this
end Go.Proofs.YtjlelckefiannaaGreatDoor
