import Derived.Test.YtjlelckefiannaaGreatDoorZ46
import Derived.Test.YtjlelckefiannaaGreatDoorZ47
import Derived.Test.YtjlelckefiannaaGreatDoorZ45
import Derived.Test.YtjlelckefiannaaGreatDoorZ44
import Derived.Test.YtjlelckefiannaaGreatDoorZ17
import Derived.Test.YtjlelckefiannaaGreatDoorZ2
import Derived.Test.YtjlelckefiannaaGreatDoorZ42
import Derived.Lib.SlBytesConst
set_option maxRecDepth 100000
set_option maxHeartbeats 64000000
namespace Go.Proofs.YtjlelckefiannaaGreatDoor
set_option linter.unusedVariables false
set_option linter.unusedSimpArgs false
open Go.RowKit
theorem aB7{bs:List UInt8}{t:TT}(h:prs bs=some t.m):(∀x∈t.outs,x.m.lk.length≤1000)∧t.outs.length≤70:=by
 obtain⟨_,hf,_⟩:=aL5 h
 have h1:=hf.outs
 have h2:=hf.lk
 have e:t.m.outs.length=t.outs.length:=by simp[TT.m]
 refine⟨λx hx=>?_,by omega⟩
 have:=h2 x.m (by simp only[TT.m,List.mem_map];exact⟨x,hx,rfl⟩)
 omega
theorem aCd{q:Nat}{f:MP}(o:f.Ok)(a:Option Addr)(c:Nat)(b:Option Addr)(d:Nat)(A:List UInt8)(hA:A.length=20)(amt:Nat)(aPx:amt<18446744073709551616)(tag:List UInt8)(ag:Option Addr)(cg:Nat)(w:World)(hg:Bs w ag cg tag)(r:Int)
  (HC:Hid (∀W,Fr F0 w W→Calls Tryz.prog 20 #[.pointer (some ⟨q,0,none⟩),.agg (pfC f a c b d)] W (CkQ r f.tx W))) :
  Calls Tryz.prog 34 #[.pointer (some ⟨q,0,none⟩),.agg (pfC f a c b d),.agg (pyC A amt ag tag.length cg)] w λe w' =>
   ∃(t:TT) (E:Int),e = .returned (.tuple #[.agg t.cells,.int .i64 E])∧((r=0∧∃t0:TT,prs f.tx=some t0.m∧E=inE t0 A amt tag∧(E=0→t.m=t0.m))∨(r≠0∧E=r))∧(E≠0→t=TT.zero)∧alv w.heap.size w' t∧Fr F0 w w':=by
 have HIn:=Lib.hid (fun(t:TT) W (fr:Fr F0 w W) (ht:t.Ok W) (hs:∀x∈t.outs,x.m.lk.length≤1000) (h70:t.outs.length≤70)=>aL7 A hA amt aPx tag ag cg t W ht (Bs.fr7 hg fr) hs h70)
 obtain⟨n,hn⟩:∃n,n=tag.length:=⟨_,rfl⟩
 rw[←hn]at HIn ⊢
 have sC:=pq o.bk (.slice a f.tx.length c) (.int .u32 (f.ix:Int)) (.int .u32 (f.cn:Int)) (.slice b f.wy.length d)
 replace sC:(pfC f a c b d).size=36:=sC
 have oC:jh (pfC f a c b d):=aad _ rfl rfl rfl rfl
 have sP:=ai1 hA amt ag n cg
 have oP:=aAm A amt ag n cg
 obtain⟨C,hC⟩:∃C,C=pfC f a c b d:=⟨_,rfl⟩
 obtain⟨PC,hPC⟩:∃P,P=pyC A amt ag n cg:=⟨_,rfl⟩
 rw[←hC]at sC oC HC ⊢
 rw[←hPC]at sP oP HIn ⊢
 clear hC hPC hg hn hA o
 have r3:=heap_alloc_new w (.cells C 28)
 go_enter Tryz.func34,Tryz.ntmps34
 go_upto_region 1 with fail
 refine lu λW1 N1=>?_
 have r6:=N1.new
 have r5:=N1.old (heap_alloc_new (w.alloc (.cells C 28)) (.cells PC 87))
 have r4:=N1.old (bg (o := .cells PC 87) (heap_alloc_new w (.cells C 28)))
 have F:=(((Fr.refl F0 w).alloc (.cells C 28)).alloc (.cells PC 87)).trans' N1.fr
 simp only[World.size_alloc]at r6 r5
 try simp only[World.size_alloc]
 clear N1 r3
 obtain⟨g6,hg6⟩:∃g,g=w.heap.size+1+1:=⟨_,rfl⟩
 obtain⟨g5,hg5⟩:∃g,g=w.heap.size+1:=⟨_,rfl⟩
 obtain⟨g4,hg4⟩:∃g,g=w.heap.size:=⟨_,rfl⟩
 rw[←hg6]at r6
 rw[←hg5]at r5
 rw[←hg4]at r4
 try rw[←hg6]
 try rw[←hg5]
 try rw[←hg4]
 have hz1:=Lib.hid (show g6<W1.heap.size∧w.heap.size≤W1.heap.size from⟨(Array.getElem?_eq_some_iff.1 r6).1,F.size⟩)
 replace hg6:=Lib.hid (show w.heap.size≤g6 by omega)
 clear hg5 hg4
 go_wp2_with fail
 (with_reducible refine(HC.out _ F).mono ?_);rintro e w2 ⟨t,rfl,hcase,hT,f2⟩
 replace r5:=au f2 r5
 replace r6:=au f2 r6
 have hTN:=Lib.hid hT
 replace F:=F.trans' f2
 clear f2 HC hT r4
 obtain⟨x0,x3,ia,oa,ni,mo,ic,oc,hTC⟩:=t.ajf
 rw[hTC]
 have HTC:=Lib.hid hTC
 clear hTC
 go_upto_region 2 with fail
 refine lu λW3 N3=>?_
 have r8:=N3.new
 replace r5:=N3.old r5
 replace r6:=N3.old r6
 have aOt:=Lib.hid (hTN.out.fr N3.fr λ_ e=>e.elim)
 replace F:=F.trans' N3.fr
 clear N3 hTN
 generalize w2.heap.size=g8 at *
 rcases hcase with⟨hr,hp⟩|⟨hr,rfl⟩
 ·have l1:(r != 0)=false:=by rw[hr];rfl
  have Hr:=Lib.hid hr
  clear hr
  have hsm:=aB7 hp
  have HI2:=Lib.hid (HIn.out t W3 F aOt.out.ok hsm.1 hsm.2)
  rw[HTC.out]at HI2
  have HPr:=Lib.hid hp
  obtain⟨E,hE⟩:∃E,E=inE t A amt tag:=⟨_,rfl⟩
  rw[←hE]at HI2
  have HE:=Lib.hid hE
  have hE01:E=0∨E=15:=by rw[hE];unfold inE;split;exact .inl rfl;exact .inr rfl
  clear hp hsm hE HIn
  go_wp2_with fail
  (with_reducible refine HI2.out.mono ?_);rintro e w4 ⟨rfl,f4⟩
  replace r6:=au f4 r6
  replace r8:=au f4 r8
  have hTN4:=Lib.hid (aOt.out.fr f4 λ_ e=>e.elim)
  replace F:=F.trans' f4
  clear f4 HI2 aOt r5
  rcases hE01 with rfl|rfl
  ·go_wp2_with fail
   refine bodyPost_ret (cu rfl _ _ g6 _ _ _ _ rfl (agu r6) Tryz.underlying59 rfl zz79) rfl ?_
   exact⟨t,0,by rw[HTC.out];rfl,(.inl ⟨Hr.out,t,HPr.out,HE.out,λ_=>rfl⟩),λh=>absurd rfl h,(hTN4.out.fr Fr.aza λk e=>by have:=hz1.out;omega).mono hz1.out.2,F.agu hg6.out⟩
  ·go_wp2_with fail
   refine bodyPost_ret (cu rfl _ _ g6 _ _ _ _ rfl (agu r6) Tryz.underlying59 rfl zz79) rfl ?_
   exact⟨TT.zero,15,rfl,(.inl ⟨Hr.out,t,HPr.out,HE.out,λh=>by cases h⟩),λ_=>rfl,alv.zero _ _,F.agu hg6.out⟩
 ·have l1:(r != 0)=true:=bne_iff_ne.2 hr
  have Hr:=Lib.hid hr
  clear hr HIn r5
  go_wp2_with fail
  refine bodyPost_ret (cu rfl _ _ g6 _ _ _ _ rfl (agu r6) Tryz.underlying59 rfl zz79) rfl ?_
  exact⟨TT.zero,r,rfl,.inr ⟨Hr.out,rfl⟩,λ_=>rfl,alv.zero _ _,F.agu hg6.out⟩
def ayy:List UInt8:=1::List.replicate 19 0
def aO1:List UInt8:=2::List.replicate 19 0
def adf:MT:=aOl ayy 5 [120] aO1 0
def am0:List UInt8 := [12,109,121,28,61,35,152,193,117,70,237,10,28,74,202,168,22,150,89,255,120,115,107,12,0,133,81,157,137,120,255,40]
theorem aeu:adf.err=0:=by decide +kernel
theorem ajy:uj adf.bytes=am0:=by
 rw[uj,af0,af0]
 decide +kernel
theorem aCa:adf.hsh=am0:=by rw[MT.hsh,if_pos aeu,ajy]
theorem apn:adf.out=adf.bytes:=by rw[MT.out,if_pos aeu]
def ayx:Hd := { ver:=3,ahead:=aFb,root:=am0,time:=1060,bits:=545259519,zq:=0 }
def H14:Hd:=ayx.with 1
theorem H14.ok:H14.Ok:=⟨by decide,rfl,rfl,by decide,by decide,by decide⟩
def aMs:List UInt8 := [213,107,100,52,8,176,216,35,173,191,105,6,47,101,201,251,143,125,220,60,251,23,14,111,7,99,58,146,142,1,48,134]
def ab1:List UInt8 := [223,101,213,254,195,232,35,140,218,69,55,122,85,184,173,89,48,221,175,37,172,108,156,238,182,148,161,81,124,24,6,95]
theorem ayx.sum:uj (ayx.with 0).bytes=aMs:=by
 rw[uj,af0,af0]
 decide +kernel
theorem H14.sum:uj H14.bytes=ab1:=by
 rw[uj,af0,af0]
 decide +kernel
theorem ayx.meets:mtH (ayx.with 0)=false:=by
 rw[mtH,hsh,ayx.sum]
 decide +kernel
theorem H14.meets:mtH (ayx.with 1)=true:=by
 rw[mtH,hsh,show ayx.with 1=H14 from rfl,H14.sum]
 decide +kernel
theorem H14.mine:aay ayx 4000 0=some 1:=by
 rw[show(4000:Nat)=3999+1 from rfl,aay,ayx.meets,if_neg (by decide),if_neg (by decide),show(3999:Nat)=3998+1 from rfl,aay,show(0+1:Nat)=1 from rfl,H14.meets,if_pos rfl]
theorem aSm:aJg [b0 (.bool false)] 7 600 als (uj Fh.bytes)=545259519:=by
 rw[auq,Fh.sum]
 decide +kernel
theorem H14.made:blH Fh 545259519 am0=H14:=by
 have e:bl0 Fh 545259519 am0=ayx:=by
  rw[bl0,Fh.sum]
  rfl
 rw[blH,e,agw,Go.Proofs.YtjlelckefiannaaGreatDoor.acf,show ayx.zq=0 from rfl,H14.mine]
 rfl
def aue:List Bk := [⟨aFb,-1,1000,545259519,.bool false⟩,⟨ab1,0,1060,545259519,.bool false⟩]
theorem aBe : [b0 (.bool false)] ++ [nbB H14 (.bool false) 0]=aue:=by rw[auq];unfold nbB;rw[H14.sum];rfl
theorem chk14:aE2 [b0 (.bool false)] 7 600 als (adg H14 (.bool false)) H14.ahead (mtH H14)=0:=by
 rw[auq,show mtH H14=true from H14.meets,adg,H14.sum]
 decide +kernel
theorem aRy:yj [b0 (.bool false)] H14.ahead=((0:Nat):Int):=by
 rw[auq]
 decide +kernel
theorem aug:ig aue 1=1∧(bkT aue (ug aue)).hash=ab1∧cfE aue 1 ab1=0∧yj aue ab1=1:=by
 decide +kernel
def aI8:MP:=⟨adf.bytes,ab1,0,1,[]⟩
theorem am7:aI8.Ok:=⟨rfl,by decide,by decide,λ_ h=>by cases h⟩
theorem way14:alr [am0] 0 = []:=by
 rw[alr]
 rfl
theorem aRa:aan [am0]=am0:=ajw (by simp)
theorem apm:prs adf.bytes=some adf:=by
 refine(aMz ⟨by decide,by decide,?_,?_⟩ aeu).1
 ·intro x hx
  simp only[adf,aOl,List.mem_singleton]at hx
  subst hx
  exact⟨rfl,by decide,by decide⟩
 ·intro x hx
  rw[adf,aOl]at hx
  simp only[show lkE 2 [120]=0 from rfl,if_true,List.mem_cons,List.not_mem_nil,or_false]at hx
  rcases hx with rfl|rfl
  ·exact⟨(show(5:Nat)<18446744073709551616 by decide)⟩
  ·exact⟨(show(0:Nat)<18446744073709551616 by decide)⟩
theorem ckR14:ckR [Fh,H14] aue 1 aI8=0:=by
 unfold ckR
 rw[show aI8.tx=adf.bytes from rfl,apm,if_neg (by simp),show aI8.bk=ab1 from rfl,aug.2.2.1,if_neg (by simp),aug.2.2.2,ajy]
 rw[if_pos]
 show ckM (hdT [Fh,H14] 1).root am0 0 1 []=true
 unfold ckM
 rw[zo]
 decide +kernel
theorem aRg(p:Int×List UInt8×List UInt8→Bool)(l:List TO):pays p l=((l.map TO.m).filter λx=>p (lkP x.lk)).map MO.py:=by
 rw[pays,aje,List.filter_map,List.map_map]
 rfl
theorem aFu(l:List TO):afz l=((l.map TO.m).filter λx=>aOm (lkP x.lk)).map λx=>(lkP x.lk).2.2:=by
 rw[afz,aje,List.filter_map,List.map_map]
 rfl
theorem in14(t:TT)(h:t.m=adf):inE t ayy 5 [120]=0:=by
 have ho:t.outs.map TO.m=adf.outs:=by rw[←h];rfl
 unfold inE
 rw[aRg,aFu,ho]
 decide +kernel
theorem Tryz.infoTxs:(Tryz.prog.info? 59).map (λi=>(i.zero,i.size,i.bytes))=some (some (.agg #[.int .u32 0,.slice none 0 0,.slice none 0 0,.int .u32 0]),4,64):=by kernel_rfl
def av2(parts:Array (Nat×Value)):Sem Value:=Instr.buildSlice 54 1 parts
@[go_sem ↓ high] theorem aSw (p:Array (Nat×Value)):Instr.buildSlice 54 1 p=av2 p:=rfl
theorem aqz(w:World)(X:Array Value)(h:X.size=4):(av2 #[(0,.agg X)]).run Tryz.prog w = .ok (.slice (some ⟨w.heap.size,0,none⟩) 1 1) (w.alloc (.cells X 59)):=by
 obtain⟨i0,hi,hz,hs,_⟩:=info_parts Tryz.infoTxs
 exact agd w 54 59 X 4 i0 _ Tryz.underlying54 hi hz hs aPl aPl h
theorem aHu:Tryz.prog.built 62 [(0,.int .u8 1)]=some (ayy.map B8).toArray:=by kernel_rfl
theorem aHt:Tryz.prog.built 62 [(0,.int .u8 2)]=some (aO1.map B8).toArray:=by kernel_rfl
def zPF:Array Value:=rowP (.slice none 0 0) z32 (.int .u32 0) (.int .u32 0) (.slice none 0 0)
theorem ano:zPF.size=36:=rfl
theorem lv6B{s0 s1 s2 s3 s7 s8 s9 s10 s11 s12 s13 s14 s15 s16 s17 s18 s19 s20 s21 s22 s23 s24 s25 s26 s27 s28 s29 s30 s31 s32 s33 s34 s35 s36 s37 s38 s39 s40 s41 s42 s43 s44 s45 s46 s47 s48 s49 s50 s51 s52 s53 s54 s55 s56 s57 s58 s59 s60 s61 s62 s63 s64 s65 s66 s67 s68 s69 s70 s71 s72 s73 s74 s75 s76 s77 s78 s79 s80 s81 s82 s83 s84 s85 s86 s87 s88 s89 s90 s91 s92 s93 s94 s95:Value}{K:Act→World→Prop}{Q:Exit→Act→World→Prop}(w:World)(g4 g5 di:Nat)(bi:Option Addr)(HC X:Array Value)(t0 t1 t2 t3:Value)(PP:Array Value→World→Prop)(H1:RowKit.Hid (∀W:World,Fr F0 w W→Calls Tryz.prog 19 #[.agg HC] W λe w'=>e = .returned (.agg X)∧Fr F0 W w'))(H2:RowKit.Hid (∀W:World,Fr F0 w W→Calls Tryz.prog 18 #[.slice bi 1 di,.int .i64 0,.agg #[t0,t1,t2,t3],.agg X] W λe w'=>∃A,e = .returned (.tuple #[.agg A,.int .i64 0])∧(A.size=36∧jh A∧∀W':World,Fr (λk=>k<W.heap.size) w' W'→PP A W')∧Fr F0 W w'))(r4:w.heap[g4]? = some (.cells #[t0,t1,t2,t3] 59 (0,0)))(r5:w.heap[g5]? = some (.cells HC 47 (0,0)))(sH:HC.size=68)
  (hK:RowKit.Hid (∀{u9 u10 u40 u41 u42 u43 u44 u45 u46 u47:Value} {w':World},((∃(g:Nat) (A:Array Value),u9 = .pointer (some ⟨g,0,none⟩)∧w'.heap[g]? = some (.cells A 28 (0,0))∧PP A w'∧A.size=36∧jh A)∧u10 = .int .i64 0∧Fr F0 w w')→K ⟨#[s0,s1,s2,s3,.pointer (some ⟨g4,0,none⟩),.pointer (some ⟨g5,0,none⟩),.slice bi 1 di,s7,s8,u9,u10,s11,s12,s13,s14,s15,s16,s17,s18,s19,s20,s21,s22,s23,s24,s25,s26,s27,s28,s29,s30,s31,s32,s33,s34,s35,s36,s37,s38,s39,u40,u41,u42,u43,u44,u45,u46,u47,s48,s49,s50,s51,s52,s53,s54,s55,s56,s57,s58,s59,s60,s61,s62,s63,s64,s65,s66,s67,s68,s69,s70,s71,s72,s73,s74,s75,s76,s77,s78,s79,s80,s81,s82,s83,s84,s85,s86,s87,s88,s89,s90,s91,s92,s93,s94,s95],[]⟩ w')) :
  Code.wp Tryz.prog ((Tryz.f6.body.bind (jw 6)).getD .skip) (Exit.then K Q) ⟨#[s0,s1,s2,s3,.pointer (some ⟨g4,0,none⟩),.pointer (some ⟨g5,0,none⟩),.slice bi 1 di,s7,s8,s9,s10,s11,s12,s13,s14,s15,s16,s17,s18,s19,s20,s21,s22,s23,s24,s25,s26,s27,s28,s29,s30,s31,s32,s33,s34,s35,s36,s37,s38,s39,s40,s41,s42,s43,s44,s45,s46,s47,s48,s49,s50,s51,s52,s53,s54,s55,s56,s57,s58,s59,s60,s61,s62,s63,s64,s65,s66,s67,s68,s69,s70,s71,s72,s73,s74,s75,s76,s77,s78,s79,s80,s81,s82,s83,s84,s85,s86,s87,s88,s89,s90,s91,s92,s93,s94,s95],[]⟩ w:=by
 conv=>arg 2;whnf
 have F9:=Fr.refl F0 w
 have z5:=Nat.le_refl w.heap.size
 have z4:=Lib.hid (And.intro (Array.getElem?_eq_some_iff.1 r4).1 (Array.getElem?_eq_some_iff.1 r5).1)
 refine jm (S:=(λw'=>(w'.heap[g4]? = some (.cells #[t0,t1,t2,t3] 59 (0,0))∧w'.heap[g5]? = some (.cells HC 47 (0,0)))∧Fr F0 w w')) ?_ λak=>?_
 ·exact(by((try dsimp only)<;>(exact⟨⟨ku r4,ku r5⟩,F9.drew⟩)))
 refine aj 0 ?_
 refine aj 1 ?_
 refine aj 2 ?_
 refine rdy [3,8] ?_
 refine rco (λK hK=>?_) (rco (λK hK=>?_) AllReadyH.nil)
 go_simp
 ((with_reducible refine(H1.out _ ak.2).mono ?_);rintro e w5 ⟨rfl,f5⟩;have y5:=f5.size;have z5:=(ak.2.trans' f5).size;(try simp only[World.size_alloc,dh]at z5 y5))
 refine rpu hK ak5 λak=>?_
 clear hK K
 refine rdy [4,8] ?_
 refine rco (λK hK=>?_) (rco (λK hK=>?_) AllReadyH.nil)
 go_simp
 ((with_reducible refine(H2.out _ ak.2).mono ?_);rintro e w5 ⟨A,rfl,⟨sA,oA,hA⟩,f5⟩;have z5:=(ak.2.trans' f5).size;have HA:=Lib.hid hA;clear hA;(try simp only[World.size_alloc,dh]at z5))
 refine rpu hK ak5 λak=>?_
 clear hK K
 refine aj 5 ?_
 refine aj 6 ?_
 refine aj 7 ?_
 refine jf 8 λK hK=>?_
 go_simp
 refine rpu hK zz3 λak=>?_
 clear hK K
 refine jf 9 λK hK=>?_
 go_simp
 (try(rw[je (old:=zPF) (t':=28) (by((try rw[←Array.getElem?_eq_getElem]);repeat(first|rfl|exact heap_alloc_new _ _|refine bg ?_|refine au (by assumption) ?_))) ano sA oA];go_simp))
 refine rpu hK zz3 λak=>?_
 clear hK K
 refine aj 10 ?_
 refine jg ?_
 rotate_left
 go_simp
 refine rpu hK zz3 λak=>?_
 clear hK K
 refine jf 4 λK hK=>?_
 go_simp
 ((with_reducible refine(H2.out _ ak.2).mono ?_);rintro e w5 ⟨A,rfl,⟨sA,oA,hA⟩,f5⟩;have z5:=(ak.2.trans' f5).size;have HA:=Lib.hid hA;clear hA;(try simp only[World.size_alloc,dh]at z5))
 refine rpu hK ak5 λak=>?_
 clear hK K
 refine aj 5 ?_
 refine aj 6 ?_
 refine aj 7 ?_
 refine jf 9 λK hK=>?_
 go_simp
 (try(rw[je (old:=zPF) (t':=28) (by((try rw[←Array.getElem?_eq_getElem]);repeat(first|rfl|exact heap_alloc_new _ _|refine bg ?_|refine au (by assumption) ?_))) ano sA oA];go_simp))
 refine rpu hK zz3 λak=>?_
 clear hK K
 refine aj 10 ?_
 refine jg ?_
 rotate_left
 go_simp
 refine rpu hK zz3 λak=>?_
 clear hK K
 refine jf 3 λK hK=>?_
 go_simp
 ((with_reducible refine(H1.out _ ak.2).mono ?_);rintro e w5 ⟨rfl,f5⟩;have y5:=f5.size;have z5:=(ak.2.trans' f5).size;(try simp only[World.size_alloc,dh]at z5 y5))
 refine rpu hK ak5 λak=>?_
 clear hK K
 refine jf 4 λK hK=>?_
 go_simp
 ((with_reducible refine(H2.out _ ak.2).mono ?_);rintro e w5 ⟨A,rfl,⟨sA,oA,hA⟩,f5⟩;have z5:=(ak.2.trans' f5).size;have HA:=Lib.hid hA;clear hA;(try simp only[World.size_alloc,dh]at z5))
 refine rpu hK ak5 λak=>?_
 clear hK K
 refine aj 5 ?_
 refine aj 6 ?_
 refine aj 7 ?_
 refine jf 9 λK hK=>?_
 go_simp
 (try(rw[je (old:=zPF) (t':=28) (by((try rw[←Array.getElem?_eq_getElem]);repeat(first|rfl|exact heap_alloc_new _ _|refine bg ?_|refine au (by assumption) ?_))) ano sA oA];go_simp))
 refine rpu hK zz3 λak=>?_
 clear hK K
 refine aj 10 ?_
 refine jg ?_
 rotate_left
 all_goals
  refine hK.out ⟨⟨_,A,rfl,?_,HA.out _ ?_,sA,oA⟩,rfl,ak.2⟩
  ·refine(qp (z:=zPF) (t:=28) (f:=(0,0)) ?_)
   repeat(first|exact heap_alloc_new _ _|refine bg ?_|refine au (by assumption) ?_)
  ·first
    |exact((Fr.refl _ _).alloc _).setRow (λh=>by(try simp only[World.size_alloc,dh]at h z5 ⊢);omega) _
    |exact(Fr.refl _ _).setRow (λh=>by show _<_;(try simp only[World.size_alloc,dh]);omega) _
theorem lv8B{s0 s1 s2 s4 s7 s11 s13 s14 s15 s16 s17 s18 s19 s20 s21 s22 s23 s24 s25 s26 s27 s28 s29 s30 s31 s32 s33 s34 s35 s36 s37 s38 s39 s40 s41 s42 s43 s44 s45 s46 s47 s48 s49 s50 s51 s52 s53 s54 s55 s56 s57 s58 s59 s60 s61 s62 s63 s64 s65 s66 s67 s68 s69 s70 s71 s72 s73 s74 s75 s76 s77 s78 s79 s80 s81 s82 s83 s84 s85 s86 s87 s88 s89 s90 s91 s92 s93 s94 s95:Value}{K:Act→World→Prop}{Q:Exit→Act→World→Prop}(w:World)(g5 g9 bo oo di m dd:Nat)(b:Option Addr)(A HC Y:Array Value)(eqb:Bool)(sA:A.size=36)(c34:A[34]? = some (.int .u32 1))(c35:A[35]? = some (.slice b 0 dd))(sH:HC.size=68)(x33:HC.extract 33 65=Y)(HL:RowKit.Hid (∀W:World,Fr F0 w W→(iq 24 (.pointer (some ⟨bo,oo,none⟩))).run Tryz.prog W = .ok (.agg Y) W))(heq:∀W:World,(Op.equalIn 10000 24 (.agg Y) (.agg Y)).run Tryz.prog W = .ok true W)(r9:w.heap[g9]? = some (.cells A 28 (0,0)))(r5:w.heap[g5]? = some (.cells HC 47 (0,0)))
  (hK:RowKit.Hid (∀{u0 u58 u59 u60 u61 u62 u63 u64 u65 u66 u67 u68 u69 u70 u71 u72 u73 u74 u75 u76 u77 u78 u79 u80 u81 u82 u83 u84 u85 u86 u87 u88 u89 u90 u91 u92 u93 u94 u95:Value} {w':World},(u0 = .bool true∧Fr F0 w w')→K ⟨#[u0,s1,s2,.int .i64 0,s4,.pointer (some ⟨g5,0,none⟩),.slice (some ⟨bo,oo,none⟩) 1 di,s7,.int .i64 0,.pointer (some ⟨g9,0,none⟩),.int .i64 0,s11,.int .i64 0,s13,s14,s15,s16,s17,s18,s19,s20,s21,s22,s23,s24,s25,s26,s27,s28,s29,s30,s31,s32,s33,s34,s35,s36,s37,s38,s39,s40,s41,s42,s43,s44,s45,s46,s47,s48,s49,s50,s51,s52,s53,s54,s55,s56,s57,u58,u59,u60,u61,u62,u63,u64,u65,u66,u67,u68,u69,u70,u71,u72,u73,u74,u75,u76,u77,u78,u79,u80,u81,u82,u83,u84,u85,u86,u87,u88,u89,u90,u91,u92,u93,u94,u95],[]⟩ w')) :
  Code.wp Tryz.prog ((Tryz.f6.body.bind (jw 8)).getD .skip) (Exit.then K Q) ⟨#[s0,s1,s2,.int .i64 0,s4,.pointer (some ⟨g5,0,none⟩),.slice (some ⟨bo,oo,none⟩) 1 di,s7,.int .i64 0,.pointer (some ⟨g9,0,none⟩),.int .i64 0,s11,.int .i64 0,s13,s14,s15,s16,s17,s18,s19,s20,s21,s22,s23,s24,s25,s26,s27,s28,s29,s30,s31,s32,s33,s34,s35,s36,s37,s38,s39,s40,s41,s42,s43,s44,s45,s46,s47,s48,s49,s50,s51,s52,s53,s54,s55,s56,s57,s58,s59,s60,s61,s62,s63,s64,s65,s66,s67,s68,s69,s70,s71,s72,s73,s74,s75,s76,s77,s78,s79,s80,s81,s82,s83,s84,s85,s86,s87,s88,s89,s90,s91,s92,s93,s94,s95],[]⟩ w:=by
 conv=>arg 2;whnf
 have F9:=Fr.refl F0 w
 have z34:34<A.size:=by omega
 have z35:35<A.size:=by omega
 have d34:=jd c34 z34
 have d35:=jd c35 z35
 refine jm (S:=(λw'=>(w'.heap[g9]? = some (.cells A 28 (0,0))∧w'.heap[g5]? = some (.cells HC 47 (0,0))∧(iq 24 (.pointer (some ⟨bo,oo,none⟩))).run Tryz.prog w' = .ok (.agg Y) w')∧Fr F0 w w')) ?_ λak=>?_
 ·exact(by((try dsimp only)<;>(exact⟨⟨ku r9,ku r5,HL.out _ F9.drew⟩,F9.drew⟩)))
 refine aj 0 ?_
 refine aj 1 ?_
 refine aj 2 ?_
 refine aj 3 ?_
 refine aj 4 ?_
 refine aj 5 ?_
 refine aj 6 ?_
 refine aj 7 ?_
 refine aj 8 ?_
 refine aj 9 ?_
 refine aj 10 ?_
 refine aj 11 ?_
 refine aj 12 ?_
 refine aj 13 ?_
 refine aj 14 ?_
 refine aj 15 ?_
 refine aj 16 ?_
 refine aj 17 ?_
 refine aj 18 ?_
 refine aj 19 ?_
 refine aj 20 ?_
 refine aj 21 ?_
 refine aj 22 ?_
 refine aj 23 ?_
 refine aj 24 ?_
 refine aj 25 ?_
 refine aj 26 ?_
 refine aj 27 ?_
 refine aj 28 ?_
 refine aj 29 ?_
 refine aj 30 ?_
 refine aj 31 ?_
 refine aj 32 ?_
 refine aj 33 ?_
 refine aj 34 ?_
 refine aj 35 ?_
 refine aj 36 ?_
 refine aj 37 ?_
 refine aj 38 ?_
 refine jg ?_
 all_goals
  exact hK.out ⟨rfl,ak.2⟩
theorem amx{P:Program}{f:FuncId}{args:Array Value}{Q:Ending→World→Prop}{w:World}{o:Obj}(k:∀W,W.heap[w.heap.size]? = some o→(∀{i:Nat} {x:Obj},w.heap[i]? = some x→W.heap[i]? = some x)→Fr F0 w W→Calls P f args W Q):Calls P f args (w.alloc o) Q :=
 k _ (heap_alloc_new _ _) (λh=>bg h) ((Fr.refl F0 w).alloc _)
def aOz(A:Array Value)(W:World):Prop:=∃a c b d,A=pfC aI8 a c b d∧Bs W a c adf.bytes∧Hs W b d []
theorem aOz.fr{A:Array Value}{W W':World}(h:aOz A W)(f:Fr F0 W W'):aOz A W':=by
 obtain⟨a,c,b,d,e,hb,hs⟩:=h
 exact⟨a,c,b,d,e,Bs.fr7 hb f,hs.fr f⟩
theorem aMr{t:TT}(h:t.m=adf):ace [t] = [am0]:=by
 have e:t.m.err=0:=by rw[h];exact aeu
 have e2:([t].filter λt=>decide (t.m.err=0)) = [t]:=by
  rw[List.filter_cons_of_pos (by rw[e];rfl)]
  rfl
 rw[ace,e2,List.map_cons,h,aCa]
 rfl
theorem mk14{t:TT}(h:t.m=adf):mkE t.m [am0] 0=0:=by
 rw[mkE,h,if_neg (by rw[aeu];simp),if_pos]
 rw[apn,ajy]
 rfl
structure Lv14:Prop where
 pay:∀(W:World) (a:Option Addr) (c:Nat),Bs W a c [120]→Calls Tryz.prog 14 #[.agg (ayy.map B8).toArray,.int .u64 5,.slice a 1 c,.agg (aO1.map B8).toArray,.int .u32 0] W λe w'=>∃t:TT,e = .returned (.agg t.cells)∧t.m=adf∧alv W.heap.size w' t∧Fr F0 W w'
 blk:∀(W:World) (q p bm qf d:Nat) (v:Value),TM W p (ruC 7 600 1) bm [Fh] [b0 (.bool false)] [qf] v (chn [b0 (.bool false)])→W.heap[q]? = some (.cells (ryC p 1 d) 118 (0,0))→∀(t:TT) (a:Option Addr) (c:Nat),Txs W a c [t]→t.m=adf→Cub W →
  Calls Tryz.prog 15 #[.pointer (some ⟨q,0,none⟩),.agg Fh.cells,.slice a 1 c] W λe w'=>∃b d,e = .returned (.tuple #[.agg H14.cells,.slice b 1 d])∧Hs w' b d [am0]∧Fr F0 W w'∧∀k,ql b=some k→W.heap.size≤k
 sub:∀(W:World) (q p bm qf c:Nat) (v:Value) (a:Option Addr),TM W p (ruC 7 600 1) bm [Fh] [b0 (.bool false)] [qf] v (chn [b0 (.bool false)])→W.heap[q]? = some (.cells (ryC p 1 0) 118 (0,0))→Bs W a c H14.bytes→Cub W→¬(TS p bm [qf] v 0∨0=q) →
  Calls Tryz.prog 16 #[.pointer (some ⟨q,0,none⟩),.slice a 80 c] W λe w'=>∃tn qn v',e = .returned (.tuple #[.agg (tdC ab1 1 true tn),.int .i64 0])∧TI [Fh,H14] aue [qf,qn]∧TM w' p (ruC 7 600 1) bm [Fh,H14] aue [qf,qn] v' (chn aue)∧w'.heap[q]? = some (.cells (ryC p 1 (max 0 tn)) 118 (0,0))∧Fr (λj=>TS p bm [qf] v j∨j=q) W w'
 make:∀(W:World) (t:TT) (b:Option Addr) (d:Nat),t.Ok W→t.m=adf→Hs W b d [am0]→Cub W →
  Calls Tryz.prog 18 #[.slice b 1 d,.int .i64 0,.agg t.cells,.agg (hc ab1)] W λe w'=>∃A,e = .returned (.tuple #[.agg A,.int .i64 0])∧(A.size=36∧jh A∧∀W':World,Fr (λk=>k<W.heap.size) w' W'→aOz A W')∧Fr F0 W w'
 pays:∀(W:World) (q p bm d cg:Nat) (ps:List Nat) (v:Value) (A:Array Value) (ag:Option Addr),TI [Fh,H14] aue ps→TM W p (ruC 7 600 1) bm [Fh,H14] aue ps v (chn aue)→W.heap[q]? = some (.cells (ryC p 1 d) 118 (0,0))→aOz A W→Bs W ag cg [120]→Cub W →
  Calls Tryz.prog 34 #[.pointer (some ⟨q,0,none⟩),.agg A,.agg (pyC ayy 5 ag 1 cg)] W λe w'=>∃(x0 x3:Int) (ia oa:Option Addr) (ni mo ic oc:Nat),e = .returned (.tuple #[.agg #[.int .u32 x0,.slice ia ni ic,.slice oa mo oc,.int .u32 x3],.int .i64 0])∧Fr F0 W w'
theorem lv14:Lv14:=by
 have HRI:RI (ruC 7 600 1) 7 600 als:=⟨⟨_,ajg 7 600 1 aPl⟩,by omega,by omega,by omega,al2⟩
 have tb0:TB [b0 (.bool false)] 7 600 als:=(aQu (.bool false)).tb (ajb (v := .bool false) rfl 0).wf (by simp) aPl
 have hR:(ruC 7 600 1).size=72:=(ajg 7 600 1 aPl).size
 refine⟨λW a c hb=>?_,λW q p bm qf d v T rq t a c ht hm hcu=>?_,λW q p bm qf c v a T rq hb hcu hnc=>?_,λW t b d ht hm hs hcu=>?_,λW q p bm d cg ps v A ag I T rq hp hg hcu=>?_⟩
 ·exact aDu ayy rfl 5 (by decide) [120] a 1 c aO1 rfl 0 (by decide) W hb rfl (by decide)
 ·have hi:=aMr hm
  have:=at1 HRI (ajb rfl qf) (λi hi=>((aQu (.bool false)) i hi).1) T rq Fh Fh.ok [t] a c ht (by rw[hi];decide) (by simp) hcu
  rw[hi,aSm,aRa,H14.made]at this
  exact this
 ·have h80:H14.bytes.length=80:=Hd.aa6 H14.ok
  have:=atg HRI (ajb rfl qf) tb0 T rq H14 H14.ok a c hb hcu hnc
  rw[h80]at this
  refine this.mono ?_
  rintro e w' ⟨_,h2⟩
  obtain⟨i,hi,qn,v',nb,rfl,T',rq',_,_,f⟩:=h2 chk14
  rw[aRy]at hi
  obtain rfl:i=0:=by omega
  have I':=(ajb (v := .bool false) rfl qf).snoc nb
  rw[aBe]at T' rq' I'
  refine⟨_,qn,v',?_,I',T',rq',f⟩
  rw[aBe,H14.sum,aug.2.1]
  rw[show ig aue [b0 (.bool false)].length=1 from aug.1]
  rfl
 ·refine(aCe [am0] b d 0 t ab1 W hs (by decide) (by simp) ht rfl hcu).mono ?_
  rintro e w' ⟨f,a,c,b2,d2,rfl,h0,_,of,hb,hs2,fr,na,nb⟩
  have hf:=h0 (mk14 hm)
  rw[mk14 hm]
  have e:f=aI8:=by rw[hf,hm,apn,way14];rfl
  subst e
  refine⟨_,rfl,⟨pq of.bk _ _ _ _,aad _ rfl rfl rfl rfl,λW' fr'=>⟨a,c,b2,d2,rfl,hb.frx fr' (λ_ k hk e=>by have:=na k hk;omega),hs2.frx fr' (λk hk e=>by have:=nb k hk;omega)⟩⟩,fr⟩
 ·obtain⟨a,c,b,d2,rfl,hb,hs⟩:=hp
  refine(aCd am7 a c b d2 ayy rfl 5 (by decide) [120] ag cg W hg 0 (Lib.hid λW' fr=>?_)).mono ?_
  ·have:=axk hR I (T.fr fr) (au fr rq) aI8 am7 a c b d2 (Bs.fr7 hb fr) (hs.fr fr) (by decide +kernel) (by decide) (hcu.fr fr λf=>f)
   rw[ckR14]at this
   exact this
  ·rintro e w' ⟨t,E,rfl,hc,hz,_,fr⟩
   have hE:E=0:=by
    rcases hc with⟨_,t0,h1,h2,_⟩|⟨h,_⟩
    ·rw[h2]
     refine in14 t0 ?_
     rw[show aI8.tx=adf.bytes from rfl,apm]at h1
     exact(Option.some.inj h1).symm
    ·exact absurd rfl h
   subst hE
   exact⟨_,_,_,_,_,_,_,_,rfl,fr⟩
theorem atd(w:World)(zn:Cub w):Calls Tryz.prog 6 #[] w λe w'=>e = .returned (.bool true)∧Fr F0 w w':=by
 have LV:=Lib.hid lv14
 have HC:=Lib.hid zn
 have hcl:=Lib.hid zn.lt
 have HR:=Lib.hid (λW (hcu:Cub W)=>show Calls Tryz.prog 12 #[.int .i64 5,.int .u32 599,.int .i64 0] W λe w'=>e = .returned (.agg (ruC 7 600 1))∧Fr F0 W w' from by
  have:=aty aJ2 5 0 599 aPl aPl aPl W hcu
  exact this)
 have HN:=Lib.hid (λW (hcu:Cub W)=>aG8 7 600 1 aPl aPl aPl aPl aPl aPl W hcu)
 have HLD:=Lib.hid (λW g (h:W.heap[g]? = some (.cells (ruC 7 600 1) 49 (0,0)))=>ah8 7 600 1 W g h)
 have hru:=ajg 7 600 1 aPl
 have hR:=hru.size
 have oR:=hru.one
 have hA1:∀W,(ajt #[(0,.int .u8 1)]).run Tryz.prog W = .ok (.agg (ayy.map B8).toArray) W:=λW=>agk W _ _ aHu
 have hA2:∀W,(ajt #[(0,.int .u8 2)]).run Tryz.prog W = .ok (.agg (aO1.map B8).toArray) W:=λW=>agk W _ _ aHt
 have hPb:∀(W:World) (a:Option Addr) (c:Nat),(asl #[(0,.agg (ayy.map B8).toArray),(1,.int .u64 5),(2,.slice a 1 c)]).run Tryz.prog W = .ok (.agg (pyC ayy 5 a 1 c)) W:=λW a c=>as7 W _ _ (aHo ayy rfl 5 a 1 c)
 have HBy:Hid (∀W,Calls Tryz.prog 17 #[.agg H14.cells] W λe w'=>∃a c,e = .returned (.slice a 80 c)∧Bs w' a c H14.bytes∧Fr F0 W w'):=Lib.hid λW=>(aA4 H14 H14.ok W).mono (by
  rintro e w' ⟨a,c,rfl,hb,f,_⟩
  rw[show H14.bytes.length=80 from Hd.aa6 H14.ok]
  exact⟨a,c,rfl,hb,f⟩)
 have HH:=Lib.hid (λW (hcu:Cub W)=>show Calls Tryz.prog 19 #[.agg H14.cells] W λe w'=>e = .returned (.agg (hc ab1))∧Fr F0 W w' from by
  have:=aji H14 H14.ok W hcu
  rw[H14.sum]at this
  exact this)
 have HTD:=Lib.hid (λtn=>And.intro (ant (hs:=ab1) rfl 1 true tn) (ar6 ab1 1 true tn))
 have sY:H14.cells.size=68:=rfl
 have oY:jh H14.cells:=Hd.one
 have sF:Fh.cells.size=68:=rfl
 have xR:H14.cells.extract 33 65=hc am0:=Hd.aLb H14.ok
 have heq:=λW=>uf W am0 am0 rfl rfl
 rw[decide_eq_true rfl]at heq
 obtain⟨R,hRe⟩:∃R,R=ruC 7 600 1:=⟨_,rfl⟩
 rw[←hRe]at HR hR oR HLD
 have HRe:=Lib.hid hRe
 obtain⟨FC,hFC⟩:∃X,X=Fh.cells:=⟨_,rfl⟩
 rw[←hFC]at HLD sF
 have HFC:=Lib.hid hFC
 obtain⟨Y,hY⟩:∃X,X=H14.cells:=⟨_,rfl⟩
 rw[←hY]at HBy HH sY oY xR
 have HY:=Lib.hid hY
 obtain⟨P1,hP1⟩:∃X,X=(ayy.map B8).toArray:=⟨_,rfl⟩
 rw[←hP1]at hA1 hPb
 have HP1:=Lib.hid hP1
 obtain⟨P2,hP2⟩:∃X,X=(aO1.map B8).toArray:=⟨_,rfl⟩
 rw[←hP2]at hA2
 have HP2:=Lib.hid hP2
 clear hru zn hRe hFC hY hP1 hP2
 have kc:=fun(w:World) (C:Array Value) (n c:Nat)=>Lib.run_convert_bytes_const (P:=Tryz.prog) w 22 5 C n c Tryz.underlying22 Tryz.underlying5
 have F:=Fr.refl F0 w
 go_enter Tryz.func6,Tryz.ntmps6
 go_wp2_with fail
 (with_reducible refine(HR.out _ HC.out).mono ?_);rintro e1 w1 ⟨rfl,f⟩
 replace F:=F.trans' f
 clear f
 go_upto_region 2 with fail
 refine uy λW2 N=>?_
 have r1:=N.new
 replace F:=F.trans' N.fr
 clear N
 generalize w1.heap.size=g1 at *
 have hn2:=HN.out W2 (HC.out.fr F λf=>f)
 rw[←HRe.out]at hn2
 replace hn2:=Lib.hid hn2
 go_wp2_with fail
 (with_reducible refine hn2.out.mono ?_);rintro e1 w3 ⟨⟨q,p,bm,qf,sl,rfl,T,rq,lo⟩,f⟩
 have hz2:=F.size
 replace r1:=au f r1
 replace F:=F.trans' f
 clear f hn2
 rw[HRe.out]at T
 have HTT:=Lib.hid (And.intro T rq)
 have HLO:=Lib.hid (show ∀j,TS p bm [qf] (.slice (some ⟨sl,0,none⟩) 1 1) j∨j=q→w.heap.size≤j from by
  rintro j ((h|h|h|h)|h)
  ·omega
  ·omega
  ·rw[List.mem_singleton]at h;omega
  ·cases h;exact Nat.le_trans hz2 lo.2.2.2.1
  ·omega)
 have HUP:=Lib.hid (show ∀j,TS p bm [qf] (.slice (some ⟨sl,0,none⟩) 1 1) j∨j=q→j<w3.heap.size from by
  rintro j (h|h)
  ·exact T.lt rfl j h
  ·rw[h];exact(Array.getElem?_eq_some_iff.1 rq).1)
 clear T rq lo hz2
 go_wp2_with fail
 refine amx λW4 rb4 old4 f4=>?_
 have hb4:=Bs.alb (L := [120]) (n:=1) rb4 rfl (by decide)
 replace r1:=old4 r1
 have HPay:=Lib.hid (LV.out.pay W4 _ 1 hb4)
 rw[←HP1.out,←HP2.out]at HPay
 have hz4:=Lib.hid f4.size
 clear rb4 old4 hb4
 generalize w3.heap.size=g19 at *
 (with_reducible refine HPay.out.mono ?_);rintro e5 w5 ⟨t,rfl,hm,hT,f5⟩
 replace r1:=au f5 r1
 have T5:=Lib.hid (And.intro ((HTT.out.1.fr f4).fr f5) (au f5 (au f4 HTT.out.2)))
 have hz5:=Lib.hid f5.size
 replace F:=(F.trans' f4).trans' f5
 have HM:=Lib.hid (And.intro hm (hT.mono hz4.out))
 clear f4 f5 hm hT HPay
 obtain⟨x0,x3,ia,oa,ni,mo,ic,oc,hTC⟩:=t.ajf
 rw[hTC]
 have HTC:=Lib.hid hTC
 clear hTC
 go_upto_region 4 with fail
 refine lu λW6 N6=>?_
 have r4:=N6.new
 replace r1:=N6.old r1
 have T6:=Lib.hid (And.intro (T5.out.1.fr N6.fr) (au N6.fr T5.out.2))
 have HM6:=Lib.hid (And.intro HM.out.1 (HM.out.2.fr N6.fr λ_ e=>e.elim))
 replace F:=F.trans' N6.fr
 have hz6:=Lib.hid (show g19≤W6.heap.size from by have h1:=hz4.out;have h2:=hz5.out;have h3:=N6.fr.size;omega)
 clear N6 T5 HM
 generalize w5.heap.size=g4 at *
 have ld1:=HLD.out W6 g1 r1
 have hbt:=λW=>aqz W #[.int .u32 x0,.slice ia ni ic,.slice oa mo oc,.int .u32 x3] rfl
 go_wp2_with fail
 refine ru λW7 N7=>?_
 replace r4:=N7.old r4
 replace r1:=N7.old r1
 have tk7:=HM6.out.2.ok.fr N7.fr
 have htx:=Txs.one (t:=t) (g:=W6.heap.size) (by rw[HTC.out];exact N7.new) tk7
 have HBl:=LV.out.blk W7 q p bm qf 0 (.slice (some ⟨sl,0,none⟩) 1 1) (T6.out.1.fr N7.fr) (au N7.fr T6.out.2) t _ 1 htx HM6.out.1 (HC.out.fr (F.trans' N7.fr) λf=>f)
 rw[←HFC.out,←HY.out]at HBl
 replace HBl:=Lib.hid HBl
 have f7:=N7.fr
 have hz7:=Lib.hid f7.size
 have HM7:=Lib.hid (And.intro HM6.out.1 (HM6.out.2.fr N7.fr λ_ e=>e.elim))
 have T7:=Lib.hid (And.intro (T6.out.1.fr N7.fr) (au N7.fr T6.out.2))
 replace F:=F.trans' N7.fr
 have hzW:=Lib.hid (show g19≤W7.heap.size from by have:=hz6.out;have:=N7.fr.size;omega)
 clear N7 htx tk7 hbt ld1 f7 HM6 T6
 generalize W6.heap.size=g29 at *
 (with_reducible refine HBl.out.mono ?_);rintro e8 w8 ⟨b8,d8,rfl,hs8,f8,nb8⟩
 replace r1:=au f8 r1
 replace r4:=au f8 r4
 have HM8:=Lib.hid (And.intro HM7.out.1 (HM7.out.2.fr f8 λ_ e=>e.elim))
 have T8:=Lib.hid (And.intro (T7.out.1.fr f8) (au f8 T7.out.2))
 have hS8:=Lib.hid (And.intro hs8 (λk (hk:ql b8=some k)=>Nat.le_trans hzW.out (nb8 k hk)))
 replace F:=F.trans' f8
 clear f8 hs8 nb8 HBl HM7 T7
 go_upto_region 5 with fail
 refine uy λW9 N9=>?_
 have r5:=N9.new
 replace r1:=N9.old r1
 replace r4:=N9.old r4
 have HM9:=Lib.hid (And.intro HM8.out.1 (HM8.out.2.fr N9.fr λ_ e=>e.elim))
 have T9:=Lib.hid (And.intro (T8.out.1.fr N9.fr) (au N9.fr T8.out.2))
 have hS9:=Lib.hid (And.intro (hS8.out.1.fr N9.fr) hS8.out.2)
 replace F:=F.trans' N9.fr
 clear N9 HM8 T8 hS8
 generalize w8.heap.size=g5 at *
 go_wp2_with fail
 (with_reducible refine(HBy.out _).mono ?_);rintro e1 w10 ⟨a10,c10,rfl,ay7,f⟩
 replace r1:=au f r1
 replace r4:=au f r4
 replace r5:=au f r5
 have HM10:=Lib.hid (And.intro HM9.out.1 (HM9.out.2.fr f λ_ e=>e.elim))
 have T10:=T9.out.1.fr f
 have rq:=au f T9.out.2
 have hS10:=Lib.hid (And.intro (hS9.out.1.fr f) hS9.out.2)
 replace F:=F.trans' f
 have HSS:=Lib.hid (LV.out.sub w10 q p bm qf c10 _ a10 T10 rq ay7 (HC.out.fr F λf=>f) (λh=>by have:=HLO.out 0 (h.imp id λe=>e);have:=hcl.out;omega))
 have nr4:=T10.apart rfl r4 (by decide) (by decide) (by decide)
 have nr5:=T10.apart rfl r5 (by decide) (by decide) (by decide)
 have nq4:=qo r4 rq (by decide)
 have nq5:=qo r5 rq (by decide)
 clear f ay7 T10 rq HM9 T9 hS9 r1
 go_wp2_with fail
 (with_reducible refine HSS.out.mono ?_);rintro e1 w11 ⟨tn,qn,v6,rfl,I6,T6,rq6,f⟩
 replace r4:=f.keeps (λe=>e.elim nr4 nq4) r4
 replace r5:=f.keeps (λe=>e.elim nr5 nq5) r5
 have HM11:=Lib.hid (And.intro HM10.out.1 (HM10.out.2.fr f λk e=>HUP.out k e))
 have hS11:=Lib.hid (hS10.out.1.frx f λk hk e=>by have h1:=hS10.out.2 k hk;have h2:=HUP.out k e;omega)
 replace F:=F.trans f λj hj e=>absurd (HLO.out j e) aPl
 have TT11:=Lib.hid (And.intro I6 (And.intro T6 rq6))
 obtain⟨sTD,oTD⟩:=HTD.out tn
 generalize tdC ab1 1 true tn=TD at *
 clear I6 T6 rq6 f nr4 nr5 nq4 nq5 HSS HM10 hS10
 go_upto_region 6 with fail
 refine uy λW12 N=>?_
 replace r4:=N.old r4
 replace r5:=N.old r5
 have HM12:=Lib.hid (And.intro HM11.out.1 (HM11.out.2.fr N.fr λ_ e=>e.elim))
 have hS12:=Lib.hid (hS11.out.fr N.fr)
 have TT12:=Lib.hid (And.intro TT11.out.1 (And.intro (TT11.out.2.1.fr N.fr) (au N.fr TT11.out.2.2)))
 replace F:=F.trans' N.fr
 clear N sTD oTD HM11 hS11 TT11
 generalize w11.heap.size=g7 at *
 refine lv6B W12 g4 g5 d8 b8 Y (hc ab1) (.int .u32 x0) (.slice ia ni ic) (.slice oa mo oc) (.int .u32 x3) aOz (Lib.hid λW fr=>HH.out W (HC.out.fr (F.trans' fr) λf=>f)) (Lib.hid λW fr=>by
   have:=LV.out.make W t b8 d8 (HM12.out.2.ok.fr fr) HM12.out.1 (hS12.out.fr fr) (HC.out.fr (F.trans' fr) λf=>f)
   rw[HTC.out]at this
   exact this) r4 r5 sY (Lib.hid ?_)
 rename_i w13
 rintro⟨⟨g9,A,rfl,r9,hPP,sA,oA⟩,rfl,f13⟩
 replace r5:=au f13 r5
 have hS13:=Lib.hid (hS12.out.fr f13)
 have TT13:=Lib.hid (And.intro TT12.out.1 (And.intro (TT12.out.2.1.fr f13) (au f13 TT12.out.2.2)))
 replace F:=F.trans' f13
 have HPP:=Lib.hid hPP
 clear f13 hPP HM12 hS12 TT12 r4
 go_wp2_with fail
 refine amx λW14 rb14 aK8 f14=>?_
 have hb14:=Bs.alb (L := [120]) (n:=1) rb14 rfl (by decide)
 replace r5:=aK8 r5
 replace r9:=aK8 r9
 replace F:=F.trans' f14
 have HPS:=Lib.hid (LV.out.pays W14 q p bm (max 0 tn) 1 [qf,qn] v6 A _ TT13.out.1 (TT13.out.2.1.fr f14) (au f14 TT13.out.2.2) (HPP.out.fr f14) hb14 (HC.out.fr F λf=>f))
 have HP14:=Lib.hid (HPP.out.fr f14)
 have hS14:=Lib.hid (hS13.out.fr f14)
 clear rb14 aK8 hb14 TT13 HPP hS13 f14
 generalize w13.heap.size=g52 at *
 (with_reducible refine HPS.out.mono ?_);rintro e15 w15 ⟨y0,y3,ya,yo,yn,ym,yc,yd,rfl,f15⟩
 replace r5:=au f15 r5
 replace r9:=au f15 r9
 replace F:=F.trans' f15
 have HP15:=Lib.hid (HP14.out.fr f15)
 have hS15:=Lib.hid (hS14.out.fr f15)
 clear f15 HP14 hS14 HPS
 go_upto_region 8 with fail
 refine lu λW16 N16=>?_
 replace r5:=N16.old r5
 replace r9:=N16.old r9
 replace F:=F.trans' N16.fr
 have hS16:=Lib.hid (hS15.out.fr N16.fr)
 clear N16 hS15
 obtain⟨a9,c9,b9,d9,hA,_,_⟩:=HP15.out
 have c34:A[34]? = some (.int .u32 1):=by rw[hA];exact ahs am7.bk _ _ _ _
 have c35:A[35]? = some (.slice b9 0 d9):=by rw[hA];exact ac6 am7.bk _ _ _ _
 obtain⟨bo,oo,rfl,hld,_⟩:=hS16.out.load 0 (by decide)
 have HL:=Lib.hid (show ∀W:World,Fr F0 W16 W→(iq 24 (.pointer (some ⟨bo,oo,none⟩))).run Tryz.prog W = .ok (.agg (hc am0)) W from λW fr=>by
  have:=hld W fr
  rw[Nat.zero_mul,Nat.add_zero]at this
  exact this)
 clear hld hA
 refine lv8B W16 g5 g9 bo oo d8 0 d9 b9 A Y (hc am0) true sA c34 c35 sY xR HL heq r9 r5 (Lib.hid ?_)
 rename_i w17
 rintro⟨rfl,f17⟩
 replace F:=F.trans' f17
 clear f17
 go_wp2_with fail
 go_ret
 exact⟨rfl,F⟩
end Go.Proofs.YtjlelckefiannaaGreatDoor
