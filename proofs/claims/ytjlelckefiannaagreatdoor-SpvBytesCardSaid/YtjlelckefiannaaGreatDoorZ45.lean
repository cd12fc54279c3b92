import Derived.Test.YtjlelckefiannaaGreatDoorZ14
import Derived.Test.YtjlelckefiannaaGreatDoorZ22
import Derived.Test.YtjlelckefiannaaGreatDoorZ19
import Derived.Test.YtjlelckefiannaaGreatDoorZ2
import Derived.Test.YtjlelckefiannaaGreatDoorZ21
import Derived.Test.YtjlelckefiannaaGreatDoorZ42
import Derived.Test.YtjlelckefiannaaGreatDoorZ34
import Derived.Test.YtjlelckefiannaaGreatDoorZ44
import Derived.Test.YtjlelckefiannaaGreatDoorZ1
import Derived.Test.YtjlelckefiannaaGreatDoorZ27
set_option maxRecDepth 100000
set_option maxHeartbeats 64000000
namespace Go.Proofs.YtjlelckefiannaaGreatDoor
set_option linter.unusedVariables false
set_option linter.unusedSimpArgs false
open Go.RowKit
theorem TT.shape9(t:TT):∃(x0 x3:Int) (ia oa:Option Addr) (n m ic oc:Nat),t.cells=#[.int .u32 x0,.slice ia n ic,.slice oa m oc,.int .u32 x3]∧n=t.ins.length∧m=t.outs.length∧ia=t.ia∧oa=t.oa∧ic=t.ic∧oc=t.oc :=
 ⟨_,_,_,_,_,_,_,_,rfl,rfl,rfl,rfl,rfl,rfl,rfl⟩
def MT.hsh(t:MT):List UInt8:=if t.err=0 then uj t.bytes else wu
theorem MT.ah5(t:MT):t.hsh.length=32:=by
 unfold MT.hsh
 split
 ·simp[uj,tu]
 ·rfl
theorem MT.out_ok{t:MT}(h:t.err=0):t.out=t.bytes:=by rw[MT.out,if_pos h]
theorem aBv(t:TT)(w:World)(h:t.Ok w)(zn:Cub w)(hl:t.m.out.length≤140737488355000):
  Calls Tryz.prog 33 #[.agg t.cells] w λe w'=>e = .returned (.tuple #[.agg (t.m.hsh.map B8).toArray,.int .i64 t.m.err])∧Fr F0 w w':=by
 have HB:=Lib.hid (λw' (f:Fr F0 w w')=>al9 t w' (h.fr f))
 have HC:=Lib.hid zn
 have HL:=Lib.hid hl
 obtain⟨x0,x3,ia,oa,n1,m1,ic,oc,hC,hrest⟩:=t.shape9
 clear hrest
 rw[hC]at HB ⊢
 have hz1:(t.m.hsh.map B8).toArray.size=32:=by simp[MT.ah5]
 obtain⟨E,hE⟩:∃E,E=t.m.err:=⟨_,rfl⟩
 obtain⟨H,hH⟩:∃H,H=t.m.hsh:=⟨_,rfl⟩
 rw[←hH]at hz1 ⊢
 replace hH:=Lib.hid hH
 unfold agz at HB
 rw[←hE]at HB ⊢
 replace hE:=Lib.hid hE
 clear hC zn h hl
 go_enter Tryz.func33,Tryz.ntmps33
 go_upto_region 1 with fail
 refine lu λW1 N1=>?_
 obtain⟨cs,r1,hz⟩:∃cs,W1.heap[(w.alloc (.cells #[.int .u32 x0,.slice ia n1 ic,.slice oa m1 oc,.int .u32 x3] 59)).heap.size]? = some (.cells cs 24 (0,0))∧cs.size=32:=⟨_,N1.new,rfl⟩
 have r0:=N1.old (heap_alloc_new w (.cells #[.int .u32 x0,.slice ia n1 ic,.slice oa m1 oc,.int .u32 x3] 59))
 have F:=((Fr.refl F0 w).alloc (.cells #[.int .u32 x0,.slice ia n1 ic,.slice oa m1 oc,.int .u32 x3] 59)).trans' N1.fr
 rw[World.size_alloc]at r1
 clear N1
 have gl:=Lib.hid (show w.heap.size≤w.heap.size+1 by omega)
 obtain⟨g1,hg1⟩:∃g,g=w.heap.size+1:=⟨_,rfl⟩
 obtain⟨g0,hg0⟩:∃g,g=w.heap.size:=⟨_,rfl⟩
 rw[←hg1]at r1 ⊢
 rw[←hg0]at r0 ⊢
 replace hg1:=Lib.hid hg1
 clear hg0 gl
 go_wp2_with fail
 (with_reducible refine(HB.out _ F).mono ?_);rintro e w3 ⟨a,k,c,rfl,hk,hb,f3,_⟩
 have HK:=Lib.hid hk
 have HBb:=Lib.hid hb
 have F3:=F.trans' f3
 replace r1:=au f3 r1
 clear HB hk hb F f3 r0
 by_cases h0:E=0
 ·subst h0
  have hb1:H=uj t.m.bytes:=by rw[hH.out,MT.hsh,if_pos hE.out.symm]
  have hb2:=MT.out_ok hE.out.symm
  have HD:=Lib.hid (adl a k c t.m.out HK.out HL.out w3 HBb.out (HC.out.fr F3 λf=>f))
  rw[hb2,←hb1]at HD
  clear hb1 hb2
  go_wp2_with fail
  (with_reducible refine HD.out.mono ?_);rintro e w4 ⟨rfl,f4⟩
  replace r1:=au f4 r1
  replace F3:=F3.trans' f4
  clear HD f4
  go_wp2_with (refine wpList_store_row rfl 24 (.tmp 2) (.tmp 16) rfl g1 _ rfl rfl 24 _ r1 (by rw[Tryz.sz32,hz1]) (by rw[hz,hz1]) (abd _) ?_)
  refine bodyPost_ret (cu rfl _ _ g1 _ _ _ _ rfl (setRow_heap _ _ _ _ _ _ r1) Tryz.underlying24 rfl (by rw[Tryz.sz32];exact congrArg some hz1.symm)) rfl ⟨rfl,?_⟩
  exact F3.setRow (λh=>by have:=hg1.out;omega) _
 ·obtain rfl:H=wu:=by rw[hH.out,MT.hsh,if_neg (λe=>h0 (hE.out.trans e))]
  have lE:((E:Int)==0)=false:=beq_false_of_ne h0
  go_wp2_with (refine wpList_store_row rfl 24 (.tmp 2) (.tmp 13) rfl g1 (wu.map B8).toArray rfl rfl 24 _ r1 (by rw[Tryz.sz32,hz1]) (by rw[hz,hz1]) (abd _) ?_)
  refine bodyPost_ret (cu rfl _ _ g1 _ _ _ _ rfl (setRow_heap _ _ _ _ _ _ r1) Tryz.underlying24 rfl (by rw[Tryz.sz32];exact congrArg some hz1.symm)) rfl ⟨rfl,?_⟩
  exact F3.setRow (λh=>by have:=hg1.out;omega) _
def ckM(root h:List UInt8)(i n:Nat)(wy:List (List UInt8)):Bool:=decide (i<n∧n≤65536∧zo wy h i n=some root)
theorem axx(root h:List UInt8)(i n:Nat)(wy:List (List UInt8))(b:Option Addr)(m d:Nat)(w:World)(hr:root.length=32)(hs:Hs w b d wy)(hm:m=wy.length)(hl:h.length=32)(hmm:m≤1000000)(zn:Cub w):
  Calls Tryz.prog 27 #[.agg (hc root),.agg (hc h),.int .i64 (i:Int),.int .i64 (n:Int),.slice b m d] w λe w'=>e = .returned (.bool (ckM root h i n wy))∧Fr F0 w w':=by
 by_cases hin:i<n∧n≤65536
 ·have:=aCm root h i n wy b m d w hr hs hm hl hin.1 hin.2 hmm zn
  have e:ckM root h i n wy=decide (zo wy h i n=some root):=by
   unfold ckM
   rw[Bool.eq_iff_iff,decide_eq_true_iff,decide_eq_true_iff]
   exact⟨λh=>h.2.2,λh=>⟨hin.1,hin.2,h⟩⟩
  rw[e]
  exact this
 ·have:=apu root h z32 (i:Int) (n:Int) 1 b m d w hr hl yg (λW f=>axv h i n b m d W hl (λh=>hin ⟨by omega,by omega⟩))
  have e:ckM root h i n wy=false:=decide_eq_false λh=>hin ⟨h.1,h.2.1⟩
  rw[e]
  refine this.mono ?_
  rintro e w' ⟨rfl,f⟩
  exact⟨by simp,f⟩
structure Txs (w:World) (a:Option Addr) (c:Nat) (l:List TT):Prop where
 sl:Sl w 4 a c l.length (l.flatMap λt=>t.cells.toList)
 ok:∀t∈l,t.Ok w
theorem Txs.fr{w w':World}{a:Option Addr}{c:Nat}{l:List TT}(h:Txs w a c l)(f:Fr F0 w w'):Txs w' a c l:=⟨Sl.fr h.sl f λ_ _ f=>f,λt ht=>(h.ok t ht).fr f⟩
theorem aob:∀(l:List TT) (k:Nat) (hk:k<l.length) (j:Nat),j<4→(l.flatMap λt=>t.cells.toList)[k*4+j]? = l[k].cells.toList[j]?
 |[],k,hk,_,_=>absurd hk (by simp)
 |x::l,0,_,j,hj=>by
  rw[List.flatMap_cons,Nat.zero_mul,Nat.zero_add,List.getElem?_append_left (by simp[TT.cells];omega)]
  rfl
 |x::l,k+1,hk,j,hj=>by
  have e:x.cells.toList.length=4:=rfl
  rw[List.flatMap_cons,List.getElem?_append_right (by rw[e];omega),e,show(k+1)*4+j-4=k*4+j by omega,aob l k (by simpa using hk) j hj]
  rfl
theorem Txs.get{w:World}{a:Option Addr}{c:Nat}{l:List TT}(h:Txs w a c l)(k:Nat)(hk:k<l.length):
  ∃b off,a=some ⟨b,off,none⟩∧∀j u,l[k].cells.toList[j]? = some u→w.cell? ⟨b,off+k*4+j,none⟩=some u:=by
 obtain⟨b,off,e,_⟩:=h.sl.cell (k*4+0) _ ((aob l k hk 0 aPl).trans rfl)
 refine⟨b,off,e,λj u hj=>?_⟩
 have hj':j<4:=(List.getElem?_eq_some_iff.1 hj).1
 obtain⟨b',off',e',hc⟩:=h.sl.cell (k*4+j) u ((aob l k hk j hj').trans hj)
 rw[e]at e'
 cases e'
 rw[Nat.add_assoc]
 exact hc
theorem Txs.one{w:World}{g:Nat}{t:TT}(h:w.heap[g]? = some (.cells t.cells 59 (0,0)))(ht:t.Ok w):Txs w (some ⟨g,0,none⟩) 1 [t]:=by
 refine⟨⟨rfl,Nat.le_refl _,by unfold maxLen;decide,(λe=>by cases e),λj u hj=>⟨_,_,rfl,?_⟩⟩,λx hx=>by rw[List.mem_singleton]at hx;rw[hx];exact ht⟩
 rw[jq,h,mg,Nat.zero_add]
 simpa using hj
theorem MT.aMb(t:MT):t.out.length≤4096:=by
 unfold MT.out
 split
 ·rename_i h
  unfold MT.err at h
  by_cases h1:t.few=true
  ·rw[if_pos h1]at h;cases h
  ·rw[if_neg h1]at h
   by_cases h2:t.long=true
   ·rw[if_pos h2]at h;cases h
   ·rw[if_neg h2]at h
    by_cases h3:szT t.bytes.length=false
    ·rw[if_pos h3]at h;cases h
    ·rw[Bool.not_eq_false]at h3
     unfold szT at h3
     rw[decide_eq_true_iff]at h3
     exact h3.1
 ·simp
def ace(l:List TT):List (List UInt8):=(l.filter λt=>decide (t.m.err=0)).map λt=>t.m.hsh
theorem aCy(l:List TT)(k:Nat)(hk:k<l.length):ace (l.take (k+1))=if l[k].m.err=0 then ace (l.take k) ++ [l[k].m.hsh]else ace (l.take k):=by
 rw[List.take_succ_eq_append_getElem hk,ace,ace,List.filter_append,List.map_append]
 by_cases h:l[k].m.err=0
 ·simp[h]
 ·simp[h]
theorem avr(l:List TT):(ace l).length≤l.length:=by
 rw[ace,List.length_map]
 exact List.length_filter_le _ _
def bl0(ah:Hd)(b:Nat)(root:List UInt8):Hd := { ver:=3,ahead:=uj ah.bytes,root:=root,time:=(ah.time+60) % 4294967296,bits:=b,zq:=0 }
def blH(ah:Hd)(b:Nat)(root:List UInt8):Hd:=if agw (bl0 ah b root) 4000 then acf (bl0 ah b root) 4000 else bl0 ah b root
theorem ao6(ah:Hd){b:Nat}(hb:b<4294967296){root:List UInt8}(hr:root.length=32):(bl0 ah b root).Ok:=⟨(show(3:Nat)<4294967296 by decide),by simp[bl0,uj,tu],hr,Nat.mod_lt _ (by decide),hb,(show(0:Nat)<4294967296 by decide)⟩
theorem aSc(ah:Hd){b:Nat}(hb:b<4294967296){root:List UInt8}(hr:root.length=32):(blH ah b root).Ok:=by
 unfold blH
 split
 ·exact avk (ao6 ah hb hr) 4000
 ·exact ao6 ah hb hr
theorem aHs(A:List UInt8)(hA:A.length=32)(T:Int):Tryz.prog.built 47 [(0,.int .u32 3),(1,.agg (A.map B8).toArray),(3,.int .u32 T)]=some (Value.int .u32 3::(A.map B8++(z32.map B8 ++ [.int .u32 T,.int .u32 0,.int .u32 0]))).toArray:=by
 obtain⟨x0,x1,x2,x3,x4,x5,x6,x7,x8,x9,x10,x11,x12,x13,x14,x15,x16,x17,x18,x19,x20,x21,x22,x23,x24,x25,x26,x27,x28,x29,x30,x31,rfl⟩:=af5 A hA
 kernel_rfl
theorem bl9{s0 s1 s2 s3 s5 s6 s7 s8 s9 s10 s11 s12 s13 s14 s15 s16 s17 s18 s19 s20 s21 s22 s23 s24 s25 s26 s27 s28 s29 s30 s31 s32 s33 s34 s35 s36 s37 s38 s39 s40 s41 s42 s43 s44 s45 s46 s47 s48 s49 s50 s51 s52 s53 s54 s55 s56 s57 s58 s59 s60 s61 s62 s63:Value}{K:Act→World→Prop}{Q:Exit→Act→World→Prop}(w:World)(g4 T T2:Nat)(C HL H0:Array Value)(H1:RowKit.Hid (∀W:World,Fr F0 w W→Calls Tryz.prog 19 #[.agg C] W λe w'=>e = .returned (.agg HL)∧Fr F0 W w'))(hT:IntKind.u32.wrap ((T:Int)+60)=(T2:Int))(zC:C.size=68)(oC:jh C)(c65:C[65]? = some (.int .u32 (T:Int)))(hbd:∀w,(aga #[(0,.int .u32 3),(1,.agg HL),(3,.int .u32 (T2:Int))]).run Tryz.prog w = .ok (.agg H0) w)(zH:H0.size=68)(o0:jh H0)(hz:Tryz.zeroCells47.size=68)(r4:w.heap[g4]? = some (.cells C 47 (0,0)))
  (hK:RowKit.Hid (∀{u13 u34 u35 u36 u37 u38 u39:Value} {w':World},((∃g:Nat,u13 = .pointer (some ⟨g,0,none⟩)∧w'.heap[g]? = some (.cells H0 47 (0,0))∧w.heap.size≤g)∧Fr F0 w w')→K ⟨#[s0,s1,s2,s3,.pointer (some ⟨g4,0,none⟩),s5,s6,s7,s8,s9,s10,s11,s12,u13,s14,s15,s16,s17,s18,s19,s20,s21,s22,s23,s24,s25,s26,s27,s28,s29,s30,s31,s32,s33,u34,u35,u36,u37,u38,u39,s40,s41,s42,s43,s44,s45,s46,s47,s48,s49,s50,s51,s52,s53,s54,s55,s56,s57,s58,s59,s60,s61,s62,s63],[]⟩ w')) :
  Code.wp Tryz.prog ((Tryz.f15.body.bind (jw 9)).getD .skip) (Exit.then K Q) ⟨#[s0,s1,s2,s3,.pointer (some ⟨g4,0,none⟩),s5,s6,s7,s8,s9,s10,s11,s12,s13,s14,s15,s16,s17,s18,s19,s20,s21,s22,s23,s24,s25,s26,s27,s28,s29,s30,s31,s32,s33,s34,s35,s36,s37,s38,s39,s40,s41,s42,s43,s44,s45,s46,s47,s48,s49,s50,s51,s52,s53,s54,s55,s56,s57,s58,s59,s60,s61,s62,s63],[]⟩ w:=by
 conv=>arg 2;whnf
 have F9:=Fr.refl F0 w
 have z5:=Nat.le_refl w.heap.size
 have z4:=Lib.hid (Array.getElem?_eq_some_iff.1 r4).1
 have z65:65<C.size:=by omega
 have d65:=jd c65 z65
 refine jm (S:=(λw'=>w'.heap[g4]? = some (.cells C 47 (0,0))∧Fr F0 w w')) ?_ λak=>?_
 ·exact(by((try dsimp only)<;>(exact⟨ku r4,F9.drew⟩)))
 refine aj 0 ?_
 refine aj 2 ?_
 refine aj 3 ?_
 refine aj 4 ?_
 refine rdy [1,6] ?_
 refine rco (λK hK=>?_) (rco (λK hK=>?_) AllReadyH.nil)
 go_simp
 ((with_reducible refine(H1.out _ ak.2).mono ?_);rintro e w5 ⟨rfl,f5⟩;have z5:=(ak.2.trans' f5).size;(try simp only[World.size_alloc,dh]at z5))
 refine rpu hK aPr λak=>?_
 clear hK K
 refine aj 5 ?_
 refine jf 6 λK hK=>?_
 go_simp
 refine rpu hK zz11 λak=>?_
 clear hK K
 refine jf 7 λK hK=>?_
 go_simp
 (try(rw[je (old:=Tryz.zeroCells47) (t':=47) (by((try rw[←Array.getElem?_eq_getElem]);repeat(first|rfl|exact heap_alloc_new _ _|refine bg ?_|refine au (by assumption) ?_))) hz zH o0];go_simp))
 refine rpu hK zz11 λak=>?_
 clear hK K
 refine jg ?_
 rotate_left
 go_simp
 refine rpu hK zz11 λak=>?_
 clear hK K
 refine jf 1 λK hK=>?_
 go_simp
 ((with_reducible refine(H1.out _ ak.2).mono ?_);rintro e w5 ⟨rfl,f5⟩;have z5:=(ak.2.trans' f5).size;(try simp only[World.size_alloc,dh]at z5))
 refine rpu hK aPr λak=>?_
 clear hK K
 refine aj 5 ?_
 refine jf 7 λK hK=>?_
 go_simp
 (try(rw[je (old:=Tryz.zeroCells47) (t':=47) (by((try rw[←Array.getElem?_eq_getElem]);repeat(first|rfl|exact heap_alloc_new _ _|refine bg ?_|refine au (by assumption) ?_))) hz zH o0];go_simp))
 refine rpu hK zz11 λak=>?_
 clear hK K
 refine jg ?_
 rotate_left
 all_goals
  refine hK.out ⟨⟨_,rfl,?_,by(try simp only[World.size_alloc,dh]at z5 ⊢);omega⟩,ak.2⟩
  refine(qp (z:=Tryz.zeroCells47) (t:=47) (f:=(0,0)) ?_)
  repeat(first|exact heap_alloc_new _ _|refine bg ?_|refine au (by assumption) ?_)
theorem bl11{s1 s2 s3 s4 s5 s6 s7 s8 s9 s10 s11 s12 s14 s15 s16 s17 s18 s19 s20 s21 s22 s23 s24 s25 s26 s27 s28 s29 s30 s31 s32 s33 s34 s35 s36 s37 s38 s39 s40 s41 s42 s43 s44 s45 s46 s47 s48 s49 s50 s51 s52 s53 s54 s55 s56 s57 s58 s59 s60 s61 s62 s63:Value}{K:Act→World→Prop}{Q:Exit→Act→World→Prop}(w:World)(q p g13 b:Nat)(er:Int)(C X:Array Value)(x1:C.extract 1 33=X)(b0:Int)(H1:RowKit.Hid (∀W:World,Fr F0 w W→Calls Tryz.prog 24 #[.pointer (some ⟨q,0,none⟩)] W λe w'=>e = .returned (.pointer (some ⟨p,0,none⟩))∧Fr F0 W w'))(H2:RowKit.Hid (∀W:World,Fr F0 w W→Calls Tryz.prog 54 #[.pointer (some ⟨p,0,none⟩),.agg X] W λe w'=>e = .returned (.tuple #[.int .u32 (b:Int),.int .i64 er])∧Fr F0 W w'))(zC:C.size=68)(c66:C[66]? = some (.int .u32 b0))(r13:w.heap[g13]? = some (.cells C 47 (0,0)))
  (hK:RowKit.Hid (∀{u46 u47 u48 u49 u50 u51 u52 u53 u54:Value} {w':World},(w'.heap[g13]? = some (.cells (C.setIfInBounds 66 (.int .u32 (b:Int))) 47 (0,0))∧Fr (λk=>k=g13) w w')→K ⟨#[.pointer (some ⟨q,0,none⟩),s1,s2,s3,s4,s5,s6,s7,s8,s9,s10,s11,s12,.pointer (some ⟨g13,0,none⟩),s14,s15,s16,s17,s18,s19,s20,s21,s22,s23,s24,s25,s26,s27,s28,s29,s30,s31,s32,s33,s34,s35,s36,s37,s38,s39,s40,s41,s42,s43,s44,s45,u46,u47,u48,u49,u50,u51,u52,u53,u54,s55,s56,s57,s58,s59,s60,s61,s62,s63],[]⟩ w')) :
  Code.wp Tryz.prog ((Tryz.f15.body.bind (jw 11)).getD .skip) (Exit.then K Q) ⟨#[.pointer (some ⟨q,0,none⟩),s1,s2,s3,s4,s5,s6,s7,s8,s9,s10,s11,s12,.pointer (some ⟨g13,0,none⟩),s14,s15,s16,s17,s18,s19,s20,s21,s22,s23,s24,s25,s26,s27,s28,s29,s30,s31,s32,s33,s34,s35,s36,s37,s38,s39,s40,s41,s42,s43,s44,s45,s46,s47,s48,s49,s50,s51,s52,s53,s54,s55,s56,s57,s58,s59,s60,s61,s62,s63],[]⟩ w:=by
 conv=>arg 2;whnf
 have F9:=Fr.refl F0 w
 have z66:66<C.size:=by omega
 have d66:=jd c66 z66
 have r13d:=ku r13
 have F9d:=F9.drew
 refine jm (S:=(λw'=>True)) ?_ λak=>?_
 ·exact ark
 refine aj 0 ?_
 refine aj 2 ?_
 refine rdy [1,3] ?_
 refine rco (λK hK=>?_) (rco (λK hK=>?_) AllReadyH.nil)
 go_simp
 ((with_reducible refine(H1.out _ F9d).mono ?_);rintro e w5 ⟨rfl,f5⟩;have q5:=au f5 r13d;have F5:=F9d.trans' f5)
 refine rpu hK ark λak=>?_
 clear hK K
 refine jf 3 λK hK=>?_
 go_simp
 refine rpu hK ark λak=>?_
 clear hK K
 refine jf 4 λK hK=>?_
 go_simp
 ((with_reducible refine(H2.out _ F5).mono ?_);rintro e w6 ⟨rfl,f6⟩;have q6:=au f6 q5;have F6:=F5.trans' f6)
 refine rpu hK ark λak=>?_
 clear hK K
 refine aj 5 ?_
 refine aj 6 ?_
 refine aj 7 ?_
 refine aj 8 ?_
 refine jf 9 λK hK=>?_
 go_simp
 refine rpu hK ark λak=>?_
 clear hK K
 refine jg ?_
 rotate_left
 go_simp
 refine rpu hK ark λak=>?_
 clear hK K
 refine jf 1 λK hK=>?_
 go_simp
 ((with_reducible refine(H1.out _ F9d).mono ?_);rintro e w5 ⟨rfl,f5⟩;have q5:=au f5 r13d;have F5:=F9d.trans' f5)
 refine rpu hK ark λak=>?_
 clear hK K
 refine jf 4 λK hK=>?_
 go_simp
 ((with_reducible refine(H2.out _ F5).mono ?_);rintro e w6 ⟨rfl,f6⟩;have q6:=au f6 q5;have F6:=F5.trans' f6)
 refine rpu hK ark λak=>?_
 clear hK K
 refine aj 5 ?_
 refine aj 6 ?_
 refine aj 7 ?_
 refine aj 8 ?_
 refine jf 9 λK hK=>?_
 go_simp
 refine rpu hK ark λak=>?_
 clear hK K
 refine jg ?_
 rotate_left
 all_goals
  exact hK.out ⟨by rw[gq,q6];rfl,(Fr.of0 (T:=λk=>k=g13) F6).setCell (p:=⟨g13,66,none⟩) (λ_=>rfl) _⟩
theorem at1{w:World}{q p kk dd:Nat}{R:Array Value}{bm:Nat}{H:List Hd}{L:List Bk}{ps:List Nat}{v:Value}{e s:Nat}(ri:RI R e s als)(I:TI H L ps)(aox:∀i,i<L.length→btP (bkT L i).bits)(T:TM w p R bm H L ps v (chn L))(rq:w.heap[q]? = some (.cells (ryC p kk dd) 118 (0,0)))
  (ah:Hd) (oah:ah.Ok) (l:List TT) (a:Option Addr) (c:Nat) (ht:Txs w a c l) (hids:0<(ace l).length) (hl:l.length≤1000) (zn:Cub w) :
  Calls Tryz.prog 15 #[.pointer (some ⟨q,0,none⟩),.agg ah.cells,.slice a l.length c] w λed w'=>∃b d,ed = .returned (.tuple #[.agg (blH ah (aJg L e s als (uj ah.bytes)) (aan (ace l))).cells,.slice b (ace l).length d])∧Hs w' b d (ace l)∧Fr F0 w w'∧∀k,ql b=some k→w.heap.size≤k:=by
 have HT:=Lib.hid (λW (fr:Fr F0 w W)=>show Calls Tryz.prog 24 #[.pointer (some ⟨q,0,none⟩)] W λe w'=>e = .returned (.pointer (some ⟨p,0,none⟩))∧Fr F0 W w' from
  (aj3 (au fr rq)).mono (by rintro e w' ⟨rfl,rfl⟩;exact⟨rfl,Fr.refl _ _⟩))
 have l32:(uj ah.bytes).length=32:=by simp[uj,tu]
 have HK:=Lib.hid (λW (fr:Fr F0 w W)=>aCr aJe aQj aJp ri I (T.fr fr) aox (uj ah.bytes) l32)
 have HHs:=Lib.hid (λW (fr:Fr F0 w W)=>show Calls Tryz.prog 19 #[.agg ah.cells] W λe w'=>e = .returned (.agg (hc (uj ah.bytes)))∧Fr F0 W w' from aji ah oah W (zn.fr fr λf=>f))
 have hbl:aJg L e s als (uj ah.bytes)<4294967296:=aNk I.wf _
 obtain⟨bb,hbb⟩:∃b,b=aJg L e s als (uj ah.bytes):=⟨_,rfl⟩
 rw[←hbb]at HK hbl ⊢
 obtain⟨bz,hbz⟩:∃b,b=bitZ L (uj ah.bytes):=⟨_,rfl⟩
 rw[←hbz]at HK
 have HTx:=Lib.hid ht
 have HCu:=Lib.hid zn
 have D:=Hd.of oah
 have zC:=D.size
 have c65:=D.c65
 have oC:jh ah.cells:=Hd.one
 obtain⟨C,hC⟩:∃C,C=ah.cells:=⟨_,rfl⟩
 rw[←hC]at zC c65 oC HHs ⊢
 have hw60:IntKind.u32.wrap ((ah.time:Int)+60)=(((ah.time+60) % 4294967296:Nat):Int):=by rw[IntKind.wrap_u32];omega
 have hr32:(aan (ace l)).length=32:=by
  refine ae5 (ace l) (λh hh=>?_) hids
  simp only[ace,List.mem_map]at hh
  obtain⟨t,_,rfl⟩:=hh
  exact t.m.ah5
 obtain⟨n,hn⟩:∃n,n=l.length:=⟨_,rfl⟩
 rw[←hn]
 have hn1:n≤1000:=by omega
 have HN:=Lib.hid hn
 have HID:=Lib.hid hids
 have HB:=Lib.hid (And.intro hbl (And.intro hr32 l32))
 have r4:=heap_alloc_new w (.cells C 47)
 clear D hC hn hids hl zn ht aox I ri T rq hbb hbz oah hbl hr32
 go_enter Tryz.func15,Tryz.ntmps15
 go_upto_region 1 with fail
 refine lu λW1 N1=>?_
 have r6:=N1.new
 replace r4:=N1.old r4
 have F:=((Fr.refl F0 w).alloc (.cells C 47)).trans' N1.fr
 rw[World.size_alloc]at r6
 try rw[World.size_alloc]
 clear N1
 obtain⟨g6,hg6⟩:∃g,g=w.heap.size+1:=⟨_,rfl⟩
 obtain⟨g4,hg4⟩:∃g,g=w.heap.size:=⟨_,rfl⟩
 rw[←hg6]at r6
 rw[←hg4]at r4
 try rw[←hg6]
 try rw[←hg4]
 obtain⟨Z,hZ,r6'⟩:∃Z:Array Value,Z.size=68∧W1.heap[g6]? = some (.cells Z 47 (0,0)):=⟨_,aur,r6⟩
 have B5:=Lib.hid (show w.heap.size≤W1.heap.size∧g4<W1.heap.size∧g6<W1.heap.size∧w.heap.size≤g6∧g4≠g6 from⟨F.size,(Array.getElem?_eq_some_iff.1 r4).1,(Array.getElem?_eq_some_iff.1 r6).1,by omega,by omega⟩)
 replace r6:=r6'
 clear r6' hg6 hg4
 replace F:=Lib.hid F
 go_wp2_with fail
 go_loopw [8,18] (λov kv wr=>∃(k:Nat) (iv:Value),k≤n∧kv = .int .i64 (k:Int)∧ov=iv∧(wr.heap[g4]? = some (.cells C 47 (0,0))∧wr.heap[g6]? = some (.cells Z 47 (0,0)))∧Hid (abh 24 W1.heap.size wr iv (ace (l.take k)))∧Hid (Fr F0 w wr)∧Hid (W1.heap.size≤wr.heap.size)) (λ_ kv _=>n-(intOf kv).toNat)
 case atStart=>exact⟨0,_,Nat.zero_le _,rfl,rfl,⟨r4,r6⟩,abh.nil _ _ _,F.out,Nat.le_refl _⟩
 case round =>
  clear r4 r6
  obtain⟨k,iv,hk,rfl,rfl,⟨r4,r6⟩,HO,hF,hz⟩:=hrel
  by_cases hkn:k<n
  ·have hkl:k<l.length:=by have:=HN.out;omega
   have hil:(k:Int)<(n:Int):=by omega
   obtain⟨b,off,rfl,hcell⟩:=(HTx.out.fr hF.out).get k hkl
   have htk:=HTx.out.ok _ (List.getElem_mem hkl)
   have HH:=Lib.hid (λW (fr:Fr F0 w W)=>aBv l[k] W (htk.fr fr) (HCu.out.fr fr λf=>f) (by have:=l[k].m.aMb;omega))
   have HS:=Lib.hid (aCy l k hkl)
   have h32:=l[k].m.ah5
   obtain⟨t,htt⟩:∃t,t=l[k]:=⟨_,rfl⟩
   rw[←htt]at HH HS h32 hcell
   obtain⟨x0,x3,ia,oa,ni,mo,ic,oc,hTC⟩:=t.ajf
   rw[hTC]at HH hcell
   have q0:=hcell 0 _ rfl
   have q1:=hcell 1 _ rfl
   have q2:=hcell 2 _ rfl
   have q3:=hcell 3 _ rfl
   rw[jq,Nat.add_zero]at q0
   rw[jq]at q1 q2 q3
   clear hcell hTC htt htk
   obtain⟨av,cv,e9,_⟩:=HO.out.is
   subst e9
   go_upto_region 5 with fail
   refine lu λW4 N4=>?_
   have r10:=N4.new
   replace r4:=N4.old r4
   replace r6:=N4.old r6
   have F4:=Lib.hid (hF.out.trans' N4.fr)
   have O4:=Lib.hid (HO.out.fr0 N4.fr)
   have z4:=Lib.hid (Nat.le_trans hz.out N4.fr.size)
   clear N4 q0 q1 q2 q3 HO hF hz
   generalize wr.heap.size=g10 at *
   have HH4:=Lib.hid (HH.out W4 F4.out)
   have hE:t.m.err=0∨t.m.err≠0:=Decidable.em _
   obtain⟨E,hEe⟩:∃E,E=t.m.err:=⟨_,rfl⟩
   obtain⟨hs,hhs⟩:∃h,h=t.m.hsh:=⟨_,rfl⟩
   rw[←hEe]at HH4 HS hE
   rw[←hhs]at HH4 HS h32
   have sX:=jl h32
   have oX:=qg hs
   replace HH4:Hid (Calls Tryz.prog 33 #[.agg #[.int .u32 x0,.slice ia ni ic,.slice oa mo oc,.int .u32 x3]] W4 λe w'=>e = .returned (.tuple #[.agg (hc hs),.int .i64 E])∧Fr F0 W4 w'):=HH4
   obtain⟨X,hX⟩:∃X,X=hc hs:=⟨_,rfl⟩
   rw[←hX]at HH4 sX oX
   have HX:=Lib.hid hX
   have H32:=Lib.hid h32
   clear hEe hhs hX HH h32
   go_wp2_with fail
   (with_reducible refine HH4.out.mono ?_);rintro e w5 ⟨rfl,f5⟩
   replace r4:=au f5 r4
   replace r6:=au f5 r6
   have F5:=Lib.hid (F4.out.trans' f5)
   have O5:=Lib.hid (O4.out.fr0 f5)
   have z5:=Lib.hid (Nat.le_trans z4.out f5.size)
   clear f5 HH4 F4 O4 z4 r10
   go_upto_region 6 with fail
   refine uy λW6 N6=>?_
   have r11:=N6.new
   replace r4:=N6.old r4
   replace r6:=N6.old r6
   have F6:=Lib.hid (F5.out.trans' N6.fr)
   have O6:=Lib.hid (O5.out.fr0 N6.fr)
   have z6:=Lib.hid (Nat.le_trans z5.out N6.fr.size)
   clear N6 F5 O5 z5
   generalize w5.heap.size=g11 at *
   have hlen:=avr (l.take k)
   rw[List.length_take]at hlen
   have hlen':=Lib.hid (show(ace (l.take k)).length≤1000 by omega)
   clear hlen
   rcases hE with hE|hE
   ·have l1:(E==0)=true:=by rw[hE];rfl
    rw[if_pos hE]at HS
    have O6':=O6.out
    have ars:=aa3 W6 X sX
    have happ:=λty=>O6'.appH hs H32.out z6.out (by have:=hlen'.out;omega) ty
    obtain⟨a7,c7,w7,happ,O7,f7,s7,n7⟩:=happ 26
    rw[←HX.out]at happ
    rw[←HS.out]at O7
    have r47:=f7.keeps (λe=>by have h1:=O6'.blk g4 e;have h2:=B5.out;omega) r4
    have r67:=f7.keeps (λe=>by have h1:=O6'.blk g6 e;have h2:=B5.out;omega) r6
    have F7:=Lib.hid (F6.out.trans f7 λi hi e=>by have h1:=O6'.blk i e;have h2:=B5.out;omega)
    have z7:=Lib.hid (show W1.heap.size≤w7.heap.size by have:=z6.out;omega)
    have O7':=Lib.hid O7
    obtain⟨n9,hn9⟩:∃n,n=(ace (l.take k)).length:=⟨_,rfl⟩
    rw[←hn9]at happ O7' ⊢
    have r11a:(W6.alloc (.cells X 24)).heap[g11]? = _:=bg r11
    clear O6' O6 f7 s7 n7 hE O7 HS hn9
    go_wp2_with fail
    go_roundw
    case rel=>exact⟨k+1,_,by omega,by go_num,rfl,⟨r47,r67⟩,O7'.out,F7.out,z7.out⟩
    case measure=>simp[intOf];omega
   ·have l1:(E==0)=false:=beq_false_of_ne hE
    rw[if_neg hE]at HS
    have O6':=Lib.hid (show abh 24 W1.heap.size W6 (.slice av (ace (l.take k)).length cv) (ace (l.take (k+1)))from by rw[HS.out];exact O6.out)
    clear HS hE O6
    go_wp2_with fail
    go_roundw
    case rel=>exact⟨k+1,_,by omega,by go_num,rfl,⟨r4,r6⟩,O6'.out,F6.out,z6.out⟩
    case measure=>simp[intOf];omega
  ·obtain rfl:k=n:=by omega
   have HO2:=HO.out
   rw[HN.out,List.take_length]at HO2
   obtain⟨b2,d2,rfl,hH⟩:=HO2.is
   have hnb:=Lib.hid (λk hk=>Nat.le_trans B5.out.1 (HO2.blk k ak9))
   have hnW:=Lib.hid (λk (hk:ql b2=some k)=>HO2.blk k ak9)
   have hnl:=Lib.hid (show ∀k,ql b2=some k→k<wr.heap.size from λk hk=>HO2.lt k ak9)
   have hH0:=Lib.hid hH
   replace hF:=hF.out
   obtain⟨m,hm⟩:∃m,m=(ace l).length:=⟨_,rfl⟩
   have HMm:=Lib.hid hm
   have HRt:=Lib.hid (λW (fr:Fr F0 wr W)=>aCk (ace l) b2 m d2 W (hH.fr fr) hm HID.out (by have:=avr l;have:=HN.out;omega) (HCu.out.fr (hF.trans' fr) λf=>f))
   rw[←hm]
   clear hH HO HO2 hm
   have oz:=ao6 ah (b:=0) (by decide) (root:=z32) rfl
   have o1:=ao6 ah (b:=0) (by decide) HB.out.2.1
   have o2:=ao6 ah HB.out.1 HB.out.2.1
   have hbd:∀w,(aga #[(0,.int .u32 3),(1,.agg (hc (uj ah.bytes))),(3,.int .u32 (((ah.time+60) % 4294967296:Nat):Int))]).run Tryz.prog w = .ok (.agg (bl0 ah 0 z32).cells) w:=λw=>ad1 w _ _ (aHs (uj ah.bytes) HB.out.2.2 _)
   have aJd:=Hd.aP9 (h:=bl0 ah 0 z32) ⟨oz.ahead,oz.root⟩ (aan (ace l)) HB.out.2.1
   have s66:=aG1 o1 bb
   have D0:=Hd.of oz
   have D1:=Hd.of o1
   have D2:=Hd.of o2
   have HMi:=Lib.hid (λW (fr:Fr F0 w W)=>show Calls Tryz.prog 49 #[.agg (bl0 ah bb (aan (ace l))).cells,.int .u32 4000] W λe w'=>e = .returned (.tuple #[.agg (acf (bl0 ah bb (aan (ace l))) 4000).cells,.bool (agw (bl0 ah bb (aan (ace l))) 4000)])∧Fr F0 W w' from aJ2 (bl0 ah bb (aan (ace l))) o2 4000 (by decide) W (HCu.out.fr fr λf=>f))
   have oR:=aSc ah HB.out.1 HB.out.2.1
   have hRs:blH ah bb (aan (ace l))=if agw (bl0 ah bb (aan (ace l))) 4000=true then acf (bl0 ah bb (aan (ace l))) 4000 else bl0 ah bb (aan (ace l)):=rfl
   have om:=avk o2 4000
   have smM:=Hd.qw om
   have x1:(bl0 ah 0 (aan (ace l))).cells.extract 1 33=hc (uj ah.bytes):=D1.x1
   have c66:(bl0 ah 0 (aan (ace l))).cells[66]? = some (.int .u32 0):=D1.c66
   have HRs:=Lib.hid hRs
   have s0:=D0.size
   have s1:=D1.size
   have s2:=D2.size
   clear hRs D0 D1 D2 oz o1 o2 om oR
   have HRr:=Lib.hid (show blH ah bb (aan (ace l))=blH ah bb (aan (ace l))from rfl)
   have sX:=jl HB.out.2.1
   have oX:=qg (aan (ace l))
   replace aJd:aaz (bl0 ah 0 z32).cells 33 (hc (aan (ace l))).toList=(bl0 ah 0 (aan (ace l))).cells:=aJd
   obtain⟨XR,hXR⟩:∃X,X=hc (aan (ace l)):=⟨_,rfl⟩
   rw[←hXR]at HRt sX oX aJd
   obtain⟨C0,hC0⟩:∃X,X=(bl0 ah 0 z32).cells:=⟨_,rfl⟩
   rw[←hC0]at hbd aJd s0
   obtain⟨C1,hC1⟩:∃X,X=(bl0 ah 0 (aan (ace l))).cells:=⟨_,rfl⟩
   rw[←hC1]at aJd s66 x1 c66 s1
   obtain⟨C2,hC2⟩:∃X,X=(bl0 ah bb (aan (ace l))).cells:=⟨_,rfl⟩
   have hs66:C1.setIfInBounds 66 (.int .u32 (bb:Int))=C2:=by rw[s66,hC2];rfl
   rw[←hC2]at HMi s2
   obtain⟨CM,hCM⟩:∃X,X=(acf (bl0 ah bb (aan (ace l))) 4000).cells:=⟨_,rfl⟩
   obtain⟨om,hom⟩:∃X,X=agw (bl0 ah bb (aan (ace l))) 4000:=⟨_,rfl⟩
   rw[←hCM,←hom]at HMi
   rw[←hCM]at smM
   have HRC:=Lib.hid (show(blH ah bb (aan (ace l))).cells=if om=true then CM else C2 by rw[HRs.out,←hom,hCM,hC2];split<;>rfl)
   have o0:jh C0:=by rw[hC0];exact Hd.one
   have oo1:jh C1:=by rw[hC1];exact Hd.one
   have oo2:jh C2:=by rw[hC2];exact Hd.one
   have ooM:jh CM:=by rw[hCM];exact Hd.one
   replace aJd:=Lib.hid aJd
   replace hs66:=Lib.hid hs66
   clear hC0 hC1 hC2 hCM hom hXR s66 HRs HRr
   go_upto_region 9 with fail
   refine bl9 wr g4 ah.time ((ah.time+60) % 4294967296) C (hc (uj ah.bytes)) C0 (Lib.hid λW fr=>HHs.out W (hF.trans' fr)) hw60 zC oC c65 hbd s0 o0 aur r4 (Lib.hid ?_)
   rename_i w5
   rintro⟨⟨g13,rfl,r13,hg13⟩,f5⟩
   replace r6:=au f5 r6
   have HF5:=Lib.hid f5
   have aEz:=Lib.hid (show g6≠g13∧w.heap.size≤g13∧∀k,ql b2=some k→k≠g13 from⟨by have:=B5.out;have:=hz.out;omega,by have:=B5.out;have:=hz.out;omega,λk hk=>by have:=hnl.out k hk;omega⟩)
   clear f5 hbd o0 c65 zC oC r4 hw60 HHs hg13
   go_wp2_with fail
   (with_reducible refine(HRt.out _ HF5.out).mono ?_);rintro e w6 ⟨rfl,f6⟩
   replace r6:=au f6 r6
   replace r13:=au f6 r13
   have HF6:=Lib.hid (HF5.out.trans' f6)
   clear f6 HRt HF5
   go_upto_region 11 with fail
   refine auf r13 λW7 r7 f7=>?_
   rw[aJd.out]at r7
   replace r6:=f7.keeps (λe=>aEz.out.1 e) r6
   have FW7:=Lib.hid ((hF.trans' HF6.out).trans f7 λi hi e=>by have:=aEz.out;omega)
   have hH7:=Lib.hid ((hH0.out.fr HF6.out).frx f7 λk hk e=>aEz.out.2.2 k hk e)
   clear f7 HF6 hH0 r13 s0 hF
   refine bl11 W7 q p g13 bb bz C1 (hc (uj ah.bytes)) x1 0 (Lib.hid λW fr=>HT.out W (FW7.out.trans' fr)) (Lib.hid λW fr=>HK.out W (FW7.out.trans' fr)) s1 c66 r7 (Lib.hid ?_)
   rename_i w8
   rintro⟨r8,f8⟩
   rw[hs66.out]at r8
   replace r6:=f8.keeps (λe=>aEz.out.1 e) r6
   have FW8:=Lib.hid (FW7.out.trans f8 λi hi e=>by have:=aEz.out;omega)
   have hH8:=Lib.hid (hH7.out.frx f8 λk hk e=>aEz.out.2.2 k hk e)
   clear f8 FW7 hH7 r7 HT HK s1 c66 x1
   go_wp2_with fail
   (with_reducible refine(HMi.out _ FW8.out).mono ?_);rintro e w9 ⟨rfl,f9⟩
   replace r6:=au f9 r6
   replace r8:=au f9 r8
   have FW9:=Lib.hid (FW8.out.trans' f9)
   have hH9:=Lib.hid (hH8.out.fr f9)
   clear f9 FW8 hH8 HMi
   go_upto_region 13 with fail
   refine uy λW10 N10=>?_
   have r14:=N10.new
   replace r6:=N10.old r6
   replace r8:=N10.old r8
   have FW10:=Lib.hid (FW9.out.trans' N10.fr)
   have hH10:=Lib.hid (hH9.out.fr N10.fr)
   clear N10 FW9 hH9
   generalize w9.heap.size=g14 at *
   have hb6:=Lib.hid (show w.heap.size≤g6∧∀k,ql b2=some k→W1.heap.size≤k from⟨B5.out.2.2.2.1,hnW.out⟩)
   cases om with
   |false =>
    go_wp2_with fail
    have fE:Fr (λk=>k=g6) W10 (W10.setRow g6 C2):=Fr.setRow (S:=λk=>k=g6) (Fr.refl _ W10) (λ_=>rfl) _
    refine bodyPost_ret (cu rfl _ _ g6 _ _ _ _ rfl (by rw[jc,r6];rfl) Tryz.underlying47 rfl (by rw[Tryz.szHeader,s2])) rfl ?_
    refine⟨b2,d2,by rw[HRC.out,←HMm.out];rfl,hH10.out.frx fE (λk hk e=>by have:=hb6.out.2 k hk;have:=B5.out;omega),FW10.out.trans fE (λi hi e=>by have:=hb6.out;omega),hnb.out⟩
   |true =>
    go_upto_region 15 with fail
    refine auf r8 λW11 r11 f11=>?_
    replace r6:=f11.keeps (λe=>aEz.out.1 e) r6
    have FW11:=Lib.hid (FW10.out.trans f11 λi hi e=>by have:=aEz.out;omega)
    have hH11:=Lib.hid (hH10.out.frx f11 λk hk e=>aEz.out.2.2 k hk e)
    clear f11 FW10 hH10 r14 r8
    go_wp2_with fail
    have fE:Fr (λk=>k=g6) W11 (W11.setRow g6 CM):=Fr.setRow (S:=λk=>k=g6) (Fr.refl _ W11) (λ_=>rfl) _
    refine bodyPost_ret (cu rfl _ _ g6 _ _ _ _ rfl (by rw[jc,r6];rfl) Tryz.underlying47 rfl (by rw[Tryz.szHeader,smM])) rfl ?_
    refine⟨b2,d2,by rw[HRC.out,←HMm.out];rfl,hH11.out.frx fE (λk hk e=>by have:=hb6.out.2 k hk;have:=B5.out;omega),FW11.out.trans fE (λi hi e=>by have:=hb6.out;omega),hnb.out⟩
theorem aHp(l:List UInt8)(h:l.length=32)(a b:Option Addr)(n c m d:Nat)(x y:Int):Tryz.prog.built 28 [(0,.slice a n c),(1,.agg (hc l)),(2,.int .u32 x),(3,.int .u32 y),(4,.slice b m d)]=some (rowP (.slice a n c) l (.int .u32 x) (.int .u32 y) (.slice b m d)):=by
 obtain⟨z0,z1,z2,z3,z4,z5,z6,z7,z8,z9,z10,z11,z12,z13,z14,z15,z16,z17,z18,z19,z20,z21,z22,z23,z24,z25,z26,z27,z28,z29,z30,z31,rfl⟩:=af5 l h
 kernel_rfl
theorem mk7B{s2 s3 s4 s5 s6 s7 s8 s9 s11 s12 s13 s14 s15 s16 s17 s18 s19 s20 s21 s22 s23 s24 s25 s26 s27 s28 s29 s30 s31 s32 s33 s34 s35 s36 s37 s38 s39 s40 s41 s42 s43 s44 s45 s46 s47 s48:Value}{K:Act→World→Prop}{Q:Exit→Act→World→Prop}(w:World)(a:Option Addr)(n c nn ic bb off i:Nat)(X QQ:Array Value)(eqb:Bool)(H1:RowKit.Hid (∀W:World,Fr F0 w W→Calls Tryz.prog 28 #[.slice a n c] W λe w'=>e = .returned (.agg X)∧Fr F0 W w'))(HL:RowKit.Hid (∀W:World,Fr F0 w W→(iq 24 (.pointer (some ⟨bb,off+i*32,none⟩))).run Tryz.prog W = .ok (.agg QQ) W))(heq:∀W:World,(Op.equalIn 10000 24 (.agg X) (.agg QQ)).run Tryz.prog W = .ok eqb W)(l1:(i:Int)<(nn:Int))
  (hK:RowKit.Hid (∀{u32 u33 u34 u35 u36 u37 u38:Value} {w':World},(u38 = .bool (!eqb)∧Fr F0 w w')→K ⟨#[.slice (some ⟨bb,off,none⟩) nn ic,.int .i64 (i:Int),s2,s3,s4,s5,s6,s7,s8,s9,.slice a n c,s11,s12,s13,s14,s15,s16,s17,s18,s19,s20,s21,s22,s23,s24,s25,s26,s27,s28,s29,s30,s31,u32,u33,u34,u35,u36,u37,u38,s39,s40,s41,s42,s43,s44,s45,s46,s47,s48],[]⟩ w')) :
  Code.wp Tryz.prog ((Tryz.f18.body.bind (jw 7)).getD .skip) (Exit.then K Q) ⟨#[.slice (some ⟨bb,off,none⟩) nn ic,.int .i64 (i:Int),s2,s3,s4,s5,s6,s7,s8,s9,.slice a n c,s11,s12,s13,s14,s15,s16,s17,s18,s19,s20,s21,s22,s23,s24,s25,s26,s27,s28,s29,s30,s31,s32,s33,s34,s35,s36,s37,s38,s39,s40,s41,s42,s43,s44,s45,s46,s47,s48],[]⟩ w:=by
 conv=>arg 2;whnf
 have F9:=Fr.refl F0 w
 refine jm (S:=(λw'=>(iq 24 (.pointer (some ⟨bb,off+i*32,none⟩))).run Tryz.prog w' = .ok (.agg QQ) w'∧Fr F0 w w')) ?_ λak=>?_
 ·exact(by((try dsimp only)<;>(exact⟨HL.out _ F9.drew,F9.drew⟩)))
 refine aj 0 ?_
 refine aj 2 ?_
 refine aj 3 ?_
 refine aj 4 ?_
 refine aj 5 ?_
 refine jf 1 λK hK=>?_
 go_simp
 ((with_reducible refine(H1.out _ ak.2).mono ?_);rintro e w5 ⟨rfl,f5⟩)
 refine rpu hK (by((try dsimp only)<;>(first|exact ak|exact⟨HL.out _ (ak.2.trans' f5),ak.2.trans' f5⟩))) λak=>?_
 clear hK K
 refine aj 6 ?_
 refine jg ?_
 all_goals
  exact hK.out ⟨by cases eqb<;>rfl,ak.2⟩
def mkE(t:MT)(ids:List (List UInt8))(i:Nat):Int:=if t.err≠0 then t.err else if uj t.out=ids.getD i []then 0 else 14
def MkQ(t:MT)(ids:List (List UInt8))(i:Nat)(bk:List UInt8)(w:World)(e:Ending)(w':World):Prop :=
 ∃(f:MP) (a:Option Addr) (c:Nat) (b:Option Addr) (d:Nat),e = .returned (.tuple #[.agg (pfC f a c b d),.int .i64 (mkE t ids i)])∧(mkE t ids i=0→f=⟨t.out,bk,i,ids.length,alr ids i⟩)∧(mkE t ids i≠0→f=MP.zero)∧f.Ok∧Bs w' a c f.tx∧Hs w' b d f.wy∧Fr F0 w w' ∧
  (∀k,ql a=some k→w.heap.size≤k)∧∀k,ql b=some k→w.heap.size≤k
theorem MkQ.no{t:MT}{ids:List (List UInt8)}{i:Nat}{bk:List UInt8}{w w':World}{Z:Array Value}{E:Int}(h:mkE t ids i=E)(h0:E≠0)(hZ:Z=rowP (.slice none 0 0) z32 (.int .u32 0) (.int .u32 0) (.slice none 0 0))(f:Fr F0 w w'):MkQ t ids i bk w (.returned (.tuple #[.agg Z,.int .i64 E])) w' :=
 ⟨MP.zero,none,0,none,0,by rw[hZ,h];rfl,λe=>absurd (h▸e) h0,λ_=>rfl,MP.ar1,Bs.nothing _,Hs.nothing _,f,(λk e=>by cases e),λk e=>by cases e⟩
theorem aCe(ids:List (List UInt8))(ia:Option Addr)(ic i:Nat)(t:TT)(bk:List UInt8)(w:World)(hs:Hs w ia ic ids)(hi:i<ids.length)(hl:ids.length≤1000)(ht:t.Ok w)(hbk:bk.length=32)(zn:Cub w):
  Calls Tryz.prog 18 #[.slice ia ids.length ic,.int .i64 (i:Int),.agg t.cells,.agg (hc bk)] w (MkQ t.m ids i bk w):=by
 have HB:=Lib.hid (λW (fr:Fr F0 w W)=>al9 t W (ht.fr fr))
 have HW:=Lib.hid (λW (fr:Fr F0 w W)=>aG3 ids ia ids.length ic i W (hs.fr fr) rfl hi hl (zn.fr fr λf=>f))
 obtain⟨bb,off,rfl,hld,_⟩:=hs.load i hi
 have HL:=Lib.hid hld
 have hq32:=hs.ok.get hi
 have HC:=Lib.hid zn
 have hroom:=hs.room
 unfold agz at HB
 have hol:t.m.out.length≤4096:=by
  unfold MT.out
  split
  ·rename_i h
   unfold MT.err at h
   by_cases h1:t.m.few=true
   ·rw[if_pos h1]at h;cases h
   ·rw[if_neg h1]at h
    by_cases h2:t.m.long=true
    ·rw[if_pos h2]at h;cases h
    ·rw[if_neg h2]at h
     by_cases h3:szT t.m.bytes.length=false
     ·rw[if_pos h3]at h;cases h
     ·rw[Bool.not_eq_false]at h3
      unfold szT at h3
      rw[decide_eq_true_iff]at h3
      exact h3.1
  ·simp
 have HO:=Lib.hid hol
 obtain⟨q,hq⟩:∃q,q=ids.getD i []:=⟨_,rfl⟩
 rw[←hq]at hq32
 have HLq:=Lib.hid (show ∀W,Fr F0 w W→(iq 24 (.pointer (some ⟨bb,off+i*32,none⟩))).run Tryz.prog W = .ok (.agg (hc q)) W from by rw[hq];exact hld)
 obtain⟨er,her⟩:∃er,er=t.m.err:=⟨_,rfl⟩
 obtain⟨ot,hot⟩:∃ot,ot=t.m.out:=⟨_,rfl⟩
 rw[←her,←hot]at HB
 rw[←hot]at HO
 have HE:=Lib.hid (show mkE t.m ids i=if er≠0 then er else if uj ot=q then 0 else 14 by rw[mkE,←her,←hot,←hq])
 have HOT:=Lib.hid hot
 obtain⟨x0,x3,iia,oa,ni,mo,iic,oc,hTC⟩:=t.ajf
 rw[hTC]at HB ⊢
 obtain⟨N,hN⟩:∃N,N=ids.length:=⟨_,rfl⟩
 rw[←hN]at HW hi hl hroom ⊢
 have HN:=Lib.hid hN
 have HX:=Lib.hid hbk
 have sX:=jl hbk
 have oX:=qg bk
 have hbp:=fun(W:World) (a b:Option Addr) (n c m d:Nat)=>agi W _ _ (aHp bk hbk a b n c m d (i:Int) (N:Int))
 obtain⟨X,hX⟩:∃X,X=hc bk:=⟨_,rfl⟩
 rw[←hX]at sX oX hbp ⊢
 have hil:(i:Int)<(N:Int):=by omega
 have wi:=IntWalk.u32_in (i:Int) aPl
 have wn:=IntWalk.u32_in (N:Int) aPl
 obtain⟨Z,hZ⟩:∃Z,Z=rowP (.slice none 0 0) z32 (.int .u32 0) (.int .u32 0) (.slice none 0 0):=⟨_,rfl⟩
 have sZ:Z.size=36:=by rw[hZ];rfl
 have oZ:jh Z:=by rw[hZ];exact aad z32 rfl rfl rfl rfl
 have hzb:∀w,(ang #[]).run Tryz.prog w = .ok (.agg Z) w:=λw=>by rw[hZ];exact agi w #[] _ ap9
 replace hZ:=Lib.hid hZ
 clear hs hld ht zn hol hq her hot hTC hN hX hbk
 go_enter Tryz.func18,Tryz.ntmps18
 go_upto_region 1 with fail
 refine lu λW1 N1=>?_
 have r8:=N1.new
 have r7:=N1.old (heap_alloc_new (w.alloc (.cells #[.int .u32 x0,.slice iia ni iic,.slice oa mo oc,.int .u32 x3] 59)) (.cells X 24))
 have r6:=N1.old (bg (o := .cells X 24) (heap_alloc_new w (.cells #[.int .u32 x0,.slice iia ni iic,.slice oa mo oc,.int .u32 x3] 59)))
 have F:=(((Fr.refl F0 w).alloc (.cells #[.int .u32 x0,.slice iia ni iic,.slice oa mo oc,.int .u32 x3] 59)).alloc (.cells X 24)).trans' N1.fr
 simp only[World.size_alloc]at r8 r7
 try simp only[World.size_alloc]
 clear N1
 obtain⟨g8,hg8⟩:∃g,g=w.heap.size+1+1:=⟨_,rfl⟩
 obtain⟨g7,hg7⟩:∃g,g=w.heap.size+1:=⟨_,rfl⟩
 obtain⟨g6,hg6⟩:∃g,g=w.heap.size:=⟨_,rfl⟩
 rw[←hg8]at r8
 rw[←hg7]at r7
 rw[←hg6]at r6
 try rw[←hg8]
 try rw[←hg7]
 try rw[←hg6]
 replace r8:W1.heap[g8]? = some (.cells Z 28 (0,0)):=by rw[hZ.out];exact r8
 have hz1:=Lib.hid (show g8<W1.heap.size∧w.heap.size≤W1.heap.size from⟨(Array.getElem?_eq_some_iff.1 r8).1,F.size⟩)
 replace hg8:=Lib.hid (show w.heap.size≤g8 by omega)
 clear hg7 hg6
 go_wp2_with fail
 (with_reducible refine(HB.out _ F).mono ?_);rintro e w2 ⟨a2,n2,c2,rfl,hn2,hb2,f2,nb2⟩
 replace r7:=au f2 r7
 replace r8:=au f2 r8
 replace F:=F.trans' f2
 have hz2:=Lib.hid (show g8<w2.heap.size from Nat.lt_of_lt_of_le hz1.out.1 f2.size)
 have HB2:=Lib.hid (And.intro hn2 (And.intro hb2 (λk hk=>Nat.le_trans hz1.out.2 (nb2 k hk))))
 have HB2b:=Lib.hid (show ∀k,ql a2=some k→g8<k from λk hk=>by have h1:=nb2 k hk;have h2:=hz1.out;omega)
 clear f2 HB hn2 hb2 nb2 r6
 by_cases h1:er=0
 ·have l1:(er != 0)=false:=by rw[h1];rfl
  have HE1:=Lib.hid (show mkE t.m ids i=if uj ot=q then 0 else 14 by rw[HE.out,if_neg (λh=>h h1)])
  clear h1
  go_wp2_with fail
  (with_reducible refine(HW.out _ F).mono ?_);rintro e w3 ⟨b3,d3,rfl,hs3,f3,nb3⟩
  replace r7:=au f3 r7
  replace r8:=au f3 r8
  have HB3:=Lib.hid (Bs.fr7 HB2.out.2.1 f3)
  have HS3:=Lib.hid (And.intro hs3 (λk hk=>Nat.le_trans F.size (nb3 k hk)))
  have HS3b:=Lib.hid (show ∀k,ql b3=some k→g8<k from λk hk=>by have h1:=nb3 k hk;have h2:=hz2.out;omega)
  replace F:=F.trans' f3
  clear f3 HW hs3 nb3 l1
  have hd:=HLq.out
  have heq:=λW=>uf W (uj ot) q aEl hq32
  obtain⟨eqb,heqb⟩:∃eqb,eqb=decide (uj ot=q):=⟨_,rfl⟩
  rw[←heqb]at heq
  have HEq:=Lib.hid heqb
  clear heqb hd
  go_upto_region 7 with fail
  refine mk7B w3 a2 n2 c2 N ic bb off i (hc (uj ot)) (hc q) eqb (Lib.hid λW fr=>adl a2 n2 c2 ot HB2.out.1 (by have:=HO.out;omega) W (Bs.fr7 HB3.out fr) (HC.out.fr (F.trans' fr) λf=>f)) (Lib.hid λW fr=>HLq.out W (F.trans' fr)) heq hil (Lib.hid ?_)
  rename_i w4
  rintro⟨rfl,f4⟩
  replace r7:=au f4 r7
  replace r8:=au f4 r8
  have HB4:=Lib.hid (And.intro (Bs.fr7 HB3.out f4) (HS3.out.1.fr f4))
  replace F:=F.trans' f4
  clear f4 heq HB3
  cases eqb with
  |false =>
   have hne:¬uj ot=q:=of_decide_eq_false HEq.out.symm
   have HE2:=Lib.hid (show mkE t.m ids i=14 by rw[HE1.out,if_neg hne])
   clear hne
   go_wp2_with fail
   refine bodyPost_ret (cu rfl _ _ g8 _ _ _ _ rfl (by rw[jc,r8];rfl) Tryz.underlying28 rfl (by rw[Tryz.szProof,sZ])) rfl ?_
   exact MkQ.no HE2.out (by decide) hZ.out (F.setRow (λh=>by have:=hg8.out;omega) _)
  |true =>
   have hne:uj ot=q:=of_decide_eq_true HEq.out.symm
   have HE2:=Lib.hid (show mkE t.m ids i=0 by rw[HE1.out,if_pos hne])
   have sY:=pq HX.out (.slice a2 n2 c2) (.int .u32 (i:Int)) (.int .u32 (N:Int)) (.slice b3 (alr ids i).length d3)
   have oY:jh (rowP (.slice a2 n2 c2) bk (.int .u32 (i:Int)) (.int .u32 (N:Int)) (.slice b3 (alr ids i).length d3)):=aad bk rfl rfl rfl rfl
   have hbY:=hbp w4 a2 b3 n2 c2 (alr ids i).length d3
   obtain⟨Y,hY⟩:∃Y,Y=rowP (.slice a2 n2 c2) bk (.int .u32 (i:Int)) (.int .u32 (N:Int)) (.slice b3 (alr ids i).length d3):=⟨_,rfl⟩
   rw[←hY]at sY oY hbY
   have HY:=Lib.hid hY
   clear hne hY hbp
   obtain⟨wl,hwl⟩:∃l,l=(alr ids i).length:=⟨_,rfl⟩
   rw[←hwl]at hbY ⊢
   replace hwl:=Lib.hid hwl
   go_wp2_with fail
   have fE:Fr (λk=>k=g8) w4 (w4.setRow g8 Y):=Fr.setRow (S:=λk=>k=g8) (Fr.refl _ w4) (λ_=>rfl) _
   refine bodyPost_ret (cu rfl _ _ g8 _ _ _ _ rfl (by rw[jc,r8];rfl) Tryz.underlying28 rfl (by rw[Tryz.szProof,sY])) rfl ?_
   refine⟨⟨t.m.out,bk,i,ids.length,alr ids i⟩,a2,c2,b3,d3,?_,λ_=>rfl,λh=>absurd HE2.out h,⟨HX.out,by show i<4294967296;omega,by show ids.length<4294967296;rw[←HN.out];omega,HS3.out.1.ok⟩,?_,HB4.out.2.frx fE (λk hk e=>by have:=HS3b.out k hk;omega),F.setRow (λh=>by have:=hg8.out;omega) _,HB2.out.2.2,HS3.out.2⟩
   ·rw[HE2.out,HY.out,pfC,←HOT.out,←HB2.out.1,←HN.out]
    rfl
   ·show Bs _ a2 c2 t.m.out
    rw[←HOT.out]
    exact HB4.out.1.frx fE (λ_ k hk e=>by have:=HB2b.out k hk;omega)
 ·have l1:(er != 0)=true:=bne_iff_ne.2 h1
  have HE1:=Lib.hid (show mkE t.m ids i=er by rw[HE.out,if_pos h1])
  have H1:=Lib.hid h1
  clear h1
  go_wp2_with fail
  refine bodyPost_ret (cu rfl _ _ g8 _ _ _ _ rfl (by rw[jc,r8];rfl) Tryz.underlying28 rfl (by rw[Tryz.szProof,sZ])) rfl ?_
  exact MkQ.no HE1.out H1.out hZ.out (F.setRow (λh=>by have:=hg8.out;omega) _)
end Go.Proofs.YtjlelckefiannaaGreatDoor
