import Derived.Test.YtjlelckefiannaaGreatDoorZ36
import Derived.Test.YtjlelckefiannaaGreatDoorZ38
import Derived.Test.YtjlelckefiannaaGreatDoorZ27
import Derived.Test.YtjlelckefiannaaGreatDoorZ2
import Derived.Test.YtjlelckefiannaaGreatDoorZ39
import Derived.Test.YtjlelckefiannaaGreatDoorZ25
import Derived.Test.YtjlelckefiannaaGreatDoorZ30
import Derived.Test.YtjlelckefiannaaGreatDoorZ26
import Derived.Test.YtjlelckefiannaaGreatDoorZ20
import Derived.Test.YtjlelckefiannaaGreatDoorZ3
import Derived.Test.YtjlelckefiannaaGreatDoorZ31
import Derived.Test.YtjlelckefiannaaGreatDoorZ17
import Derived.Test.YtjlelckefiannaaGreatDoorZ32
import Derived.Test.YtjlelckefiannaaGreatDoorZ8
set_option maxRecDepth 100000
set_option maxHeartbeats 64000000
namespace Go.Proofs.YtjlelckefiannaaGreatDoor
set_option linter.unusedVariables false
set_option linter.unusedSimpArgs false
open Go.RowKit
theorem aCs{C:Array Value}{e k:Nat}{span limit:Nat}(h:aJh C (e:Int) span limit (k:Int))(h1:2≤e)(h2:e≤2016)(h3:1≤span)(h4:span≤2147483648)(h5:1≤k)(h6:k≤100)(w:World):
  Calls Tryz.prog 144 #[.agg C] w λed w'=>ed = .returned (.bool true)∧Fr F0 w w':=by
 obtain⟨s,c0,c1,_,c3,_,_,_⟩:=h
 have s0:0<C.size:=by omega
 have d0:=jd c0 s0
 have s1:1<C.size:=by omega
 have d1:=jd c1 s1
 have s3:3<C.size:=by omega
 have d3:=jd c3 s3
 have F:=(Fr.refl F0 w).alloc (.cells C 49)
 have l1:(2:Int)≤(e:Int):=by omega
 have l2:(e:Int)≤2016:=by omega
 have l3:(1:Int)≤(span:Int):=by omega
 have l4:(span:Int)≤2147483648:=by omega
 have l5:(1:Int)≤(k:Int):=by omega
 have l6:(k:Int)≤100:=by omega
 go_enter Tryz.func144,Tryz.ntmps144
 go_wp2_with fail
 go_ret
 exact⟨by first|rfl|simp[*],F⟩
theorem topF:ayq 545259519=btT 545259519:=if_pos (of_decide_eq_true (by decide +kernel:decide (btP 545259519)=true))
theorem azg:btP 545259519:=of_decide_eq_true (by decide +kernel:decide (btP 545259519)=true)
theorem Fh.aR6:ckE Fh (btT 545259519)=0:=by
 unfold ckE hsh
 rw[Fh.sum]
 decide +kernel
theorem aB1(e s k:Nat)(j:Nat)(hj:j<68):(ruC e s k)[4+j]? = Fh.cells[j]? := by
 unfold ruC
 rw[List.getElem?_toArray,show 4+j=j+1+1+1+1 by omega,List.getElem?_cons_succ,List.getElem?_cons_succ,List.getElem?_cons_succ,List.getElem?_cons_succ,Array.getElem?_toList]
theorem ah8(e s k:Nat)(W:World)(g:Nat){t:TypeId}{f:Nat×Nat}(h:W.heap[g]? = some (.cells (ruC e s k) t f)):(iq 47 (.pointer (some ⟨g,4,none⟩))).run Tryz.prog W = .ok (.agg Fh.cells) W:=by
 have:=run_loadAt_mid (P:=Tryz.prog) W g 4 47 Fh.cells.toList _ (λj u hj=>by
  have hl:j<68:=by have:=(List.getElem?_eq_some_iff.1 hj).1;rw[Array.length_toList,Hd.qw Fh.ok]at this;exact this
  rw[cell_of_row W g (4+j) _ _ _ h,aB1 e s k j hl]
  simpa using hj) Tryz.underlying47 rfl (by rw[Array.length_toList,Hd.qw Fh.ok];kernel_rfl)
 rw[Array.toArray_toList]at this
 exact this
theorem ax2(HD:aJi)(HK:asu)(e s k:Nat)(h1:2≤e)(h2:e≤2016)(h3:1≤s)(h4:s≤2147483648)(h5:1≤k)(h6:k≤100)(w:World)(zn:Cub w):
  Calls Tryz.prog 88 #[.agg (ruC e s k)] w λed w'=>ed = .returned (.int .i64 0)∧Fr F0 w w':=by
 have hru:=ajg e s k aPl
 have HTop:=Lib.hid (avq HD hru)
 rw[topF]at HTop
 have HN:=Lib.hid (aCs hru h1 h2 h3 h4 h5 h6)
 have HC:=Lib.hid (HK Fh Fh.ok (btT 545259519) azg.2.2 0 Fh.aR6)
 have aO0:=Lib.hid zn
 have HLD:=Lib.hid (λW g (h:W.heap[g]? = some (.cells (ruC e s k) 49 (0,0)))=>ah8 e s k W g h)
 have hz:=ael (btT 545259519) azg.2.2 _ rfl
 rw[decide_eq_false (show ¬btT 545259519=0 by have:=azg.2.1;omega)]at hz
 have sR:=hru.size
 have oR:=hru.one
 generalize ruC e s k=R at *
 generalize btT 545259519=T at *
 generalize Fh.cells=X at *
 clear hru h1 h2 h3 h4 h5 h6 zn
 have r1:=heap_alloc_new w (.cells R 49)
 have F:=(Fr.refl F0 w).alloc (.cells R 49)
 go_enter Tryz.func88,Tryz.ntmps88
 go_wp2_with fail
 generalize hW:w.alloc (.cells R 49)=W at *
 generalize w.heap.size=g1 at *
 (with_reducible refine(HTop.out _).mono ?_);rintro e1 w2 ⟨rfl,f⟩
 replace r1:=au f r1
 replace F:=F.trans' f
 clear f hW
 go_upto_region 2 with fail
 refine uy λW4 N4=>?_
 have r3:=N4.new
 replace r1:=N4.old r1
 replace F:=F.trans' N4.fr
 clear N4
 generalize w2.heap.size=g3 at *
 go_wp2_with fail
 (with_reducible refine(HN.out _).mono ?_);rintro e1 w3 ⟨rfl,f⟩
 replace r1:=au f r1
 replace r3:=au f r3
 replace F:=F.trans' f
 clear f
 have ld:=HLD.out _ _ r1
 go_wp2_with fail
 (with_reducible refine(HC.out _ (aO0.out.fr F λf=>f)).mono ?_);rintro e1 w5 ⟨rfl,f⟩
 replace F:=F.trans' f
 go_wp2_with fail
 go_ret
 exact⟨rfl,F⟩
def aBa(parts:Array (Nat×Value)):Sem Value:=Instr.build 145 parts
@[go_sem ↓ high] theorem aKn (p:Array (Nat×Value)):Instr.build 145 p=aBa p:=rfl
theorem akm(w:World)(parts:Array (Nat×Value))(cells:Array Value)(h:Tryz.prog.built 145 parts.toList=some cells):(aBa parts).run Tryz.prog w = .ok (.agg cells) w:=run_build w _ parts cells h
def aA9(parts:Array (Nat×Value)):Sem Value:=Instr.build 171 parts
@[go_sem ↓ high] theorem aOe (p:Array (Nat×Value)):Instr.build 171 p=aA9 p:=rfl
theorem as8(w:World)(parts:Array (Nat×Value))(cells:Array Value)(h:Tryz.prog.built 171 parts.toList=some cells):(aA9 parts).run Tryz.prog w = .ok (.agg cells) w:=run_build w _ parts cells h
theorem aDe(ver ti bi no:Nat)(A R hs:List UInt8)(hA:A.length=32)(hR:R.length=32)(l:hs.length=32)(up:Option Addr)(ht wk:Nat):
  Tryz.prog.built 145 [(0,.agg (Hd.cells ⟨ver,A,R,ti,bi,no⟩)),(1,.agg (hc hs)),(2,.pointer up),(3,.int .i64 (ht:Int)),(4,.agg (gu .u64 64 4 wk))]=some (acz ⟨ver,A,R,ti,bi,no⟩ hs (.pointer up) ht wk false):=by
 obtain⟨x0,x1,x2,x3,x4,x5,x6,x7,x8,x9,x10,x11,x12,x13,x14,x15,x16,x17,x18,x19,x20,x21,x22,x23,x24,x25,x26,x27,x28,x29,x30,x31,rfl⟩:=af5 A hA
 obtain⟨y0,y1,y2,y3,y4,y5,y6,y7,y8,y9,y10,y11,y12,y13,y14,y15,y16,y17,y18,y19,y20,y21,y22,y23,y24,y25,y26,y27,y28,y29,y30,y31,rfl⟩:=af5 R hR
 obtain⟨z0,z1,z2,z3,z4,z5,z6,z7,z8,z9,z10,z11,z12,z13,z14,z15,z16,z17,z18,z19,z20,z21,z22,z23,z24,z25,z26,z27,z28,z29,z30,z31,rfl⟩:=af5 hs l
 kernel_rfl
theorem aHr(h:Hd)(o:h.Ok)(hs:List UInt8)(l:hs.length=32)(up:Option Addr)(ht wk:Nat):
  Tryz.prog.built 145 [(0,.agg h.cells),(1,.agg (hc hs)),(2,.pointer up),(3,.int .i64 (ht:Int)),(4,.agg (gu .u64 64 4 wk))]=some (acz h hs (.pointer up) ht wk false) :=
 aDe h.ver h.time h.bits h.zq h.ahead h.root hs o.ahead o.root l up ht wk
theorem ayg(ver ti bi no:Nat)(A R hs:List UInt8)(hA:A.length=32)(hR:R.length=32)(l:hs.length=32)(wk:Nat):
  Tryz.prog.built 145 [(0,.agg (Hd.cells ⟨ver,A,R,ti,bi,no⟩)),(1,.agg (hc hs)),(4,.agg (gu .u64 64 4 wk)),(5,.bool true)]=some (acz ⟨ver,A,R,ti,bi,no⟩ hs (.pointer none) 0 wk true):=by
 obtain⟨x0,x1,x2,x3,x4,x5,x6,x7,x8,x9,x10,x11,x12,x13,x14,x15,x16,x17,x18,x19,x20,x21,x22,x23,x24,x25,x26,x27,x28,x29,x30,x31,rfl⟩:=af5 A hA
 obtain⟨y0,y1,y2,y3,y4,y5,y6,y7,y8,y9,y10,y11,y12,y13,y14,y15,y16,y17,y18,y19,y20,y21,y22,y23,y24,y25,y26,y27,y28,y29,y30,y31,rfl⟩:=af5 R hR
 obtain⟨z0,z1,z2,z3,z4,z5,z6,z7,z8,z9,z10,z11,z12,z13,z14,z15,z16,z17,z18,z19,z20,z21,z22,z23,z24,z25,z26,z27,z28,z29,z30,z31,rfl⟩:=af5 hs l
 kernel_rfl
theorem aDf(h:Hd)(o:h.Ok)(hs:List UInt8)(l:hs.length=32)(wk:Nat):
  Tryz.prog.built 145 [(0,.agg h.cells),(1,.agg (hc hs)),(4,.agg (gu .u64 64 4 wk)),(5,.bool true)]=some (acz h hs (.pointer none) 0 wk true) :=
 ayg h.ver h.time h.bits h.zq h.ahead h.root hs o.ahead o.root l wk
theorem aHq(e s k bm:Nat)(a:Option Addr)(n c:Nat):
  Tryz.prog.built 171 [(0,.agg (ruC e s k)),(1,.map (some bm)),(2,.slice a n c),(3,.int .i64 1)]=some (ado (ruC e s k) bm (.slice a n c) 1):=by
 kernel_rfl
def b0(v:Value):Bk:=⟨uj Fh.bytes,-1,Fh.time,Fh.bits,v⟩
theorem ank(v:Value):(b0 v).hash=uj Fh.bytes:=by simp only[b0]
theorem aNm(v:Value):(b0 v).time=Fh.time:=by simp only[b0]
theorem asr(v:Value):(b0 v).bits=Fh.bits:=by simp only[b0]
theorem aHx(v:Value):(b0 v).ahead = -1:=by simp only[b0]
theorem azz(v:Value):anc [b0 v] 0 = [0]:=rfl
theorem wf_b0{v:Value}(o:v.oneCell'=true):WFt [b0 v]:=by
 refine⟨λb hb=>?_,λi hi=>?_⟩
 ·rw[List.mem_singleton]at hb
  subst hb
  exact⟨by simp[b0,uj,tu],Fh.ok.time,Fh.ok.bits,o⟩
 ·have:i=0:=by simpa using hi
  subst this
  exact⟨show(-1:Int) ≤ -1 by omega,show(-1:Int)<((0:Nat):Int) by omega⟩
theorem azf(v:Value):bkT [b0 v] 0=b0 v:=rfl
theorem aQg:hdT [Fh] 0=Fh:=rfl
theorem ajb{v:Value}(o:v.oneCell'=true)(q:Nat):TI [Fh] [b0 v] [q]:=by
 refine⟨wf_b0 o,λi h0 hi=>?_,λi j hi hj _=>?_,by simp,by simp,rfl,rfl,λi hi=>?_,λi j hi hj _=>?_,λi hi=>?_⟩
 ·simp at hi;omega
 ·simp at hi hj;omega
 ·have:i=0:=by simpa using hi
  subst this
  rw[aQg,azf]
  exact⟨Fh.ok,ank v,aNm v,asr v⟩
 ·simp at hi hj;omega
 ·have:i=0:=by simpa using hi
  subst this
  rw[su,azz]
  simpa using aP4
theorem ao4(v:Value):chn [b0 v] = [uj Fh.bytes]:=by
 have hb:ug [b0 v]=0:=by have:=asq (L := [b0 v]) (by simp);simp at this;omega
 rw[chn,hb,qx,azz,List.reverse_singleton,List.map_cons,List.map_nil,azf,ank]
theorem aIb{w:World}{p:Nat}{R:Array Value}{bm q sl:Nat}{v:Value}(o:v.oneCell'=true)
  (top:w.heap[p]? = some (.cells (ado R bm (.slice (some ⟨sl,0,none⟩) 1 1) 1) 171 (0,0)))
  (map:w.heap[bm]? = some (.map #[⟨.agg (hc (uj Fh.bytes)),.pointer (some ⟨q,0,none⟩),0⟩] 1))
  (blk:w.heap[q]? = some (.cells (acz Fh (uj Fh.bytes) (.pointer none) 0 (wkN (btT Fh.bits)) true) 145 (0,0)))
  (row:w.heap[sl]? = some (.cells (hc (uj Fh.bytes)) 24 (0,0))):TM w p R bm [Fh] [b0 v] [q] (.slice (some ⟨sl,0,none⟩) 1 1) (chn [b0 v]):=by
 have l32:(uj Fh.bytes).length=32:=by simp[uj,tu]
 refine⟨top,⟨_,_,map,by simp only[List.map_cons,List.map_nil,ank],λj e he=>?_⟩,λi hi=>?_,⟨⟨?_,.inr ⟨sl,1,_,by rw[ao4];rfl,Nat.zero_le _,row,by rw[ao4];exact Nat.le_refl _,by unfold maxLen;omega,by rw[jl l32],?_⟩⟩,λk _=>Nat.zero_le _,λx hx=>?_⟩⟩
 ·cases j with
  |zero=>simp at he;subst he;rfl
  |succ j=>simp at he
 ·have:i=0:=by simpa using hi
  subst this
  refine blk.trans ?_
  have hw:su [b0 v] 0=wkN (btT Fh.bits):=by rw[su,azz,List.map_cons,List.map_nil,azf,asr];simp
  unfold yt
  rw[hw,aQg,azf,ank,aHx]
  rfl
 ·rw[ao4]
  simp[l32]
 ·rw[ao4]
  simp only[hc,List.length_singleton,Nat.one_mul,List.flatMap_cons,List.flatMap_nil,List.append_nil]
  rw[List.take_of_length_le (by rw[List.length_map,l32];exact Nat.le_refl _)]
 ·rw[ao4,List.mem_singleton]at hx
  rw[hx];exact l32
open Classical in
noncomputable def azh (W:World) (bm:Nat) (A:Array Value) (v:Value):Option Obj→Result Unit
 |some (.map es c)=>if es=#[]∧c=0 then .ok () (ChangeMaps.setBlock W bm (.map #[⟨.agg A,v,0⟩] 1))else(aIp (.map (some bm)) (.agg A) v).run Tryz.prog W
 |_=>(aIp (.map (some bm)) (.agg A) v).run Tryz.prog W
open Classical in
theorem al6(W:World)(bm:Nat)(A:Array Value)(v:Value)(es:Array MapEntry)(c:Nat):azh W bm A v (some (.map es c))=if es=#[]∧c=0 then .ok () (ChangeMaps.setBlock W bm (.map #[⟨.agg A,v,0⟩] 1))else(aIp (.map (some bm)) (.agg A) v).run Tryz.prog W:=rfl
@[go_sem] theorem aO2 (W:World) (bm:Nat) (A:Array Value) (v:Value):azh W bm A v (some (.map #[] 0)) = .ok () (ChangeMaps.setBlock W bm (.map #[⟨.agg A,v,0⟩] 1)):=by rw[al6,if_pos ⟨rfl,rfl⟩]
theorem aBz(h:List UInt8)(hl:h.length=32)(W:World)(bm:Nat)(v:Value):(aIp (.map (some bm)) (.agg (hc h)) v).run Tryz.prog W=azh W bm (hc h) v W.heap[bm]? := by
 cases hb:W.heap[bm]? with
 |none=>rfl
 |some ob =>
  cases ob with
  |map es c =>
   rw[al6]
   by_cases he:es=#[]∧c=0
   ·rw[if_pos he]
    obtain⟨rfl,rfl⟩:=he
    unfold aIp
    have h2:(Instr.findKey 24 (.agg (hc h)) []).run Tryz.prog W = .ok none W:=by
     rw[run_findKey_eq W (by rw[Tryz.underlying24]) (.agg (hc h)) []]
     rfl
    simp[Instr.mapUpdate,run_underlying Tryz.underlying169,MapKept.run_getObj_map hb,abv _ h hl W,h2,MapKept.run_setObj_map _ hb,Result.andThen,ChangeMaps.setBlock]
   ·rw[if_neg he]
  |_=>rfl
theorem asz{W:World}{bm:Nat}{es:Array MapEntry}{c:Nat}(hb:W.heap[bm]? = some (.map es c))(o:Obj):Fr (λk=>k=bm) W (ChangeMaps.setBlock W bm o) :=
 ⟨rfl,rfl,rfl,by simp[ChangeMaps.setBlock],λi _ hi=>ChangeMaps.heap_setBlock_other hb _ (λe=>hi (by rw[e]))⟩
theorem aag(w:World)(o:Obj){n:Nat}(h:n=w.heap.size):(w.alloc o).heap[n]? = some o:=by rw[h];exact heap_alloc_new w o
theorem ag6{W:World}{bm g:Nat}{oo:Obj}(o:Obj)(hb:W.heap[bm]? = some (.map #[] 0))(h:W.heap[g]? = some oo)(hne:g≠bm):(ChangeMaps.setBlock W bm o).heap[g]? = some oo:=(ChangeMaps.heap_setBlock_other hb o hne).trans h
theorem aBy(W:World)(bm:Nat)(o:Obj):(ChangeMaps.setBlock W bm o).heap.size=W.heap.size:=by simp[ChangeMaps.setBlock]
theorem aC7(W:World):W.drew.heap.size=W.heap.size:=rfl
theorem aHa(HD:aJi)(HK:asu)(HH:aKc)(HW:aQo)(e s k:Nat)(h1:2≤e)(h2:e≤2016)(h3:1≤s)(h4:s≤2147483648)(h5:1≤k)(h6:k≤100)(vb:Value)(ovb:vb.oneCell'=true)(w:World)(zn:Cub w):
  Calls Tryz.prog 50 #[.agg (ruC e s k)] w λed w'=>(∃p bm q sl,ed = .returned (.tuple #[.pointer (some ⟨p,0,none⟩),.int .i64 0])∧TM w' p (ruC e s k) bm [Fh] [b0 vb] [q] (.slice (some ⟨sl,0,none⟩) 1 1) (chn [b0 vb])∧w.heap.size≤p∧w.heap.size≤bm∧w.heap.size≤q∧w.heap.size≤sl)∧Fr F0 w w':=by
 have hru:=ajg e s k aPl
 have HCk:=Lib.hid (ax2 HD HK e s k h1 h2 h3 h4 h5 h6)
 have HHs:=Lib.hid (HH Fh Fh.ok)
 have HTg:=Lib.hid (ahm HD Fh Fh.ok azg)
 have HWk:=Lib.hid (HW (btT Fh.bits) azg.2.2)
 have aO0:=Lib.hid zn
 have HLD:=Lib.hid (λW g (h:W.heap[g]? = some (.cells (ruC e s k) 49 (0,0)))=>ah8 e s k W g h)
 have l32:(uj Fh.bytes).length=32:=by simp[uj,tu]
 have hbd:=λW=>akm W _ _ (aDf Fh Fh.ok (uj Fh.bytes) l32 (wkN (btT Fh.bits)))
 have hbt:=λW bm a n c=>as8 W _ _ (aHq e s k bm a n c)
 have hup:=λW bm v=>aBz (uj Fh.bytes) l32 W bm v
 have hbl:=λW=>aa3 W (hc (uj Fh.bytes)) (jl l32)
 have HLH:=Lib.hid (λW q (hW:W.heap[q]? = some (.cells (acz Fh (uj Fh.bytes) (.pointer none) 0 (wkN (btT Fh.bits)) true) 145 (0,0)))=>show(iq 24 (.pointer (some ⟨q,68,none⟩))).run Tryz.prog W = .ok (.agg (hc (uj Fh.bytes))) W from
  abf l32 λj x hj=>by
   have hl:j<32:=by have:=(List.getElem?_eq_some_iff.1 hj).1;rw[List.length_map,l32]at this;exact this
   rw[cell_of_row W q (68+j) _ _ _ hW,ai7 Fh.ok l32 j hl]
   exact hj)
 have HTM:=Lib.hid (λW p bm q sl => @aIb W p (ruC e s k) bm q sl vb ovb)
 have sX:=jl l32
 have oX:=qg (uj Fh.bytes)
 have sB:=ahi (up := .pointer none) (ht:=0) (wk:=wkN (btT Fh.bits)) (tip:=true) Fh.ok l32
 have oB:=aHv (h:=Fh) (hs:=uj Fh.bytes) (up := .pointer none) (ht:=0) (wk:=wkN (btT Fh.bits)) (tip:=true) rfl
 have sR:=hru.size
 have oR:=hru.one
 have hmm := @run_makeMap Tryz.prog
 change Hid (∀w,Cub w→Calls Tryz.prog 19 #[.agg Fh.cells] w λe w'=>e = .returned (.agg (hc (uj Fh.bytes)))∧Fr F0 w w')at HHs
 generalize hc (uj Fh.bytes)=X at *
 generalize acz Fh (uj Fh.bytes) (.pointer none) 0 (wkN (btT Fh.bits)) true=B at *
 generalize btT Fh.bits=T at *
 generalize wkN T=wk at *
 generalize Fh.cells=Y at *
 generalize ruC e s k=R at *
 clear hru h1 h2 h3 h4 h5 h6 zn l32
 have r1:=heap_alloc_new w (.cells R 49)
 have F:=(Fr.refl F0 w).alloc (.cells R 49)
 have hg:=Nat.le_refl w.heap.size
 go_enter Tryz.func50,Tryz.ntmps50
 go_wp2_with fail
 generalize hW:w.alloc (.cells R 49)=W at *
 obtain⟨g1,hg1⟩:∃g1,w.heap.size=g1:=⟨_,rfl⟩
 rw[hg1]at r1 ⊢
 (with_reducible refine(HCk.out _ (aO0.out.fr F λf=>f)).mono ?_);rintro e1 w2 ⟨rfl,f⟩
 replace r1:=au f r1
 replace F:=F.trans' f
 clear f hW hg1
 go_upto_region 4 with fail
 refine jm (S:=(λw'=>(w'.heap[g1]? = some (.cells R 49 (0,0))∧(iq 47 (.pointer (some ⟨g1,4,none⟩))).run Tryz.prog w' = .ok (.agg Y) w')∧Fr F0 w w')) ?_ λak=>?_
 ·exact(by((try dsimp only)<;>(exact⟨⟨r1,HLD.out _ _ r1⟩,F.drew⟩)))
 refine aj 0 ?_
 refine aj 1 ?_
 refine aj 2 ?_
 refine aj 3 ?_
 refine aj 5 ?_
 refine aj 6 ?_
 refine jf 4 λK hK=>?_
 go_simp
 ((with_reducible refine(HHs.out _ (aO0.out.fr ak.2 λf=>f)).mono ?_);rintro e w5 ⟨rfl,f5⟩)
 refine rpu hK zz23 λak=>?_
 clear hK K
 refine jf 7 λK hK=>?_
 go_simp
 ((with_reducible refine(HTg.out _).mono ?_);rintro e w5 ⟨rfl,f5⟩)
 refine rpu hK zz23 λak=>?_
 clear hK K
 refine jf 8 λK hK=>?_
 go_simp
 ((with_reducible refine(HWk.out _).mono ?_);rintro e w5 ⟨rfl,f5⟩;have z5:=(ak.2.trans' f5).size)
 refine rpu hK zz23 λak=>?_
 clear hK K
 refine aj 9 ?_
 refine jf 10 λK hK=>?_
 go_simp
 refine rpu hK (by((try dsimp only)<;>(first|exact ak|exact⟨⟨bg ak.1.1,HLD.out _ _ (bg ak.1.1)⟩,ak.2.alloc _⟩))) λak=>?_
 clear hK K
 refine aj 11 ?_
 refine jg ?_
 all_goals
  clear r1 F
  have rq:=heap_alloc_new w5 (.cells B 145)
  generalize hWW:w5.alloc (.cells B 145)=W at *
  obtain⟨q,hq⟩:∃q,w5.heap.size=q:=⟨_,rfl⟩
  rw[hq]at rq z5 ⊢
  clear hWW hq
  obtain⟨⟨r1,_⟩,F⟩:=ak
  have HQ:=Lib.hid (And.intro (Array.getElem?_eq_some_iff.1 rq).1 (And.intro z5 (And.intro F.size (Array.getElem?_eq_some_iff.1 r1).1)))
  go_upto_region 5 with fail
  refine jm (S:=(λw'=>(w'.heap[g1]? = some (.cells R 49 (0,0))∧w'.heap[q]? = some (.cells B 145 (0,0))∧(iq 24 (.pointer (some ⟨q,68,none⟩))).run Tryz.prog w' = .ok (.agg X) w')∧Fr F0 W w')) ?_ λak=>?_
  ·exact(by((try dsimp only)<;>(exact⟨⟨r1,rq,HLH.out _ _ rq⟩,(Fr.refl F0 W).drew⟩)))
  refine aj 0 ?_
  refine aj 2 ?_
  refine aj 3 ?_
  refine aj 4 ?_
  refine aj 5 ?_
  refine aj 6 ?_
  refine aj 9 ?_
  refine aj 10 ?_
  refine aj 11 ?_
  refine aj 12 ?_
  refine rdy [1,13] ?_
  refine rco (λK hK=>?_) (rco (λK hK=>?_) AllReadyH.nil)
  go_simp
  refine rpu hK zz1 λak=>?_
  clear hK K
  refine rdy [7,13] ?_
  refine rco (λK hK=>?_) (rco (λK hK=>?_) AllReadyH.nil)
  go_simp
  refine rpu hK zz1 λak=>?_
  clear hK K
  refine aj 8 ?_
  refine jf 13 λK hK=>?_
  go_simp
  refine rpu hK zz1 λak=>?_
  clear hK K
  refine aj 14 ?_
  refine jf 15 λK hK=>?_
  go_simp
  refine rpu hK zz1 λak=>?_
  clear hK K
  refine aj 16 ?_
  refine aj 17 ?_
  refine jg ?_
  rotate_left
  go_simp
  refine rpu hK zz1 λak=>?_
  clear hK K
  refine jf 7 λK hK=>?_
  go_simp
  refine rpu hK zz1 λak=>?_
  clear hK K
  refine aj 8 ?_
  refine aj 14 ?_
  refine jf 15 λK hK=>?_
  go_simp
  refine rpu hK zz1 λak=>?_
  clear hK K
  refine aj 16 ?_
  refine aj 17 ?_
  refine jg ?_
  rotate_left
  go_simp
  refine rpu hK zz1 λak=>?_
  clear hK K
  refine jf 1 λK hK=>?_
  go_simp
  refine rpu hK zz1 λak=>?_
  clear hK K
  refine jf 7 λK hK=>?_
  go_simp
  refine rpu hK zz1 λak=>?_
  clear hK K
  refine aj 8 ?_
  refine aj 14 ?_
  refine jf 15 λK hK=>?_
  go_simp
  refine rpu hK zz1 λak=>?_
  clear hK K
  refine aj 16 ?_
  refine aj 17 ?_
  refine jg ?_
  rotate_left
  all_goals
   clear r1 rq
   have HH:=Lib.hid ak
   clear ak
   go_wp2_with fail
   go_ret2
   obtain⟨⟨h1,h2,_⟩,f⟩:=HH.out
   refine⟨⟨_,_,q,_,rfl,HTM.out _ _ _ q _ (aag _ _ (by simp)) ?_ h2 ?_,?_,?_,HQ.out.2.1,?_⟩,F.trans' f⟩
   ·repeat(first|exact ChangeMaps.heap_setBlock_same zz29 _|refine bg ?_)
   ·repeat(first|exact heap_alloc_new _ _|exact aag _ _ (by simp)|refine bg ?_|refine ag6 _ zz29 ?_ (by simp))
   all_goals
    have:=HQ.out
    (try simp only[aBy,aC7,World.size_alloc])
    omega
end Go.Proofs.YtjlelckefiannaaGreatDoor
namespace Go.Proofs.YtjlelckefiannaaGreatDoor
set_option linter.unusedVariables false
set_option linter.unusedSimpArgs false
open Go.RowKit
theorem ka3{s1 s2 s4 s5 s6 s7 s8 s9 s10 s11 s12 s13 s14 s15 s16 s17 s18 s19 s20 s21 s22 s23 s24 s25 s26 s27 s28 s29 s30 s31 s32 s33 s34 s35 s36 s37 s38 s39 s40 s41 s42 s43 s44 s45 s46 s47 s48 s49 s50 s51 s52 s53 s54 s55 s56 s57 s58 s59 s60 s61 s62 s63 s64 s65 s66 s67 s68 s69 s70 s71 s72 s73 s74 s75 s76 s77 s78:Value}{K:Act→World→Prop}{Q:Exit→Act→World→Prop}(w w3:World)(C X HL HA:Array Value)(V:Value)(p bm g3:Nat)(HC:RowKit.Hid (Cub w))(H1:RowKit.Hid (∀w:World,Cub w→Calls Tryz.prog 19 #[.agg X] w λe w'=>e = .returned (.agg HL)∧Fr F0 w w'))(H2:RowKit.Hid (∀W:World,W.heap[g3]? = some (.cells X 47 (0,0))→(iq 24 (.pointer (some ⟨g3,1,none⟩))).run Tryz.prog W = .ok (.agg HA) W))(H3:RowKit.Hid (∀W:World,Fr F0 w W→(am2 (.map (some bm)) (.agg HA) false).run Tryz.prog W = .ok V W))(sC:C.size=75)(c72:C[72]? = some (.map (some bm)))(k72:72<C.size)(d72:C[72] = .map (some bm))(sX:X.size=68)(sH:HL.size=32)(oH:jh HL)(r1:w3.heap[p]? = some (.cells C 171 (0,0)))(r3:w3.heap[g3]? = some (.cells X 47 (0,0)))(F:Fr F0 w w3)
  (hK:RowKit.Hid (∀{u5 u6 u11 u12 u13 u14 u15 u16 u17 u18 u19:Value} {w':World},((∃g5:Nat,u5 = .pointer (some ⟨g5,0,none⟩)∧w'.heap[g5]? = some (.cells HL 24 (0,0))∧w.heap.size≤g5)∧u6=V∧w'.heap[p]? = some (.cells C 171 (0,0))∧w'.heap[g3]? = some (.cells X 47 (0,0))∧Fr F0 w w')→K ⟨#[.pointer (some ⟨p,0,none⟩),s1,s2,.pointer (some ⟨g3,0,none⟩),s4,u5,u6,s7,s8,s9,s10,u11,u12,u13,u14,u15,u16,u17,u18,u19,s20,s21,s22,s23,s24,s25,s26,s27,s28,s29,s30,s31,s32,s33,s34,s35,s36,s37,s38,s39,s40,s41,s42,s43,s44,s45,s46,s47,s48,s49,s50,s51,s52,s53,s54,s55,s56,s57,s58,s59,s60,s61,s62,s63,s64,s65,s66,s67,s68,s69,s70,s71,s72,s73,s74,s75,s76,s77,s78],[]⟩ w')) :
  Code.wp Tryz.prog ((Tryz.f57.body.bind (jw 3)).getD .skip) (Exit.then K Q) ⟨#[.pointer (some ⟨p,0,none⟩),s1,s2,.pointer (some ⟨g3,0,none⟩),s4,s5,s6,s7,s8,s9,s10,s11,s12,s13,s14,s15,s16,s17,s18,s19,s20,s21,s22,s23,s24,s25,s26,s27,s28,s29,s30,s31,s32,s33,s34,s35,s36,s37,s38,s39,s40,s41,s42,s43,s44,s45,s46,s47,s48,s49,s50,s51,s52,s53,s54,s55,s56,s57,s58,s59,s60,s61,s62,s63,s64,s65,s66,s67,s68,s69,s70,s71,s72,s73,s74,s75,s76,s77,s78],[]⟩ w3:=by
 conv=>arg 2;whnf
 have HG:=Lib.hid (And.intro (Array.getElem?_eq_some_iff.1 r1).1 (And.intro (Array.getElem?_eq_some_iff.1 r3).1 F.size))
 refine jm (S:=(λw'=>(w'.heap[p]? = some (.cells C 171 (0,0))∧w'.heap[g3]? = some (.cells X 47 (0,0))∧(iq 24 (.pointer (some ⟨g3,1,none⟩))).run Tryz.prog w' = .ok (.agg HA) w'∧(am2 (.map (some bm)) (.agg HA) false).run Tryz.prog w' = .ok V w')∧Fr F0 w w')) ?_ λak=>?_
 ·exact(by((try dsimp only)<;>(exact⟨⟨r1,r3,H2.out _ r3,H3.out _ F.drew⟩,F.drew⟩)))
 refine aj 0 ?_
 refine aj 2 ?_
 refine aj 3 ?_
 refine aj 4 ?_
 refine aj 5 ?_
 refine aj 6 ?_
 refine aj 7 ?_
 refine aj 8 ?_
 refine rdy [1,9] ?_
 refine rco (λK hK=>?_) (rco (λK hK=>?_) AllReadyH.nil)
 go_simp
 ((with_reducible refine(H1.out _ (HC.out.fr ak.2 λf=>f)).mono ?_);rintro e w5 ⟨rfl,f5⟩;have z5:=f5.size;(try simp only[World.size_alloc,dh]at z5))
 refine rpu hK zz16 λak=>?_
 clear hK K
 refine jf 9 λK hK=>?_
 go_simp
 refine rpu hK zz2 λak=>?_
 clear hK K
 refine jf 10 λK hK=>?_
 go_simp
 (try(rw[je (old:=hc z32) (t':=24) (by((try rw[←Array.getElem?_eq_getElem]);repeat(first|exact heap_alloc_new _ _|refine bg ?_|refine au (by assumption) ?_))) (jl yg) sH oH];go_simp))
 refine rpu hK zz2 λak=>?_
 clear hK K
 refine aj 11 ?_
 refine jg ?_
 rotate_left
 go_simp
 refine rpu hK zz2 λak=>?_
 clear hK K
 refine jf 1 λK hK=>?_
 go_simp
 ((with_reducible refine(H1.out _ (HC.out.fr ak.2 λf=>f)).mono ?_);rintro e w5 ⟨rfl,f5⟩;have z5:=f5.size;(try simp only[World.size_alloc,dh]at z5))
 refine rpu hK zz16 λak=>?_
 clear hK K
 refine jf 10 λK hK=>?_
 go_simp
 (try(rw[je (old:=hc z32) (t':=24) (by((try rw[←Array.getElem?_eq_getElem]);repeat(first|exact heap_alloc_new _ _|refine bg ?_|refine au (by assumption) ?_))) (jl yg) sH oH];go_simp))
 refine rpu hK zz2 λak=>?_
 clear hK K
 refine aj 11 ?_
 refine jg ?_
 rotate_left
 all_goals
  refine hK.out ⟨⟨_,rfl,?_,?_⟩,rfl,ak.1.1,ak.1.2.1,ak.2⟩
  ·refine(qp (z:=hc z32) (t:=24) (f:=(0,0)) ?_)
   repeat(first|exact heap_alloc_new _ _|refine bg ?_|refine au (by assumption) ?_)
  ·have:=HG.out
   (try simp only[World.size_alloc,dh])
   omega
theorem ka16{s0 s1 s2 s4 s5 s7 s8 s9 s10 s11 s12 s13 s14 s15 s16 s17 s18 s19 s20 s21 s22 s23 s24 s25 s26 s27 s28 s29 s30 s31 s32 s33 s34 s35 s36 s37 s38 s39 s40 s41 s42 s43 s44 s45 s46 s47 s48 s49 s50 s51 s52 s53 s54 s55 s56 s57 s58 s59 s60 s61 s62 s63 s64 s65 s66 s67 s68 s69 s70 s71 s72 s73 s74 s75 s76 s77 s78:Value}{K:Act→World→Prop}{Q:Exit→Act→World→Prop}(w w3:World)(X B:Array Value)(T x y z g3 q:Nat)(H1:RowKit.Hid (∀w:World,Calls Tryz.prog 90 #[.agg X] w λe w'=>e = .returned (.agg (gu .u64 64 4 T))∧Fr F0 w w'))(H2:RowKit.Hid (∀w:World,Calls Tryz.prog 89 #[.agg (gu .u64 64 4 T)] w λe w'=>e = .returned (.agg (gu .u64 64 4 y))∧Fr F0 w w'))(H3:RowKit.Hid (∀w:World,Calls Tryz.prog 105 #[.agg (gu .u64 64 4 x),.agg (gu .u64 64 4 y)] w λe w'=>e = .returned (.tuple #[.agg (gu .u64 64 4 z),.bool false])∧Fr F0 w w'))(H4:RowKit.Hid (∀W:World,W.heap[q]? = some (.cells B 145 (0,0))→(iq 143 (.pointer (some ⟨q,102,none⟩))).run Tryz.prog W = .ok (.agg (gu .u64 64 4 x)) W))(sB:B.size=107)(sX:X.size=68)(r2:w3.heap[q]? = some (.cells B 145 (0,0)))(r3:w3.heap[g3]? = some (.cells X 47 (0,0)))(F:Fr F0 w w3)
  (hK:RowKit.Hid (∀{u7 u8 u55 u56 u57 u58 u59 u60 u61 u62 u63 u64 u65:Value} {w':World},((∃g7:Nat,u7 = .pointer (some ⟨g7,0,none⟩)∧w'.heap[g7]? = some (.cells (gu .u64 64 4 z) 143 (0,0))∧w.heap.size≤g7)∧Fr F0 w3 w')→K ⟨#[s0,s1,s2,.pointer (some ⟨g3,0,none⟩),s4,s5,.pointer (some ⟨q,0,none⟩),u7,u8,s9,s10,s11,s12,s13,s14,s15,s16,s17,s18,s19,s20,s21,s22,s23,s24,s25,s26,s27,s28,s29,s30,s31,s32,s33,s34,s35,s36,s37,s38,s39,s40,s41,s42,s43,s44,s45,s46,s47,s48,s49,s50,s51,s52,s53,s54,u55,u56,u57,u58,u59,u60,u61,u62,u63,u64,u65,s66,s67,s68,s69,s70,s71,s72,s73,s74,s75,s76,s77,s78],[]⟩ w')) :
  Code.wp Tryz.prog ((Tryz.f57.body.bind (jw 16)).getD .skip) (Exit.then K Q) ⟨#[s0,s1,s2,.pointer (some ⟨g3,0,none⟩),s4,s5,.pointer (some ⟨q,0,none⟩),s7,s8,s9,s10,s11,s12,s13,s14,s15,s16,s17,s18,s19,s20,s21,s22,s23,s24,s25,s26,s27,s28,s29,s30,s31,s32,s33,s34,s35,s36,s37,s38,s39,s40,s41,s42,s43,s44,s45,s46,s47,s48,s49,s50,s51,s52,s53,s54,s55,s56,s57,s58,s59,s60,s61,s62,s63,s64,s65,s66,s67,s68,s69,s70,s71,s72,s73,s74,s75,s76,s77,s78],[]⟩ w3:=by
 conv=>arg 2;whnf
 have HG:=Lib.hid (And.intro (Array.getElem?_eq_some_iff.1 r2).1 (And.intro (Array.getElem?_eq_some_iff.1 r3).1 F.size))
 have F9:=Fr.refl F0 w3
 refine jm (S:=(λw'=>(w'.heap[q]? = some (.cells B 145 (0,0))∧w'.heap[g3]? = some (.cells X 47 (0,0))∧(iq 143 (.pointer (some ⟨q,102,none⟩))).run Tryz.prog w' = .ok (.agg (gu .u64 64 4 x)) w')∧Fr F0 w3 w')) ?_ λak=>?_
 ·exact(by((try dsimp only)<;>(exact⟨⟨r2,r3,H4.out _ r2⟩,F9.drew⟩)))
 refine aj 0 ?_
 refine aj 1 ?_
 refine aj 2 ?_
 refine aj 3 ?_
 refine aj 4 ?_
 refine rdy [5,11] ?_
 refine rco (λK hK=>?_) (rco (λK hK=>?_) AllReadyH.nil)
 go_simp
 ((with_reducible refine(H1.out _).mono ?_);rintro e w5 ⟨rfl,f5⟩;have z5:=f5.size;(try simp only[World.size_alloc,dh]at z5))
 refine rpu hK aEm λak=>?_
 clear hK K
 refine rdy [6,11] ?_
 refine rco (λK hK=>?_) (rco (λK hK=>?_) AllReadyH.nil)
 go_simp
 ((with_reducible refine(H2.out _).mono ?_);rintro e w5 ⟨rfl,f5⟩;have z6:=f5.size;(try simp only[World.size_alloc,dh]at z6))
 refine rpu hK aEm λak=>?_
 clear hK K
 refine rdy [7,11] ?_
 refine rco (λK hK=>?_) (rco (λK hK=>?_) AllReadyH.nil)
 go_simp
 ((with_reducible refine(H3.out _).mono ?_);rintro e w5 ⟨rfl,f5⟩;have z7:=f5.size;(try simp only[World.size_alloc,dh]at z7))
 refine rpu hK aEm λak=>?_
 clear hK K
 refine aj 8 ?_
 refine aj 9 ?_
 refine aj 10 ?_
 refine jf 11 λK hK=>?_
 go_simp
 refine rpu hK zz5 λak=>?_
 clear hK K
 refine jf 12 λK hK=>?_
 go_simp
 (try(rw[je (old:=gu .u64 64 4 0) (t':=143) (by((try rw[←Array.getElem?_eq_getElem]);repeat(first|exact heap_alloc_new _ _|refine bg ?_|refine au (by assumption) ?_))) (dw _ _ _ _) (dw _ _ _ _) (iw _ _ _ _)];go_simp))
 refine rpu hK zz5 λak=>?_
 clear hK K
 refine aj 13 ?_
 refine jg ?_
 rotate_left
 go_simp
 refine rpu hK zz5 λak=>?_
 clear hK K
 refine jf 7 λK hK=>?_
 go_simp
 ((with_reducible refine(H3.out _).mono ?_);rintro e w5 ⟨rfl,f5⟩;have z7:=f5.size;(try simp only[World.size_alloc,dh]at z7))
 refine rpu hK aEm λak=>?_
 clear hK K
 refine aj 8 ?_
 refine aj 9 ?_
 refine aj 10 ?_
 refine jf 12 λK hK=>?_
 go_simp
 (try(rw[je (old:=gu .u64 64 4 0) (t':=143) (by((try rw[←Array.getElem?_eq_getElem]);repeat(first|exact heap_alloc_new _ _|refine bg ?_|refine au (by assumption) ?_))) (dw _ _ _ _) (dw _ _ _ _) (iw _ _ _ _)];go_simp))
 refine rpu hK zz5 λak=>?_
 clear hK K
 refine aj 13 ?_
 refine jg ?_
 rotate_left
 go_simp
 refine rpu hK zz5 λak=>?_
 clear hK K
 refine jf 6 λK hK=>?_
 go_simp
 ((with_reducible refine(H2.out _).mono ?_);rintro e w5 ⟨rfl,f5⟩;have z6:=f5.size;(try simp only[World.size_alloc,dh]at z6))
 refine rpu hK aEm λak=>?_
 clear hK K
 refine jf 7 λK hK=>?_
 go_simp
 ((with_reducible refine(H3.out _).mono ?_);rintro e w5 ⟨rfl,f5⟩;have z7:=f5.size;(try simp only[World.size_alloc,dh]at z7))
 refine rpu hK aEm λak=>?_
 clear hK K
 refine aj 8 ?_
 refine aj 9 ?_
 refine aj 10 ?_
 refine jf 12 λK hK=>?_
 go_simp
 (try(rw[je (old:=gu .u64 64 4 0) (t':=143) (by((try rw[←Array.getElem?_eq_getElem]);repeat(first|exact heap_alloc_new _ _|refine bg ?_|refine au (by assumption) ?_))) (dw _ _ _ _) (dw _ _ _ _) (iw _ _ _ _)];go_simp))
 refine rpu hK zz5 λak=>?_
 clear hK K
 refine aj 13 ?_
 refine jg ?_
 rotate_left
 go_simp
 refine rpu hK zz5 λak=>?_
 clear hK K
 refine jf 5 λK hK=>?_
 go_simp
 ((with_reducible refine(H1.out _).mono ?_);rintro e w5 ⟨rfl,f5⟩;have z5:=f5.size;(try simp only[World.size_alloc,dh]at z5))
 refine rpu hK aEm λak=>?_
 clear hK K
 refine jf 6 λK hK=>?_
 go_simp
 ((with_reducible refine(H2.out _).mono ?_);rintro e w5 ⟨rfl,f5⟩;have z6:=f5.size;(try simp only[World.size_alloc,dh]at z6))
 refine rpu hK aEm λak=>?_
 clear hK K
 refine jf 7 λK hK=>?_
 go_simp
 ((with_reducible refine(H3.out _).mono ?_);rintro e w5 ⟨rfl,f5⟩;have z7:=f5.size;(try simp only[World.size_alloc,dh]at z7))
 refine rpu hK aEm λak=>?_
 clear hK K
 refine aj 8 ?_
 refine aj 9 ?_
 refine aj 10 ?_
 refine jf 12 λK hK=>?_
 go_simp
 (try(rw[je (old:=gu .u64 64 4 0) (t':=143) (by((try rw[←Array.getElem?_eq_getElem]);repeat(first|exact heap_alloc_new _ _|refine bg ?_|refine au (by assumption) ?_))) (dw _ _ _ _) (dw _ _ _ _) (iw _ _ _ _)];go_simp))
 refine rpu hK zz5 λak=>?_
 clear hK K
 refine aj 13 ?_
 refine jg ?_
 rotate_left
 all_goals
  refine hK.out ⟨⟨_,rfl,?_,?_⟩,ak.2⟩
  ·refine(qp (z:=gu .u64 64 4 0) (t:=143) (f:=(0,0)) ?_)
   repeat(first|exact heap_alloc_new _ _|refine bg ?_|refine au (by assumption) ?_)
  ·have:=HG.out
   (try simp only[World.size_alloc,dh])
   omega
def nbB(h:Hd)(v:Value)(i:Nat):Bk:=⟨uj h.bytes,(i:Int),h.time,h.bits,v⟩
structure TB (L:List Bk) (e span limit:Nat):Prop where
 bits:∀i,i<L.length→btP (bkT L i).bits
 next:∀i,i<L.length→btP (afw L e span limit i)∧btT (afw L e span limit i)≤btT limit∧su L i+wkN (btT (afw L e span limit i))<ng
theorem aMx{h:Hd}(o:h.Ok)(W:World)(g:Nat){t:TypeId}{f:Nat×Nat}(hg:W.heap[g]? = some (.cells h.cells t f)):(iq 24 (.pointer (some ⟨g,1,none⟩))).run Tryz.prog W = .ok (.agg (hc h.ahead)) W :=
 abf o.ahead λj u hj=>by
  have hl:j<32:=by have:=(List.getElem?_eq_some_iff.1 hj).1;rw[List.length_map,o.ahead]at this;exact this
  rw[cell_of_row W g (1+j) _ _ _ hg]
  have:=Hd.aJs o
  have e:=congrArg (λl:List Value=>l[j]?) this
  simp only[Array.getElem?_toList,Array.getElem?_extract]at e
  rw[if_pos (by have:=Hd.qw o;omega)]at e
  rw[e]
  exact hj
theorem aHb{w:World}{p:Nat}{R:Array Value}{bm:Nat}{H:List Hd}{L:List Bk}{ps:List Nat}{v:Value}{e span limit:Nat}(ri:RI R e span limit)(I:TI H L ps)(tb:TB L e span limit)(T:TM w p R bm H L ps v (chn L))(h:Hd)(oh:h.Ok)(vb vc:Value)(ovb:vb.oneCell'=true)(zn:Cub w):
  Calls Tryz.prog 57 #[.pointer (some ⟨p,0,none⟩),.agg h.cells] w λed w'=>ed = .returned (.int .i64 (aE2 L e span limit (adg h vc) h.ahead (mtH h))) ∧
   (aE2 L e span limit (adg h vc) h.ahead (mtH h)≠0→Fr F0 w w') ∧
   (aE2 L e span limit (adg h vc) h.ahead (mtH h)=0→∃i:Nat,yj L h.ahead=(i:Int)∧∃q v',NB H L ps i h (nbB h vb i) q∧TM w' p R bm (H ++ [h]) (L ++ [nbB h vb i]) (ps ++ [q]) v' (chn (L ++ [nbB h vb i]))∧w.heap.size≤q∧(∀k,v'.ownBlock=some k→v.ownBlock=some k∨w.heap.size≤k)∧Fr (TS p bm ps v) w w'):=by
 have HH:=Lib.hid (aji h oh)
 have l32:(uj h.bytes).length=32:=by simp[uj,tu]
 change Hid (∀w,Cub w→Calls Tryz.prog 19 #[.agg h.cells] w λe w'=>e = .returned (.agg (hc (uj h.bytes)))∧Fr F0 w w')at HH
 have hR:R.size=72:=by obtain⟨c,hr⟩:=ri.of;exact hr.size
 have HI:=Lib.hid (And.intro I (And.intro ri (And.intro tb hR)))
 have HT:=Lib.hid T
 have aO0:=Lib.hid zn
 have HL1:=Lib.hid (λW (f:Fr F0 w W)=>(T.fr f).map.look I.h32 h.ahead oh.ahead)
 have HL2:=Lib.hid (λW (f:Fr F0 w W)=>(T.fr f).map.look I.h32 (uj h.bytes) l32)
 have HLA:=Lib.hid (λW g (hg:W.heap[g]? = some (.cells h.cells 47 (0,0)))=>aMx oh W g hg)
 have r1:=T.top
 have sC:=aa1 (bm:=bm) (v:=v) (afu:=uq L) hR
 have c72:=ajn (bm:=bm) (v:=v) (afu:=uq L) hR
 generalize ado R bm v (uq L)=C at *
 have s72:72<C.size:=by omega
 have d72:=jd c72 s72
 have sX:=Hd.qw oh
 have oX:jh h.cells:=Hd.one
 have x65:=Hd.azx oh
 have x66:=Hd.azw oh
 have sH:=jl l32
 have oH:=qg (uj h.bytes)
 obtain⟨X,hX⟩:∃X,h.cells=X:=⟨_,rfl⟩
 obtain⟨HL,hHL⟩:∃HL,hc (uj h.bytes)=HL:=⟨_,rfl⟩
 obtain⟨HA,hHA⟩:∃HA,hc h.ahead=HA:=⟨_,rfl⟩
 rw[hX]at HH HLA sX oX x65 x66 ⊢
 rw[hHL]at HH HL2 sH oH
 rw[hHA]at HL1 HLA
 have HXX:=Lib.hid (And.intro hX (And.intro hHL hHA))
 have s65:65<X.size:=by omega
 have d65:=jd x65 s65
 have s66:66<X.size:=by omega
 have d66:=jd x66 s66
 obtain⟨E,hE⟩:∃E,aE2 L e span limit (adg h vc) h.ahead (mtH h)=E:=⟨_,rfl⟩
 rw[hE]
 have HE:=Lib.hid (show E=if 0≤yj L (uj h.bytes)then 9 else if yj L h.ahead<0 then 8 else mayE L e span limit (adg h vc) (yj L h.ahead).toNat (mtH h)from by rw[←hE];rfl)
 obtain⟨z1,hz1⟩:∃z1,yj L (uj h.bytes)=z1:=⟨_,rfl⟩
 obtain⟨z2,hz2⟩:∃z2,yj L h.ahead=z2:=⟨_,rfl⟩
 rw[hz1]at HE HL2
 rw[hz2]at HE HL1
 have hlt2:=afg h.ahead L
 rw[hz2]at hlt2
 have HZ:=Lib.hid (And.intro hz1 (And.intro hz2 hlt2))
 have HOH:=Lib.hid oh
 have HOB:=Lib.hid ovb
 have HL32:=Lib.hid l32
 clear T I ri tb hR zn hX hHL hHA hE hz1 hz2 hlt2 oh ovb l32
 replace r1:=bg (o := .cells X 47) r1
 have r3:=heap_alloc_new w (.cells X 47)
 have F:=(Fr.refl F0 w).alloc (.cells X 47)
 go_enter Tryz.func57,Tryz.ntmps57
 go_upto_region 3 with fail
 obtain⟨W0,hW0⟩:∃W,W=w.alloc (.cells X 47):=⟨_,rfl⟩
 refine jo W0 hW0 ?_
 rw[←hW0]at r1 r3 F
 obtain⟨g3,hg3⟩:∃g,w.heap.size=g:=⟨_,rfl⟩
 rw[hg3]at r3 ⊢
 have HG3:=Lib.hid hg3
 clear hW0 hg3
 refine ka3 w W0 C X HL HA (ptV ps z2) p bm g3 aO0 HH (Lib.hid λW hW=>HLA.out W g3 hW) HL1 sC c72 s72 d72 sX sH oH r1 r3 F (Lib.hid ?_)
 clear r1 r3 F
 rename_i w3
 rintro⟨⟨g5,rfl,r5,hg5⟩,rfl,r1,r3,F⟩
 have HG5:=Lib.hid hg5
 clear hg5
 have h2:=HL2.out _ F.drew
 have hcase1:(0≤z1∧∃k:Nat,ptV ps z1 = .pointer (some ⟨k,0,none⟩))∨(¬0≤z1∧ptV ps z1 = .pointer none):=by
  by_cases hz:0≤z1
  ·obtain⟨k,rfl⟩:=Int.eq_ofNat_of_zero_le hz
   exact .inl ⟨hz,_,vw ps k⟩
  ·exact .inr ⟨hz,afe ps aPl⟩
 have oV1:=aAn ps z1
 generalize ptV ps z1=V1 at *
 rcases hcase1 with⟨hz1,k1,rfl⟩|⟨hz1,rfl⟩
 ·have HX:=Lib.hid (show E=9 by rw[HE.out,if_pos hz1])
  go_upto_region 4 with fail
  refine jm (S:=(λw'=>(w'.heap[p]? = some (.cells C 171 (0,0))∧w'.heap[g3]? = some (.cells X 47 (0,0))∧w'.heap[g5]? = some (.cells HL 24 (0,0))∧(am2 (.map (some bm)) (.agg HL) false).run Tryz.prog w' = .ok (.pointer (some ⟨k1,0,none⟩)) w')∧Fr F0 w w')) ?_ λak=>?_
  ·exact zz42
  refine aj 0 ?_
  refine aj 1 ?_
  refine aj 2 ?_
  refine aj 3 ?_
  refine aj 4 ?_
  refine jf 5 λK hK=>?_
  go_simp
  refine rpu hK abz λak=>?_
  clear hK K
  refine aj 6 ?_
  refine aj 7 ?_
  refine jg ?_
  all_goals
   clear r1 r3 r5 F h2
   obtain⟨⟨r1,r3,r5,_⟩,F⟩:=ak
   generalize w3.drew=w4 at *
   go_wp2_with fail
   go_ret
   refine⟨by rw[HX.out];rfl,λ_=>F,λh0=>?_⟩
   rw[HX.out]at h0
   cases h0
 ·replace HE:=Lib.hid (show E=if z2<0 then 8 else mayE L e span limit (adg h vc) z2.toNat (mtH h)from by rw[HE.out,if_neg hz1])
  have HNEW:=Lib.hid hz1
  clear hz1
  go_upto_region 4 with fail
  refine jm (S:=(λw'=>(w'.heap[p]? = some (.cells C 171 (0,0))∧w'.heap[g3]? = some (.cells X 47 (0,0))∧w'.heap[g5]? = some (.cells HL 24 (0,0))∧(am2 (.map (some bm)) (.agg HL) false).run Tryz.prog w' = .ok (.pointer none) w')∧Fr F0 w w')) ?_ λak=>?_
  ·exact zz42
  refine aj 0 ?_
  refine aj 1 ?_
  refine aj 2 ?_
  refine aj 3 ?_
  refine aj 4 ?_
  refine jf 5 λK hK=>?_
  go_simp
  refine rpu hK abz λak=>?_
  clear hK K
  refine aj 6 ?_
  refine aj 7 ?_
  refine jg ?_
  all_goals
   clear r1 r3 r5 F h2
   obtain⟨⟨r1,r3,r5,_⟩,F⟩:=ak
   generalize w3.drew=w4 at *
   by_cases hz2:z2<0
   ·have HX:=Lib.hid (show E=8 by rw[HE.out,if_pos hz2])
    rw[afe ps hz2]
    clear hz2
    go_wp2_with fail
    go_ret
    refine⟨by rw[HX.out];rfl,λ_=>F,λh0=>?_⟩
    rw[HX.out]at h0
    cases h0
   ·obtain⟨i,rfl,hi⟩:∃i:Nat,z2=i∧i<L.length:=by
     rcases HZ.out.2.2 with hh|hh
     ·omega
     ·exact hh
    replace HE:=Lib.hid (show E=mayE L e span limit (adg h vc) i (mtH h)from by rw[HE.out,if_neg hz2,Int.toNat_natCast])
    clear hz2
    have HII:=Lib.hid hi
    rw[vw]
    obtain⟨I,ri,tb,hR⟩:=HI.out
    have HB:=Lib.hid (λW (f:Fr F0 w W)=>amr aJe aQj aJp ri I (HT.out.fr f) i hi (tb.bits i hi))
    have HMd:=Lib.hid (λW (f:Fr F0 w W)=>atj I (HT.out.fr f) i hi)
    have HRm:=Lib.hid (λW (f:Fr F0 w W)=>aq8 hR I (HT.out.fr f) i hi)
    have HNX:=Lib.hid (tb.next i hi)
    have HBK:=Lib.hid (λW (f:Fr F0 w W)=>(HT.out.fr f).blk i hi)
    have sB:=I.aau hi
    have HLW:=Lib.hid (λW (hW:W.heap[ps.getD i 0]? = some (.cells (yt H L ps i) 145 (0,0)))=>show(iq 143 (.pointer (some ⟨ps.getD i 0,102,none⟩))).run Tryz.prog W = .ok (.agg (gu .u64 64 4 (su L i))) W from by
     have:=run_loadAt_mid (P:=Tryz.prog) W (ps.getD i 0) 102 143 (gu .u64 64 4 (su L i)).toList _ (λj x hj=>by
      have hl:j<4:=by have:=(List.getElem?_eq_some_iff.1 hj).1;rw[aah]at this;exact this
      rw[cell_of_row W _ (102+j) _ _ _ hW,yt,asn (I.hd i hi).1 (I.at32 hi) j hl]
      simpa using hj) Tryz.underlying143 rfl (by rw[aah];kernel_rfl)
     rw[Array.toArray_toList]at this
     exact this)
    have b101:(yt H L ps i)[101]? = some (.int .i64 (ig L i:Int)):=aeo (I.hd i hi).1 (I.at32 hi)
    have HHT:=Lib.hid (I.height hi)
    have HQL:=Lib.hid (λk (hk:k<L.length)=>(Array.getElem?_eq_some_iff.1 (HT.out.blk k hk)).1)
    have HWI:=Lib.hid (I.wk i hi)
    obtain⟨q,hq⟩:∃q,ps.getD i 0=q:=⟨_,rfl⟩
    obtain⟨B,hB⟩:∃B,yt H L ps i=B:=⟨_,rfl⟩
    rw[hq]at HB HMd HRm HBK HLW ⊢
    rw[hB]at HBK HLW sB b101
    have HQB:=Lib.hid (And.intro hq hB)
    obtain⟨bi,hbi⟩:∃bi,afw L e span limit i=bi:=⟨_,rfl⟩
    rw[hbi]at HB HNX
    replace HE:=Lib.hid (show E=if ¬(bi=h.bits∧btP h.bits∧btT h.bits≤btT limit)then 6 else if mtH h=false then 7 else if h.time≤adw L i then 11 else if 4096≤L.length∨(abg L i=false∧16≤uq L)then 10 else 0 from by rw[HE.out,←hbi];rfl)
    clear I ri tb hR hi hq hB hbi
    by_cases hb:bi=h.bits
    ·obtain⟨n1,n2,n3⟩:=HNX.out
     replace HE:=Lib.hid (show E=if mtH h=false then 7 else if h.time≤adw L i then 11 else if 4096≤L.length∨(abg L i=false∧16≤uq L)then 10 else 0 from by
      rw[HE.out,if_neg]
      rw[←hb]
      exact λhh=>hh ⟨rfl,n1,n2⟩)
     have HMM:=Lib.hid (λW=>show Calls Tryz.prog 87 #[.agg HL,.agg (gu .u64 64 4 (btT h.bits))] W λe w'=>e = .returned (.bool (mtH h))∧Fr F0 W w' from by
      have:=azr (ofLE (uj h.bytes)) (btT h.bits) (mtH h) (asj _ HL32.out) (by rw[←hb];exact n1.2.2) (by
       unfold mtH hsh
       exact decide_eq_decide.2 ⟨λhh=>⟨by rw[←hb];exact n1,hh⟩,λhh=>hh.2⟩) W
      rw[←an9 _ HL32.out]at this
      rw[←HXX.out.2.1]
      exact this)
     have HTg:=Lib.hid (λW=>ahm aJe h HOH.out (by rw[←hb];exact n1) W)
     rw[HXX.out.1]at HTg
     have HWk:=Lib.hid (aP2 (btT h.bits) (by rw[←hb];exact n1.2.2))
     rw[hb]at n3
     have HAd:=Lib.hid (λW=>show Calls Tryz.prog 105 #[.agg (gu .u64 64 4 (su L i)),.agg (gu .u64 64 4 (wkN (btT h.bits)))] W λe w'=>e = .returned (.tuple #[.agg (gu .u64 64 4 (su L i+wkN (btT h.bits))),.bool false])∧Fr F0 W w' from by
      have:=aiz (su L i) (wkN (btT h.bits)) HWI.out aP4 W
      rw[Nat.mod_eq_of_lt n3,decide_eq_false aPl]at this
      exact this)
     have HN3:=Lib.hid n3
     rw[hb]at HB
     have lne:((h.bits:Int) != (h.bits:Int))=false:=by rw[bne_self_eq_false]
     obtain⟨T,hT⟩:∃T,btT h.bits=T:=⟨_,rfl⟩
     rw[hT]at HMM HTg HWk HAd HN3
     have HTT:=Lib.hid hT
     obtain⟨mt,hmt⟩:∃mt,mtH h=mt:=⟨_,rfl⟩
     rw[hmt]at HE HMM
     clear n1 n2 n3 hb hT hmt
     go_upto_region 8 with fail
     refine jm (S:=(λw'=>(w'.heap[p]? = some (.cells C 171 (0,0))∧w'.heap[g3]? = some (.cells X 47 (0,0))∧w'.heap[g5]? = some (.cells HL 24 (0,0)))∧Fr F0 w w')) ?_ λak=>?_
     ·exact zz44
     refine aj 0 ?_
     refine aj 1 ?_
     refine aj 2 ?_
     refine aj 3 ?_
     refine jf 4 λK hK=>?_
     go_simp
     ((with_reducible refine(HB.out _ ak.2).mono ?_);rintro e w5 ⟨rfl,f5⟩)
     refine rpu hK aKs λak=>?_
     clear hK K
     refine aj 5 ?_
     refine aj 6 ?_
     refine jg ?_
     all_goals
      clear r1 r3 r5 F
      obtain⟨⟨r1,r3,r5⟩,F⟩:=ak
      go_upto_region 10 with fail
      refine jm (S:=(λw'=>(w'.heap[p]? = some (.cells C 171 (0,0))∧w'.heap[g3]? = some (.cells X 47 (0,0))∧w'.heap[g5]? = some (.cells HL 24 (0,0)))∧Fr F0 w w')) ?_ λak=>?_
      ·exact zz44
      refine aj 0 ?_
      refine aj 1 ?_
      refine jf 2 λK hK=>?_
      go_simp
      ((with_reducible refine(HTg.out _).mono ?_);rintro e w5 ⟨rfl,f5⟩)
      refine rpu hK aKs λak=>?_
      clear hK K
      refine jf 3 λK hK=>?_
      go_simp
      ((with_reducible refine(HMM.out _).mono ?_);rintro e w5 ⟨rfl,f5⟩)
      refine rpu hK aKs λak=>?_
      clear hK K
      refine aj 4 ?_
      refine aj 5 ?_
      refine jg ?_
      all_goals
       clear r1 r3 r5 F
       obtain⟨⟨r1,r3,r5⟩,F⟩:=ak
       cases mt
       ·have HX:=Lib.hid (show E=7 by rw[HE.out];exact if_pos rfl)
        go_wp2_with fail
        go_ret
        refine⟨by rw[HX.out];rfl,λ_=>F,λh0=>?_⟩
        rw[HX.out]at h0
        cases h0
       ·replace HE:=Lib.hid (show E=if h.time≤adw L i then 11 else if 4096≤L.length∨(abg L i=false∧16≤uq L)then 10 else 0 from by rw[HE.out];exact if_neg (by simp))
        obtain⟨md,hmd⟩:∃md,adw L i=md:=⟨_,rfl⟩
        rw[hmd]at HE HMd
        clear hmd
        obtain⟨tl,htl⟩:∃tl,decide ((h.time:Int)≤(md:Int))=tl:=⟨_,rfl⟩
        have HTL:=Lib.hid htl
        go_upto_region 12 with fail
        refine jm (S:=(λw'=>(w'.heap[p]? = some (.cells C 171 (0,0))∧w'.heap[g3]? = some (.cells X 47 (0,0))∧w'.heap[g5]? = some (.cells HL 24 (0,0)))∧Fr F0 w w')) ?_ λak=>?_
        ·exact zz44
        refine aj 0 ?_
        refine aj 1 ?_
        refine aj 2 ?_
        refine jf 3 λK hK=>?_
        go_simp
        ((with_reducible refine(HMd.out _ ak.2).mono ?_);rintro e w5 ⟨rfl,f5⟩)
        refine rpu hK aKs λak=>?_
        clear hK K
        refine aj 4 ?_
        refine aj 5 ?_
        refine jg ?_
        all_goals
         clear r1 r3 r5 F
         obtain⟨⟨r1,r3,r5⟩,F⟩:=ak
         by_cases hm:h.time≤md
         ·have HX:=Lib.hid (show E=11 by rw[HE.out];exact if_pos hm)
          have hm2:(h.time:Int)≤(md:Int):=by omega
          clear htl
          go_wp2_with fail
          go_ret
          refine⟨by rw[HX.out];rfl,λ_=>F,λh0=>?_⟩
          rw[HX.out]at h0
          cases h0
         ·replace HE:=Lib.hid (show E=if 4096≤L.length∨(abg L i=false∧16≤uq L)then 10 else 0 from by rw[HE.out];exact if_neg hm)
          have hm2:¬(h.time:Int)≤(md:Int):=by omega
          clear htl
          obtain⟨rm,hrm⟩:∃rm,(decide (L.length<4096)&&(abg L i||decide (uq L<16)))=rm:=⟨_,rfl⟩
          rw[hrm]at HRm
          have HRR:=Lib.hid hrm
          clear hrm
          go_wp2_with fail
          (with_reducible refine(HRm.out _ F).mono ?_);rintro e w6 ⟨rfl,f⟩
          replace r3:=au f r3
          replace r5:=au f r5
          replace F:=F.trans' f
          clear f r1
          cases rm
          ·have HX:=Lib.hid (show E=10 by
            rw[HE.out]
            refine if_pos ?_
            have hr:=HRR.out
            rw[Bool.and_eq_false_iff,Bool.or_eq_false_iff,decide_eq_false_iff_not,decide_eq_false_iff_not]at hr
            rcases hr with hr|hr
            ·exact .inl aPl
            ·exact .inr ⟨hr.1,by omega⟩)
           go_wp2_with fail
           go_ret
           refine⟨by rw[HX.out];rfl,λ_=>F,λh0=>?_⟩
           rw[HX.out]at h0
           cases h0
          ·have hr:=HRR.out
           rw[Bool.and_eq_true,Bool.or_eq_true,decide_eq_true_eq,decide_eq_true_eq]at hr
           have HX:=Lib.hid (show E=0 by
            rw[HE.out]
            refine if_neg ?_
            rintro(h1|⟨h1,h2⟩)
            ·omega
            ·rcases hr.2 with h3|h3
             ·rw[h1]at h3;cases h3
             ·omega)
           have HLL:=Lib.hid hr.1
           clear hr
           have r2:=HBK.out _ F
           go_upto_region 16 with fail
           refine ka16 w _ X B T (su L i) (wkN T) (su L i+wkN T) g3 q HTg HWk HAd HLW sB sX r2 r3 F (Lib.hid ?_)
           rename_i w9
           rintro⟨⟨g7,rfl,r7,hg7⟩,f9⟩
           replace r3:=au f9 r3
           replace r5:=au f9 r5
           replace F:=F.trans' f9
           replace r2:=au f9 r2
           clear f9
           obtain⟨ht1,hh1⟩:∃ht1,ig L i+1=ht1:=⟨_,rfl⟩
           have m1:IntKind.i64.wrap ((ig L i:Int)+1)=(ht1:Int):=by have:=HHT.out;rw[IntWalk.i64_in _ aPl];omega
           have hbd:=λW=>akm W _ _ (aHr h HOH.out (uj h.bytes) HL32.out (some ⟨q,0,none⟩) ht1 (su L i+wkN T))
           have hTSl:∀k,TS p bm ps v k→k<w.heap.size:=by
            rintro k (rfl|rfl|hk|hk)
            ·exact(Array.getElem?_eq_some_iff.1 HT.out.top).1
            ·exact HT.out.map.lt
            ·obtain⟨j,hj,rfl⟩:=List.getElem_of_mem hk
             have:=HQL.out j (by rw[←HI.out.1.arp];exact hj)
             rw[List.getD_eq_getElem?_getD,List.getElem?_eq_getElem hj]at this
             exact this
            ·obtain⟨cur,hc⟩:=aev HT.out.own hk
             exact(Array.getElem?_eq_some_iff.1 hc).1
           have HPut:=Lib.hid (fun(W:World) (f:Fr F0 w W) (qn:Nat) (hqn:w.heap.size≤qn) (hW:W.heap[qn]? = some (.cells (acz h (uj h.bytes) (.pointer (some ⟨q,0,none⟩)) ht1 (su L i+wkN T) false) 145 (0,0))) =>
            show Calls Tryz.prog 106 #[.pointer (some ⟨p,0,none⟩),.pointer (some ⟨qn,0,none⟩)] W λe w'=>e = .returned (.tuple #[])∧(∃v',NB H L ps i h (nbB h vb i) qn∧TM w' p R bm (H ++ [h]) (L ++ [nbB h vb i]) (ps ++ [qn]) v' (chn (L ++ [nbB h vb i]))∧∀k,v'.ownBlock=some k→v.ownBlock=some k∨w.heap.size≤k)∧Fr (λk=>k=qn∨TS p bm ps v k) W w' from by
             have hnb:NB H L ps i h (nbB h vb i) qn:=⟨HII.out,HOH.out,⟨HL32.out,HOH.out.time,HOH.out.bits,HOB.out⟩,rfl,rfl,rfl,rfl,by
              show yj L (uj h.bytes)<0
              rw[HZ.out.1];have:=HNEW.out;omega,λk hk=>by have:=HQL.out k hk;omega,by
              show su L i+wkN (btT h.bits)<ng
              rw[HTT.out];exact HN3.out,by have:=HLL.out;omega⟩
             refine(aG9 HI.out.2.2.2 HI.out.1 (HT.out.fr f) hnb ?_).mono ?_
             ·rw[hW,vw,HQB.out.1,hh1]
              show some (Obj.cells (acz h (uj h.bytes) (.pointer (some ⟨q,0,none⟩)) ht1 (su L i+wkN T) false) _ _)=some (Obj.cells (acz h (uj h.bytes) (.pointer (some ⟨q,0,none⟩)) ht1 (su L i+wkN (btT h.bits)) false) _ _)
              rw[HTT.out]
             ·rintro e w' ⟨rfl,⟨v',T',ho⟩,f'⟩
              exact⟨rfl,⟨v',hnb,T',λk hk=>(ho k hk).imp id λhh=>Nat.le_trans f.size hh⟩,f'⟩)
           have HTS:=Lib.hid (And.intro hTSl (And.intro F.size (And.intro (Array.getElem?_eq_some_iff.1 r3).1 (And.intro (Array.getElem?_eq_some_iff.1 r5).1 (And.intro (Array.getElem?_eq_some_iff.1 r7).1 (And.intro hg7 (And.intro HG5.out HG3.out)))))))
           have HKK:=Lib.hid (λg (h1:w.heap.size≤g) (h2:g<w9.heap.size)=>show ¬(g=w9.heap.size∨TS p bm ps v g)from λe=>e.elim (λe=>by omega) λe=>by have:=hTSl g e;omega)
           have hk3:=HKK.out g3 (by have:=HG3.out;omega) (Array.getElem?_eq_some_iff.1 r3).1
           have hk5:=HKK.out g5 HG5.out (Array.getElem?_eq_some_iff.1 r5).1
           have hk7:=HKK.out g7 hg7 (Array.getElem?_eq_some_iff.1 r7).1
           have HK3:=Lib.hid (And.intro hk3 (And.intro hk5 hk7))
           have hF:=F
           have ajd:101<B.size:=by omega
           have aOv:=jd b101 ajd
           rw[HXX.out.1,HXX.out.2.1]at hbd
           generalize acz h (uj h.bytes) (.pointer (some ⟨q,0,none⟩)) ht1 (su L i+wkN T) false=BN at *
           generalize su L i+wkN T=zz at *
           generalize ig L i=hti at *
           clear hTSl hk3 hk5 hk7 hg7 HHT
           go_upto_region 17 with fail
           refine jm (S:=(λw'=>(w'.heap[g3]? = some (.cells X 47 (0,0))∧w'.heap[g5]? = some (.cells HL 24 (0,0))∧w'.heap[g7]? = some (.cells (gu .u64 64 4 zz) 143 (0,0)))∧Fr (TS p bm ps v) w w')) ?_ λak=>?_
           ·exact(by((try dsimp only)<;>(exact⟨⟨r3,r5,r7⟩,F.drew.of0⟩)))
           refine aj 0 ?_
           refine aj 1 ?_
           refine aj 2 ?_
           refine aj 3 ?_
           refine aj 4 ?_
           refine aj 5 ?_
           refine aj 6 ?_
           refine aj 9 ?_
           refine jf 7 λK hK=>?_
           go_simp
           refine rpu hK zz7 λak=>?_
           clear hK K
           refine aj 8 ?_
           refine aj 10 ?_
           refine jf 11 λK hK=>?_
           go_simp
           refine rpu hK zz7 λak=>?_
           clear hK K
           refine jf 12 λK hK=>?_
           go_simp
           ((refine(HPut.out _ (hF.drew.alloc _) _ HTS.out.2.1 (heap_alloc_new _ _)).mono ?_);rintro e w5 ⟨rfl,⟨v',hnb,T5,aOn⟩,f5⟩)
           refine rpu hK (by((try dsimp only)<;>(first|exact ak|exact⟨⟨f5.keeps HK3.out.1 ak.1.1,f5.keeps HK3.out.2.1 ak.1.2.1,f5.keeps HK3.out.2.2 ak.1.2.2⟩,ak.2.trans f5 (λk hk e=>e.elim (λe=>absurd hk (by have:=HTS.out.2.1;omega)) id)⟩))) λak=>?_
           clear hK K
           refine jg ?_
           all_goals
            have HF:=Lib.hid (And.intro hnb (And.intro T5 (And.intro aOn ak.2)))
            clear hnb T5 aOn ak f5
            go_wp2_with fail
            go_ret
            exact⟨by rw[HX.out];rfl,λh0=>absurd HX.out h0,λ_=>⟨i,HZ.out.2.1,_,v',HF.out.1,HF.out.2.1,HTS.out.2.1,HF.out.2.2.1,HF.out.2.2.2⟩⟩
    ·have HX:=Lib.hid (show E=6 by rw[HE.out];exact if_pos λhh=>hb hh.1)
     have lne:((h.bits:Int) != (bi:Int))=true:=by rw[bne_iff_ne];omega
     have lne2:¬(h.bits:Int)=(bi:Int):=by omega
     have lne3:¬h.bits=bi:=by omega
     clear hb
     go_upto_region 8 with fail
     refine jm (S:=(λw'=>(w'.heap[p]? = some (.cells C 171 (0,0))∧w'.heap[g3]? = some (.cells X 47 (0,0))∧w'.heap[g5]? = some (.cells HL 24 (0,0)))∧Fr F0 w w')) ?_ λak=>?_
     ·exact zz44
     refine aj 0 ?_
     refine aj 1 ?_
     refine aj 2 ?_
     refine aj 3 ?_
     refine jf 4 λK hK=>?_
     go_simp
     ((with_reducible refine(HB.out _ ak.2).mono ?_);rintro e w5 ⟨rfl,f5⟩)
     refine rpu hK aKs λak=>?_
     clear hK K
     refine aj 5 ?_
     refine aj 6 ?_
     refine jg ?_
     all_goals
      have F:=ak.2
      go_wp2_with fail
      go_ret
      refine⟨by rw[HX.out];rfl,λ_=>F,λh0=>?_⟩
      rw[HX.out]at h0
      cases h0
theorem aP3{t k:Nat}(h:2 ^ k≤t)(hk:k≤256):wkN t≤2 ^ (256-k):=by
 have h0:0<2 ^ k:=Nat.pow_pos aPl
 unfold wkN
 rw[if_neg aPl,abk]
 have e:2 ^ (64*4)=2 ^ (256-k)*2 ^ k:=by rw[←Nat.pow_add];congr 1;omega
 rw[e]
 refine Nat.div_le_of_le_mul ?_
 rw[Nat.mul_comm]
 exact Nat.mul_le_mul_right _ aPl
theorem aM1{x:Nat}(h:0<x):x/2≤btT (enB x):=by
 rw[aFc,azi h]
 by_cases hc:aot x=0
 ·rw[hc,show by2 0=1 from rfl,Nat.div_one,Nat.mul_one];omega
 ·have h1:=(aM8 (t:=x) (c:=aot x) aPl h).1 (Nat.le_refl _)
  have h2:=Nat.div_add_mod x (by2 (aot x))
  have h3:=Nat.mod_lt x (ac8 (aot x))
  rw[Nat.mul_comm]at h2
  omega
theorem aFr{s:Nat}(hs:0<s)(k:Int):s≤8*tkN s k:=by
 unfold tkN
 split
 ·omega
 ·split<;>omega
theorem aQ9{t s top:Nat}(k:Int)(hs:0<s)(h:t≤top)(h8:8≤t):t/8≤scN t (tkN s k) s top:=by
 have h1:t/8≤t*tkN s k/s:=by
  rw[Nat.le_div_iff_mul_le hs]
  have e1:=aFr hs k
  have e2:t/8*s≤t/8*(8*tkN s k):=Nat.mul_le_mul_left _ e1
  have e3:t/8*(8*tkN s k)=(t/8*8)*tkN s k:=by rw[Nat.mul_assoc]
  have e4:(t/8*8)*tkN s k≤t*tkN s k:=Nat.mul_le_mul_right _ aPl
  omega
 unfold scN
 split
 ·omega
 ·split
  ·omega
  ·exact h1
theorem aJq{t x s top:Nat}(ht:0<top):scN t x s top≤top∧0<scN t x s top:=⟨aLq t x s top ht,aQ8 t x s top ht⟩
abbrev als:Nat:=545259519
theorem al2:btP als:=of_decide_eq_true (by decide +kernel:decide (btP 545259519)=true)
theorem aMp:2 ^ 254≤btT als:=of_decide_eq_true (by decide +kernel:decide (2 ^ 254≤btT 545259519)=true)
def okB(b h:Nat):Prop:=btP b∧btT b≤btT als∧2 ^ (254-4*h)≤btT b
theorem okB.step{b h s:Nat}(o:okB b h)(hs:0<s)(hh:h≤40)(k:Int):okB (enB (scN (btT b) (tkN s k) s (btT als))) (h+1):=by
 obtain⟨o1,o2,o3⟩:=o
 have hp:0<btT als:=al2.2.1
 obtain⟨h1,h2⟩:=aJq (t:=btT b) (x:=tkN s k) (s:=s) hp
 have h3:=aM2 h2 (Nat.lt_of_le_of_lt h1 al2.2.2)
 have e:2 ^ (254-4*h)=2 ^ (254-4*(h+1))*16:=by
  rw[show(16:Nat)=2 ^ 4 from rfl,←Nat.pow_add];congr 1;omega
 have hpos:0<2 ^ (254-4*(h+1)):=Nat.pow_pos aPl
 have h4:=aQ9 k hs o2 (show 8≤btT b by omega)
 have h5:=aM1 h2
 exact⟨h3.1,Nat.le_trans h3.2.1 h1,by omega⟩
theorem okB.mono{b h:Nat}(o:okB b h):okB b (h+1):=⟨o.1,o.2.1,Nat.le_trans (Nat.pow_le_pow_right aPl aPl) o.2.2⟩
def GB(L:List Bk):Prop:=∀i,i<L.length→okB (bkT L i).bits (ig L i)
theorem GB.next{L:List Bk}(g:GB L)(hw:WFt L)(hl:L.length≤31){e span:Nat}(hs:0<span){i:Nat}(hi:i<L.length):okB (afw L e span als i) (ig L i+1):=by
 have hh:ig L i≤40:=by
  have:=ab3 hw i hi
  unfold ig;omega
 unfold afw
 split
 ·exact(g i hi).step hs hh _
 ·exact(g i hi).mono
theorem GB.work{L:List Bk}(g:GB L)(hw:WFt L)(hl:L.length≤31){i:Nat}(hi:i<L.length):su L i≤31*2 ^ 126:=by
 unfold su
 have h1:=aQ5 ((anc L i).map λk=>wkN (btT (bkT L k).bits)) (2 ^ 126) (λx hx=>by
  rw[List.mem_map]at hx
  obtain⟨k,hk,rfl⟩:=hx
  have hk2:=aif hw i hi k hk
  have o:=g k aPl
  have hh:ig L k≤30:=by
   have:=ab3 hw k aPl
   unfold ig;omega
  have hp:2 ^ 130≤btT (bkT L k).bits:=Nat.le_trans (Nat.pow_le_pow_right aPl aPl) o.2.2
  exact aP3 hp aPl)
 rw[List.length_map]at h1
 have h2:=ab3 hw i hi
 exact Nat.le_trans h1 (Nat.mul_le_mul_right _ aPl)
theorem GB.tb{L:List Bk}(g:GB L)(hw:WFt L)(hl:L.length≤31){e span:Nat}(hs:0<span):TB L e span als:=by
 refine⟨λi hi=>(g i hi).1,λi hi=>?_⟩
 have o:=g.next hw hl (e:=e) hs hi
 refine⟨o.1,o.2.1,?_⟩
 have h1:=g.work hw hl hi
 have hh:ig L i≤30:=by
  have:=ab3 hw i hi
  unfold ig;omega
 have hp:2 ^ 130≤btT (afw L e span als i):=Nat.le_trans (Nat.pow_le_pow_right aPl aPl) o.2.2
 have h2:=aP3 hp aPl
 have h3:31*2 ^ 126+2 ^ (256-130)<ng:=by
  rw[abk]
  have:31*2 ^ 126+2 ^ (256-130)=2 ^ 131:=rfl
  rw[this]
  exact Nat.pow_lt_pow_right aPl aPl
 omega
structure OwnHd (w:World) (v:Value) (l:List Hd):Prop where
 own:w.ownsRow 0 47 68 v l.length (l.flatMap λh=>h.cells.toList)
 ok:∀h∈l,h.Ok
theorem TM.apart{w:World}{p:Nat}{R:Array Value}{bm:Nat}{H:List Hd}{L:List Bk}{ps:List Nat}{v:Value}{ch:List (List UInt8)}(T:TM w p R bm H L ps v ch)(hp:ps.length=L.length){k:Nat}{A:Array Value}{t:TypeId}{f:Nat×Nat}(h:w.heap[k]? = some (.cells A t f))
  (h1:t≠171) (h2:t≠145) (h3:t≠24):¬TS p bm ps v k:=by
 rintro(rfl|rfl|hk|hk)
 ·exact qo T.top h (λe=>h1 e.symm) rfl
 ·exact ab7 h T.map rfl
 ·obtain⟨j,hj,rfl⟩:=List.getElem_of_mem hk
  have:=T.blk j aPl
  rw[List.getD_eq_getElem?_getD,List.getElem?_eq_getElem hj]at this
  exact qo this h (λe=>h2 e.symm) rfl
 ·obtain⟨cur,hc⟩:=aev T.own hk
  exact qo hc h (λe=>h3 e.symm) rfl
theorem TM.aQd{S:Nat→Prop}{w w':World}{p:Nat}{R:Array Value}{bm:Nat}{H:List Hd}{L:List Bk}{ps:List Nat}{v:Value}{ch:List (List UInt8)}(T:TM w p R bm H L ps v ch)(hp:ps.length=L.length)(f:Fr S w w')(hs:∀k,TS p bm ps v k→¬S k):TM w' p R bm H L ps v ch :=
 ⟨f.keeps (hs p (.inl rfl)) T.top,T.map.keep (f.block _ T.map.lt (hs bm (.inr (.inl rfl)))),λi hi=>f.keeps (hs _ (.inr (.inr (.inl (getD_mem aPl))))) (T.blk i hi),T.own.frS f λk hk=>hs k (.inr (.inr (.inr hk)))⟩
section
variable {w W W':World} {R:Array Value} {e span p bm p2:Nat} {H:List Hd} {L:List Bk} {ps:List Nat} {v:Value} {lv:Value} {LD:List Bk} {tv:Value} {tl:List Hd}
end
theorem aur:Tryz.zeroCells47.size=68:=by kernel_rfl
theorem aQu(v:Value):GB [b0 v]:=by
 intro i hi
 obtain rfl:i=0:=by simpa using hi
 have e:(bkT [b0 v] 0).bits=als:=by rw[azf,asr];rfl
 refine⟨by rw[e];exact al2,by rw[e];exact Nat.le_refl _,?_⟩
 rw[e]
 exact aMp
theorem aDl{L:List Bk}(hw:WFt L){e s i:Nat}(hi:i<L.length):afw L e s als i<4294967296:=by
 unfold afw
 split
 ·exact aR0 (Nat.lt_of_le_of_lt (aJq al2.2.1).1 al2.2.2)
 ·exact(hw.at hi).bits
theorem aNk{L:List Bk}(hw:WFt L){e s:Nat}(A:List UInt8):aJg L e s als A<4294967296:=by
 unfold aJg
 split
 ·omega
 ·rcases afg A L with h|⟨i,h,hi⟩
  ·omega
  ·rw[h,Int.toNat_natCast]
   exact aDl hw hi
def aos(L:List Bk)(h:List UInt8):Nat:=if yj L h<0 then 0 else if(yj L h).toNat∈anc L (ug L)then ig L (ug L)+1-ig L (yj L h).toNat else 0
def htA(L:List Bk)(h:List UInt8):Nat:=if yj L h<0 then 0 else ig L (yj L h).toNat
theorem aCz{L:List Bk}(h:WFt L){i j:Nat}(hi:i<L.length)(hj:j∈anc L i):ig L j≤ig L i:=by
 have h1:=(ana h hi hj).2.2
 rw[aak h hi]at h1
 omega
theorem aM6{L:List Bk}(h:WFt L)(nh:NH L)(h0:0<L.length){i:Nat}(hi:i∈anc L (ug L)):aos L (bkT L i).hash=ig L (ug L)+1-ig L i:=by
 have hb:=asq h0
 have hl:i<L.length:=Nat.lt_of_le_of_lt (aif h _ hb i hi) hb
 unfold aos
 rw[afh nh hl,if_neg aPl,Int.toNat_natCast,if_pos hi]
theorem aR5{L:List Bk}(h:WFt L){j i:Nat}(hj:j<L.length)(hi:i∈anc L j):(hsL L (qx L j))[ig L i]? = some (bkT L i).hash:=by
 rw[hsL,List.getElem?_map,(ana h hj hi).1];rfl
theorem ate{L:List Bk}(h:WFt L){j i k:Nat}(hj:j<L.length)(e:(qx L j)[k]? = some i):ig L i=k:=by
 have hl:=aak h hj
 have hk:k<(qx L j).length:=by
  rcases Nat.lt_or_ge k (qx L j).length with h1|h1
  ·exact h1
  ·rw[List.getElem?_eq_none h1]at e;cases e
 have ha:(anc L j).length=(qx L j).length:=by rw[qx,List.length_reverse]
 rw[qx,List.getElem?_reverse aPl]at e
 have hd:=(aof h j hj _ i e).1
 have:=congrArg List.length hd
 rw[List.length_drop]at this
 unfold ig
 omega
theorem aNf{L:List Bk}(h:WFt L){j k:Nat}(hj:j<L.length)(hk:k<ig L j+1):∃i,i∈anc L j∧ig L i=k∧(hsL L (qx L j))[k]? = some (bkT L i).hash∧i<L.length:=by
 have hl:=aak h hj
 have e:(qx L j)[k]? = some ((qx L j)[k]'aPl):=List.getElem?_eq_getElem aPl
 obtain⟨h1,h2⟩:=avm h hj e
 exact⟨_,h1,ate h hj e,by rw[hsL,List.getElem?_map,e];rfl,h2⟩
theorem akw:∀x y:List Nat,x.take (common x y)=y.take (common x y)∧common x y≤x.length∧common x y≤y.length
 |[],_=>by simp[common]
 |_::_,[]=>by simp[common]
 |a::x,b::y=>by
  rw[common]
  obtain⟨h1,h2,h3⟩:=akw x y
  by_cases e:a=b
  ·rw[if_pos e,List.take_succ_cons,List.take_succ_cons,h1,e]
   simp[h2,h3]
  ·rw[if_neg e];simp
theorem aMw{L:List Bk}(h:WFt L)(o:aE5 L){i j:Nat}(hi:i<L.length)(hj:j<L.length):af7 L i j≤ig L i∧af7 L i j≤ig L j:=by
 have hc:=avt h o hi hj
 unfold cmM at hc
 obtain⟨_,h2,h3⟩:=akw (qx L i) (qx L j)
 rw[aak h hi]at h2
 rw[aak h hj]at h3
 omega
def tnM(L L':List Bk):Nat:=ig L' (ug L)-af7 L' (ug L) (ug L')
def EQ(L:List Bk):Prop:=∀i,i<L.length→(bkT L i).bits=als
def ryC(p k d:Nat):Array Value:=#[.pointer (some ⟨p,0,none⟩),.int .i64 (k:Int),.int .i64 (d:Int)]
theorem aj3{w:World}{q p k d:Nat}(r1:w.heap[q]? = some (.cells (ryC p k d) 118 (0,0))):
  Calls Tryz.prog 24 #[.pointer (some ⟨q,0,none⟩)] w λe w'=>e = .returned (.pointer (some ⟨p,0,none⟩))∧w'=w:=by
 unfold ryC at r1
 go_enter Tryz.func24,Tryz.ntmps24
 go_wp2_with fail
 go_ret
 exact⟨rfl,rfl⟩
theorem air{w:World}{p:Nat}{R:Array Value}{bm:Nat}{H:List Hd}{L:List Bk}{ps:List Nat}{v:Value}{ch:List (List UInt8)}(hR:R.size=72)(I:TI H L ps)(T:TM w p R bm H L ps v ch)(h:List UInt8)(hh:h.length=32):
  Calls Tryz.prog 59 #[.pointer (some ⟨p,0,none⟩),.agg (hc h)] w λe w'=>e = .returned (.tuple #[.int .i64 (htA L h:Int),.bool (decide (0≤yj L h))])∧Fr F0 w w':=by
 rcases afg h L with e|⟨i,e,hi⟩
 ·have HB:=Lib.hid (λW (f:Fr F0 w W)=>abx hR I (T.fr f) h hh)
  rw[e,afe ps aPl]at HB
  rw[show htA L h=0 from by unfold htA;rw[if_pos aPl],e,decide_eq_false aPl]
  have sA:=jl hh
  have oA:=qg h
  generalize hc h=A at *
  clear T I hR hh e
  go_enter Tryz.func59,Tryz.ntmps59
  go_wp2_with fail
  refine ru λW1 N1=>?_
  have F:=N1.fr
  clear N1
  (with_reducible refine(HB.out _ F).mono ?_);rintro e w2 ⟨rfl,f⟩
  replace F:=F.trans' f
  clear f
  go_wp2_with fail
  go_ret2
  exact⟨rfl,F⟩
 ·obtain⟨_,h2⟩:=ai6 e
  have:=ad5 hR I T i hi
  rw[h2]at this
  rw[show htA L h=ig L i from by unfold htA;rw[e,if_neg aPl,Int.toNat_natCast],e,decide_eq_true aPl]
  exact this
theorem atf{w:World}{q k d p:Nat}{R:Array Value}{bm:Nat}{H:List Hd}{L:List Bk}{ps:List Nat}{v:Value}(hR:R.size=72)(I:TI H L ps)(T:TM w p R bm H L ps v (chn L))(r1:w.heap[q]? = some (.cells (ryC p k d) 118 (0,0)))(i:Nat)(hi:i<L.length):
  Calls Tryz.prog 58 #[.pointer (some ⟨q,0,none⟩),.agg (hc (bkT L i).hash)] w λe w'=>e = .returned (.int .i64 ((ig L i-af7 L i (ug L):Nat):Int))∧Fr F0 w w':=by
 have hcl:=I.aen
 have HH:=Lib.hid (λW (f:Fr F0 w W)=>ad5 hR I (T.fr f) i hi)
 have HB:=Lib.hid (λW (f:Fr F0 w W)=>aey hR (T.fr f) (by rw[hcl.1];omega) aPl)
 rw[I.aju]at HB
 have HF:=Lib.hid (λW (f:Fr F0 w W)=>aCq hR I (T.fr f) i (ug L) hi I.best)
 have hf:=aMw I.wf I.one hi I.best
 have hh:=I.height hi
 have sA:=jl (I.at32 hi)
 have oA:=qg (bkT L i).hash
 have hs:IntKind.i64.wrap ((ig L i:Int)-(af7 L i (ug L):Int))=((ig L i-af7 L i (ug L):Nat):Int):=by rw[IntWalk.i64_in _ aPl];omega
 generalize ig L i-af7 L i (ug L)=tn at *
 generalize af7 L i (ug L)=fk at *
 generalize ig L i=ht at *
 generalize hc (bkT L i).hash=A at *
 generalize hc (bkT L (ug L)).hash=B at *
 unfold ryC at r1
 replace r1:=bg (o := .cells A 24) r1
 have r0:=heap_alloc_new w (.cells A 24)
 have F:=(Fr.refl F0 w).alloc (.cells A 24)
 clear T I hR hi hcl hf hh
 go_enter Tryz.func58,Tryz.ntmps58
 go_wp2_with fail
 generalize hW:w.alloc (.cells A 24)=W at *
 generalize w.heap.size=g0 at *
 clear hW
 refine jm (S:=(λw'=>(w'.heap[q]? = some (.cells #[.pointer (some ⟨p,0,none⟩),.int .i64 (k:Int),.int .i64 (d:Int)] 118 (0,0))∧w'.heap[g0]? = some (.cells A 24 (0,0)))∧Fr F0 w w')) ?_ λak=>?_
 ·exact zz45
 refine aj 0 ?_
 refine aj 1 ?_
 refine aj 2 ?_
 refine aj 3 ?_
 refine aj 4 ?_
 refine jf 5 λK hK=>?_
 go_simp
 ((with_reducible refine(HH.out _ ak.2).mono ?_);rintro e w5 ⟨rfl,f5⟩)
 refine rpu hK ak5 λak=>?_
 clear hK K
 refine aj 6 ?_
 refine aj 7 ?_
 refine aj 8 ?_
 refine aj 9 ?_
 refine aj 10 ?_
 refine jg ?_
 all_goals
  clear r1 r0 F
  obtain⟨⟨r1,r0⟩,F⟩:=ak
  go_upto_region 2 with fail
  refine jm (S:=(λw'=>(w'.heap[q]? = some (.cells #[.pointer (some ⟨p,0,none⟩),.int .i64 (k:Int),.int .i64 (d:Int)] 118 (0,0))∧w'.heap[g0]? = some (.cells A 24 (0,0)))∧Fr F0 w w')) ?_ λak=>?_
  ·exact zz45
  refine aj 0 ?_
  refine aj 1 ?_
  refine aj 2 ?_
  refine aj 3 ?_
  refine aj 4 ?_
  refine aj 5 ?_
  refine aj 6 ?_
  refine aj 7 ?_
  refine aj 8 ?_
  refine jf 9 λK hK=>?_
  go_simp
  ((with_reducible refine(HB.out _ ak.2).mono ?_);rintro e w5 ⟨rfl,f5⟩)
  refine rpu hK ak5 λak=>?_
  clear hK K
  refine jf 10 λK hK=>?_
  go_simp
  ((with_reducible refine(HF.out _ ak.2).mono ?_);rintro e w5 ⟨rfl,f5⟩)
  refine rpu hK ak5 λak=>?_
  clear hK K
  refine aj 11 ?_
  refine aj 12 ?_
  refine aj 13 ?_
  refine aj 14 ?_
  refine aj 15 ?_
  refine jg ?_
  all_goals
   have F:=ak.2
   clear ak r1 r0
   go_wp2_with fail
   go_ret
   exact⟨rfl,F⟩
theorem aHk{H:List Hd}{L:List Bk}{ps:List Nat}(I:TI H L ps)(h:List UInt8)(hh:h.length=32):
  atM (chn L) (htA L h:Int)=h∧(0≤(htA L h:Int)∧(htA L h:Int)<((chn L).length:Int))∧htA L h≤ig L (ug L)∧aos L h=ig L (ug L)-htA L h+1 ∨
  ¬(atM (chn L) (htA L h:Int)=h∧(0≤(htA L h:Int)∧(htA L h:Int)<((chn L).length:Int)))∧aos L h=0:=by
 have hcl:=I.aen
 have hb:=I.best
 have key:∀j:Nat,j<ig L (ug L)+1→∀k,k∈anc L (ug L)→ig L k=j→atM (chn L) (j:Int)=(bkT L k).hash:=by
  intro j hj k hk e
  unfold atM
  rw[if_pos aPl,Int.toNat_natCast,List.getD_eq_getElem?_getD,ao3]
  have:=aR5 I.wf hb hk
  rw[e]at this
  rw[this];rfl
 rcases afg h L with e|⟨i,e,hi⟩
 ·right
  have h1:htA L h=0:=by unfold htA;rw[if_pos aPl]
  have h2:aos L h=0:=by unfold aos;rw[if_pos aPl]
  refine⟨λhx=>?_,h2⟩
  have hz:=zero_mem I.wf I.one _ hb
  have h0:ig L 0=0:=by
   have:=I.wf.up 0 I.pos
   rw[ig,abe I.wf I.pos aPl]
   rfl
  rw[h1,key 0 aPl 0 hz h0]at hx
  exact afn aPl 0 I.pos hx.1
 ·obtain⟨_,h2⟩:=ai6 e
  have h1:htA L h=ig L i:=by unfold htA;rw[e,if_neg aPl,Int.toNat_natCast]
  by_cases hm:i∈anc L (ug L)
  ·left
   have hle:=aCz I.wf hb hm
   have hd:=aM6 I.wf I.nh I.pos hm
   rw[h2]at hd
   rw[h1,key _ aPl i hm rfl]
   exact⟨h2,by omega,hle,by omega⟩
  ·right
   have hd:aos L h=0:=by unfold aos;rw[e,if_neg aPl,Int.toNat_natCast,if_neg hm]
   refine⟨λhx=>?_,hd⟩
   rw[h1]at hx
   obtain⟨k,k1,k2,k3,k4⟩:=aNf I.wf hb (show ig L i<ig L (ug L)+1 by omega)
   rw[key _ aPl k k1 k2,←h2]at hx
   have:=I.nh k i k4 hi hx.1
   rw[this]at k1
   exact hm k1
theorem ax0{w:World}{q k d p:Nat}{R:Array Value}{bm:Nat}{H:List Hd}{L:List Bk}{ps:List Nat}{v:Value}(hR:R.size=72)(I:TI H L ps)(T:TM w p R bm H L ps v (chn L))(r1:w.heap[q]? = some (.cells (ryC p k d) 118 (0,0)))(h:List UInt8)(hh:h.length=32):
  Calls Tryz.prog 68 #[.pointer (some ⟨q,0,none⟩),.agg (hc h)] w λe w'=>e = .returned (.int .i64 ((aos L h:Nat):Int))∧Fr F0 w w':=by
 have hcl:=I.aen
 have hD:=aHk I h hh
 have HT:=Lib.hid (λW (f:Fr F0 w W)=>aj3 (au f r1))
 have HH:=Lib.hid (λW (f:Fr F0 w W)=>air hR I (T.fr f) h hh)
 have HA:=Lib.hid (λW (f:Fr F0 w W)=>asg hR (T.fr f) (htA L h:Int))
 have HB:=Lib.hid (λW (f:Fr F0 w W)=>aey hR (T.fr f) (by rw[hcl.1];omega) aPl)
 rw[I.aju]at HB
 have HX:=Lib.hid (λW (f:Fr F0 w W)=>ad5 hR I (T.fr f) (ug L) I.best)
 have h32:(atM (chn L) (htA L h:Int)).length=32:=by
  unfold atM
  split
  ·exact I.chn32.get aPl
  ·exact yg
 have hhb:=I.height I.best
 have heq:=λW=>uf W (atM (chn L) (htA L h:Int)) h h32 hh
 have sA:=jl hh
 have oA:=qg h
 have sB:=jl h32
 have oB:=qg (atM (chn L) (htA L h:Int))
 obtain⟨eqv,hE⟩:∃c:Bool,decide (atM (chn L) (htA L h:Int)=h)=c:=⟨_,rfl⟩
 obtain⟨okv,hO⟩:∃c:Bool,decide (0≤(htA L h:Int)∧(htA L h:Int)<((chn L).length:Int))=c:=⟨_,rfl⟩
 rw[hE]at heq
 rw[hO]at HA
 have hD2:(eqv=true∧okv=true∧htA L h≤ig L (ug L)∧aos L h=ig L (ug L)-htA L h+1)∨(¬(eqv=true∧okv=true)∧aos L h=0):=by
  rcases hD with⟨a,b,c,e⟩|⟨a,b⟩
  ·exact .inl ⟨by rw[←hE];exact decide_eq_true a,by rw[←hO];exact decide_eq_true b,c,e⟩
  ·exact .inr ⟨fun⟨x,y⟩=>a ⟨of_decide_eq_true (hE.trans x),of_decide_eq_true (hO.trans y)⟩,b⟩
 generalize aos L h=dp at *
 generalize hc (atM (chn L) (htA L h:Int))=B at *
 generalize htA L h=ht at *
 generalize ig L (ug L)=hb at *
 generalize hc (bkT L (ug L)).hash=X at *
 generalize decide (0≤yj L h)=fb at *
 generalize hc h=A at *
 have r0:=heap_alloc_new w (.cells A 24)
 have F:=(Fr.refl F0 w).alloc (.cells A 24)
 have HD:=Lib.hid hD2
 have hl:=hcl.2
 clear T I hR hh hcl hD hE hO h32 hD2 r1
 go_enter Tryz.func68,Tryz.ntmps68
 go_wp2_with fail
 generalize hW:w.alloc (.cells A 24)=W at *
 generalize w.heap.size=g0 at *
 clear hW
 (with_reducible refine(HT.out _ F).mono ?_);rintro e w2 ⟨rfl,hw⟩;replace hw:=hw.symm;subst hw
 go_wp2_with fail
 (with_reducible refine(HH.out _ F).mono ?_);rintro e w3 ⟨rfl,f⟩
 replace r0:=au f r0
 replace F:=F.trans' f
 clear f
 go_wp2_with fail
 (with_reducible refine(HA.out _ F).mono ?_);rintro e w4 ⟨rfl,f⟩
 replace r0:=au f r0
 replace F:=F.trans' f
 clear f
 go_upto_region 4 with fail
 refine uy λW4 N4=>?_
 have r8:=N4.new
 replace r0:=N4.old r0
 replace F:=F.trans' N4.fr
 clear N4
 generalize w4.heap.size=g8 at *
 rcases HD.out with⟨rfl,rfl,hle,hdp⟩|⟨hn,hdp⟩
 ·have m1:IntKind.i64.wrap ((hb:Int)-(ht:Int))=((hb-ht:Nat):Int):=by rw[IntWalk.i64_in _ aPl];omega
  have m2:IntKind.i64.wrap (((hb-ht:Nat):Int)+1)=(dp:Int):=by rw[IntWalk.i64_in _ aPl];omega
  clear hdp HD
  generalize hb-ht=y at *
  go_wp2_with fail
  (with_reducible refine(HB.out _ F).mono ?_);rintro e w5 ⟨rfl,f⟩
  replace F:=F.trans' f
  clear f
  go_wp2_with fail
  (with_reducible refine(HX.out _ F).mono ?_);rintro e w5 ⟨rfl,f⟩
  replace F:=F.trans' f
  clear f
  go_wp2_with fail
  go_ret
  exact⟨rfl,F⟩
 ·subst hdp
  cases eqv<;>cases okv
  case true.true=>exact absurd ⟨rfl,rfl⟩ hn
  all_goals
   clear hn HD
   go_wp2_with fail
   go_ret
   exact⟨rfl,F⟩
def cfE(L:List Bk)(k:Nat)(h:List UInt8):Int:=if yj L h<0 then 12 else if aos L h<k then 13 else 0
theorem ali{w:World}{q k d p:Nat}{R:Array Value}{bm:Nat}{H:List Hd}{L:List Bk}{ps:List Nat}{v:Value}(hR:R.size=72)(I:TI H L ps)(T:TM w p R bm H L ps v (chn L))(r1:w.heap[q]? = some (.cells (ryC p k d) 118 (0,0)))(h:List UInt8)(hh:h.length=32):
  Calls Tryz.prog 26 #[.pointer (some ⟨q,0,none⟩),.agg (hc h)] w λe w'=>e = .returned (.int .i64 (cfE L k h))∧Fr F0 w w':=by
 have HH:=Lib.hid (λW (f:Fr F0 w W)=>air hR I (T.fr f) h hh)
 have HD:=Lib.hid (λW (f:Fr F0 w W)=>ax0 hR I (T.fr f) (au f r1) h hh)
 have hC:(cfE L k h=12∧decide (0≤yj L h)=false)∨(decide (0≤yj L h)=true∧(aos L h<k∧cfE L k h=13∨¬aos L h<k∧cfE L k h=0)):=by
  unfold cfE
  by_cases h1:yj L h<0
  ·rw[if_pos h1];exact .inl ⟨rfl,decide_eq_false aPl⟩
  ·rw[if_neg h1]
   refine .inr ⟨decide_eq_true aPl,?_⟩
   by_cases h2:aos L h<k
   ·rw[if_pos h2];exact .inl ⟨h2,rfl⟩
   ·rw[if_neg h2];exact .inr ⟨h2,rfl⟩
 have sA:=jl hh
 have oA:=qg h
 generalize cfE L k h=z at *
 generalize aos L h=dp at *
 generalize htA L h=ht at *
 generalize decide (0≤yj L h)=fb at *
 generalize hc h=A at *
 unfold ryC at r1
 replace r1:=bg (o := .cells A 24) r1
 have r0:=heap_alloc_new w (.cells A 24)
 have F:=(Fr.refl F0 w).alloc (.cells A 24)
 have HC:=Lib.hid hC
 clear T I hR hh hC
 go_enter Tryz.func26,Tryz.ntmps26
 go_upto_region 3 with fail
 generalize hW:w.alloc (.cells A 24)=W at *
 generalize w.heap.size=g0 at *
 clear hW
 refine jm (S:=(λw'=>(w'.heap[q]? = some (.cells #[.pointer (some ⟨p,0,none⟩),.int .i64 (k:Int),.int .i64 (d:Int)] 118 (0,0))∧w'.heap[g0]? = some (.cells A 24 (0,0)))∧Fr F0 w w')) ?_ λak=>?_
 ·exact zz45
 refine aj 0 ?_
 refine aj 1 ?_
 refine aj 2 ?_
 refine aj 3 ?_
 refine aj 4 ?_
 refine jf 5 λK hK=>?_
 go_simp
 ((with_reducible refine(HH.out _ ak.2).mono ?_);rintro e w5 ⟨rfl,f5⟩)
 refine rpu hK ak5 λak=>?_
 clear hK K
 refine aj 6 ?_
 refine aj 7 ?_
 refine aj 8 ?_
 refine aj 9 ?_
 refine aj 10 ?_
 refine jg ?_
 all_goals
  clear r1 r0 F
  obtain⟨⟨r1,r0⟩,F⟩:=ak
  rcases HC.out with⟨rfl,rfl⟩|⟨rfl,hz⟩
  ·go_wp2_with fail
   go_ret
   exact⟨rfl,F⟩
  ·have HZ:=Lib.hid hz
   clear hz
   go_upto_region 6 with fail
   refine jm (S:=(λw'=>(w'.heap[q]? = some (.cells #[.pointer (some ⟨p,0,none⟩),.int .i64 (k:Int),.int .i64 (d:Int)] 118 (0,0))∧w'.heap[g0]? = some (.cells A 24 (0,0)))∧Fr F0 w w')) ?_ λak=>?_
   ·exact zz45
   refine aj 0 ?_
   refine aj 1 ?_
   refine aj 3 ?_
   refine aj 4 ?_
   refine aj 5 ?_
   refine aj 6 ?_
   refine jf 2 λK hK=>?_
   go_simp
   ((with_reducible refine(HD.out _ ak.2).mono ?_);rintro e w5 ⟨rfl,f5⟩)
   refine rpu hK ak5 λak=>?_
   clear hK K
   refine aj 7 ?_
   refine aj 8 ?_
   refine jg ?_
   all_goals
    have F:=ak.2
    rcases HZ.out with⟨h1,rfl⟩|⟨h1,rfl⟩
    ·have l1:(dp:Int)<(k:Int):=by omega
     have l2:decide ((dp:Int)<(k:Int))=true:=decide_eq_true l1
     go_wp2_with fail
     go_ret
     exact⟨rfl,F⟩
    ·have l1:¬(dp:Int)<(k:Int):=by omega
     have l2:decide ((dp:Int)<(k:Int))=false:=decide_eq_false l1
     go_wp2_with fail
     go_ret
     exact⟨rfl,F⟩
end Go.Proofs.YtjlelckefiannaaGreatDoor
