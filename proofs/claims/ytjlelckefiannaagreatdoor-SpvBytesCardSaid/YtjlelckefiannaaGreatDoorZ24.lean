import Derived.Test.YtjlelckefiannaaGreatDoorZ21
import Derived.Test.YtjlelckefiannaaGreatDoorZ23
import Derived.Test.YtjlelckefiannaaGreatDoorZ15
set_option maxRecDepth 100000
set_option maxHeartbeats 64000000
namespace Go.Proofs.YtjlelckefiannaaGreatDoor
set_option linter.unusedVariables false
set_option linter.unusedSimpArgs false
open Go.RowKit
theorem aq4(x:Nat)(w:World)(hx:x<18446744073709551616):
  Calls Tryz.prog 40 #[.int .u64 x] w (ach (cnt x) w):=by
 by_cases c1:x<253
 ·have e:cnt x = [UInt8.ofNat (x % 256)]:=by simp[cnt,c1,le]
  rw[e]
  have O:=am9 w ((x:Int) % 256) (UInt8.ofNat (x % 256)) (aoc x)
  have h1:(x:Int) % 256=x:=by omega
  rw[h1]at O
  clear e h1
  go_enter Tryz.func40,Tryz.ntmps40
  go_wp2
  go_ret
  exact ach.mk' (bs := [UInt8.ofNat (x % 256)]) O ((Fr.refl _ _).alloc _) λi e=>by cases e;exact Nat.le_refl _
 -- a first byte,and a number behind it
 have big:∀(f:Int) (b:UInt8) (k:Nat),B8 b = .int .u8 f→k≤8→cnt x=b::le k x→Calls Tryz.prog 42 #[.int .u64 x,.int .i64 k] (w.alloc (.cells #[.int .u8 f] 5))
   (λe w1=>∃a c,e = .returned (.slice a (le k x).length c)∧Bs w1 a c (le k x)∧Fr F0 w w1∧OwnB w1 (.slice (some ⟨w.heap.size,0,none⟩) 1 1) [b]∧w.heap.size<w1.heap.size):=by
  intro f b k hb hk _
  refine(ame x k _ hx hk).mono ?_
  rintro e w1 ⟨a,c,rfl,h1,hf,_⟩
  exact⟨a,c,rfl,h1,((Fr.refl F0 w).alloc _).trans' hf,(am9 w f b hb).fr hf λ_ _ f=>f,hf.lt (by simp)⟩
 have fin:∀(w1 w2:World) (b:UInt8) (k:Nat) (a':Option Addr) (n c':Nat),cnt x=b::le k x→Fr F0 w w1→w.heap.size<w1.heap.size→OwnB w2 (.slice a' n c') ([b]++le k x)→w1.grownBy w2 (some w.heap.size) →
   (∀i,ql a'=some i→some w.heap.size=some i∨w1.heap.size≤i)→ach (cnt x) w (.returned (.slice a' n c')) w2:=by
  intro w1 w2 b k a' n c' e hf hs ho hg hb
  rw[e]
  refine ach.mk' ho (hf.grown hg λi hi hl=>?_) λi hi=>?_
  ·cases hi;omega
  ·rcases hb i hi with h|h
   ·cases h;exact Nat.le_refl _
   ·omega
 by_cases c2:x<65536
 ·have e:cnt x=253::le 2 x:=by simp[cnt,c1,c2,le]
  have B:=Lib.hid (big 253 253 2 rfl aPl e)
  have FI:=Lib.hid (λw1 w2=>fin w1 w2 253 2)
  have E:=Lib.hid e
  have d1:¬(x:Int)<253:=by omega
  have d2:(x:Int)<65536:=by omega
  clear c1 c2
  clear big fin e
  go_enter Tryz.func40,Tryz.ntmps40
  go_wp2_with (first|(go_at_call 42;refine B.out.mono ?_;rintro e w1 ⟨a,c,rfl,h1,hf,ho,hs⟩)|(at_builtin;refine xk rfl _ _ rfl (.slice (some ⟨w.heap.size,0,none⟩) 1 1) _ rfl ho _ _ _ _ rfl h1 rfl zz83 ?_;intro a' c' w2 ho2 hg hb;have HF:=Lib.hid (FI.out w1 w2 _ _ c' E.out hf hs ho2 hg hb);clear hb hg ho2))
  go_ret
  exact HF.out
 by_cases c3:x<4294967296
 ·have e:cnt x=254::le 4 x:=by simp[cnt,c1,c2,c3,le]
  have B:=Lib.hid (big 254 254 4 rfl aPl e)
  have FI:=Lib.hid (λw1 w2=>fin w1 w2 254 4)
  have E:=Lib.hid e
  have d1:¬(x:Int)<253:=by omega
  have d2:¬(x:Int)<65536:=by omega
  have d3:(x:Int)<4294967296:=by omega
  clear c1 c2 c3
  clear big fin e
  go_enter Tryz.func40,Tryz.ntmps40
  go_wp2_with (first|(go_at_call 42;refine B.out.mono ?_;rintro e w1 ⟨a,c,rfl,h1,hf,ho,hs⟩)|(at_builtin;refine xk rfl _ _ rfl (.slice (some ⟨w.heap.size,0,none⟩) 1 1) _ rfl ho _ _ _ _ rfl h1 rfl zz83 ?_;intro a' c' w2 ho2 hg hb;have HF:=Lib.hid (FI.out w1 w2 _ _ c' E.out hf hs ho2 hg hb);clear hb hg ho2))
  go_ret
  exact HF.out
 ·have e:cnt x=255::le 8 x:=by simp[cnt,c1,c2,c3,le]
  have B:=Lib.hid (big 255 255 8 rfl aPl e)
  have FI:=Lib.hid (λw1 w2=>fin w1 w2 255 8)
  have E:=Lib.hid e
  have d1:¬(x:Int)<253:=by omega
  have d2:¬(x:Int)<65536:=by omega
  have d3:¬(x:Int)<4294967296:=by omega
  clear c1 c2 c3
  clear big fin e
  go_enter Tryz.func40,Tryz.ntmps40
  go_wp2_with (first|(go_at_call 42;refine B.out.mono ?_;rintro e w1 ⟨a,c,rfl,h1,hf,ho,hs⟩)|(at_builtin;refine xk rfl _ _ rfl (.slice (some ⟨w.heap.size,0,none⟩) 1 1) _ rfl ho _ _ _ _ rfl h1 rfl zz83 ?_;intro a' c' w2 ho2 hg hb;have HF:=Lib.hid (FI.out w1 w2 _ _ c' E.out hf hs ho2 hg hb);clear hb hg ho2))
  go_ret
  exact HF.out
theorem amg(h:List UInt8)(hl:h.length=32)(w:World):Calls Tryz.prog 41 #[.agg (hc h)] w (ach h w):=by
 go_enter Tryz.func41,Tryz.ntmps41
 go_upto_region 1 with fail
 refine lu λW1 N1=>?_
 have r1:=N1.new
 have f1:=N1.fr
 clear N1
 obtain⟨b0,hb0⟩:∃g,g=w.heap.size:=⟨_,rfl⟩
 rw[←hb0]at r1 ⊢
 have hb1:b0<W1.heap.size:=(Array.getElem?_eq_some_iff.1 r1).1
 replace hb0:=Lib.hid (And.intro hb0 hb1)
 replace r1:W1.heap[b0]? = some (.cells (h.map B8).toArray 23 (0,0)):=r1
 replace r1:=Lib.hid r1
 replace f1:=Lib.hid f1
 clear hb1
 go_wp2_with fail
 go_loopw [3,4,6] (λov iv jv wr=>∃(k:Nat) (a:Option Addr) (m c:Nat),k≤32∧jv = .int .i64 k∧ov = .slice a m c∧OwnB wr (.slice a m c) (h.take k)∧Fr F0 W1 wr∧Hid (∀i,ql a=some i→W1.heap.size≤i)) (λ_ _ jv _=>32-(intOf jv).toNat)
 case atStart=>exact⟨0,_,0,0,Nat.zero_le _,rfl,rfl,an7 W1 #[] [] rfl (by simp),(Fr.refl _ _).alloc _,λi e=>by cases e;exact Nat.le_refl _⟩
 case round =>
  obtain⟨k,a,m,c,hk,rfl,rfl,po,fo,bo⟩:=hrel
  by_cases hkn:k<32
  ·have cA:=(jq _ _ _).symm.trans (aGh (fo.keeps (λf=>f) r1.out) k aPl)
   have hll:(h.take k).length≤100:=by simp only[List.length_take];omega
   replace hll:=Lib.hid hll
   have hm:=Lib.hid (OwnB.bs po).1
   have hT:=Lib.hid (ada h k aPl)
   generalize h.getD k 0=z at *
   have O1:=po.fr ((Fr.refl F0 wr).alloc (.cells #[.int .u8 (z.toNat:Int)] 5)) λ_ _=>id
   have B1:=aRk wr z 5
   go_wp2_with (at_builtin;refine aqi (m+1) rfl _ _ rfl (.slice a m c) _ rfl O1 _ _ _ _ rfl B1 rfl (by rw[hm.out];rfl) (by have:=hll.out;have:=hm.out;omega) ?_;intro a' c' w1 ho1 hgr hb;have HB:=Lib.hid hb;clear hb)
   have hf1:=aMa fo bo.out hgr
   have hb1:=aAr (fo.alloc _) bo.out HB.out
   go_roundw
   case rel =>
    refine⟨k+1,a',_,c',by omega,by go_num,rfl,?_,hf1,hb1⟩
    rw[hT.out]
    exact ho1
   case measure=>simp[intOf];omega
  ·have hk2:k=32:=by omega
   rw[hk2,List.take_of_length_le (Nat.le_of_eq hl)]at po
   clear hk2
   have fw:=f1.out.trans' fo
   go_wp2_with fail
   go_ret
   exact ach.mk' po fw λi hi=>by have h1:=bo.out i hi;have h2:=hb0.out;omega
def rfC(p:MP)(b:Option Addr)(d:Nat):Array Value:=rowP (.string (strOf p.tx)) p.bk (.int .u64 (p.ix:Int)) (.int .u64 (p.cn:Int)) (.slice b p.wy.length d)
theorem ahz{w:World}{g:Nat}{t:TypeId}{h:List UInt8}{x i c y:Value}(hl:h.length=32)(r:w.heap[g]? = some (.cells (rowP x h i c y) t (0,0))):∀j u,(h.map B8)[j]? = some u→w.cell? ⟨g,1+j,none⟩=some u:=by
 intro j u hj
 rw[jq,r,mg,rowP,List.getElem?_toArray,Nat.add_comm,List.getElem?_cons_succ,List.getElem?_append_left (by exact(List.getElem?_eq_some_iff.1 hj).1)]
 exact hj
theorem aq6(p:MP)(o:p.Ok)(b:Option Addr)(d:Nat)(w:World)(hs:Hs w b d p.wy)(h1:p.tx.length≤50000)(h2:p.wy.length≤1000):
  Calls Tryz.prog 9 #[.agg (rfC p b d)] w (NewB p.bytes w):=by
 obtain⟨tx,bk,ix,cn,wy⟩:=p
 obtain⟨o1,o2,o3,o4⟩:=o
 simp only at o1 o2 o3 o4 hs h1 h2
 simp only[MP.bytes,rfC]
 obtain⟨tn,htn⟩:∃n,n=tx.length:=⟨_,rfl⟩
 obtain⟨m,hm⟩:∃n,n=wy.length:=⟨_,rfl⟩
 rw[←hm]
 have hld:∀W g,W.heap[g]? = some (.cells (rowP (.string (strOf tx)) bk (.int .u64 (ix:Int)) (.int .u64 (cn:Int)) (.slice b m d)) 34 (0,0))→(iq 23 (.pointer (some ⟨g,1,none⟩))).run Tryz.prog W = .ok (.agg (hc bk)) W:=λW g r=>apv o1 (ahz o1 r)
 have s0:=pq o1 (.string (strOf tx)) (.int .u64 (ix:Int)) (.int .u64 (cn:Int)) (.slice b m d)
 have c0:=alz (.string (strOf tx)) bk (.int .u64 (ix:Int)) (.int .u64 (cn:Int)) (.slice b m d)
 have c33:=ajq o1 (.string (strOf tx)) (.int .u64 (ix:Int)) (.int .u64 (cn:Int)) (.slice b m d)
 have c34:=ahs o1 (.string (strOf tx)) (.int .u64 (ix:Int)) (.int .u64 (cn:Int)) (.slice b m d)
 have c35:=ac6 o1 (.string (strOf tx)) (.int .u64 (ix:Int)) (.int .u64 (cn:Int)) (.slice b m d)
 generalize rowP (.string (strOf tx)) bk (.int .u64 (ix:Int)) (.int .u64 (cn:Int)) (.slice b m d)=C at *
 replace hld:=Lib.hid hld
 have d0:=jd c0 aPl
 have d33:=jd c33 aPl
 have d34:=jd c34 aPl
 have d35:=jd c35 aPl
 have z0:0<C.size:=by omega
 have z33:33<C.size:=by omega
 have z34:34<C.size:=by omega
 have z35:35<C.size:=by omega
 have hts:=zf tx
 rw[←htn]at hts
 have htw:=IntWalk.u64_in (tn:Int) aPl
 have hmw:=IntWalk.u64_in (m:Int) aPl
 have hmb:m≤1000:=by rw[hm];exact h2
 have HC:=Lib.hid (λw=>aq4 tn w aPl)
 have HR:=Lib.hid (λw=>(amg bk o1 w).mono λ_ _ h=>h.new.b)
 have HI:=Lib.hid (λw=>aP8 ix w aPl)
 have HN:=Lib.hid (λw=>aP8 cn w aPl)
 have HM:=Lib.hid (λw=>countB m w aPl)
 have HO:=Lib.hid o4
 have HS0:=Lib.hid hs
 have L1:=Lib.hid (show tx.length≤50000∧wy.length≤1000∧bk.length=32 from⟨h1,h2,o1⟩)
 obtain⟨TX,hTX⟩:∃T,T=strOf tx:=⟨_,rfl⟩
 rw[←hTX]at c0 d0 hts
 replace htn:=Lib.hid htn
 replace hm:=Lib.hid hm
 clear hs o1 o2 o3 o4 h1 h2
 go_enter Tryz.func9,Tryz.ntmps9
 go_upto_region 1 with fail
 refine lu λW1 N1=>?_
 have r1:=N1.new
 have f1:=Lib.hid N1.fr
 have g01:=Lib.hid (show w.heap.size<W1.heap.size from(Array.getElem?_eq_some_iff.1 r1).1)
 clear N1
 obtain⟨b0,hb0⟩:∃g,g=w.heap.size:=⟨_,rfl⟩
 rw[←hb0]at r1 g01 ⊢
 clear hb0
 have HR1:=Lib.hid r1
 replace hTX:=Lib.hid hTX
 go_wp2_with fail
 (with_reducible refine(HC.out _).mono ?_);rintro e w2 hr
 obtain⟨a2,n2,c2,rfl,B2⟩:=Bw.of (Fr.refl F0 W1) hr
 clear hr HC r1
 have hcn:=aa0 tn
 have hcm:=aa0 m
 obtain⟨a3,n3,c3,w3,hap3,B3,_⟩:=B2.appS (λk h=>h) (λk h=>Nat.le_trans B2.fr.size h) tx (by have:=L1.out;rw[qh];omega)
 rw[←hTX.out]at hap3
 have r1:=au B2.fr HR1.out
 have hap2:=hap3
 have rr1:=r1
 clear hap2 rr1
 have r3:=au B3.fr HR1.out
 have ld3:=hld.out w3 b0 r3
 go_wp2_with fail
 (with_reducible refine(HR.out _).mono ?_);rintro e w4 ⟨a4,n4,c4,rfl,hn4,hb4,f4⟩
 obtain⟨a5,n5,c5,w5,hap5,B5,_⟩:=(B3.fr0 f4).app (λk h=>h) (λk h=>Nat.le_trans (Nat.le_trans B3.fr.size f4.size) h) hb4 hn4 (by have:=L1.out;simp only[List.length_append,qh];omega)
 clear hap3 B2 r1 r3 ld3 hb4 f4 B3 HR hn4
 have r1:=au B5.fr HR1.out
 go_wp2_with fail
 (with_reducible refine(HI.out _).mono ?_);rintro e w6 ⟨a6,n6,c6,rfl,hn6,hb6,f6⟩
 obtain⟨a7,n7,c7,w7,hap7,B7,_⟩:=(B5.fr0 f6).app (λk h=>h) (λk h=>Nat.le_trans (Nat.le_trans B5.fr.size f6.size) h) hb6 hn6 zz37
 clear hap5 r1 hb6 f6 B5 HI hn6
 have r1:=au B7.fr HR1.out
 go_wp2_with fail
 (with_reducible refine(HN.out _).mono ?_);rintro e w8 ⟨a8,n8,c8,rfl,hn8,hb8,f8⟩
 obtain⟨a9,n9,c9,w9,hap9,B9,_⟩:=(B7.fr0 f8).app (λk h=>h) (λk h=>Nat.le_trans (Nat.le_trans B7.fr.size f8.size) h) hb8 hn8 zz37
 clear hap7 r1 hb8 f8 B7 HN hn8
 have r1:=au B9.fr HR1.out
 go_wp2_with fail
 (with_reducible refine(HM.out _).mono ?_);rintro e w10 ⟨a10,n10,c10,rfl,hn10,ay7,f10⟩
 obtain⟨a11,n11,c11,w11,hap11,B11,_⟩:=(B9.fr0 f10).app (λk h=>h) (λk h=>Nat.le_trans (Nat.le_trans B9.fr.size f10.size) h) ay7 hn10 zz37
 clear hap9 r1 ay7 f10 B9 HM hn10
 have r1:=au B11.fr HR1.out
 obtain⟨pre,hpre⟩:∃l,l=cnt tn++tx++bk++le 4 ix++le 4 cn++cnt m:=⟨_,rfl⟩
 rw[←hpre]at B11
 have HP:=Lib.hid (show pre.length≤50100 by have:=L1.out;rw[hpre];simp only[List.length_append,qh,jy];omega)
 replace hpre:=Lib.hid hpre
 clear hcn hcm
 go_wp2_with fail
 go_loopw [3,40] (λov iv wr=>∃(k:Nat) (a:Option Addr) (l c:Nat),k≤m∧iv = .int .i64 (k:Int)∧ov = .slice a l c∧Bw W1 (λk=>W1.heap.size≤k) a l c (pre++(wy.take k).flatten) wr) (λ_ iv _=>m-(intOf iv).toNat)
 case atStart=>exact⟨0,a11,n11,c11,Nat.zero_le _,rfl,rfl,by rw[List.take_zero,List.flatten_nil,List.append_nil];exact B11⟩
 case round =>
  obtain⟨k,a,l,c,hk,rfl,rfl,hB⟩:=hrel
  clear B11 hap11 r1
  by_cases hkm:k<m
  ·have hkl:k<wy.length:=by have:=hm.out;omega
   obtain⟨bb,off,rfl,_,hld2⟩:=(HS0.out.fr (f1.out.trans' hB.fr)).load k hkl
   have ld:=hld2 wr (Fr.refl F0 wr)
   have l32:=HO.out.get hkl
   have HE:=Lib.hid (ais wy k hkl)
   have hlen:=acd (wy.take k) (λy hy=>HO.out y (List.mem_of_mem_take hy))
   rw[List.length_take,Nat.min_eq_left aPl]at hlen
   have sH:=jl l32
   have oH:=qg (wy.getD k [])
   have HL:=Lib.hid (show(pre++(wy.take k).flatten).length+(wy.getD k []).length≤100000 by have:=HP.out;have:=L1.out;rw[List.length_append,hlen,l32];have:k*32≤1000*32:=Nat.mul_le_mul_right _ aPl;omega)
   have HRw:=Lib.hid (λw=>(amg (wy.getD k []) l32 w).mono λ_ _ h=>h.new.b)
   obtain⟨q,hq⟩:∃q,q=wy.getD k []:=⟨_,rfl⟩
   rw[←hq]at HE HL ld sH oH HRw
   have l1:(k:Int)<(m:Int):=by omega
   have HB:=Lib.hid hB
   clear hld2 l32 hlen hq hB
   generalize hc q=X at *
   go_upto_region 10 with fail
   refine uy λW4 N4=>?_
   have r5:=N4.new
   have B4:=HB.out.fr0 N4.fr
   clear N4 ld
   go_wp2_with fail
   (with_reducible refine(HRw.out _).mono ?_);rintro e w5 ⟨a5,n5,c5,rfl,hn5,hb5,f5⟩
   obtain⟨a6,n6,c6,w6,hap6,B6,_⟩:=(B4.fr0 f5).app (λk h=>h) (λk h=>Nat.le_trans (Nat.le_trans B4.fr.size f5.size) h) hb5 hn5 (by have:=HL.out;omega)
   rw[List.append_assoc,←HE.out]at B6
   replace B6:=Lib.hid B6
   clear hb5 f5 hn5 B4 r5 HRw
   go_wp2_with fail
   go_roundw
   case rel=>exact⟨k+1,a6,n6,c6,by omega,by go_num,rfl,B6.out⟩
   case measure=>simp[intOf];omega
  ·obtain rfl:k=m:=by omega
   rw[hm.out,List.take_length]at hB
   have e:pre++wy.flatten=ctd tx++(bk++(le 4 ix++(le 4 cn++(cnt k++wy.flatten)))):=by rw[hpre.out,ctd,←htn.out];simp only[List.append_assoc]
   rw[e]at hB
   have hl:=hB.len
   have hB:=Lib.hid hB
   replace hl:=Lib.hid hl
   clear e
   go_wp2_with fail
   go_ret
   exact⟨a,l,c,rfl,hl.out,hB.out.own.bs.2,f1.out.trans' hB.out.fr⟩
end Go.Proofs.YtjlelckefiannaaGreatDoor
