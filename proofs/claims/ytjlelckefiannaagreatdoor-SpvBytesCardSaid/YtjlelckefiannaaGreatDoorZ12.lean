import Derived.Test.YtjlelckefiannaaGreatDoorZ4
import Derived.Test.YtjlelckefiannaaGreatDoorZ11
import Derived.Test.YtjlelckefiannaaGreatDoorZ2
import Derived.Laws.Cover3
import Derived.Deep.RegionHeld3
import Derived.OrdersHeld
set_option maxRecDepth 100000
set_option maxHeartbeats 64000000
namespace Go.Proofs.YtjlelckefiannaaGreatDoor
set_option linter.unusedVariables false
set_option linter.unusedSimpArgs false
open Go.RowKit
theorem Pts.of2{w:World}{g:Nat}{a b:Option Addr}{n m c d:Nat}{l k:List UInt8}{t:TypeId}{fr:Nat×Nat}(h:w.heap[g]? = some (.cells #[.slice a n c,.slice b m d] t fr))
  (h1:Bs w a c l) (h2:Bs w b d k) (hn:n=l.length) (hm:m=k.length):Pts w (some ⟨g,0,none⟩) [(a,c,l),(b,d,k)]:=by
 subst hn hm
 refine⟨λi hi=>⟨g,0,rfl,?_⟩,λi hi=>?_⟩
 ·rw[Nat.zero_add,jq,h]
  match i,hi with
  |0,_=>rfl
  |1,_=>rfl
 ·match i,hi with
  |0,_=>exact h1
  |1,_=>exact h2
theorem Pts.of3{w:World}{g:Nat}{a b a3:Option Addr}{n m c d n3 c3:Nat}{l k l3:List UInt8}{t:TypeId}{fr:Nat×Nat}(h:w.heap[g]? = some (.cells #[.slice a n c,.slice b m d,.slice a3 n3 c3] t fr))
  (h1:Bs w a c l) (h2:Bs w b d k) (h3:Bs w a3 c3 l3) (hn:n=l.length) (hm:m=k.length) (hn3:n3=l3.length):Pts w (some ⟨g,0,none⟩) [(a,c,l),(b,d,k),(a3,c3,l3)]:=by
 subst hn hm hn3
 refine⟨λi hi=>⟨g,0,rfl,?_⟩,λi hi=>?_⟩
 ·rw[Nat.zero_add,jq,h]
  match i,hi with
  |0,_=>rfl
  |1,_=>rfl
  |2,_=>rfl
 ·match i,hi with
  |0,_=>exact h1
  |1,_=>exact h2
  |2,_=>exact h3
theorem Bs.alb{w:World}{g n:Nat}{t:TypeId}{fr:Nat×Nat}{L:List UInt8}(h:w.heap[g]? = some (.cells (L.map B8).toArray t fr))(hn:n=L.length)(hm:n≤1000000):Bs w (some ⟨g,0,none⟩) n L:=by
 subst hn
 exact⟨by simp,Nat.le_refl _,by unfold maxLen;omega,(λe=>by cases e),λj u hj=>⟨g,0,rfl,by rw[Nat.zero_add,cell_of_row w g j _ t _ h];simpa using hj⟩⟩
theorem aQc:LKeyC:=by
 intro A w hA
 obtain⟨X,hX⟩:∃X,X=(A.map B8).toArray:=⟨_,rfl⟩
 have sA:X.size=20:=by simp[hX,hA]
 rw[←hX]
 replace hA:=Lib.hid hA
 replace hX:=Lib.hid hX
 go_enter Tryz.func52,Tryz.ntmps52
 go_upto_region 1 with fail
 refine lu λW0 N0=>?_
 have r0:=N0.new
 have F:=N0.fr
 clear N0
 obtain⟨g0,hg0⟩:∃g,g=w.heap.size:=⟨_,rfl⟩
 rw[←hg0]at r0 ⊢
 clear hg0
 go_wp2_with fail
 refine ru λW2 N2=>?_
 have r2:=N2.new
 have r1:=N2.old (heap_alloc_new W0 (.cells #[.int .u8 20] 5))
 have r0':=N2.old (bg r0)
 replace F:=(F.alloc (.cells #[.int .u8 20] 5)).trans' N2.fr
 clear N2 r0
 rw[World.size_alloc]at r2
 have HK:=Lib.hid (acr [(some ⟨W0.heap.size,0,none⟩,1,[20]),(some ⟨g0,0,none⟩,20,A)] (some ⟨W0.heap.size+1,0,none⟩) 2 2 rfl aPl W2
  (Pts.of2 r2 (Bs.alb (L := [20]) r1 rfl aPl) (Bs.alb (L:=A) (by rw[←hX.out];exact r0') hA.out.symm aPl) rfl hA.out.symm) (by simp[cat,hA.out]))
 (with_reducible refine HK.out.mono ?_);rintro e w3 ⟨a3,c3,rfl,hb3,f3,n3⟩
 have e3:cat [(some ⟨W0.heap.size,0,none⟩,1,[20]),(some ⟨g0,0,none⟩,20,A)]=20::A:=by simp[cat]
 rw[e3]at hb3 ⊢
 have R:ou (20::A) w (.returned (.slice a3 (20::A).length c3)) w3:=⟨a3,c3,rfl,hb3,F.trans' f3,λb hb=>⟨Nat.le_trans F.size (n3 b hb).1,(n3 b hb).2⟩⟩
 replace R:=Lib.hid R
 clear HK e3 hb3 f3 n3 r2 r1 r0' F
 generalize (20::A).length=N at *
 go_wp2_with fail
 go_ret
 exact R.out
def ak7(A:List UInt8):List UInt8 := [118,169,20]++A ++ [136,172]
theorem alj(A:List UInt8)(w:World)(hA:A.length=20):Calls Tryz.prog 91 #[.agg (A.map B8).toArray] w (ou (ak7 A) w):=by
 have HKy:=Lib.hid (λw=>aQc A w hA)
 obtain⟨X,hX⟩:∃X,X=(A.map B8).toArray:=⟨_,rfl⟩
 have sA:X.size=20:=by simp[hX,hA]
 rw[←hX]at HKy ⊢
 replace hA:=Lib.hid hA
 clear hX
 go_enter Tryz.func91,Tryz.ntmps91
 go_upto_region 1 with fail
 refine lu λW0 N0=>?_
 have r0:=N0.new
 have F:=N0.fr
 clear N0
 obtain⟨g0,hg0⟩:∃g,g=w.heap.size:=⟨_,rfl⟩
 rw[←hg0]at r0 ⊢
 clear hg0
 have r0a:(W0.alloc (.cells #[.int .u8 118,.int .u8 169] 5)).heap[g0]? = some (.cells X 62 (0,0)):=bg r0
 go_wp2_with fail
 refine ru λW1 N1=>?_
 have r1:=N1.new
 have r0':=N1.old r0
 replace F:=F.trans' N1.fr
 clear N1 r0 r0a
 obtain⟨g1,hg1⟩:∃g,g=W0.heap.size:=⟨_,rfl⟩
 rw[←hg1]at r1 ⊢
 clear hg1
 (with_reducible refine(HKy.out _).mono ?_);rintro e w2 ⟨a2,c2,rfl,hb2,f2,n2⟩
 replace r1:=au f2 r1
 replace F:=F.trans' f2
 have n20:(20::A).length=21:=by rw[List.length_cons,hA.out]
 rw[n20]
 clear f2 n2 r0' HKy
 go_wp2_with fail
 refine ru λW2 N2=>?_
 have r2:=N2.new
 have r3:=N2.old (heap_alloc_new w2 (.cells #[.int .u8 136,.int .u8 172] 5))
 have r1':=N2.old (bg r1)
 have f2:=((Fr.refl F0 w2).alloc (.cells #[.int .u8 136,.int .u8 172] 5)).trans' N2.fr
 rw[World.size_alloc]at r2
 have hb2':=Bs.fr7 hb2 f2
 replace F:=F.trans' f2
 clear N2 r1 hb2 f2
 have HK:=Lib.hid (acr [(some ⟨g1,0,none⟩,2,[118,169]),(a2,c2,20::A),(some ⟨w2.heap.size,0,none⟩,2,[136,172])] (some ⟨w2.heap.size+1,0,none⟩) 3 3 rfl aPl W2
  (Pts.of3 r2 (Bs.alb (L := [118,169]) r1' rfl aPl) hb2' (Bs.alb (L := [136,172]) r3 rfl aPl) rfl n20.symm rfl) (by simp[cat,hA.out]))
 (with_reducible refine HK.out.mono ?_);rintro e w3 ⟨a3,c3,rfl,hb3,f3,n3⟩
 have e3:cat [(some ⟨g1,0,none⟩,2,[118,169]),(a2,c2,20::A),(some ⟨w2.heap.size,0,none⟩,2,[136,172])]=ak7 A:=by simp[cat,ak7]
 rw[e3]at hb3 ⊢
 have R:ou (ak7 A) w (.returned (.slice a3 (ak7 A).length c3)) w3:=⟨a3,c3,rfl,hb3,F.trans' f3,λb hb=>⟨Nat.le_trans F.size (n3 b hb).1,(n3 b hb).2⟩⟩
 replace R:=Lib.hid R
 clear HK e3 hb3 f3 n3 r2 r1' r3 F
 generalize (ak7 A).length=N at *
 go_wp2_with fail
 go_ret
 exact R.out
theorem aon(t:List UInt8)(a:Option Addr)(n c:Nat)(w:World)(h:Bs w a c t)(hn:n=t.length)(hl:t.length≤255):Calls Tryz.prog 93 #[.slice a n c] w (ou (106::UInt8.ofNat t.length::t) w):=by
 have HB:=Lib.hid h
 have hm:(n:Int) % 256=(n:Int):=by omega
 replace hl:=Lib.hid hl
 replace hn:=Lib.hid hn
 clear h
 go_enter Tryz.func93,Tryz.ntmps93
 go_wp2_with fail
 refine ru λW2 N2=>?_
 have r2:=N2.new
 have r1:=N2.old (heap_alloc_new w (.cells #[.int .u8 106,.int .u8 (n:Int)] 5))
 have F:=((Fr.refl F0 w).alloc (.cells #[.int .u8 106,.int .u8 (n:Int)] 5)).trans' N2.fr
 rw[World.size_alloc]at r2
 have hb:=Bs.fr7 HB.out F
 have eL:(#[.int .u8 106,.int .u8 (n:Int)]:Array Value)=([106,UInt8.ofNat t.length].map B8).toArray:=by
  simp only[List.map_cons,List.map_nil,B8,UInt8.toNat_ofNat']
  have h1:=hl.out
  have h2:=hn.out
  rw[show t.length % 2 ^ 8=n by omega]
  rfl
 rw[eL]at r1
 clear N2 eL
 have HK:=Lib.hid (acr [(some ⟨w.heap.size,0,none⟩,2,[106,UInt8.ofNat t.length]),(a,c,t)] (some ⟨w.heap.size+1,0,none⟩) 2 2 rfl aPl W2
  (Pts.of2 r2 (Bs.alb (L := [106,UInt8.ofNat t.length]) r1 rfl aPl) hb rfl hn.out) (by have:=hl.out;simp[cat];omega))
 (with_reducible refine HK.out.mono ?_);rintro e w3 ⟨a3,c3,rfl,hb3,f3,n3⟩
 have e3:cat [(some ⟨w.heap.size,0,none⟩,2,[106,UInt8.ofNat t.length]),(a,c,t)]=106::UInt8.ofNat t.length::t:=by simp[cat]
 rw[e3]at hb3 ⊢
 have R:ou (106::UInt8.ofNat t.length::t) w (.returned (.slice a3 (106::UInt8.ofNat t.length::t).length c3)) w3:=⟨a3,c3,rfl,hb3,F.trans' f3,λb hb=>⟨Nat.le_trans F.size (n3 b hb).1,(n3 b hb).2⟩⟩
 replace R:=Lib.hid R
 clear HK e3 hb3 f3 n3 r2 r1 F hb
 generalize (106::UInt8.ofNat t.length::t).length=N at *
 go_wp2_with fail
 go_ret
 exact R.out
theorem amq(n:Int)(w:World):Calls Tryz.prog 92 #[.int .i64 n] w λe w'=>e = .returned (.bool (decide (1≤n)&&decide (n≤40)))∧w'=w:=by
 by_cases h1:1≤n
 ·go_enter Tryz.func92,Tryz.ntmps92
  go_wp2
  go_ret
  exact⟨by simp[h1],rfl⟩
 ·replace h1:n<1:=by omega
  go_enter Tryz.func92,Tryz.ntmps92
  go_wp2
  go_ret
  exact⟨by rw[decide_eq_false (by omega:¬1≤n)];rfl,rfl⟩
theorem aAy:aNx:=by
 intro k A t a n c w hA ht hn hl
 have HA:=Lib.hid (λw=>alj A w hA)
 have HT:=Lib.hid (λw hw h40=>aon t a n c w hw hn h40)
 have hB:=Lib.hid ht
 have K:=LkC.of (k:=k) hA (.slice a n c)
 obtain⟨s0,c0,c21,x1⟩:=K
 subst hn
 replace hA:=Lib.hid hA
 generalize lkC k A (.slice a t.length c)=C at *
 have d0:=jd c0 aPl
 have d21:=jd c21 aPl
 have r0:=heap_alloc_new w (.cells C 121)
 have F:=(Fr.refl F0 w).alloc (.cells C 121)
 have hb':=Lib.hid (Bs.fr7 ht F)
 clear ht
 have HI:=Lib.hid (λw=>amq (t.length:Int) w)
 by_cases h1:k=1
 ·subst h1
  have e1:lkB 1 A t=ak7 A:=by simp[lkB,ak7]
  have l1:((1:Int)==1)=true:=rfl
  have hm:aec Tryz.prog 62 (.pointer (some ⟨w.heap.size,1,none⟩)) (w.alloc (.cells C 121)) 20 1 22 (some (.cells C 121 (0,0))) = .ok (.agg (A.map B8).toArray) (w.alloc (.cells C 121)):=by
   rw[acu s0]
   rw[x1]
  go_enter Tryz.func51,Tryz.ntmps51
  go_wp2_with fail
  (with_reducible refine(HA.out _).mono ?_);rintro e w2 ⟨a2,c2,rfl,hb2,f2,n2⟩
  have R:ou (ak7 A) w (.returned (.slice a2 (ak7 A).length c2)) w2:=⟨a2,c2,rfl,hb2,F.trans' f2,λb hb=>⟨Nat.le_trans F.size (n2 b hb).1,(n2 b hb).2⟩⟩
  replace R:=Lib.hid R
  clear HA HT HI hb2 f2 n2 F hb' hm r0 x1
  obtain⟨N,hN⟩:∃N,N=(ak7 A).length:=⟨_,rfl⟩
  rw[←hN]
  replace hN:=Lib.hid hN
  replace e1:=Lib.hid e1
  go_wp2_with fail
  go_ret2
  obtain⟨a',c',e,hb,f,nn⟩:=R.out
  cases e
  exact⟨a2,N,c2,rfl,by rw[e1.out,hN.out],by rw[e1.out];exact hb,f,λg hg=>(nn g hg).1⟩
 ·have l1:(k==1)=false:=beq_false_of_ne h1
  by_cases h2:k=2
  ·subst h2
   have l2:((2:Int) != 2)=false:=rfl
   by_cases h3:t.length=0∨40<t.length
   ·have eE:lkE 2 t=3:=by rw[lkE,if_neg aPl,if_pos rfl,if_pos h3]
    have eB:lkB 2 A t = []:=by rw[lkB,if_neg aPl,if_neg (λh=>h.2 h3)]
    have hq:(decide (1≤(t.length:Int))&&decide ((t.length:Int)≤40))=false:=by
     rcases h3 with h3|h3
     ·rw[decide_eq_false aPl];rfl
     ·rw[decide_eq_false (by omega:¬(t.length:Int)≤40),Bool.and_false]
    rw[hq]at HI
    replace eB:=Lib.hid eB
    rw[eE]
    clear hq h3 eE
    go_enter Tryz.func51,Tryz.ntmps51
    go_wp2_with fail
    (with_reducible refine(HI.out _).mono ?_);rintro e w2 ⟨rfl,rfl⟩
    go_wp2_with fail
    go_ret2
    exact⟨none,0,0,rfl,by rw[eB.out];rfl,by rw[eB.out];exact Bs.nothing _,F,λg hg=>by cases hg⟩
   ·have h4:t.length≤40:=by omega
    have eE:lkE 2 t=0:=by rw[lkE,if_neg aPl,if_pos rfl,if_neg h3]
    have eB:lkB 2 A t=106::UInt8.ofNat t.length::t:=by rw[lkB,if_neg aPl,if_pos ⟨rfl,h3⟩]
    have hq:(decide (1≤(t.length:Int))&&decide ((t.length:Int)≤40))=true:=by
     rw[decide_eq_true aPl,decide_eq_true aPl];rfl
    rw[hq]at HI
    replace eB:=Lib.hid eB
    have HT2:=Lib.hid (λw hw=>HT.out w hw aPl)
    rw[eE]
    clear hq h3 h4 eE HT
    go_enter Tryz.func51,Tryz.ntmps51
    go_wp2_with fail
    (with_reducible refine(HI.out _).mono ?_);rintro e w2 ⟨rfl,rfl⟩
    go_wp2_with fail
    (with_reducible refine(HT2.out _ hb'.out).mono ?_);rintro e w2 ⟨a2,c2,rfl,hb2,f2,n2⟩
    have R:ou (106::UInt8.ofNat t.length::t) w (.returned (.slice a2 (106::UInt8.ofNat t.length::t).length c2)) w2:=⟨a2,c2,rfl,hb2,F.trans' f2,λb hb=>⟨Nat.le_trans F.size (n2 b hb).1,(n2 b hb).2⟩⟩
    replace R:=Lib.hid R
    clear HA HT2 HI hb2 f2 n2 F hb' r0 x1
    obtain⟨N,hN⟩:∃N,N=(106::UInt8.ofNat t.length::t).length:=⟨_,rfl⟩
    rw[←hN]
    replace hN:=Lib.hid hN
    go_wp2_with fail
    go_ret2
    obtain⟨a',c',e,hb,f,nn⟩:=R.out
    cases e
    exact⟨a2,N,c2,rfl,by rw[eB.out,hN.out],by rw[eB.out];exact hb,f,λg hg=>(nn g hg).1⟩
  ·have l2:(k != 2)=true:=by simp[h2]
   have eE:lkE k t=1:=by simp[lkE,h1,h2]
   have eB:lkB k A t = []:=by simp[lkB,h1,h2]
   replace eB:=Lib.hid eB
   rw[eE]
   clear eE
   go_enter Tryz.func51,Tryz.ntmps51
   go_wp2_with fail
   go_ret2
   exact⟨none,0,0,rfl,by rw[eB.out];rfl,by rw[eB.out];exact Bs.nothing _,F,λg hg=>by cases hg⟩
theorem aom{w:World}{g c d:Nat}{a:Addr}{Z:Array Value}{l:List UInt8}{ty:TypeId}(hg:w.heap[g]? = some (.cells Z 62 (0,0)))(hz:Z.size=20)(hl:l.length=20)(hb:Bs w (some a) c l):
  (Builtin.copy_ #[22,22] ty #[.slice (some ⟨g,0,none⟩) 20 20,.slice (some a) 20 d]).run Tryz.prog w = .ok (.int .i64 20) (w.setRow g (l.map B8).toArray):=by
 have key:=run_copy_row (P:=Tryz.prog) w 22 22 ty 5 g 0 20 20 a 20 d Z 62 (l.map B8) Tryz.underlying22 (by kernel_rfl) hg (by simp[hl]) (λj v hj=>by
   obtain⟨b',o',e,hc⟩:=hb.cell j v hj
   cases e
   rw[Addr.add_lit]
   exact hc) (by simp[hl,hz]) zz38
 rw[key]
 have e:(Z.toList.take 0++l.map B8++Z.toList.drop (0+(l.map B8).length)).toArray=(l.map B8).toArray:=by
  rw[List.take_zero,List.nil_append,List.drop_eq_nil_of_le (by simp[hz,hl]),List.append_nil]
 rw[e]
 simp[goInt,hl]
theorem adz:(yu.map B8).toArray.size=20:=rfl
theorem al4:jh (yu.map B8).toArray:=ajr _
theorem Bs.aPy{w:World}{a:Option Addr}{c:Nat}{l:List UInt8}(h:Bs w a c l)(j:Nat)(hj:j<l.length):∃b off,a=some ⟨b,off,none⟩∧w.cell? ⟨b,off+j,none⟩=some (.int .u8 ((l.getD j 0).toNat:Int)):=by
 obtain⟨b,off,e,hc⟩:=h.at j hj
 exact⟨b,off,e,by rw[hc];simp[List.getD,List.getElem?_eq_getElem hj]⟩
theorem axz(b:List UInt8)(a:Option Addr)(n c:Nat)(w:World)(h:Bs w a c b)(hn:n=b.length)(hq:opO b=false):
  Calls Tryz.prog 189 #[.slice a n c] w λe w'=>e = .returned (.tuple #[.agg (yu.map B8).toArray,.bool false])∧Fr F0 w w':=by
 obtain⟨C,hC⟩:∃C,C=(yu.map B8).toArray:=⟨_,rfl⟩
 have Z:C.size=20:=by rw[hC];exact adz
 have o0:jh C:=by rw[hC];exact al4
 rw[←hC]
 replace hC:=Lib.hid hC
 by_cases h1:n=21
 ·subst h1
  have l1:((21:Int) != 21)=false:=rfl
  obtain⟨g,off,rfl,hc⟩:=h.aPy 0 aPl
  have h20:b.getD 0 0≠20:=by
   intro e
   rw[opO,decide_eq_false_iff_not]at hq
   exact hq ⟨hn.symm,e⟩
  have l2:(((b.getD 0 0).toNat:Int) != 20)=true:=bne_iff_ne.2 (λe=>h20 (UInt8.toNat_inj.1 (by have:(b.getD 0 0).toNat=20:=aPl;rw[this];rfl)))
  generalize ((b.getD 0 0).toNat:Int)=x at *
  rw[Nat.add_zero]at hc
  clear h hn hq h20
  go_enter Tryz.func189,Tryz.ntmps189
  go_upto_region 1 with fail
  refine lu λW1 N1=>?_
  have r2:=N1.new
  replace r2:W1.heap[w.heap.size]? = some (.cells C 62 (0,0)):=by rw[hC.out];exact r2
  have F:=N1.fr
  replace hc:=F.cell (λf=>f) hc
  obtain⟨g2,hg2⟩:∃g,g=w.heap.size:=⟨_,rfl⟩
  rw[←hg2]at r2 ⊢
  replace hg2:=Lib.hid (Nat.le_of_eq hg2.symm)
  clear N1
  go_upto_region 2 with fail
  refine lu λW2 N2=>?_
  have r3:=N2.new
  replace r3:W2.heap[W1.heap.size]? = some (.cells C 62 (0,0)):=by rw[hC.out];exact r3
  replace r2:=N2.old r2
  replace hc:=N2.fr.cell (λf=>f) hc
  replace F:=F.trans' N2.fr
  clear N2
  try rw[jq]at hc
  generalize W1.heap.size=g3 at *
  go_wp2
  refine bodyPost_ret (cu rfl _ _ g2 _ _ _ _ rfl zz64 Tryz.underlying62 rfl aOh) rfl ⟨rfl,?_⟩
  exact F.setRow (λh=>by have:=hg2.out;omega) _
 ·have l1:((n:Int) != 21)=true:=bne_iff_ne.2 aPl
  clear h hn hq h1
  go_enter Tryz.func189,Tryz.ntmps189
  go_upto_region 1 with fail
  refine lu λW1 N1=>?_
  have r2:=N1.new
  replace r2:W1.heap[w.heap.size]? = some (.cells C 62 (0,0)):=by rw[hC.out];exact r2
  have F:=N1.fr
  obtain⟨g2,hg2⟩:∃g,g=w.heap.size:=⟨_,rfl⟩
  rw[←hg2]at r2 ⊢
  replace hg2:=Lib.hid (Nat.le_of_eq hg2.symm)
  clear N1
  go_upto_region 2 with fail
  refine lu λW2 N2=>?_
  have r3:=N2.new
  replace r3:W2.heap[W1.heap.size]? = some (.cells C 62 (0,0)):=by rw[hC.out];exact r3
  replace r2:=N2.old r2
  replace F:=F.trans' N2.fr
  clear N2
  try rw[jq]at hc
  generalize W1.heap.size=g3 at *
  go_wp2
  refine bodyPost_ret (cu rfl _ _ g2 _ _ _ _ rfl zz64 Tryz.underlying62 rfl aOh) rfl ⟨rfl,?_⟩
  exact F.setRow (λh=>by have:=hg2.out;omega) _
theorem ath(b:List UInt8)(a:Option Addr)(n c:Nat)(w:World)(h:Bs w a c b)(hn:n=b.length)(hq:opO b=true):
  Calls Tryz.prog 189 #[.slice a n c] w λe w'=>e = .returned (.tuple #[.agg ((b.drop 1).map B8).toArray,.bool true])∧Fr F0 w w':=by
 rw[opO,decide_eq_true_iff]at hq
 obtain⟨h1,h2⟩:=hq
 obtain rfl:n=21:=by omega
 have l1:((21:Int) != 21)=false:=rfl
 obtain⟨g,off,rfl,hc⟩:=h.aPy 0 aPl
 rw[h2]at hc
 rw[Nat.add_zero]at hc
 replace hc:w.cell? ⟨g,off,none⟩=some (.int .u8 20):=hc
 have hA:=Lib.hid (show(b.drop 1).length=20 by rw[List.length_drop,h1])
 have hd:=h.drop 1 aPl
 have hroom:=h.room
 have sz:((b.drop 1).map B8).toArray.size=20:=by simp[h1]
 have on1:jh ((b.drop 1).map B8).toArray:=ajr _
 have ec:agv (some ⟨g,off,none⟩) c 1 1=some ⟨g,off+1,none⟩:=by
  unfold agv
  rw[if_neg aPl]
  simp[Addr.add_lit]
 rw[ec]at hd
 clear h hn h1 h2 hroom
 obtain⟨C,hC⟩:∃C,C=(yu.map B8).toArray:=⟨_,rfl⟩
 have Z:C.size=20:=by rw[hC];exact adz
 replace hC:=Lib.hid hC
 generalize b.drop 1=L at *
 go_enter Tryz.func189,Tryz.ntmps189
 go_upto_region 1 with fail
 refine lu λW1 N1=>?_
 have r2:=N1.new
 replace r2:W1.heap[w.heap.size]? = some (.cells C 62 (0,0)):=by rw[hC.out];exact r2
 have F:=N1.fr
 replace hc:=F.cell (λf=>f) hc
 obtain⟨g2,hg2⟩:∃g,g=w.heap.size:=⟨_,rfl⟩
 rw[←hg2]at r2 ⊢
 replace hg2:=Lib.hid (Nat.le_of_eq hg2.symm)
 clear N1
 go_upto_region 2 with fail
 refine lu λW2 N2=>?_
 have r3:=N2.new
 replace r3:W2.heap[W1.heap.size]? = some (.cells C 62 (0,0)):=by rw[hC.out];exact r3
 have ne:=N2.ne r2
 replace r2:=N2.old r2
 replace hc:=N2.fr.cell (λf=>f) hc
 have hg3:=Lib.hid F.size
 replace F:=F.trans' N2.fr
 replace hd:=Bs.fr7 hd F
 clear N2
 rw[jq]at hc
 generalize W1.heap.size=g3 at *
 go_upto_region 4 with fail
 have hcp:=λd=>aom (ty:=3) (d:=d) (ku r3) Z hA.out (Bs.fr7 hd (Fr.refl F0 _).drew)
 clear hd
 refine jm (S:=(λw'=>True)) ?_ λak=>?_
 ·exact ark
 refine aj 0 ?_
 refine aj 1 ?_
 refine aj 2 ?_
 refine jf 3 λK hK=>?_
 go_simp
 refine rpu hK ark λak=>?_
 clear hK K
 refine jg ?_
 clear hcp hc
 replace r2:=ku r2
 replace r3:=ku r3
 replace F:=F.drew
 generalize W2.drew=W3 at *
 go_wp2
 refine bodyPost_ret (cu rfl _ _ g2 _ _ _ _ rfl (by rw[jc,iy _ _ _ _ ne,r2];rfl) Tryz.underlying62 rfl (by rw[Tryz.szAddress,sz])) rfl ⟨rfl,?_⟩
 exact(F.setRow (λh=>by have:=hg3.out;omega) _).setRow (λh=>by have:=hg2.out;omega) _
theorem aG7:aId:=by
 intro b a n c w h hn _
 cases hq:opO b
 ·rw[show opA b=yu by simp[opA,hq]]
  exact axz b a n c w h hn hq
 ·rw[show opA b=b.drop 1 by simp[opA,hq]]
  exact ath b a n c w h hn hq
def aoO(b:List UInt8):Bool:=decide (b.length=25∧b.take 3 = [118,169,20]∧b.drop 23 = [136,172])
def aoA(b:List UInt8):List UInt8:=if aoO b then(b.drop 3).take 20 else yu
theorem afr(b:List UInt8):(aoA b).length=20:=by
 unfold aoA aoO
 split
 ·rename_i h
  have:=(of_decide_eq_true h).1
  simp;omega
 ·rfl
theorem aQn{b:List UInt8}{n:Nat}(hn:n=b.length)(q1:2≤n∧b.take 2 = [118,169])(q2:2≤n-2∧(b.drop 2).drop (n-2-2) = [136,172]):opO ((b.drop 2).take (n-2-2))=aoO b:=by
 rw[opO,aoO,decide_eq_decide]
 rw[List.drop_drop]at q2
 have hx:((b.drop 2).take (n-2-2)).length=n-4:=by rw[List.length_take,List.length_drop];omega
 rw[hx]
 constructor
 ·rintro⟨h1,h2⟩
  obtain rfl:n=25:=by omega
  have e:((b.drop 2).take (25-2-2)).getD 0 0=b.getD 2 0:=by simp[List.getD,List.getElem?_take,List.getElem?_drop]
  rw[e]at h2
  refine⟨hn.symm,?_,q2.2⟩
  rw[ada b 2 aPl,q1.2,h2]
  rfl
 ·rintro⟨h1,h2,h3⟩
  obtain rfl:n=25:=by omega
  refine⟨rfl,?_⟩
  have e:((b.drop 2).take (25-2-2)).getD 0 0=(b.take 3).getD 2 0:=by simp[List.getD,List.getElem?_take,List.getElem?_drop]
  rw[e,h2]
  rfl
theorem aSg{b:List UInt8}{n:Nat}(hn:n=b.length)(q1:2≤n∧b.take 2 = [118,169])(q2:2≤n-2∧(b.drop 2).drop (n-2-2) = [136,172]):opA ((b.drop 2).take (n-2-2))=aoA b:=by
 rw[opA,aoA,aQn hn q1 q2]
 split
 ·rename_i h
  rw[aoO,decide_eq_true_iff]at h
  obtain rfl:n=25:=by omega
  rw[List.drop_take,List.drop_drop]
 ·rfl
theorem aSf{b:List UInt8}{n:Nat}(hn:n=b.length)(q1:¬(2≤n∧b.take 2 = [118,169])):aoO b=false:=by
 refine decide_eq_false λh=>q1 ⟨by omega,?_⟩
 have e:b.take 2=(b.take 3).take 2:=by rw[List.take_take];rfl
 rw[e,h.2.1]
 rfl
theorem aSe{b:List UInt8}{n:Nat}(hn:n=b.length)(q2:¬(2≤n-2∧(b.drop 2).drop (n-2-2) = [136,172])):aoO b=false:=by
 refine decide_eq_false λh=>q2 ⟨by omega,?_⟩
 obtain rfl:n=25:=by omega
 rw[List.drop_drop]
 exact h.2.2
theorem ati(b:List UInt8)(a:Option Addr)(n c:Nat)(w:World)(h:Bs w a c b)(hn:n=b.length)(hl:b.length≤1000):
  Calls Tryz.prog 166 #[.slice a n c] w λe w'=>e = .returned (.tuple #[.agg ((aoA b).map B8).toArray,.bool (aoO b)])∧Fr F0 w w':=by
 have HB:=Lib.hid h
 have H1:=Lib.hid (λw hw g hg=>alo b [118,169] a (some ⟨g,0,none⟩) n 2 c 2 w hw hg hn rfl)
 replace hl:=Lib.hid hl
 replace hn:=Lib.hid hn
 have hz:∀w,(ajt #[]).run Tryz.prog w = .ok (.agg (yu.map B8).toArray) w:=λw=>agk w #[] _ aDh
 obtain⟨C,hC⟩:∃C,C=(yu.map B8).toArray:=⟨_,rfl⟩
 have Z:C.size=20:=by rw[hC];exact adz
 have o0:jh C:=by rw[hC];exact al4
 rw[←hC]at hz
 replace hC:=Lib.hid hC
 clear h
 go_enter Tryz.func166,Tryz.ntmps166
 go_upto_region 1 with fail
 refine lu λW1 N1=>?_
 have r2:=N1.new
 replace r2:W1.heap[w.heap.size]? = some (.cells C 62 (0,0)):=by rw[hC.out];exact r2
 have F:=N1.fr
 obtain⟨g2,hg2⟩:∃g,g=w.heap.size:=⟨_,rfl⟩
 rw[←hg2]at r2 ⊢
 replace hg2:=Lib.hid (Nat.le_of_eq hg2.symm)
 clear N1
 go_wp2_with fail
 refine ru λW2 N2=>?_
 replace r2:=N2.old r2
 replace F:=F.trans' N2.fr
 have hb1:=Bs.alb (L := [118,169]) (n:=2) N2.new rfl aPl
 clear N2
 (with_reducible refine(H1.out _ (Bs.fr7 HB.out F) _ hb1).mono ?_);rintro e w3 ⟨rfl,hy,hx⟩
 clear hb1 H1
 by_cases q1:2≤n∧b.take 2 = [118,169]
 ·replace hy:=hy q1
  subst hy
  clear hx
  have HB2:=Lib.hid ((Bs.fr7 HB.out F).drop 2 (by have:=hn.out;omega))
  have H2:=Lib.hid (λw hw g hg=>aln (b.drop 2) [136,172] (agv a c 2 1) (some ⟨g,0,none⟩) (n-2) 2 (c-2) 2 w hw hg (by rw[List.length_drop,hn.out]) rfl)
  go_wp2_with fail
  refine ru λW4 N4=>?_
  replace r2:=N4.old r2
  replace F:=F.trans' N4.fr
  have hb1:=Bs.alb (L := [136,172]) (n:=2) N4.new rfl aPl
  have HB3:=Bs.fr7 HB2.out N4.fr
  clear N4
  (with_reducible refine(H2.out _ HB3 _ hb1).mono ?_);rintro e w3 ⟨rfl,hy,hx⟩
  clear hb1 H2
  by_cases q2:2≤n-2∧(b.drop 2).drop (n-2-2) = [136,172]
  ·replace hy:=hy q2
   subst hy
   have H3:=Lib.hid (aG7 ((b.drop 2).take (n-2-2)) (agv a c 2 1) (n-2-2) (c-2) w3 (HB3.take _) (by rw[List.length_take,List.length_drop,←hn.out];omega) (by rw[List.length_take];have:=hn.out;have:=hl.out;omega))
   have eO:opO ((b.drop 2).take (n-2-2))=aoO b:=aQn hn.out q1 q2
   have eA:opA ((b.drop 2).take (n-2-2))=aoA b:=aSg hn.out q1 q2
   rw[eO,eA]at H3
   clear hx
   go_wp2_with fail
   (with_reducible refine H3.out.mono ?_);rintro e w5 ⟨rfl,f⟩
   replace r2:=au f r2
   replace F:=F.trans' f
   have sA:((aoA b).map B8).toArray.size=20:=by simp[afr]
   have oA:jh ((aoA b).map B8).toArray:=ajr _
   clear f H3 eO eA
   go_wp2_with fail
   refine bodyPost_ret (cu rfl _ _ g2 _ _ _ _ rfl zz64 Tryz.underlying62 rfl (by rw[Tryz.szAddress,sA])) rfl ⟨rfl,?_⟩
   exact F.setRow (λh=>by have:=hg2.out;omega) _
  ·replace hx:=hx q2
   subst hx
   have eO:aoO b=false:=aSe hn.out q2
   clear hy
   go_wp2_with fail
   refine bodyPost_ret (cu rfl _ _ g2 _ _ _ _ rfl zz64 Tryz.underlying62 rfl aOh) rfl ⟨?_,?_⟩
   ·rw[aoA,eO,hC.out];rfl
   ·exact F.setRow (λh=>by have:=hg2.out;omega) _
 ·replace hx:=hx q1
  subst hx
  have eO:aoO b=false:=aSf hn.out q1
  clear hy
  go_wp2_with fail
  refine bodyPost_ret (cu rfl _ _ g2 _ _ _ _ rfl zz64 Tryz.underlying62 rfl aOh) rfl ⟨?_,?_⟩
  ·rw[aoA,eO,hC.out];rfl
  ·exact F.setRow (λh=>by have:=hg2.out;omega) _
def toO(b:List UInt8):Bool:=decide (3≤b.length∧b.length≤42∧b.getD 0 0=106∧(b.getD 1 0).toNat+2=b.length)
def toT(b:List UInt8):List UInt8:=if toO b then b.drop 2 else []
theorem axy(b:List UInt8)(a:Option Addr)(n c:Nat)(w:World)(h:Bs w a c b)(hn:n=b.length)(hl:b.length≤1000):
  Calls Tryz.prog 167 #[.slice a n c] w λe w'=>∃a' n' c',e = .returned (.tuple #[.slice a' n' c',.bool (toO b)])∧n'=(toT b).length∧Bs w' a' c' (toT b)∧Fr F0 w w'∧∀k,ql a'=some k→w.heap.size≤k:=by
 have hno:toO b=false→∃a' n' c',Ending.returned (.tuple #[.slice none 0 0,.bool false])=Ending.returned (.tuple #[.slice a' n' c',.bool (toO b)])∧n'=(toT b).length∧Bs w a' c' (toT b)∧Fr F0 w w∧∀k,ql a'=some k→w.heap.size≤k:=λe=>by
  rw[toT,e]
  exact⟨none,0,0,rfl,rfl,Bs.nothing w,Fr.refl _ _,λk h=>by cases h⟩
 by_cases h1:n<2
 ·have hq:toO b=false:=decide_eq_false λh=>by omega
  have l1:(n:Int)<2:=by omega
  replace hno:=Lib.hid (hno hq)
  clear h hn hl h1 hq
  go_enter Tryz.func167,Tryz.ntmps167
  go_wp2
  go_ret2
  exact hno.out
 ·have l1:¬(n:Int)<2:=by omega
  obtain⟨g,off,rfl,hc⟩:=h.aPy 0 aPl
  obtain⟨g',off',e',hc1⟩:=h.aPy 1 aPl
  obtain⟨rfl,rfl⟩:g=g'∧off=off':=by simpa using e'
  clear e'
  rw[Nat.add_zero]at hc
  by_cases h2:b.getD 0 0=106
  ·have l2:((106:Int) != 106)=false:=rfl
   rw[h2]at hc
   replace hc:w.cell? ⟨g,off,none⟩=some (.int .u8 106):=hc
   have hroom:=h.room
   have aiw:=h.most
   unfold maxLen at aiw
   have hx:=(b.getD 1 0).toNat_lt
   obtain⟨x,hxe⟩:∃x,x=(b.getD 1 0).toNat:=⟨_,rfl⟩
   rw[←hxe]at hc1 hx
   have hd:=h.drop 2 aPl
   have ed:(b.drop 2).length=n-2:=by rw[List.length_drop,hn]
   have HC:=Lib.hid (λa c hb=>ae2 a (n-2) c (b.drop 2) w hb ed.symm aPl)
   have HI:=Lib.hid (λw=>amq ((n-2:Nat):Int) w)
   have l6:(x:Int) % 4294967296=(x:Int):=by omega
   rw[jq]at hc hc1
   have lw:IntKind.i64.wrap (x:Int)=(x:Int):=by rw[IntKind.wrap_i64];omega
   by_cases h3:x=n-2
   ·have l4:((x:Int) != ((n-2:Nat):Int))=false:=by rw[h3];exact bne_self_eq_false _
    by_cases h4:1≤n-2∧n-2≤40
    ·have hq:toO b=true:=decide_eq_true ⟨by omega,by omega,h2,by omega⟩
     have eT:toT b=b.drop 2:=by rw[toT,hq];rfl
     have hz:(decide (1≤((n-2:Nat):Int))&&decide (((n-2:Nat):Int)≤40))=true:=by rw[decide_eq_true aPl,decide_eq_true aPl];rfl
     rw[hz]at HI
     rw[eT,hq]
     unfold ou at HC
     rw[ed]at HC ⊢
     replace hd:=Lib.hid hd
     have hc2:¬c=2:=by omega
     have ec:agv (some ⟨g,off,none⟩) c 2 1=some ⟨g,off+2,none⟩:=by
      unfold agv
      rw[if_neg hc2]
      simp[Addr.add_lit]
     rw[ec]at hd
     subst h3
     clear h hn hl h1 hq h2 h4 hz hno hroom aiw hxe hx ed ec
     go_enter Tryz.func167,Tryz.ntmps167
     go_wp2_with fail
     (with_reducible refine(HI.out _).mono ?_);rintro e w3 ⟨rfl,rfl⟩
     go_wp2_with fail
     (with_reducible refine(HC.out _ _ hd.out).mono ?_);rintro e w4 ⟨a4,c4,rfl,hb4,f4,n4⟩
     replace n4:=Lib.hid n4;clear HC HI hc hc1
     replace hb4:=Lib.hid hb4
     go_wp2_with fail
     go_ret2
     exact⟨a4,_,c4,rfl,rfl,hb4.out,f4,λk hk=>(n4.out k hk).1⟩
    ·have hq:toO b=false:=decide_eq_false λh=>by omega
     have hz:(decide (1≤((n-2:Nat):Int))&&decide (((n-2:Nat):Int)≤40))=false:=by
      by_cases h5:1≤n-2
      ·rw[decide_eq_false (show ¬((n-2:Nat):Int)≤40 by omega),Bool.and_false]
      ·rw[decide_eq_false (show ¬1≤((n-2:Nat):Int) by omega),Bool.false_and]
     rw[hz]at HI
     subst h3
     replace hno:=Lib.hid (hno hq)
     clear h hn hl h1 hq h2 h4 hz hroom aiw hxe hx ed hd HC
     go_enter Tryz.func167,Tryz.ntmps167
     go_wp2_with fail
     all_goals
      (with_reducible refine(HI.out _).mono ?_);rintro e w3 ⟨rfl,rfl⟩
      go_wp2_with fail
      go_ret2
      exact hno.out
   ·have l4:((x:Int) != ((n-2:Nat):Int))=true:=bne_iff_ne.2 aPl
    have l5:¬(x:Int)=((n-2:Nat):Int):=by omega
    have hq:toO b=false:=decide_eq_false λh=>by omega
    replace hno:=Lib.hid (hno hq)
    clear h hn hl h1 hq h2 h3 hroom aiw hxe hx ed hd HC HI
    go_enter Tryz.func167,Tryz.ntmps167
    go_wp2_with fail
    all_goals
     go_ret2
     exact hno.out
  ·have l2:(((b.getD 0 0).toNat:Int) != 106)=true:=bne_iff_ne.2 (λe=>h2 (UInt8.toNat_inj.1 (by have:(b.getD 0 0).toNat=106:=aPl;rw[this];rfl)))
   have hq:toO b=false:=decide_eq_false λh=>h2 h.2.2.1
   replace hno:=Lib.hid (hno hq)
   rw[jq]at hc
   generalize ((b.getD 0 0).toNat:Int)=x at *
   clear h hn hl h1 hq h2 hc1
   go_enter Tryz.func167,Tryz.ntmps167
   go_wp2_with fail
   all_goals
    go_ret2
    exact hno.out
theorem aRq(b:List UInt8):lkP b=if aoO b=true then(1,aoA b,[])else if toO b=true then(2,yu,toT b)else(0,yu,[]):=by
 unfold lkP
 by_cases h1:aoO b=true
 ·rw[if_pos h1,aoA,if_pos h1,if_pos (of_decide_eq_true h1)]
 ·rw[if_neg h1,if_neg (λh=>h1 (decide_eq_true h))]
  by_cases h2:toO b=true
  ·rw[if_pos h2,toT,if_pos h2,if_pos (of_decide_eq_true h2)]
  ·rw[if_neg h2,if_neg (λh=>h2 (decide_eq_true h))]
theorem aMq(b:List UInt8)(a:Option Addr)(n c:Nat)(w:World)(h:Bs w a c b)(hn:n=b.length)(hl:b.length≤1000):
  Calls Tryz.prog 132 #[.slice a n c] w λe w'=>∃a' n' c',e = .returned (.agg (lkC (lkP b).1 (lkP b).2.1 (.slice a' n' c')))∧n'=(lkP b).2.2.length∧Bs w' a' c' (lkP b).2.2∧Fr F0 w w'∧∀k,ql a'=some k→w.heap.size≤k:=by
 have HB:=Lib.hid h
 have HA:=Lib.hid (λw hw=>ati b a n c w hw hn hl)
 have HT:=Lib.hid (λw hw=>axy b a n c w hw hn hl)
 obtain⟨C0,hC0⟩:∃C,C=lkC 0 yu (.slice none 0 0):=⟨_,rfl⟩
 obtain⟨A0,hA0⟩:∃C,C=(yu.map B8).toArray:=⟨_,rfl⟩
 have Z0:C0.size=22:=by rw[hC0];rfl
 have ZA:A0.size=20:=by rw[hA0];exact adz
 replace hC0:=Lib.hid hC0
 replace hA0:=Lib.hid hA0
 clear h hn hl
 rw[aRq]
 by_cases q1:aoO b=true
 ·rw[if_pos q1]
  rw[q1]at HA
  have hbl:=λw=>ab9 w #[(0,.int .i64 1),(1,.agg ((aoA b).map B8).toArray)] _ (aqb (aoA b) (afr b))
  obtain⟨C,hC⟩:∃C,C=lkC 1 (aoA b) (.slice none 0 0):=⟨_,rfl⟩
  have sK:C.size=22:=by rw[hC];exact(LkC.of (k:=1) (afr b) (.slice none 0 0)).size
  have K1:jh C:=by rw[hC];exact ajs
  rw[←hC]at hbl
  replace hC:=Lib.hid hC
  have sA:((aoA b).map B8).toArray.size=20:=by simp[afr]
  have oA:jh ((aoA b).map B8).toArray:=ajr _
  dsimp only
  generalize ((aoA b).map B8).toArray=A at *
  clear HT
  go_enter Tryz.func132,Tryz.ntmps132
  go_upto_region 1 with fail
  refine lu λW1 N1=>?_
  have r2:=N1.new
  replace r2:W1.heap[w.heap.size]? = some (.cells C0 121 (0,0)):=by rw[hC0.out];exact r2
  have F:=N1.fr
  obtain⟨g2,hg2⟩:∃g,g=w.heap.size:=⟨_,rfl⟩
  rw[←hg2]at r2 ⊢
  replace hg2:=Lib.hid (Nat.le_of_eq hg2.symm)
  clear N1
  go_wp2_with fail
  (with_reducible refine(HA.out _ (Bs.fr7 HB.out F)).mono ?_);rintro e w3 ⟨rfl,f⟩
  replace r2:=au f r2
  replace F:=F.trans' f
  clear f HA
  go_upto_region 2 with fail
  refine uy λW4 N4=>?_
  have r3:=N4.new
  replace r2:=N4.old r2
  replace F:=F.trans' N4.fr
  clear N4
  generalize w3.heap.size=g3 at *
  go_wp2
  refine bodyPost_ret (results_cell_row rfl _ _ g2 _ _ _ _ rfl zz64 Tryz.underlying121 rfl (by rw[Tryz.szLock,sK])) rfl ⟨none,0,0,by rw[hC.out],rfl,Bs.nothing _,?_,λk e=>(by cases e)⟩
  exact F.setRow (λh=>by have:=hg2.out;omega) _
 ·rw[if_neg q1]
  rw[show aoO b=false by simpa using q1]at HA
  have eA:aoA b=yu:=by rw[aoA,if_neg q1]
  rw[eA]at HA
  rw[←hA0.out]at HA
  have oA:jh A0:=by rw[hA0.out];exact ajr _
  clear q1 eA
  by_cases q2:toO b=true
  ·rw[if_pos q2]
   rw[q2]at HT
   have hbl:=λw a n c=>ab9 w #[(0,.int .i64 2),(2,.slice a n c)] _ (aqa a n c)
   have sK:∀a n c,(lkC 2 yu (.slice a n c)).size=22:=λa n c=>(LkC.of (k:=2) (A:=yu) rfl (.slice a n c)).size
   have K1:∀a n c,jh (lkC 2 yu (.slice a n c)):=λa n c=>ajs
   dsimp only
   go_enter Tryz.func132,Tryz.ntmps132
   go_upto_region 1 with fail
   refine lu λW1 N1=>?_
   have r2:=N1.new
   replace r2:W1.heap[w.heap.size]? = some (.cells C0 121 (0,0)):=by rw[hC0.out];exact r2
   have F:=N1.fr
   obtain⟨g2,hg2⟩:∃g,g=w.heap.size:=⟨_,rfl⟩
   rw[←hg2]at r2 ⊢
   replace hg2:=Lib.hid (Nat.le_of_eq hg2.symm)
   clear N1
   go_wp2_with fail
   (with_reducible refine(HA.out _ (Bs.fr7 HB.out F)).mono ?_);rintro e w3 ⟨rfl,f⟩
   replace r2:=au f r2
   replace F:=F.trans' f
   clear f HA
   go_upto_region 2 with fail
   refine uy λW4 N4=>?_
   replace r2:=N4.old r2
   replace F:=F.trans' N4.fr
   clear N4
   have h2:=Lib.hid (Array.getElem?_eq_some_iff.1 r2).1
   generalize w3.heap.size=g3 at *
   go_wp2_with fail
   (with_reducible refine(HT.out _ (Bs.fr7 HB.out F)).mono ?_);rintro e w5 ⟨a5,n5,c5,rfl,hn5,hb5,f,k5⟩
   have kN:=Lib.hid (show ∀k,ql a5=some k→w.heap.size≤k from λk hk=>Nat.le_trans F.size (k5 k hk))
   replace r2:=au f r2
   replace F:=F.trans' f
   replace k5:=Lib.hid (show ∀k,ql a5=some k→k≠g2 from λk hk e=>by have h1:=k5 k hk;have h3:=h2.out;omega)
   replace hn5:=Lib.hid hn5
   replace hb5:=Lib.hid hb5
   have sK5:=sK a5 n5 c5
   have K5:=K1 a5 n5 c5
   have hbl5:=λw=>hbl w a5 n5 c5
   obtain⟨C,hC⟩:∃C,C=lkC 2 yu (.slice a5 n5 c5):=⟨_,rfl⟩
   rw[←hC]at sK5 K5 hbl5
   replace hC:=Lib.hid hC
   clear f HT hbl sK K1
   go_wp2
   have f2:Fr (λk=>k=g2) w5 (w5.setRow g2 C):=Fr.setRow (Fr.refl (λk=>k=g2) w5) (λ_=>rfl) C
   refine bodyPost_ret (results_cell_row rfl _ _ g2 _ _ _ _ rfl zz64 Tryz.underlying121 rfl (by rw[Tryz.szLock,sK5])) rfl ⟨a5,n5,c5,by rw[hC.out],hn5.out,?_,?_,kN.out⟩
   ·exact Sl.fr hb5.out f2 λk hk e=>k5.out k hk e
   ·exact F.setRow (λh=>by have:=hg2.out;omega) _
  ·rw[if_neg q2]
   rw[show toO b=false by simpa using q2]at HT
   have eT:toT b = []:=by rw[toT,if_neg q2]
   rw[eT]at HT
   have hbl:=λw=>ab9 w #[(0,.int .i64 0)] _ (show Tryz.prog.built 121 [(0,.int .i64 0)]=some (lkC 0 yu (.slice none 0 0)) by kernel_rfl)
   have K1:jh C0:=by rw[hC0.out];exact ajs
   rw[←hC0.out]at hbl
   dsimp only
   go_enter Tryz.func132,Tryz.ntmps132
   go_upto_region 1 with fail
   refine lu λW1 N1=>?_
   have r2:=N1.new
   replace r2:W1.heap[w.heap.size]? = some (.cells C0 121 (0,0)):=by rw[hC0.out];exact r2
   have F:=N1.fr
   obtain⟨g2,hg2⟩:∃g,g=w.heap.size:=⟨_,rfl⟩
   rw[←hg2]at r2 ⊢
   replace hg2:=Lib.hid (Nat.le_of_eq hg2.symm)
   clear N1
   go_wp2_with fail
   (with_reducible refine(HA.out _ (Bs.fr7 HB.out F)).mono ?_);rintro e w3 ⟨rfl,f⟩
   replace r2:=au f r2
   replace F:=F.trans' f
   clear f HA
   go_upto_region 2 with fail
   refine uy λW4 N4=>?_
   replace r2:=N4.old r2
   replace F:=F.trans' N4.fr
   clear N4
   have h2:=Lib.hid (Array.getElem?_eq_some_iff.1 r2).1
   generalize w3.heap.size=g3 at *
   go_wp2_with fail
   (with_reducible refine(HT.out _ (Bs.fr7 HB.out F)).mono ?_);rintro e w5 ⟨a5,n5,c5,rfl,hn5,hb5,f,k5⟩
   replace r2:=au f r2
   replace F:=F.trans' f
   clear f HT hn5 hb5 k5 h2
   go_wp2
   refine bodyPost_ret (results_cell_row rfl _ _ g2 _ _ _ _ rfl zz64 Tryz.underlying121 rfl (by rw[Tryz.szLock,Z0])) rfl ⟨none,0,0,by rw[hC0.out],rfl,Bs.nothing _,?_,λk e=>(by cases e)⟩
   exact F.setRow (λh=>by have:=hg2.out;omega) _
end Go.Proofs.YtjlelckefiannaaGreatDoor
