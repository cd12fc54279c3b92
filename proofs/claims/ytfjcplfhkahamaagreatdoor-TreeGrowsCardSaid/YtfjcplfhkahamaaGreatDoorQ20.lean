import Derived.Test.YtfjcplfhkahamaaGreatDoorQ19
import Derived.Test.YtfjcplfhkahamaaGreatDoorQ1
import Derived.Test.YtfjcplfhkahamaaGreatDoorQ6
import Derived.Deep.Cut
set_option maxRecDepth 100000
set_option maxHeartbeats 64000000
namespace Go.Proofs.YtfjcplfhkahamaaGreatDoor
set_option linter.unusedVariables false
set_option linter.unusedSimpArgs false
open Go.RowKit
def workM (L : List Bk) (i : Nat) : Nat := ((anc L i).map fun k => wkN (btT (bkT L k).bits)).sum
theorem workM_root {L : List Bk} (h : WFt L) {i : Nat} (hi : i < L.length) (h0 : (bkT L i).ahead < 0) : workM L i = wkN (btT (bkT L i).bits) := by
 rw [workM,anc_root h hi h0]; simp
theorem workM_step {L : List Bk} (h : WFt L) {i j : Nat} (hi : i < L.length) (hj : (bkT L i).ahead = (j : Int)) : workM L i = workM L j + wkN (btT (bkT L i).bits) := by
 rw [workM,(anc_step h hi hj).2,workM]; simp; omega
theorem wkN_W {t : Nat} : wkN t < W256 := by
 unfold wkN
 have := W256_pos
 split
 ·omega
 ·rename_i h
  exact Nat.div_lt_self this (by omega)
theorem sum_le (l : List Nat) (b : Nat) (h : ∀ x ∈ l,x ≤ b) : l.sum ≤ l.length * b := by
 induction l with
 |nil => simp
 |cons x l ih =>
  have h1 := h x (by simp)
  have h2 := ih fun y hy => h y (by simp [hy])
  rw [List.sum_cons,List.length_cons,Nat.succ_mul]
  omega
theorem workM_lg {L : List Bk} (h : WFt L) {i : Nat} (hi : i < L.length) (hl : L.length ≤ 100000) : lg (workM L i) ≤ 10000 := by
 refine lg_small ?_
 have h1 := sum_le ((anc L i).map fun k => wkN (btT (bkT L k).bits)) W256 (fun x hx => by
  rw [List.mem_map] at hx
  obtain ⟨k,_,rfl⟩ := hx
  exact Nat.le_of_lt wkN_W)
 rw [List.length_map] at h1
 have h2 := anc_len h i hi
 refine Nat.lt_of_le_of_lt h1 (Nat.mul_lt_mul_of_pos_right (Nat.lt_of_le_of_lt (show (anc L i).length ≤ 100000 by omega) (word_w (by omega))) W256_pos)
def bestN (L : List Bk) : Nat → Nat
 |0 => 0
 |n + 1 => if workM L (bestN L n) < workM L n then n else bestN L n
def bestM (L : List Bk) : Nat := bestN L L.length
theorem bestN_le (L : List Bk) : ∀ n,bestN L n ≤ n - 1
 |0 => Nat.le_refl _
 |n + 1 => by
  rw [bestN]
  have := bestN_le L n
  split <;> omega
theorem cmpZ_pos {x y : Nat} : 0 < cmpZ x y ↔ y < x := by unfold cmpZ; split <;> (try split) <;> omega
def Sums (w : World) (cur : Array Value) (L : List Bk) (k : Nat) : Prop := ∀ m,m < k → ∃ a c,cur[m]? = some (.slice a (lg (workM L m)) c) ∧ Ns w a c (workM L m)
theorem Sums.fr {w w' : World} {cur : Array Value} {L : List Bk} {k : Nat} (h : Sums w cur L k) (f : Fr F0 w w') : Sums w' cur L k := fun m hm => let ⟨a,c,h1,h2⟩ := h m hm; ⟨a,c,h1,Us.fr h2 f⟩
theorem Sums.step {w w' : World} {g n cap : Nat} {cur cur' : Array Value} {L : List Bk} (hg : GrowN w g n cap cur) (h : Sums w cur L n) (f : Fr (fun k => k = g) w w') {a : Option Addr} {c : Nat} (hx : Ns w a c (workM L n)) (hc : cur'.toList.take (n + 1) = cur.toList.take n ++ [.slice a (lg (workM L n)) c]) : Sums w' cur' L (n + 1) := by
 intro m hm
 have e := congrArg (fun z : List Value => z[m]?) hc
 simp only [List.getElem?_take,if_pos hm] at e
 rw [Array.getElem?_toList] at e
 by_cases h1 : m < n
 ·obtain ⟨a1,c1,h2,h3⟩ := h m h1
  refine ⟨a1,c1,?_,hg.keepN h3 f⟩
  rw [e,List.getElem?_append_left (by rw [List.length_take,Array.length_toList,hg.size]; have := hg.le; omega),List.getElem?_take,if_pos h1,Array.getElem?_toList,h2]
 ·obtain rfl : m = n := by omega
  refine ⟨a,c,?_,hg.keepN hx f⟩
  rw [e,List.getElem?_append_right (by rw [List.length_take]; omega),List.length_take,Array.length_toList,hg.size,Nat.min_eq_left hg.le,Nat.sub_self]
  rfl
theorem r12Best_any (p : Nat) (L : List Bk) (every : Int) (span limit : Nat) (hw : WFt L) (hbits : ∀ b ∈ L,btP b.bits) (hl : L.length ≤ 100000) (w : World) (T : TR w p L every span limit) :
  Calls Tryz.prog 47 #[.pointer (some ⟨p,0,none⟩)] w fun e w' => e = .returned (.int .i64 ((bestM L : Nat) : Int)) ∧ Fr F0 w w' := by
 have H1 := Lib.hid fun k (hk : k < L.length) => r6Decode_any (bkT L k).bits (hw.at hk).bits true (decide_eq_true (hbits _ (bkT_mem hk)))
 have H2 := Lib.hid fun k (hk : k < L.length) a c w h => r6Work_any (btT (bkT L k).bits) a c (hbits _ (bkT_mem hk)).2.2 w h
 have H3 := Lib.hid fun j k (hj : j < L.length) a c b d w h1 h2 => r3Add_any (workM L j) (wkN (btT (bkT L k).bits)) a c b d (workM_lg hw hj hl) (lg_w10 wkN_W) w h1 h2
 have H4 := Lib.hid fun j k (hj : j < L.length) (hk : k < L.length) a c b d w h1 h2 => r3Cmp_any (workM L k) (workM L j) a c b d (workM_lg hw hk hl) (workM_lg hw hj hl) w h1 h2
 obtain ⟨n,hn⟩ : ∃ n,L.length = n := ⟨_,rfl⟩
 obtain ⟨a,c,r1,hb⟩ := T
 rw [hn] at r1 hl
 have HB := Lib.hid hb
 have HN := Lib.hid hn
 have HW := Lib.hid hw
 have HG := Lib.hid (Nat.le_refl w.heap.size)
 have F := (Fr.refl F0 w).alloc (.cells #[] 93)
 have hg0 := GrowN.new w
 replace r1 := keep_alloc (o := .cells #[] 93) r1
 clear hb hn hw hbits
 go_enter Tryz.func47,Tryz.ntmps47
 go_wp2_with fail
 refine wp_of_world _ rfl ?_
 generalize hW : w.alloc (.cells #[] 93) = W at *
 obtain ⟨g0,hg00⟩ : ∃ g0,w.heap.size = g0 := ⟨_,rfl⟩
 rw [hg00] at hg0 ⊢
 have HG0 := Lib.hid hg00
 clear hW hg00
 go_loopw [3,4,16] (fun bv sv iv wr => ∃ (k g cap : Nat) (cur : Array Value),iv = .int .i64 (k : Int) ∧ sv = .slice (some ⟨g,0,none⟩) k cap ∧ bv = .int .i64 ((bestN L k : Nat) : Int) ∧ k ≤ n ∧ GrowN wr g k cap cur ∧ w.heap.size ≤ g ∧ Sums wr cur L k ∧ Fr F0 w wr) (fun _ _ iv _ => n - (intOf iv).toNat)
 case atStart => exact ⟨0,g0,0,#[],rfl,rfl,rfl,by omega,hg0,by have := HG0.out; omega,fun m hm => by omega,F⟩
 case round =>
  clear hg0 F r1
  obtain ⟨k,g,cap,cur,rfl,rfl,rfl,hk,hgr,hgw,hsm,F⟩ := hrel
  by_cases h1 : k < n
  ·have l1 : (k : Int) < (n : Int) := by omega
   have hkL : k < L.length := by rw [HN.out]; exact h1
   obtain ⟨b,off,ea,hld⟩ := (HB.out.fr F).load k hkL
   subst ea
   have ld := (hld _ (Fr.refl _ _)).1
   have o := HB.out.ok _ (bkT_mem hkL)
   have s := Bk.arr_size o
   have on := Bk.arr_one o
   have c32 : (bkT L k).arr[32]? = some (.int .i64 (bkT L k).ahead) := by rw [Bk.arr,List.getElem?_toArray]; exact Bk.cell32 o
   have c34 : (bkT L k).arr[34]? = some (.int .u32 ((bkT L k).bits : Int)) := by rw [Bk.arr,List.getElem?_toArray]; exact Bk.cell34 o
   have J1 := Lib.hid (H1.out k hkL)
   have J2 := Lib.hid (H2.out k hkL)
   have J3 := Lib.hid fun j hj => H3.out j k hj
   have J4 := Lib.hid fun j hj => H4.out j k hj hkL
   have hA : ∃ A,(bkT L k).ahead = A := ⟨_,rfl⟩
   obtain ⟨A,hA⟩ := hA
   have HUP := Lib.hid (HW.out.up k hkL)
   have HWS := Lib.hid (show (A < 0 → workM L k = wkN (btT (bkT L k).bits)) ∧ (∀ j : Nat,A = (j : Int) → j < k ∧ workM L k = workM L j + wkN (btT (bkT L k).bits)) from ⟨fun h => workM_root HW.out hkL (by rw [hA]; exact h),fun j hj => ⟨(anc_step HW.out hkL (hA.trans hj)).1,workM_step HW.out hkL (hA.trans hj)⟩⟩)
   rw [hA] at c32 HUP
   generalize (bkT L k).arr = B at *
   generalize btT (bkT L k).bits = TT at *
   generalize (bkT L k).bits = xb at *
   generalize wkN TT = wk at *
   have s32 : 32 < B.size := by omega
   have s34 : 34 < B.size := by omega
   have d32 := cell_is c32 s32
   have d34 := cell_is c34 s34
   have HK := Lib.hid (And.intro h1 hkL)
   have HGW := Lib.hid hgw
   have hbn := bestN_le L k
   have HBN := Lib.hid (show bestN L (k + 1) = if workM L (bestN L k) < workM L k then k else bestN L k from rfl)
   generalize hbb : bestN L k = bb at *
   have HBB := Lib.hid (And.intro hbb hbn)
   clear hld o hA hbb hbn h1 hkL hgw
   go_upto_region 6 with fail
   refine wp_put fun W4 N => ?_
   have r6 := N.new
   replace F := F.trans' N.fr
   replace hgr := hgr.fr N.fr
   replace hsm := hsm.fr N.fr
   clear N
   clear ld
   generalize wr.heap.size = g6 at *
   go_wp2_with fail
   (with_reducible refine (J1.out _).mono ?_); rintro e w5 ⟨p5,k5,rfl,n5,f⟩
   replace F := F.trans' f
   replace hgr := hgr.fr f
   replace hsm := hsm.fr f
   replace r6 := keep_fr f r6
   clear f
   go_wp2_with fail
   (with_reducible refine (J2.out _ _ _ n5).mono ?_); rintro e w6 ⟨p6,k6,rfl,n6,f⟩
   replace F := F.trans' f
   replace hgr := hgr.fr f
   replace hsm := hsm.fr f
   replace r6 := keep_fr f r6
   clear f n5
   by_cases h0 : A < 0
   ·have l2 : ¬ 0 ≤ A := by omega
    have l3 : decide (0 ≤ A) = false := decide_eq_false l2
    obtain ⟨S,hS⟩ : ∃ S,wk = S := ⟨_,rfl⟩
    have HS := Lib.hid (show workM L k = S by rw [HWS.out.1 h0,hS])
    rw [hS] at n6
    go_upto_region 10 with fail
    clear hS r6
    obtain ⟨g2,cap2,cur2,w9,happ,hgr2,htk,f2,hg2⟩ := hgr.app p6 (lg S) k6 (by have := HK.out.1; omega) 141
    have nS : Ns w6 p6 k6 (workM L k) := by rw [HS.out]; exact n6
    have htk2 : cur2.toList.take (k + 1) = cur.toList.take k ++ [.slice p6 (lg (workM L k)) k6] := by rw [HS.out]; exact htk
    have hsm2 := Sums.step hgr hsm f2 nS htk2
    have F2 : Fr F0 w w9 := F.trans f2 (fun i hi e => by have := HGW.out; omega)
    have nS2 : Ns w9 p6 k6 S := by have := hgr.keepN nS f2; rwa [HS.out] at this
    have hg2w : w.heap.size ≤ g2 := by
     have h1 := HGW.out
     have h2 := F.size
     rcases hg2 with rfl | h3
     ·exact h1
     ·omega
    obtain ⟨k1,hk1⟩ : ∃ k1,k + 1 = k1 := ⟨_,rfl⟩
    rw [hk1] at happ hgr2 hsm2
    have HK1 := Lib.hid hk1
    have hbk : bb < k1 := by have := HBB.out.2; omega
    obtain ⟨ab,cb,hcb,nb⟩ := hsm2 bb hbk
    have J5 := Lib.hid (J4.out bb (by have := HK.out; have := HBB.out; omega))
    rw [HS.out] at J5
    have HC := Lib.hid (cmpZ_pos (x := S) (y := workM L bb))
    generalize cmpZ S (workM L bb) = z at *
    generalize hxb : workM L bb = xbb at *
    have HXB := Lib.hid hxb
    have atg := hgr2.at_
    have szb : bb < cur2.size := (Array.getElem?_eq_some_iff.1 hcb).1
    have dcb := cell_is hcb szb
    have lbb : (bb : Int) < (k1 : Int) := by omega
    have HR := Lib.hid (And.intro hgr2 (And.intro hg2w (And.intro hsm2 F2)))
    have l1' : k < n := HK.out.1
    have hln : n ≤ 100000 := hl
    have m1 : IntKind.i64.wrap ((k : Int) + 1) = (k1 : Int) := by have := HK1.out; rw [IntWalk.i64_in _ (by omega)]; omega
    clear hgr hsm hgr2 htk htk2 f2 hg2 nS hsm2 F2 hg2w hk1 hxb F
    go_upto_region 11 with fail
    go_wp2_with fail
    (with_reducible refine (J5.out _ _ _ _ _ nS2 nb).mono ?_); rintro e w10 ⟨rfl,hw10⟩
    have hw10 := hw10.symm
    subst hw10
    by_cases hz : 0 < z
    ·have l5 : decide (0 < z) = true := decide_eq_true hz
     have HBK := Lib.hid (show bestN L (k + 1) = k by rw [HBN.out,if_pos (by rw [HS.out]; exact HC.out.1 hz)])
     go_wp2_with fail
     go_roundw
     case rel => exact ⟨k1,g2,cap2,cur2,rfl,rfl,by rw [← HK1.out,HBK.out],by have := HK.out.1; have := HK1.out; omega,HR.out.1,HR.out.2.1,HR.out.2.2.1,HR.out.2.2.2⟩
     case measure => have := HK.out.1; have := HK1.out; simp [intOf]; omega
    ·have l5 : decide (0 < z) = false := decide_eq_false hz
     have HBK := Lib.hid (show bestN L (k + 1) = bb by rw [HBN.out,if_neg (by rw [HS.out]; exact fun h => hz (HC.out.2 h))])
     go_wp2_with fail
     go_roundw
     case rel => exact ⟨k1,g2,cap2,cur2,rfl,rfl,by rw [← HK1.out,HBK.out],by have := HK.out.1; have := HK1.out; omega,HR.out.1,HR.out.2.1,HR.out.2.2.1,HR.out.2.2.2⟩
     case measure => have := HK.out.1; have := HK1.out; simp [intOf]; omega
   ·obtain ⟨j,rfl⟩ := Int.eq_ofNat_of_zero_le (show 0 ≤ A by omega)
    obtain ⟨hjk,hjw⟩ := HWS.out.2 j rfl
    obtain ⟨aj,cj,hcj,nj⟩ := hsm j hjk
    have atg0 := hgr.at_
    have szj : j < cur.size := (Array.getElem?_eq_some_iff.1 hcj).1
    have dcj := cell_is hcj szj
    have lj : (j : Int) < (k : Int) := by omega
    have J6 := Lib.hid (J3.out j (by have := HK.out.2; omega) aj cj p6 k6 w6 nj n6)
    obtain ⟨S,hS⟩ : ∃ S,workM L j + wk = S := ⟨_,rfl⟩
    have HS := Lib.hid (show workM L k = S by rw [hjw,hS])
    rw [hS] at J6
    clear hS hjw hjk
    go_wp2_with fail
    (with_reducible refine (J6.out).mono ?_); rintro e w7 ⟨p7,k7,rfl,n7,f⟩
    replace F := F.trans' f
    replace hgr := hgr.fr f
    replace hsm := hsm.fr f
    clear f n6 nj atg0 hcj dcj szj
    go_upto_region 10 with fail
    obtain ⟨g2,cap2,cur2,w9,happ,hgr2,htk,f2,hg2⟩ := hgr.app p7 (lg S) k7 (by have := HK.out.1; omega) 141
    have nS : Ns w7 p7 k7 (workM L k) := by rw [HS.out]; exact n7
    have htk2 : cur2.toList.take (k + 1) = cur.toList.take k ++ [.slice p7 (lg (workM L k)) k7] := by rw [HS.out]; exact htk
    have hsm2 := Sums.step hgr hsm f2 nS htk2
    have F2 : Fr F0 w w9 := F.trans f2 (fun i hi e => by have := HGW.out; omega)
    have nS2 : Ns w9 p7 k7 S := by have := hgr.keepN nS f2; rwa [HS.out] at this
    have hg2w : w.heap.size ≤ g2 := by
     have h1 := HGW.out
     have h2 := F.size
     rcases hg2 with rfl | h3
     ·exact h1
     ·omega
    obtain ⟨k1,hk1⟩ : ∃ k1,k + 1 = k1 := ⟨_,rfl⟩
    rw [hk1] at happ hgr2 hsm2
    have HK1 := Lib.hid hk1
    have hbk : bb < k1 := by have := HBB.out.2; omega
    obtain ⟨ab,cb,hcb,nb⟩ := hsm2 bb hbk
    have J5 := Lib.hid (J4.out bb (by have := HK.out; have := HBB.out; omega))
    rw [HS.out] at J5
    have HC := Lib.hid (cmpZ_pos (x := S) (y := workM L bb))
    generalize cmpZ S (workM L bb) = z at *
    generalize hxb : workM L bb = xbb at *
    have HXB := Lib.hid hxb
    have atg := hgr2.at_
    have szb : bb < cur2.size := (Array.getElem?_eq_some_iff.1 hcb).1
    have dcb := cell_is hcb szb
    have lbb : (bb : Int) < (k1 : Int) := by omega
    have HR := Lib.hid (And.intro hgr2 (And.intro hg2w (And.intro hsm2 F2)))
    have l1' : k < n := HK.out.1
    have hln : n ≤ 100000 := hl
    have m1 : IntKind.i64.wrap ((k : Int) + 1) = (k1 : Int) := by have := HK1.out; rw [IntWalk.i64_in _ (by omega)]; omega
    clear hgr hsm hgr2 htk htk2 f2 hg2 nS hsm2 F2 hg2w hk1 hxb F
    go_upto_region 11 with fail
    go_wp2_with fail
    (with_reducible refine (J5.out _ _ _ _ _ nS2 nb).mono ?_); rintro e w10 ⟨rfl,hw10⟩
    have hw10 := hw10.symm
    subst hw10
    by_cases hz : 0 < z
    ·have l5 : decide (0 < z) = true := decide_eq_true hz
     have HBK := Lib.hid (show bestN L (k + 1) = k by rw [HBN.out,if_pos (by rw [HS.out]; exact HC.out.1 hz)])
     go_wp2_with fail
     go_roundw
     case rel => exact ⟨k1,g2,cap2,cur2,rfl,rfl,by rw [← HK1.out,HBK.out],by have := HK.out.1; have := HK1.out; omega,HR.out.1,HR.out.2.1,HR.out.2.2.1,HR.out.2.2.2⟩
     case measure => have := HK.out.1; have := HK1.out; simp [intOf]; omega
    ·have l5 : decide (0 < z) = false := decide_eq_false hz
     have HBK := Lib.hid (show bestN L (k + 1) = bb by rw [HBN.out,if_neg (by rw [HS.out]; exact fun h => hz (HC.out.2 h))])
     go_wp2_with fail
     go_roundw
     case rel => exact ⟨k1,g2,cap2,cur2,rfl,rfl,by rw [← HK1.out,HBK.out],by have := HK.out.1; have := HK1.out; omega,HR.out.1,HR.out.2.1,HR.out.2.2.1,HR.out.2.2.2⟩
     case measure => have := HK.out.1; have := HK1.out; simp [intOf]; omega
  ·obtain rfl : k = n := by omega
   have l1 : ¬ (k : Int) < (k : Int) := by omega
   have HE := Lib.hid (show bestM L = bestN L k by rw [bestM,HN.out])
   generalize bestN L k = bb at *
   clear h1 hgr hsm
   go_wp2_with fail
   go_ret
   exact ⟨by rw [HE.out]; rfl,F⟩
end Go.Proofs.YtfjcplfhkahamaaGreatDoor
