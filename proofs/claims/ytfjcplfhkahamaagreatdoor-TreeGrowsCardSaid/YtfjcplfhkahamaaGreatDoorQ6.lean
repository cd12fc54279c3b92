import Derived.Test.YtfjcplfhkahamaaGreatDoorQ5
import Derived.ProofKit
import Derived.OpenShut
import Derived.WideKeyArr2
import Derived.Below
import Derived.Test.YtfjcplfhkahamaaGreatDoorQ2
import Derived.Test.YtfjcplfhkahamaaGreatDoorQ3
import Derived.Deep.Slices
import Derived.Deep.Fields
set_option maxRecDepth 100000
set_option maxHeartbeats 64000000
namespace Go.Proofs.YtfjcplfhkahamaaGreatDoor
set_option linter.unusedVariables false
set_option linter.unusedSimpArgs false
open Go.RowKit
@[simp high] theorem rowEq_self (m x : Nat) : rowEq m x x = true := decide_eq_true rfl
theorem rowN_nil4 (x : Nat) : (rowN .u64 64 4 x = #[]) = False := by
 apply eq_false
 intro h
 have := congrArg Array.size h
 rw [rowN_size] at this
 simp at this
end Go.Proofs.YtfjcplfhkahamaaGreatDoor
namespace Go.Proofs.YtfjcplfhkahamaaGreatDoor
set_option linter.unusedVariables false
set_option linter.unusedSimpArgs false
open Go.RowKit Go.ChangeShapes Go.WideShapes
section
variable {H : Type} {enc : TypeId × Value → H} {W : World} {base : Nat} {sp : Nat → Bool} {held : Bool}
end
end Go.Proofs.YtfjcplfhkahamaaGreatDoor
namespace Go.Proofs.YtfjcplfhkahamaaGreatDoor
set_option linter.unusedVariables false
set_option linter.unusedSimpArgs false
open Go.RowKit Go.ChangeShapes Go.WideShapes
section
variable {H : Type} {enc : TypeId × Value → H} {W : World} {base : Nat} {sp : Nat → Bool} {held : Bool}
theorem open_u32 {r : Reach} {b0 : Nat} {v : Value} {d : DataW H} {ps : List MemPlace} (hd : DataW.Trod enc Tryz.prog W base sp held 22 v d ps) (hv : Value.okWide Tryz.prog W r b0 22 v) :
  ∃ x : Nat,x < 4294967296 ∧ v = .int .u32 (x : Int) := by
 obtain ⟨n,rfl⟩ := okWide_int Tryz.underlying22 hv
 obtain ⟨fuel,hf⟩ := hd
 obtain ⟨z,e,_,wf⟩ := DataW.trod_int Tryz.underlying22 (by simpa [Value.cells] using hf)
 have hb := bounds_u32 wf
 simp at e
 subst e
 obtain ⟨x,rfl⟩ := Int.eq_ofNat_of_zero_le hb.1
 exact ⟨x,by omega,rfl⟩
end
end Go.Proofs.YtfjcplfhkahamaaGreatDoor
namespace Go.Proofs.YtfjcplfhkahamaaGreatDoor
set_option linter.unusedVariables false
set_option linter.unusedSimpArgs false
open Go.RowKit Go.ChangeShapes Go.WideShapes
section
variable {H : Type} {enc : TypeId × Value → H} {W : World} {base : Nat} {sp : Nat → Bool} {held : Bool}
end
end Go.Proofs.YtfjcplfhkahamaaGreatDoor
namespace Go.Proofs.YtfjcplfhkahamaaGreatDoor
set_option linter.unusedVariables false
set_option linter.unusedSimpArgs false
open Go.RowKit
theorem lg_minp {x n : Nat} (h : x < pw n) : lg x ≤ n := lg_min h
theorem lg_small {z : Nat} (h : z < W256 * W256) : lg z ≤ 10000 := by
 have e16 : W256 = pw 16 := rfl
 rw [e16,← pw_add] at h
 exact Nat.le_trans (lg_minp h) (by omega)
theorem lg_word {z : Nat} (h : z < W256) : lg z ≤ 16 := lg_minp (show z < pw 16 from h)
theorem set_first (a : Nat) (h : a < 18446744073709551616) : (rowN .u64 64 4 0).setIfInBounds 0 (.int .u64 (a : Int)) = rowN .u64 64 4 a := by
 have := set_word 0 0 a h
 rw [putw_new _ _ _ _ (by simp)] at this
 simpa using this
theorem Us.of_list (w : World) (l : List Nat) (t : TypeId) (hl : l.length ≤ 1000) : Us (w.alloc (.cells (l.map U64).toArray t)) (some ⟨w.heap.size,0,none⟩) l.length l :=
 ⟨by simp,Nat.le_refl _,by unfold maxLen; omega,(fun e => by cases e),fun j u hj => ⟨w.heap.size,0,rfl,by
  rw [Nat.zero_add,cell_of_row _ _ j _ _ _ (heap_alloc_new w _)]
  simpa using hj⟩⟩
theorem Us.of1 (w : World) (x : Nat) (t : TypeId) : Us (w.alloc (.cells #[.int .u64 (x : Int)] t)) (some ⟨w.heap.size,0,none⟩) 1 [x] := Us.of_list w [x] t (by simp)
theorem word_w {x : Nat} (h : x < 18446744073709551616) : x < W256 := Nat.lt_of_lt_of_le (show x < 2 ^ 64 by omega) (Nat.pow_le_pow_right (by omega) (by omega))
theorem W256_two : W256 = 2 ^ 256 := rfl
theorem lg_w {z : Nat} (h : z < W256) : lg z ≤ 5000 := Nat.le_trans (lg_word h) (by omega)
theorem lg_w10 {z : Nat} (h : z < W256) : lg z ≤ 10000 := Nat.le_trans (lg_word h) (by omega)
theorem lg_ww {x y : Nat} (hx : x < W256) (hy : y < W256) : lg (x * y) ≤ 5000 := by
 have h : x * y < pw 32 := by
  have := Nat.mul_lt_mul'' (show x < pw 16 from hx) (show y < pw 16 from hy)
  rwa [← pw_add] at this
 exact Nat.le_trans (lg_minp h) (by omega)
theorem W256_room : W256 + W256 ≤ W256 * W256 := by
 have h2 : W256 * 2 ≤ W256 * W256 := Nat.mul_le_mul_left _ (show 2 ≤ 2 ^ 256 from Nat.pow_le_pow_right (n := 2) (i := 1) (by omega) (by omega))
 omega
theorem r6one_any (x : Nat) (hx : x < 18446744073709551616) (w : World) :
  Calls Tryz.prog 69 #[.int .u64 (x : Int)] w fun e w' => NN x w e w' := by
 have hbn := rowN_nil4 0
 have hs := set_first x hx
 have HO := Lib.hid (r3Of_any x (word_w hx))
 clear hx
 go_enter Tryz.func69,Tryz.ntmps69
 go_wp2_with fail
 (with_reducible refine (HO.out _).mono ?_); rintro e w1 ⟨p1,c1,rfl,n1,f1⟩
 go_wp2_with fail
 go_ret
 exact ⟨_,_,rfl,n1,f1⟩
theorem lg_pow (n : Nat) (h : n ≤ 1000) : lg (2 ^ n) ≤ 10000 := by
 obtain ⟨m,hm⟩ : ∃ m,m = 100 := ⟨_,rfl⟩
 have : 2 ^ n < 2 ^ (16 * m) := Nat.pow_lt_pow_right (by omega) (by omega)
 exact Nat.le_trans (lg_min this) (by omega)
theorem r6Power_any (n : Nat) (hn : n ≤ 1000) (w : World) :
  Calls Tryz.prog 108 #[.int .i64 (n : Int)] w fun e w' => NN (2 ^ n) w e w' := by
 have H1 := Lib.hid (fun w => show Calls Tryz.prog 69 #[.int .u64 1] w fun e w' => NN 1 w e w' from r6one_any 1 (by omega) w)
 have HA := Lib.hid (fun k (h : k ≤ 1000) a c w (hn : Ns w a c (2 ^ k)) => r3Add_any (2 ^ k) (2 ^ k) a c a c (lg_pow k h) (lg_pow k h) w hn hn)
 go_enter Tryz.func108,Tryz.ntmps108
 go_wp2_with fail
 (with_reducible refine (H1.out _).mono ?_); rintro e w1 ⟨p1,c1,rfl,n1,f1⟩
 go_wp2_with fail
 go_loopw [0,3] (fun iv ov wr => ∃ j k : Nat,j + k = n ∧ iv = .int .i64 j ∧ (∃ a' c',ov = .slice a' (lg (2 ^ k)) c' ∧ Ns wr a' c' (2 ^ k)) ∧ Fr F0 w wr) (fun iv _ _ => (intOf iv).toNat)
 case atStart => exact ⟨n,0,rfl,rfl,⟨_,_,rfl,n1⟩,f1⟩
 case round =>
  clear n1 f1
  obtain ⟨j,k,hjk,rfl,⟨a1,c1,rfl,n1⟩,hf⟩ := hrel
  by_cases h1 : 0 < j
  ·have l1 : (0 : Int) < (j : Int) := by omega
   have m1 : IntKind.i64.wrap ((j : Int) - 1) = ((j - 1 : Nat) : Int) := by rw [IntWalk.i64_in _ (by omega)]; omega
   have HAk := Lib.hid (HA.out k (by omega) a1 c1)
   rw [← Nat.two_mul,← Nat.pow_succ'] at HAk
   have HJ := Lib.hid (show j - 1 + (k + 1) = n ∧ j - 1 < j by omega)
   generalize hu : 2 ^ k = u at *
   generalize hv : 2 ^ (k + 1) = v at *
   have HV := Lib.hid hv
   generalize j - 1 = j' at *
   clear h1 hjk hu hv HA
   go_wp2_with fail
   (with_reducible refine (HAk.out _ n1).mono ?_); rintro e w3 ⟨p3,c3,rfl,n3,f3⟩
   replace hf := hf.trans' f3
   clear f3 n1
   go_wp2_with fail
   go_roundw
   case rel => exact ⟨j',k + 1,HJ.out.1,rfl,⟨_,_,by rw [HV.out],by rw [HV.out]; exact n3⟩,hf⟩
   case measure => have := HJ.out.2; simp [intOf]; omega
  ·have l1 : ¬ (0 : Int) < (j : Int) := by omega
   obtain rfl : k = n := by omega
   clear h1 hjk HA
   go_wp2_with fail
   go_ret
   exact ⟨_,_,rfl,n1,hf⟩
def wkN (t : Nat) : Nat := if t = 0 then W256 - 1 else W256 / (t + 1)
theorem lg_W256 : lg W256 = 17 := by
 obtain ⟨m,hm⟩ : ∃ m,m = 17 := ⟨_,rfl⟩
 have h1 : lg W256 ≤ m := lg_minp (n := m) (show 2 ^ 256 < 2 ^ (16 * m) from Nat.pow_lt_pow_right (by omega) (by omega))
 rw [hm] at h1
 refine Nat.le_antisymm h1 (Nat.lt_of_not_le fun h => ?_)
 have h2 := Nat.lt_of_lt_of_le (lg_lt W256) (Nat.pow_le_pow_right (n := 2) (by omega) (show 16 * lg W256 ≤ 256 by omega))
 exact Nat.lt_irrefl _ h2
theorem r6Work_any (t : Nat) (a : Option Addr) (c : Nat) (ht : t < W256) (w : World) (h : Ns w a c t) :
  Calls Tryz.prog 80 #[.slice a (lg t) c] w fun e w' => NN (wkN t) w e w' := by
 have HX := Lib.hid h
 have hw1 : W256 < W256 * W256 := by have := W256_room; have := word_w (x := 1) (by omega); omega
 have HP := Lib.hid (fun w => show Calls Tryz.prog 108 #[.int .i64 256] w fun e w' => NN W256 w e w' from r6Power_any 256 (by omega) w)
 have HO := Lib.hid (fun w => show Calls Tryz.prog 69 #[.int .u64 1] w fun e w' => NN 1 w e w' from r6one_any 1 (by omega) w)
 have HA := Lib.hid (fun p1 c1 p2 c2 w h1 h2 => r3Add_any t 1 p1 c1 p2 c2 (lg_w10 ht) (lg_w10 (word_w (by omega))) w h1 h2)
 have HD := Lib.hid (fun p1 c1 p2 c2 w h1 h2 => r3Div_any W256 (t + 1) p1 c1 p2 c2 (by omega) (by rw [lg_W256]; omega) (fun z hz => lg_small (z := z) (by have := W256_room; omega)) w h1 h2)
 have hcase : (t = 0 ∧ lg (W256 / (t + 1)) = 17 ∧ Hid (∀ p1 c1 p2 c2 w,Ns w p1 c1 (W256 / (t + 1)) → Ns w p2 c2 1 → Calls Tryz.prog 104 #[.slice p1 (lg (W256 / (t + 1))) c1,.slice p2 (lg 1) c2] w fun e w' => NN (wkN t) w e w')) ∨ (lg (W256 / (t + 1)) ≤ 16 ∧ wkN t = W256 / (t + 1)) := by
  by_cases h0 : t = 0
  ·left
   have e : W256 / (t + 1) = W256 := by rw [h0,Nat.zero_add,Nat.div_one]
   have e2 : wkN t = W256 - 1 := if_pos h0
   rw [e,e2]
   exact ⟨h0,lg_W256,Lib.hid fun p1 c1 p2 c2 w h1 h2 => r3Sub_any W256 1 p1 c1 p2 c2 (by rw [lg_W256]; omega) (Nat.le_of_lt (word_w (by omega))) w h1 h2⟩
  ·right
   refine ⟨lg_word ?_,if_neg h0⟩
   rw [Nat.div_lt_iff_lt_mul (by omega)]
   have h2 : W256 * 2 ≤ W256 * (t + 1) := Nat.mul_le_mul_left _ (by omega)
   have := word_w (x := 0) (by omega)
   omega
 generalize W256 / (t + 1) = q at *
 generalize W256 % (t + 1) = r at *
 clear h ht hw1
 generalize hlq : lg q = lq at *
 have HLQ := Lib.hid hlq
 clear hlq
 go_enter Tryz.func80,Tryz.ntmps80
 go_wp2_with fail
 (with_reducible refine (HP.out _).mono ?_); rintro e w1 ⟨p1,c1,rfl,n1,F⟩
 have n0 := Us.fr HX.out F
 go_wp2_with fail
 (with_reducible refine (HO.out _).mono ?_); rintro e w2 ⟨p2,c2,rfl,n2,f⟩
 replace F := F.trans' f
 replace n1 := Us.fr n1 f
 replace n0 := Us.fr n0 f
 clear f
 go_wp2_with fail
 (with_reducible refine (HA.out _ _ _ _ _ n0 n2).mono ?_); rintro e w3 ⟨p3,c3,rfl,n3,f⟩
 replace F := F.trans' f
 replace n1 := Us.fr n1 f
 clear f n0 n2
 go_wp2_with fail
 (with_reducible refine (HD.out _ _ _ _ _ n1 n3).mono ?_); rintro e w4 ⟨p4,c4,p5,c5,rfl,n4,n5,f⟩
 replace F := F.trans' f
 clear f n1 n3 n5
 rcases hcase with ⟨h0,rfl,HS⟩ | ⟨h0,he⟩
 ·clear h0
  go_wp2_with fail
  (with_reducible refine (HO.out _).mono ?_); rintro e w6 ⟨p6,c6,rfl,n6,f⟩
  replace F := F.trans' f
  replace n4 := Us.fr n4 f
  clear f
  go_wp2_with fail
  (with_reducible refine (HS.out _ _ _ _ _ n4 n6).mono ?_); rintro e w7 ⟨p7,c7,rfl,n7,f⟩
  replace F := F.trans' f
  clear f n4 n6
  go_wp2_with fail
  go_ret
  exact ⟨_,_,rfl,n7,F⟩
 ·have l1 : ¬ (16 : Int) < (lq : Int) := by omega
  have HE := Lib.hid he
  clear h0 he
  go_wp2_with fail
  go_ret
  exact ⟨_,_,by rw [HE.out,HLQ.out]; rfl,by rw [HE.out]; exact n4,F⟩
def scN (t up by' most : Nat) : Nat := if most < t * up / by' then most else if t * up / by' = 0 then 1 else t * up / by'
theorem r6Scale_any (t up by' most : Nat) (a : Option Addr) (c : Nat) (b : Option Addr) (d : Nat) (ht : t < W256) (hm : most < W256) (hup : up < 18446744073709551616) (hby : by' < 18446744073709551616) (hb : 0 < by') (w : World) (h : Ns w a c t) (h' : Ns w b d most) :
  Calls Tryz.prog 73 #[.slice a (lg t) c,.int .u64 (up : Int),.int .u64 (by' : Int),.slice b (lg most) d] w fun e w' => NN (scN t up by' most) w e w' := by
 have HX := Lib.hid h
 have HX' := Lib.hid h'
 have HO1 := Lib.hid (r6one_any up hup)
 have HO2 := Lib.hid (r6one_any by' hby)
 have HO := Lib.hid (fun w => show Calls Tryz.prog 69 #[.int .u64 1] w fun e w' => NN 1 w e w' from r6one_any 1 (by omega) w)
 have HM := Lib.hid (fun p1 c1 p2 c2 w h1 h2 => r3Mul_any t up p1 c1 p2 c2 (lg_w10 ht) (lg_w10 (word_w hup)) w h1 h2)
 have HD := Lib.hid (fun p1 c1 p2 c2 w h1 h2 => r3Div_any (t * up) by' p1 c1 p2 c2 hb (lg_ww ht (word_w hup)) (fun z hz => lg_small (z := z) (by have := W256_room; have := word_w hby; omega)) w h1 h2)
 have hlq : lg (t * up / by') ≤ 10000 := Nat.le_trans (lg_minp (Nat.lt_of_le_of_lt (Nat.div_le_self _ _) (lg_lt (t * up)))) (Nat.le_trans (lg_ww ht (word_w hup)) (by omega))
 have HC := Lib.hid (fun p1 c1 p2 c2 w h1 h2 => r3Cmp_any (t * up / by') most p1 c1 p2 c2 hlq (lg_w10 hm) w h1 h2)
 have hcase : (scN t up by' most = most ∧ (0 : Int) < cmpZ (t * up / by') most) ∨ (¬ (0 : Int) < cmpZ (t * up / by') most ∧ lg (t * up / by') = 0 ∧ scN t up by' most = 1) ∨ (¬ (0 : Int) < cmpZ (t * up / by') most ∧ 0 < lg (t * up / by') ∧ scN t up by' most = t * up / by') := by
  unfold scN cmpZ
  generalize t * up / by' = q
  by_cases h1 : most < q
  ·exact .inl ⟨if_pos h1,by rw [if_neg (by omega),if_pos h1]; omega⟩
  ·right
   rw [if_neg h1,if_neg h1]
   have : ¬ (0 : Int) < (if q < most then (-1 : Int) else 0) := by split <;> omega
   by_cases h2 : q = 0
   ·exact .inl ⟨this,by rw [h2]; rfl,if_pos h2⟩
   ·exact .inr ⟨this,lg_pos h2,if_neg h2⟩
 clear h h' ht hm hup hby hb hlq
 generalize scN t up by' most = s at *
 generalize cmpZ (t * up / by') most = z at *
 generalize t * up / by' = q at *
 generalize t * up % by' = r at *
 generalize t * up = x at *
 generalize hlq : lg q = lq at *
 have HLQ := Lib.hid hlq
 clear hlq
 go_enter Tryz.func73,Tryz.ntmps73
 go_wp2_with fail
 (with_reducible refine (HO1.out _).mono ?_); rintro e w1 ⟨p1,c1,rfl,n1,F⟩
 go_wp2_with fail
 (with_reducible refine (HM.out _ _ _ _ _ (Us.fr HX.out F) n1).mono ?_); rintro e w2 ⟨p2,c2,rfl,n2,f⟩
 replace F := F.trans' f
 clear f n1
 go_wp2_with fail
 (with_reducible refine (HO2.out _).mono ?_); rintro e w3 ⟨p3,c3,rfl,n3,f⟩
 replace F := F.trans' f
 replace n2 := Us.fr n2 f
 clear f
 go_wp2_with fail
 (with_reducible refine (HD.out _ _ _ _ _ n2 n3).mono ?_); rintro e w4 ⟨p4,c4,p5,c5,rfl,n4,n5,f⟩
 replace F := F.trans' f
 clear f n2 n3 n5
 go_wp2_with fail
 have n6 := Us.fr HX'.out F
 (with_reducible refine (HC.out _ _ _ _ _ n4 n6).mono ?_); rintro e w6 ⟨rfl,hw⟩; replace hw := hw.symm; subst hw
 rcases hcase with ⟨hs,hz⟩ | ⟨hz,hl,hs⟩ | ⟨hz,hl,hs⟩
 ·have HS := Lib.hid hs
  clear hs
  go_wp2_with fail
  go_ret
  exact ⟨_,_,by rw [HS.out]; rfl,by rw [HS.out]; exact n6,F⟩
 ·have HS := Lib.hid hs
  subst hl
  clear hs
  go_wp2_with fail
  (with_reducible refine (HO.out _).mono ?_); rintro e w7 ⟨p7,c7,rfl,n7,f⟩
  replace F := F.trans' f
  go_wp2_with fail
  go_ret
  exact ⟨_,_,by rw [HS.out]; rfl,by rw [HS.out]; exact n7,F⟩
 ·have HS := Lib.hid hs
  have l1 : ¬ (lq : Int) = 0 := by omega
  clear hs hl
  go_wp2_with fail
  go_ret
  exact ⟨_,_,by rw [HS.out,HLQ.out]; rfl,by rw [HS.out]; exact n4,F⟩
def btE (b : Nat) : Nat := b / 16777216
def btM (b : Nat) : Nat := b % 8388608
def btS (b : Nat) : Nat := b / 8388608 % 2
def btT (b : Nat) : Nat := tgt (btE b) (btM b)
def btP (b : Nat) : Prop := ¬ (btS b = 1 ∧ 0 < btM b) ∧ 0 < btT b ∧ btT b < W256
instance (b : Nat) : Decidable (btP b) := by unfold btP; infer_instance
theorem lg_by2 {m k : Nat} (hm : m < 8388608) (hk : k ≤ 300) : lg (m * by2 k) ≤ 5000 := by
 have h : m * by2 k < pw (2 + k) := by
  rw [pw_add,by2_two]
  refine Nat.mul_lt_mul_of_lt_of_le (show m < pw 2 from Nat.lt_of_lt_of_le hm (show 8388608 ≤ 2 ^ (16 * 2) by omega)) ?_ (pw_pos _)
  exact Nat.pow_le_pow_right (by omega) (by omega)
 exact Nat.le_trans (lg_minp h) (by omega)
theorem lg_le_of {x y : Nat} {n : Nat} (h : x ≤ y) (hy : lg y ≤ n) : lg x ≤ n := Nat.le_trans (lg_minp (Nat.lt_of_le_of_lt h (lg_lt y))) hy
theorem lg_16 (x : Nat) : lg x ≤ 16 ↔ x < W256 := ⟨fun h => Nat.lt_of_lt_of_le (lg_lt x) (Nat.pow_le_pow_right (n := 2) (by omega) (by omega)),fun h => lg_word h⟩
theorem r6Decode_any (b : Nat) (hb : b < 4294967296) (o : Bool) (ho : decide (btP b) = o) (w : World) :
  Calls Tryz.prog 39 #[.int .u32 (b : Int)] w fun e w' => ∃ a c,e = .returned (.tuple #[.slice a (lg (btT b)) c,.bool o]) ∧ Ns w' a c (btT b) ∧ Fr F0 w w' := by
 have HO := Lib.hid (fun w => show Calls Tryz.prog 69 #[.int .u64 256] w fun e w' => NN 256 w e w' from r6one_any 256 (by omega) w)
 obtain ⟨E,hE⟩ : ∃ E,btE b = E := ⟨_,rfl⟩
 obtain ⟨m,hm⟩ : ∃ m,btM b = m := ⟨_,rfl⟩
 obtain ⟨s,hs⟩ : ∃ s,btS b = s := ⟨_,rfl⟩
 obtain ⟨T,hT⟩ : ∃ T,btT b = T := ⟨_,rfl⟩
 have hTE : T = tgt E m := by rw [← hT,← hE,← hm]; rfl
 have hE2 : E ≤ 255 := by rw [← hE]; unfold btE; omega
 have hm2 : m < 8388608 := by rw [← hm]; unfold btM; omega
 have hs2 : s = 0 ∨ s = 1 := by rw [← hs]; unfold btS; omega
 have q1 : (b : Int) / 16777216 = (E : Int) := by rw [← hE]; unfold btE; omega
 have q2 : (b : Int) % 8388608 = (m : Int) := by rw [← hm]; unfold btM; omega
 have q3 : (b : Int) / 8388608 % 2 = (s : Int) := by rw [← hs]; unfold btS; omega
 have c1 : IntKind.i64.wrap (E : Int) = (E : Int) := IntWalk.i64_in _ (by omega)
 have c2 : IntKind.u64.wrap (m : Int) = (m : Int) := IntWalk.u64_in _ (by omega)
 have hoc : (s = 1 ∧ 0 < m ∧ o = false) ∨ (¬ (s = 1 ∧ 0 < m) ∧ lg T = 0 ∧ o = false) ∨ (¬ (s = 1 ∧ 0 < m) ∧ 0 < lg T ∧ ¬ lg T ≤ 16 ∧ o = false) ∨ (¬ (s = 1 ∧ 0 < m) ∧ 0 < lg T ∧ lg T ≤ 16 ∧ o = true) := by
  have hP : btP b ↔ (¬ (s = 1 ∧ 0 < m) ∧ 0 < T ∧ T < W256) := by unfold btP; rw [hs,hm,hT]
  rw [← ho,decide_eq_decide.2 hP,decide_eq_false_iff_not,decide_eq_true_iff,lg_16]
  by_cases h1 : s = 1 ∧ 0 < m
  ·exact .inl ⟨h1.1,h1.2,fun e => e.1 h1⟩
  ·right
   by_cases h2 : T = 0
   ·exact .inl ⟨h1,by rw [h2]; rfl,fun e => by omega⟩
   ·right
    have := lg_pos h2
    by_cases h3 : T < W256
    ·exact .inr ⟨h1,this,h3,h1,by omega,h3⟩
    ·exact .inl ⟨h1,this,h3,fun e => h3 e.2.2⟩
 have HOm := Lib.hid (r6one_any m (by omega))
 have HM := Lib.hid (fun k (hk : k ≤ 300) a c p2 c2 w h1 h2 => r3Mul_any (m * by2 k) 256 a c p2 c2 (Nat.le_trans (lg_by2 hm2 hk) (by omega)) (lg_w10 (word_w (by omega))) w h1 h2)
 have HLT : ∀ x,x ≤ m * by2 300 → lg x ≤ 5000 := fun x h => lg_le_of h (lg_by2 hm2 (by omega))
 have HD := Lib.hid (fun x (hx : x ≤ m * by2 300) a c p2 c2 w h1 h2 => r3Div_any x 256 a c p2 c2 (by omega) (HLT x hx) (fun z hz => Nat.le_trans (lg_word (word_w (x := z) (by omega))) (by omega)) w h1 h2)
 clear ho hE hm hs HLT
 have HQ3 := Lib.hid q3
 clear q3
 have HC := Lib.hid hoc
 clear hoc
 rw [hT]
 have HTE := Lib.hid hTE
 clear hTE hT
 go_enter Tryz.func39,Tryz.ntmps39
 go_wp2_with fail
 (with_reducible refine (HOm.out _).mono ?_); rintro e w1 ⟨p1,k1,rfl,n1,f1⟩
 go_wp2_with fail
 go_loopw [4,6] (fun iv ov wr => ∃ j k : Nat,j + k = E ∧ (3 ≤ j ∨ k = 0) ∧ iv = .int .i64 j ∧ (∃ a' c',ov = .slice a' (lg (m * by2 k)) c' ∧ Ns wr a' c' (m * by2 k)) ∧ Fr F0 w wr) (fun iv _ _ => (intOf iv).toNat)
 case atStart => exact ⟨E,0,rfl,.inr rfl,rfl,⟨p1,k1,by rw [show by2 0 = 1 from rfl,Nat.mul_one],by rw [show by2 0 = 1 from rfl,Nat.mul_one]; exact n1⟩,f1⟩
 case round =>
  clear n1 f1
  obtain ⟨j,k,hjk,hj3,rfl,⟨p2,k2,rfl,n2⟩,hf⟩ := hrel
  by_cases h1 : 3 < j
  ·have l1 : (3 : Int) < (j : Int) := by omega
   have m1 : IntKind.i64.wrap ((j : Int) - 1) = ((j - 1 : Nat) : Int) := by rw [IntWalk.i64_in _ (by omega)]; omega
   have HMk := Lib.hid (HM.out k (by omega))
   rw [Nat.mul_assoc,← by2_1,← by2_add] at HMk
   rw [by2_1] at HMk
   have HJ := Lib.hid (show j - 1 + (k + 1) = E ∧ 3 ≤ j - 1 ∧ j - 1 < j by omega)
   generalize hv : m * by2 (k + 1) = v at *
   have HV := Lib.hid hv
   generalize m * by2 k = u at *
   generalize j - 1 = j' at *
   clear h1 hjk hj3 hv
   go_wp2_with fail
   (with_reducible refine (HO.out _).mono ?_); rintro e w3 ⟨p3,k3,rfl,n3,f3⟩
   replace hf := hf.trans' f3
   replace n2 := Us.fr n2 f3
   clear f3
   go_wp2_with fail
   (with_reducible refine (HMk.out _ _ _ _ _ n2 n3).mono ?_); rintro e w4 ⟨p4,k4,rfl,n4,f4⟩
   replace hf := hf.trans' f4
   clear f4 n2 n3
   go_wp2_with fail
   go_roundw
   case rel => exact ⟨j',k + 1,HJ.out.1,.inl HJ.out.2.1,rfl,⟨p4,k4,by rw [HV.out],by rw [HV.out]; exact n4⟩,hf⟩
   case measure => have := HJ.out.2.2; simp [intOf]; omega
  ·have l1 : ¬ (3 : Int) < (j : Int) := by omega
   have hj : j ≤ 3 := by omega
   have hjT : T = m * by2 k / by2 (3 - j) := by
    rw [HTE.out]
    unfold tgt
    by_cases h3 : 3 ≤ E
    ·obtain rfl : j = 3 := by omega
     rw [if_pos h3,show E - 3 = k by omega]
     simp [by2]
    ·obtain rfl : k = 0 := by omega
     rw [if_neg h3,show E = j by omega]
     simp [by2]
   have hb300 : m * by2 k ≤ m * by2 300 := Nat.mul_le_mul_left _ (by2_le (by omega))
   have HJT := Lib.hid hjT
   clear hjT hjk h1 HM hj3
   generalize hu : m * by2 k = u at *
   clear hu
   go_wp2_with fail
   go_loopw [4,6] (fun iv ov wr => ∃ i d : Nat,i = j + d ∧ i ≤ 3 ∧ iv = .int .i64 i ∧ (∃ a' c',ov = .slice a' (lg (u / by2 d)) c' ∧ Ns wr a' c' (u / by2 d)) ∧ Fr F0 w wr) (fun iv _ _ => 3 - (intOf iv).toNat)
   case atStart => exact ⟨j,0,rfl,hj,rfl,⟨p2,k2,by rw [show by2 0 = 1 from rfl,Nat.div_one],by rw [show by2 0 = 1 from rfl,Nat.div_one]; exact n2⟩,hf⟩
   case round =>
    clear n2 hf
    obtain ⟨i,d,hid,hi3,rfl,⟨p3,k3,rfl,n3⟩,hf⟩ := hrel
    by_cases h1 : i < 3
    ·have l1 : (i : Int) < 3 := by omega
     have HDk := Lib.hid (HD.out (u / by2 d) (Nat.le_trans (Nat.div_le_self _ _) hb300))
     rw [Nat.div_div_eq_div_mul,← by2_1,← by2_add] at HDk
     rw [by2_1] at HDk
     have HJ := Lib.hid (show i + 1 = j + (d + 1) ∧ i + 1 ≤ 3 ∧ i < i + 1 by omega)
     generalize hv : u / by2 (d + 1) = v at *
     have HV := Lib.hid hv
     generalize u / by2 d % 256 = r at *
     generalize u / by2 d = y at *
     clear h1 hid hi3 hv hj
     go_wp2_with fail
     (with_reducible refine (HO.out _).mono ?_); rintro e w4 ⟨p4,k4,rfl,n4,f4⟩
     replace hf := hf.trans' f4
     replace n3 := Us.fr n3 f4
     clear f4
     go_wp2_with fail
     (with_reducible refine (HDk.out _ _ _ _ _ n3 n4).mono ?_); rintro e w5 ⟨p5,k5,p6,k6,rfl,n5,n6,f5⟩
     replace hf := hf.trans' f5
     clear f5 n3 n4 n6
     go_wp2_with fail
     go_roundw
     case rel => exact ⟨i + 1,d + 1,HJ.out.1,HJ.out.2.1,by go_num,⟨p5,k5,by rw [HV.out],by rw [HV.out]; exact n5⟩,hf⟩
     case measure => have := HJ.out.2; simp [intOf]; omega
    ·have l1 : ¬ (i : Int) < 3 := by omega
     have e : u / by2 d = T := by rw [HJT.out]; congr 2; omega
     rw [e] at n3
     rw [e]
     clear e h1 hid hi3 hj HJT HD
     generalize hl : lg T = lt at *
     have HL := Lib.hid hl
     clear hl
     have q3 := HQ3.out
     rcases HC.out with ⟨rfl,hm0,rfl⟩ | hoc
     ·have l2 : (0 : Int) < (m : Int) := by omega
      replace q3 : (b : Int) / 8388608 % 2 = 1 := q3
      clear HC
      go_wp2_with fail
      go_ret2
      exact ⟨_,_,by rw [HL.out]; rfl,n3,hf⟩
     ·have hns : (s = 0 ∨ ¬ (0 : Int) < (m : Int)) ∧ ((lt = 0 ∧ o = false) ∨ ((0 : Int) < (lt : Int) ∧ 0 < lt ∧ ¬ (lt : Int) ≤ 16 ∧ o = false) ∨ ((0 : Int) < (lt : Int) ∧ 0 < lt ∧ (lt : Int) ≤ 16 ∧ o = true)) := by
       have hl := HL.out
       rcases hoc with ⟨h1,h2,h3⟩ | ⟨h1,h2,h3,h4⟩ | ⟨h1,h2,h3,h4⟩
       ·exact ⟨by omega,.inl ⟨by omega,h3⟩⟩
       ·exact ⟨by omega,.inr (.inl ⟨by omega,by omega,by omega,h4⟩)⟩
       ·exact ⟨by omega,.inr (.inr ⟨by omega,by omega,by omega,h4⟩)⟩
      clear hoc HC
      obtain ⟨hns,hlt⟩ := hns
      rcases hs2 with rfl | rfl
      ·clear hns
       replace q3 : (b : Int) / 8388608 % 2 = 0 := q3
       rcases hlt with ⟨rfl,rfl⟩ | ⟨l4,l6,l5,rfl⟩ | ⟨l4,l6,l5,rfl⟩
       ·go_wp2_with fail
        go_ret2
        exact ⟨_,_,by rw [HL.out]; rfl,n3,hf⟩
       ·go_wp2_with fail
        go_ret2
        exact ⟨_,_,by rw [HL.out]; rfl,n3,hf⟩
       ·go_wp2_with fail
        go_ret2
        exact ⟨_,_,by rw [HL.out]; rfl,n3,hf⟩
      ·obtain rfl : m = 0 := by omega
       replace q3 : (b : Int) / 8388608 % 2 = 1 := q3
       clear hns
       rcases hlt with ⟨rfl,rfl⟩ | ⟨l4,l6,l5,rfl⟩ | ⟨l4,l6,l5,rfl⟩
       ·go_wp2_with fail
        go_ret2
        exact ⟨_,_,by rw [HL.out]; rfl,n3,hf⟩
       ·go_wp2_with fail
        go_ret2
        exact ⟨_,_,by rw [HL.out]; rfl,n3,hf⟩
       ·go_wp2_with fail
        go_ret2
        exact ⟨_,_,by rw [HL.out]; rfl,n3,hf⟩
def enB (t : Nat) : Nat := enM t + enE t * 16777216
theorem nby_32 {t : Nat} (h : t < W256) : nby t ≤ 32 := by
 rw [nby_le,by2_two]
 exact h
theorem enE_33 {t : Nat} (h : t < W256) : enE t ≤ 33 := by
 have := nby_32 h
 unfold enE
 split <;> omega
theorem top3_lt (t : Nat) : top3 t < 16777216 := by
 by_cases h : 0 < t
 ·exact (top3_range h).2
 ·obtain rfl : t = 0 := by omega
  unfold top3
  rw [show nby 0 = 0 from rfl]
  decide
theorem r6Encode_any (t : Nat) (a : Option Addr) (c : Nat) (ht : t < W256) (w : World) (h : Ns w a c t) :
  Calls Tryz.prog 72 #[.slice a (lg t) c] w fun e w' => e = .returned (.int .u32 (enB t : Nat)) ∧ Fr F0 w w' := by
 have HX := Lib.hid h
 have HB := Lib.hid (r3Bits_any t a c (lg_w10 ht) w h)
 have HO := Lib.hid (fun w => show Calls Tryz.prog 69 #[.int .u64 256] w fun e w' => NN 256 w e w' from r6one_any 256 (by omega) w)
 have hn1 := nby_32 ht
 have hn2 : ∀ i,nby t ≤ i ↔ nbits t ≤ 8 * i := fun i => by unfold nby; omega
 have htop := top3_lt t
 have HT := Lib.hid (show top3 t = if 3 ≤ nby t then t / by2 (nby t - 3) else t * by2 (3 - nby t) from rfl)
 have hLT : ∀ x,x ≤ t → lg x ≤ 5000 := fun x hx => lg_w (Nat.lt_of_le_of_lt hx ht)
 have HD := Lib.hid (fun x (hx : x ≤ t) a c p2 c2 w h1 h2 => r3Div_any x 256 a c p2 c2 (by omega) (hLT x hx) (fun z hz => Nat.le_trans (lg_word (word_w (x := z) (by omega))) (by omega)) w h1 h2)
 have HM := Lib.hid (fun x (hx : lg x ≤ 10000) a c p2 c2 w h1 h2 => r3Mul_any x 256 a c p2 c2 hx (lg_w10 (word_w (by omega))) w h1 h2)
 have HW := Lib.hid (fun a c w h => r3Words_any (top3 t) a c (lg_w10 (word_w (by omega))) w h)
 rw [Nat.mod_eq_of_lt (word_w (by omega)),decide_eq_false (Nat.not_le.2 (word_w (by omega)))] at HW
 have hd0 : dgt 64 (top3 t) 0 = top3 t := by
  unfold dgt
  rw [Nat.mul_zero,Nat.pow_zero,Nat.div_one]
  exact Nat.mod_eq_of_lt (by omega)
 have hE : (8388608 ≤ top3 t ∧ enB t = top3 t / 256 + (nby t + 1) * 16777216) ∨ (¬ 8388608 ≤ top3 t ∧ enB t = top3 t + nby t * 16777216) := by
  unfold enB enM enE
  by_cases h : 8388608 ≤ top3 t
  ·exact .inl ⟨h,by rw [if_pos h,if_pos h]⟩
  ·exact .inr ⟨h,by rw [if_neg h,if_neg h]⟩
 have HLM := Lib.hid (fun d (hd : d ≤ 3) u (hu : u ≤ t) => (lg_ww (x := u) (y := by2 d) (Nat.lt_of_le_of_lt hu ht) (Nat.lt_of_le_of_lt (by2_le hd) (word_w (x := by2 3) (by rw [by2_3]; omega)))))
 have hnb : nbits t ≤ 256 := (nbits_le t 256).2 ht
 clear h hLT ht
 generalize enB t = B at *
 generalize nby t = n at *
 generalize nbits t = nb at *
 generalize top3 t = T at *
 go_enter Tryz.func72,Tryz.ntmps72
 go_wp2_with fail
 (with_reducible refine (HB.out).mono ?_); rintro e w1 ⟨p1,k1,rfl,n1,f1⟩
 clear n1
 go_wp2_with fail
 go_loopw [4] (fun iv wr => wr = w1 ∧ ∃ i : Nat,i ≤ n ∧ iv = .int .i64 i) (fun iv _ => n - (intOf iv).toNat)
 case atStart => exact ⟨rfl,0,by omega,rfl⟩
 case round =>
  obtain ⟨rfl,i,hi,rfl⟩ := hrel
  have m0 : IntKind.i64.wrap (8 * (i : Int)) = ((8 * i : Nat) : Int) := by rw [IntWalk.i64_in _ (by omega)]; omega
  have hni := hn2 i
  by_cases h1 : 8 * i < nb
  ·have l1 : ((8 * i : Nat) : Int) < (nb : Int) := by omega
   have l2 : 8 * i < nb := h1
   have HJ := Lib.hid (show i + 1 ≤ n ∧ i < i + 1 ∧ i < n by omega)
   generalize 8 * i = i8 at *
   clear h1 hni
   go_wp2_with fail
   go_roundw
   case rel => exact ⟨trivial,i + 1,HJ.out.1,by go_num⟩
   case measure => have := HJ.out; simp [intOf]; omega
  ·have l1 : ¬ ((8 * i : Nat) : Int) < (nb : Int) := by omega
   have l2 : ¬ 8 * i < nb := h1
   obtain rfl : i = n := by omega
   generalize 8 * i = i8 at *
   clear h1 hni hn2
   go_wp2_with fail
   clear l1 l2 m0 hi HB
   go_loopw [5,6] (fun ov iv wz => ∃ j k : Nat,j + k = i ∧ (3 ≤ j ∨ k = 0) ∧ iv = .int .i64 j ∧ (∃ a' c',ov = .slice a' (lg (t / by2 k)) c' ∧ Ns wz a' c' (t / by2 k)) ∧ Fr F0 w wz) (fun _ iv _ => (intOf iv).toNat)
   case atStart => exact ⟨i,0,rfl,.inr rfl,rfl,⟨a,c,by rw [show by2 0 = 1 from rfl,Nat.div_one],by rw [show by2 0 = 1 from rfl,Nat.div_one]; exact Us.fr HX.out f1⟩,f1⟩
   case round =>
    clear f1
    obtain ⟨j,k,hjk,hj3,rfl,⟨p2,k2,rfl,n2⟩,hf⟩ := hrel
    by_cases h1 : 3 < j
    ·have l1 : (3 : Int) < (j : Int) := by omega
     have m1 : IntKind.i64.wrap ((j : Int) - 1) = ((j - 1 : Nat) : Int) := by rw [IntWalk.i64_in _ (by omega)]; omega
     have HDk := Lib.hid (HD.out (t / by2 k) (Nat.div_le_self _ _))
     rw [Nat.div_div_eq_div_mul,← by2_1,← by2_add] at HDk
     rw [by2_1] at HDk
     have HJ := Lib.hid (show j - 1 + (k + 1) = i ∧ 3 ≤ j - 1 ∧ j - 1 < j by omega)
     generalize hv : t / by2 (k + 1) = v at *
     have HV := Lib.hid hv
     generalize t / by2 k % 256 = r at *
     generalize t / by2 k = u at *
     generalize j - 1 = j' at *
     clear h1 hjk hj3 hv
     go_wp2_with fail
     (with_reducible refine (HO.out _).mono ?_); rintro e w3 ⟨p3,k3,rfl,n3,f3⟩
     replace hf := hf.trans' f3
     replace n2 := Us.fr n2 f3
     clear f3
     go_wp2_with fail
     (with_reducible refine (HDk.out _ _ _ _ _ n2 n3).mono ?_); rintro e w4 ⟨p4,k4,p5,k5,rfl,n4,n5,f4⟩
     replace hf := hf.trans' f4
     clear f4 n2 n3 n5
     go_wp2_with fail
     go_roundw
     case rel => exact ⟨j',k + 1,HJ.out.1,.inl HJ.out.2.1,rfl,⟨p4,k4,by rw [HV.out],by rw [HV.out]; exact n4⟩,hf⟩
     case measure => have := HJ.out.2.2; simp [intOf]; omega
    ·have l1 : ¬ (3 : Int) < (j : Int) := by omega
     have hu : ∃ u,t / by2 k = u ∧ u ≤ t ∧ (3 ≤ i → u = T) ∧ (¬ 3 ≤ i → u * by2 (3 - i) = T) := by
      refine ⟨_,rfl,Nat.div_le_self _ _,fun h3 => ?_,fun h3 => ?_⟩
      ·rw [HT.out,if_pos h3,show i - 3 = k by omega]
      ·rw [HT.out,if_neg h3]
       obtain rfl : k = 0 := by omega
       rw [show by2 0 = 1 from rfl,Nat.div_one]
     obtain ⟨u,hu,hut,hu1,hu2⟩ := hu
     rw [hu] at n2
     rw [hu]
     clear hu h1 hjk hj3 HD HT
     have HU := Lib.hid (And.intro hut (And.intro hu1 hu2))
     clear hut hu1 hu2
     go_wp2_with fail
     clear l1
     go_loopw [5,7] (fun ov iv wz => ∃ j d : Nat,j = i + d ∧ (j ≤ 3 ∨ d = 0) ∧ iv = .int .i64 j ∧ (∃ a' c',ov = .slice a' (lg (u * by2 d)) c' ∧ Ns wz a' c' (u * by2 d)) ∧ Fr F0 w wz) (fun _ iv _ => 3 - (intOf iv).toNat)
     case atStart => exact ⟨i,0,rfl,.inr rfl,rfl,⟨p2,k2,by rw [show by2 0 = 1 from rfl,Nat.mul_one],by rw [show by2 0 = 1 from rfl,Nat.mul_one]; exact n2⟩,hf⟩
     case round =>
      clear n2 hf
      obtain ⟨q,d,hqd,hq3,rfl,⟨p3,k3,rfl,n3⟩,hf⟩ := hrel
      by_cases h1 : q < 3
      ·have l1 : (q : Int) < 3 := by omega
       have HMk := Lib.hid (HM.out (u * by2 d) (Nat.le_trans (HLM.out d (by omega) u HU.out.1) (by omega)))
       rw [Nat.mul_assoc,← by2_1,← by2_add] at HMk
       rw [by2_1] at HMk
       have HJ := Lib.hid (show q + 1 = i + (d + 1) ∧ q + 1 ≤ 3 ∧ q < q + 1 by omega)
       generalize hv : u * by2 (d + 1) = v at *
       have HV := Lib.hid hv
       generalize u * by2 d = y at *
       clear h1 hqd hq3 hv
       go_wp2_with fail
       (with_reducible refine (HO.out _).mono ?_); rintro e w4 ⟨p4,k4,rfl,n4,f4⟩
       replace hf := hf.trans' f4
       replace n3 := Us.fr n3 f4
       clear f4
       go_wp2_with fail
       (with_reducible refine (HMk.out _ _ _ _ _ n3 n4).mono ?_); rintro e w5 ⟨p5,k5,rfl,n5,f5⟩
       replace hf := hf.trans' f5
       clear f5 n3 n4
       go_wp2_with fail
       go_roundw
       case rel => exact ⟨q + 1,d + 1,HJ.out.1,.inl HJ.out.2.1,by go_num,⟨p5,k5,by rw [HV.out],by rw [HV.out]; exact n5⟩,hf⟩
       case measure => have := HJ.out.2; simp [intOf]; omega
      ·have l1 : ¬ (q : Int) < 3 := by omega
       have e : u * by2 d = T := by
        by_cases h3 : 3 ≤ i
        ·obtain rfl : d = 0 := by omega
         rw [show by2 0 = 1 from rfl,Nat.mul_one]; exact HU.out.2.1 h3
        ·rw [show d = 3 - i by omega]; exact HU.out.2.2 h3
       rw [e] at n3
       rw [e]
       clear e h1 hqd hq3 HU HM HLM
       go_wp2_with fail
       (with_reducible refine (HW.out _ _ _ n3).mono ?_); rintro e w6 ⟨rfl,f6⟩
       replace hf := hf.trans' f6
       clear f6 n3
       rcases hE with ⟨hh,hB⟩ | ⟨hh,hB⟩
       ·have l2 : (8388608 : Int) ≤ (T : Int) := by omega
        obtain ⟨v,hv⟩ : ∃ v,T / 256 = v := ⟨_,rfl⟩
        obtain ⟨i1,hi1⟩ : ∃ i1,i + 1 = i1 := ⟨_,rfl⟩
        rw [hv,hi1] at hB
        have m0 : (T : Int) / 256 = (v : Int) := by omega
        have m1 : IntKind.i64.wrap ((i : Int) + 1) = (i1 : Int) := by rw [IntWalk.i64_in _ (by omega)]; omega
        have m2 : IntKind.u32.wrap (v : Int) = (v : Int) := IntWalk.u32_in _ (by omega)
        have m6 : IntKind.u64.wrap (v : Int) = (v : Int) := IntWalk.u64_in _ (by omega)
        have m3 : IntKind.u32.wrap (i1 : Int) = (i1 : Int) := IntWalk.u32_in _ (by omega)
        have m4 : IntKind.u32.wrap ((i1 : Int) * 16777216) = ((i1 * 16777216 : Nat) : Int) := by rw [IntWalk.u32_in _ (by omega)]; omega
        have m5 : IntKind.u32.wrap ((v : Int) + ((i1 * 16777216 : Nat) : Int)) = (B : Int) := by rw [IntWalk.u32_in _ (by omega)]; omega
        generalize i1 * 16777216 = x at *
        clear hh hB hv hi1 htop
        go_wp2_with fail
        go_ret
        exact ⟨rfl,(hf.alloc _).setRow (fun h => by have := hf.size; omega) _⟩
       ·have l2 : decide ((8388608 : Int) ≤ (T : Int)) = false := decide_eq_false (by omega)
        have m2 : IntKind.u32.wrap (T : Int) = (T : Int) := IntWalk.u32_in _ (by omega)
        have m3 : IntKind.u32.wrap (i : Int) = (i : Int) := IntWalk.u32_in _ (by omega)
        have m4 : IntKind.u32.wrap ((i : Int) * 16777216) = ((i * 16777216 : Nat) : Int) := by rw [IntWalk.u32_in _ (by omega)]; omega
        have m5 : IntKind.u32.wrap ((T : Int) + ((i * 16777216 : Nat) : Int)) = (B : Int) := by rw [IntWalk.u32_in _ (by omega)]; omega
        generalize i * 16777216 = x at *
        clear hh hB htop
        go_wp2_with fail
        go_ret
        exact ⟨rfl,(hf.alloc _).setRow (fun h => by have := hf.size; omega) _⟩
end Go.Proofs.YtfjcplfhkahamaaGreatDoor
namespace Go.Proofs.YtfjcplfhkahamaaGreatDoor
set_option linter.unusedVariables false
set_option linter.unusedSimpArgs false
open Go.RowKit Go.ChangeShapes Go.WideShapes Go.Deep
section
variable {H : Type} {enc : TypeId × Value → H} {w : World} {base : Nat} {spare : Nat → Bool} {held : Bool}
end
end Go.Proofs.YtfjcplfhkahamaaGreatDoor
