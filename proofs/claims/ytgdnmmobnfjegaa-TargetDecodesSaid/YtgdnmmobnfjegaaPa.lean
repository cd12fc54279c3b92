/- Layer 6 (target): the document's one, Power, Work, Scale. -/
import Derived.Test.YtgdnmmobnfjegaaRv
import Derived.Test.YtgdnmmobnfjegaaRw
import Derived.Test.YtgdnmmobnfjegaaLg
import Derived.Test.YtgdnmmobnfjegaaTg
namespace Go.Proofs.Ytgdnmmobnfjegaa
set_option linter.unusedVariables false
set_option linter.unusedSimpArgs false
open Go.RowKit

theorem word_w {x : Nat} (h : x < 18446744073709551616) : x < W256 := Nat.lt_of_lt_of_le (show x < 2 ^ 64 by omega) (Nat.pow_le_pow_right (by omega) (by omega))
theorem W256_two : W256 = 2 ^ 256 := rfl
theorem lg_w {z : Nat} (h : z < W256) : lg z ≤ 5000 := Nat.le_trans (lg_word h) (by omega)
theorem lg_w10 {z : Nat} (h : z < W256) : lg z ≤ 10000 := Nat.le_trans (lg_word h) (by omega)
theorem lg_ww {x y : Nat} (hx : x < W256) (hy : y < W256) : lg (x * y) ≤ 5000 := by
  have h : x * y < pw 32 := by
    have := Nat.mul_lt_mul'' (show x < pw 16 from hx) (show y < pw 16 from hy)
    rwa [← pw_add] at this
  exact Nat.le_trans (lg_minp h) (by omega)
theorem W256_room : W256 + W256 ≤ W256 * W256 := by
  have h2 : W256 * 2 ≤ W256 * W256 := Nat.mul_le_mul_left _ (show 2 ≤ 2 ^ 256 from Nat.pow_le_pow_right (n := 2) (i := 1) (by omega) (by omega))
  omega

theorem r6one_any (x : Nat) (hx : x < 18446744073709551616) (w : World) :
    Calls Try.prog 32 #[.int .u64 (x : Int)] w fun e w' => NN x w e w' := by
  have hbn := rowN_nil4 0
  have hs := set_first x hx
  have HO := Lib.hid (r3Of_any x (word_w hx))
  clear hx
  go_enter Try.func32, Try.ntmps32
  go_wp2_with fail
  (with_reducible refine (HO.out _).mono ?_); rintro e w1 ⟨p1, c1, rfl, n1, f1⟩
  go_wp2_with fail
  go_ret
  exact ⟨_, _, rfl, n1, f1⟩

theorem lg_pow (n : Nat) (h : n ≤ 1000) : lg (2 ^ n) ≤ 10000 := by
  obtain ⟨m, hm⟩ : ∃ m, m = 100 := ⟨_, rfl⟩
  have : 2 ^ n < 2 ^ (16 * m) := Nat.pow_lt_pow_right (by omega) (by omega)
  exact Nat.le_trans (lg_min this) (by omega)

set_option maxRecDepth 100000 in
set_option maxHeartbeats 4000000 in
theorem r6Power_any (n : Nat) (hn : n ≤ 1000) (w : World) :
    Calls Try.prog 41 #[.int .i64 (n : Int)] w fun e w' => NN (2 ^ n) w e w' := by
  have H1 := Lib.hid (fun w => show Calls Try.prog 32 #[.int .u64 1] w fun e w' => NN 1 w e w' from r6one_any 1 (by omega) w)
  have HA := Lib.hid (fun k (h : k ≤ 1000) a c w (hn : Ns w a c (2 ^ k)) => r3Add_any (2 ^ k) (2 ^ k) a c a c (lg_pow k h) (lg_pow k h) w hn hn)
  go_enter Try.func41, Try.ntmps41
  go_wp2_with fail
  (with_reducible refine (H1.out _).mono ?_); rintro e w1 ⟨p1, c1, rfl, n1, f1⟩
  go_wp2_with fail
  go_loopw [0, 3] (fun iv ov wr => ∃ j k : Nat, j + k = n ∧ iv = .int .i64 j ∧ (∃ a' c', ov = .slice a' (lg (2 ^ k)) c' ∧ Ns wr a' c' (2 ^ k)) ∧ Fr F0 w wr) (fun iv _ _ => (intOf iv).toNat)
  case atStart => exact ⟨n, 0, rfl, rfl, ⟨_, _, rfl, n1⟩, f1⟩
  case round =>
    clear n1 f1
    obtain ⟨j, k, hjk, rfl, ⟨a1, c1, rfl, n1⟩, hf⟩ := hrel
    by_cases h1 : 0 < j
    · have l1 : (0 : Int) < (j : Int) := by omega
      have m1 : IntKind.i64.wrap ((j : Int) - 1) = ((j - 1 : Nat) : Int) := by rw [IntWalk.i64_in _ (by omega)]; omega
      have HAk := Lib.hid (HA.out k (by omega) a1 c1)
      rw [← Nat.two_mul, ← Nat.pow_succ'] at HAk
      have HJ := Lib.hid (show j - 1 + (k + 1) = n ∧ j - 1 < j by omega)
      generalize hu : 2 ^ k = u at *
      generalize hv : 2 ^ (k + 1) = v at *
      have HV := Lib.hid hv
      generalize j - 1 = j' at *
      clear h1 hjk hu hv HA
      go_wp2_with fail
      (with_reducible refine (HAk.out _ n1).mono ?_); rintro e w3 ⟨p3, c3, rfl, n3, f3⟩
      replace hf := hf.trans' f3
      clear f3 n1
      go_wp2_with fail
      go_roundw
      case rel => exact ⟨j', k + 1, HJ.out.1, rfl, ⟨_, _, by rw [HV.out], by rw [HV.out]; exact n3⟩, hf⟩
      case measure => have := HJ.out.2; simp [intOf]; omega
    · have l1 : ¬ (0 : Int) < (j : Int) := by omega
      obtain rfl : k = n := by omega
      clear h1 hjk HA
      go_wp2_with fail
      go_ret
      exact ⟨_, _, rfl, n1, hf⟩

/-- The work of a target. -/
def wkN (t : Nat) : Nat := if t = 0 then W256 - 1 else W256 / (t + 1)
theorem lg_W256 : lg W256 = 17 := by
  obtain ⟨m, hm⟩ : ∃ m, m = 17 := ⟨_, rfl⟩
  have h1 : lg W256 ≤ m := lg_minp (n := m) (show 2 ^ 256 < 2 ^ (16 * m) from Nat.pow_lt_pow_right (by omega) (by omega))
  rw [hm] at h1
  refine Nat.le_antisymm h1 (Nat.lt_of_not_le fun h => ?_)
  have h2 := Nat.lt_of_lt_of_le (lg_lt W256) (Nat.pow_le_pow_right (n := 2) (by omega) (show 16 * lg W256 ≤ 256 by omega))
  exact Nat.lt_irrefl _ h2

set_option maxRecDepth 100000 in
set_option maxHeartbeats 4000000 in
theorem r6Work_any (t : Nat) (a : Option Addr) (c : Nat) (ht : t < W256) (w : World) (h : Ns w a c t) :
    Calls Try.prog 19 #[.slice a (lg t) c] w fun e w' => NN (wkN t) w e w' := by
  have HX := Lib.hid h
  have hw1 : W256 < W256 * W256 := by have := W256_room; have := word_w (x := 1) (by omega); omega
  have HP := Lib.hid (fun w => show Calls Try.prog 41 #[.int .i64 256] w fun e w' => NN W256 w e w' from r6Power_any 256 (by omega) w)
  have HO := Lib.hid (fun w => show Calls Try.prog 32 #[.int .u64 1] w fun e w' => NN 1 w e w' from r6one_any 1 (by omega) w)
  have HA := Lib.hid (fun p1 c1 p2 c2 w h1 h2 => r3Add_any t 1 p1 c1 p2 c2 (lg_w10 ht) (lg_w10 (word_w (by omega))) w h1 h2)
  have HD := Lib.hid (fun p1 c1 p2 c2 w h1 h2 => r3Div_any W256 (t + 1) p1 c1 p2 c2 (by omega) (by rw [lg_W256]; omega) (fun z hz => lg_small (z := z) (by have := W256_room; omega)) w h1 h2)
  have hcase : (t = 0 ∧ lg (W256 / (t + 1)) = 17 ∧ Hid (∀ p1 c1 p2 c2 w, Ns w p1 c1 (W256 / (t + 1)) → Ns w p2 c2 1 → Calls Try.prog 42 #[.slice p1 (lg (W256 / (t + 1))) c1, .slice p2 (lg 1) c2] w fun e w' => NN (wkN t) w e w')) ∨ (lg (W256 / (t + 1)) ≤ 16 ∧ wkN t = W256 / (t + 1)) := by
    by_cases h0 : t = 0
    · left
      have e : W256 / (t + 1) = W256 := by rw [h0, Nat.zero_add, Nat.div_one]
      have e2 : wkN t = W256 - 1 := if_pos h0
      rw [e, e2]
      exact ⟨h0, lg_W256, Lib.hid fun p1 c1 p2 c2 w h1 h2 => r3Sub_any W256 1 p1 c1 p2 c2 (by rw [lg_W256]; omega) (Nat.le_of_lt (word_w (by omega))) w h1 h2⟩
    · right
      refine ⟨lg_word ?_, if_neg h0⟩
      rw [Nat.div_lt_iff_lt_mul (by omega)]
      have h2 : W256 * 2 ≤ W256 * (t + 1) := Nat.mul_le_mul_left _ (by omega)
      have := word_w (x := 0) (by omega)
      omega
  generalize W256 / (t + 1) = q at *
  generalize W256 % (t + 1) = r at *
  clear h ht hw1
  generalize hlq : lg q = lq at *
  have HLQ := Lib.hid hlq
  clear hlq
  go_enter Try.func19, Try.ntmps19
  go_wp2_with fail
  (with_reducible refine (HP.out _).mono ?_); rintro e w1 ⟨p1, c1, rfl, n1, F⟩
  have n0 := Us.fr HX.out F
  go_wp2_with fail
  (with_reducible refine (HO.out _).mono ?_); rintro e w2 ⟨p2, c2, rfl, n2, f⟩
  replace F := F.trans' f
  replace n1 := Us.fr n1 f
  replace n0 := Us.fr n0 f
  clear f
  go_wp2_with fail
  (with_reducible refine (HA.out _ _ _ _ _ n0 n2).mono ?_); rintro e w3 ⟨p3, c3, rfl, n3, f⟩
  replace F := F.trans' f
  replace n1 := Us.fr n1 f
  clear f n0 n2
  go_wp2_with fail
  (with_reducible refine (HD.out _ _ _ _ _ n1 n3).mono ?_); rintro e w4 ⟨p4, c4, p5, c5, rfl, n4, n5, f⟩
  replace F := F.trans' f
  clear f n1 n3 n5
  rcases hcase with ⟨h0, rfl, HS⟩ | ⟨h0, he⟩
  · clear h0
    go_wp2_with fail
    (with_reducible refine (HO.out _).mono ?_); rintro e w6 ⟨p6, c6, rfl, n6, f⟩
    replace F := F.trans' f
    replace n4 := Us.fr n4 f
    clear f
    go_wp2_with fail
    (with_reducible refine (HS.out _ _ _ _ _ n4 n6).mono ?_); rintro e w7 ⟨p7, c7, rfl, n7, f⟩
    replace F := F.trans' f
    clear f n4 n6
    go_wp2_with fail
    go_ret
    exact ⟨_, _, rfl, n7, F⟩
  · have l1 : ¬ (16 : Int) < (lq : Int) := by omega
    have HE := Lib.hid he
    clear h0 he
    go_wp2_with fail
    go_ret
    exact ⟨_, _, by rw [HE.out, HLQ.out]; rfl, by rw [HE.out]; exact n4, F⟩

/-- A target, scaled. -/
def scN (t up by' most : Nat) : Nat := if most < t * up / by' then most else if t * up / by' = 0 then 1 else t * up / by'

set_option maxRecDepth 100000 in
set_option maxHeartbeats 4000000 in
theorem r6Scale_any (t up by' most : Nat) (a : Option Addr) (c : Nat) (b : Option Addr) (d : Nat) (ht : t < W256) (hm : most < W256) (hup : up < 18446744073709551616) (hby : by' < 18446744073709551616) (hb : 0 < by') (w : World) (h : Ns w a c t) (h' : Ns w b d most) :
    Calls Try.prog 24 #[.slice a (lg t) c, .int .u64 (up : Int), .int .u64 (by' : Int), .slice b (lg most) d] w fun e w' => NN (scN t up by' most) w e w' := by
  have HX := Lib.hid h
  have HX' := Lib.hid h'
  have HO1 := Lib.hid (r6one_any up hup)
  have HO2 := Lib.hid (r6one_any by' hby)
  have HO := Lib.hid (fun w => show Calls Try.prog 32 #[.int .u64 1] w fun e w' => NN 1 w e w' from r6one_any 1 (by omega) w)
  have HM := Lib.hid (fun p1 c1 p2 c2 w h1 h2 => r3Mul_any t up p1 c1 p2 c2 (lg_w10 ht) (lg_w10 (word_w hup)) w h1 h2)
  have HD := Lib.hid (fun p1 c1 p2 c2 w h1 h2 => r3Div_any (t * up) by' p1 c1 p2 c2 hb (lg_ww ht (word_w hup)) (fun z hz => lg_small (z := z) (by have := W256_room; have := word_w hby; omega)) w h1 h2)
  have hlq : lg (t * up / by') ≤ 10000 := Nat.le_trans (lg_minp (Nat.lt_of_le_of_lt (Nat.div_le_self _ _) (lg_lt (t * up)))) (Nat.le_trans (lg_ww ht (word_w hup)) (by omega))
  have HC := Lib.hid (fun p1 c1 p2 c2 w h1 h2 => r3Cmp_any (t * up / by') most p1 c1 p2 c2 hlq (lg_w10 hm) w h1 h2)
  have hcase : (scN t up by' most = most ∧ (0 : Int) < cmpZ (t * up / by') most) ∨ (¬ (0 : Int) < cmpZ (t * up / by') most ∧ lg (t * up / by') = 0 ∧ scN t up by' most = 1) ∨ (¬ (0 : Int) < cmpZ (t * up / by') most ∧ 0 < lg (t * up / by') ∧ scN t up by' most = t * up / by') := by
    unfold scN cmpZ
    generalize t * up / by' = q
    by_cases h1 : most < q
    · exact .inl ⟨if_pos h1, by rw [if_neg (by omega), if_pos h1]; omega⟩
    · right
      rw [if_neg h1, if_neg h1]
      have : ¬ (0 : Int) < (if q < most then (-1 : Int) else 0) := by split <;> omega
      by_cases h2 : q = 0
      · exact .inl ⟨this, by rw [h2]; rfl, if_pos h2⟩
      · exact .inr ⟨this, lg_pos h2, if_neg h2⟩
  clear h h' ht hm hup hby hb hlq
  generalize scN t up by' most = s at *
  generalize cmpZ (t * up / by') most = z at *
  generalize t * up / by' = q at *
  generalize t * up % by' = r at *
  generalize t * up = x at *
  generalize hlq : lg q = lq at *
  have HLQ := Lib.hid hlq
  clear hlq
  go_enter Try.func24, Try.ntmps24
  go_wp2_with fail
  (with_reducible refine (HO1.out _).mono ?_); rintro e w1 ⟨p1, c1, rfl, n1, F⟩
  go_wp2_with fail
  (with_reducible refine (HM.out _ _ _ _ _ (Us.fr HX.out F) n1).mono ?_); rintro e w2 ⟨p2, c2, rfl, n2, f⟩
  replace F := F.trans' f
  clear f n1
  go_wp2_with fail
  (with_reducible refine (HO2.out _).mono ?_); rintro e w3 ⟨p3, c3, rfl, n3, f⟩
  replace F := F.trans' f
  replace n2 := Us.fr n2 f
  clear f
  go_wp2_with fail
  (with_reducible refine (HD.out _ _ _ _ _ n2 n3).mono ?_); rintro e w4 ⟨p4, c4, p5, c5, rfl, n4, n5, f⟩
  replace F := F.trans' f
  clear f n2 n3 n5
  go_wp2_with fail
  have n6 := Us.fr HX'.out F
  (with_reducible refine (HC.out _ _ _ _ _ n4 n6).mono ?_); rintro e w6 ⟨rfl, hw⟩; replace hw := hw.symm; subst hw
  rcases hcase with ⟨hs, hz⟩ | ⟨hz, hl, hs⟩ | ⟨hz, hl, hs⟩
  · have HS := Lib.hid hs
    clear hs
    go_wp2_with fail
    go_ret
    exact ⟨_, _, by rw [HS.out]; rfl, by rw [HS.out]; exact n6, F⟩
  · have HS := Lib.hid hs
    subst hl
    clear hs
    go_wp2_with fail
    (with_reducible refine (HO.out _).mono ?_); rintro e w7 ⟨p7, c7, rfl, n7, f⟩
    replace F := F.trans' f
    go_wp2_with fail
    go_ret
    exact ⟨_, _, by rw [HS.out]; rfl, by rw [HS.out]; exact n7, F⟩
  · have HS := Lib.hid hs
    have l1 : ¬ (lq : Int) = 0 := by omega
    clear hs hl
    go_wp2_with fail
    go_ret
    exact ⟨_, _, by rw [HS.out, HLQ.out]; rfl, by rw [HS.out]; exact n4, F⟩

set_option maxRecDepth 100000 in
set_option maxHeartbeats 4000000 in
theorem is06_yes (x : Nat) (hx : x < W256) (p : Option Addr) (c : Nat) (w : World) (h : Ns w p c x) :
    Calls Try.prog 14 #[.agg (rowN .u64 64 4 x), .slice p (lg x) c] w fun e w' => e = .returned (.bool true) ∧ Fr F0 w w' := by
  have HW := Lib.hid (fun w h => r3Words_any x p c (lg_w10 hx) w h)
  rw [Nat.mod_eq_of_lt hx, decide_eq_false (Nat.not_le.2 hx)] at HW
  have HX := Lib.hid h
  clear hx h
  go_enter Try.func14, Try.ntmps14
  go_wp2_with fail
  have r0 := heap_alloc_new w (.cells (rowN .u64 64 4 x) 24)
  have f0 := (Fr.refl F0 w).alloc (.cells (rowN .u64 64 4 x) 24)
  refine (HW.out _ (Us.fr HX.out f0)).mono ?_
  rintro e w1 ⟨rfl, f1⟩
  replace r0 := keep_fr f1 r0
  have F := f0.trans' f1
  clear f0 f1
  generalize w.heap.size = g0 at *
  go_upto_region 2 with fail
  obtain ⟨W3, hW3⟩ : ∃ W, W = (w1.alloc (.cells (rowN .u64 64 4 0) 23)).setRow w1.heap.size (rowN .u64 64 4 x) := ⟨_, rfl⟩
  refine wp_of_world W3 hW3 ?_
  have N := put_new w1 (rowN .u64 64 4 0) (rowN .u64 64 4 x) 23
  rw [← hW3] at N
  have r1 := N.new
  have F := F.trans' N.fr
  replace r0 := N.old r0
  clear N hW3
  generalize w1.heap.size = g1 at *
  go_wp2_with fail
  go_ret
  exact ⟨by simp, F⟩
end Go.Proofs.Ytgdnmmobnfjegaa
