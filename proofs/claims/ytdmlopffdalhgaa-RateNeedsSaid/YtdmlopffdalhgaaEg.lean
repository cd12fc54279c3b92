/- Layer 5's law RateNeeds, walked. -/
import Derived.Test.YtdmlopffdalhgaaEd
namespace Go.Proofs.Ytdmlopffdalhgaa
set_option linter.unusedVariables false
set_option linter.unusedSimpArgs false
open Go.RowKit

theorem three_right {p t a : Nat} (ha : a ≤ 4611686018427387904) (hp : 1 ≤ p ∧ p ≤ 1099511627776) (ht : 1 ≤ t ∧ t ≤ 1000000) : ((1 ≤ p ∧ p ≤ 1099511627776) ∧ (1 ≤ t ∧ t ≤ 1000000)) ∧ ∀ x ∈ [a], x ≤ 4611686018427387904 := ⟨⟨hp, ht⟩, by simpa using ha⟩
theorem three_wrong {p t a : Nat} (h : ¬ (((1 ≤ p ∧ p ≤ 1099511627776) ∧ (1 ≤ t ∧ t ≤ 1000000)) ∧ a ≤ 4611686018427387904)) : ¬ (((1 ≤ p ∧ p ≤ 1099511627776) ∧ (1 ≤ t ∧ t ≤ 1000000)) ∧ ∀ x ∈ [a], x ≤ 4611686018427387904) := fun e => h ⟨e.1, by simpa using e.2⟩

theorem up_enough (x D : Nat) (hD : 0 < D) : x ≤ rdQ x D true * D := by
  have h := Nat.div_add_mod x D
  have h2 := Nat.mod_lt x hD
  rw [Nat.mul_comm] at h
  unfold rdQ
  split
  · rw [Nat.add_mul, Nat.one_mul]; omega
  · rename_i h3
    have : x % D = 0 := Decidable.byContradiction fun e => h3 ⟨rfl, e⟩
    omega
theorem up_less (x D : Nat) (hD : 0 < D) (h0 : 0 < rdQ x D true) : (rdQ x D true - 1) * D < x := by
  have h := Nat.div_add_mod x D
  rw [Nat.mul_comm] at h
  unfold rdQ at *
  split at h0
  · rename_i h3
    rw [if_pos h3, Nat.add_sub_cancel]
    have := h3.2
    omega
  · rename_i h3
    rw [if_neg h3, Nat.sub_mul, Nat.one_mul]
    have : D ≤ x / D * D := Nat.le_mul_of_pos_left _ h0
    omega
theorem down_enough (x D : Nat) : rdQ x D false * D ≤ x := by
  unfold rdQ
  rw [if_neg fun h => by cases h.1]
  exact Nat.div_mul_le_self x D
theorem down_more (x D : Nat) (hD : 0 < D) : x < (rdQ x D false + 1) * D := by
  unfold rdQ
  rw [if_neg fun h => by cases h.1]
  have h := Nat.div_add_mod x D
  have h2 := Nat.mod_lt x hD
  rw [Nat.mul_comm] at h
  rw [Nat.add_mul, Nat.one_mul]
  omega
theorem enP_iff {c q p t : Nat} (h : riP p t c q) : enP c q p t ↔ q * (p * t) ≤ c * 100000000000 := by
  rw [← Nat.mul_assoc, show c * 100000000000 = c * 100000000 * 1000 by rw [Nat.mul_assoc]]
  exact ⟨fun e => e.2, fun e => ⟨h, e⟩⟩

set_option maxRecDepth 100000 in
set_option maxHeartbeats 8000000 in
theorem rateNeeds_no (a p t : Nat) (h : ¬ (((1 ≤ p ∧ p ≤ 1099511627776) ∧ (1 ≤ t ∧ t ≤ 1000000)) ∧ a ≤ 4611686018427387904)) (w : World) :
    Calls Try.prog 5 #[.int .u64 (a : Int), .int .u64 (p : Int), .int .u64 (t : Int)] w fun e w' => e = .returned (.bool true) ∧ Fr F0 w w' := by
  have HL := Lib.hid lives05_any
  have HR := Lib.hid (fun b w u => r5Right_any p t [a] b 1 1 rfl (by simp) false (decide_eq_false (three_wrong h)) w u)
  have HV := Lib.hid (eNeeds_no a p t h)
  have HP := Lib.hid (eRoom_no a p t h)
  have HT := Lib.hid (fun w => show Calls Try.prog 11 #[.int .u64 0, .int .i64 1, .bool false, .int .u64 0, .bool false] w _ from told_no 0 false w)
  clear h
  go_enter Try.func5, Try.ntmps5
  go_wp2_with fail
  (with_reducible refine (HL.out _).mono ?_); rintro e w1 ⟨rfl, F⟩
  go_wp2_with fail
  (with_reducible refine (HV.out _).mono ?_); rintro e w2 ⟨rfl, f⟩
  replace F := F.trans' f
  clear f
  go_wp2_with fail
  (with_reducible refine (HP.out _).mono ?_); rintro e w3 ⟨rfl, f⟩
  replace F := F.trans' f
  clear f
  go_wp2_with fail
  obtain ⟨W1, hW1⟩ : ∃ W, W = w3.alloc (.cells #[.int .u64 (a : Int)] 22) := ⟨_, rfl⟩
  refine Calls.of_world W1 hW1 ?_
  have u1 : Us W1 (some ⟨w3.heap.size, 0, none⟩) 1 [a] := by rw [hW1]; exact Us.of1 _ _ _
  replace F : Fr F0 w W1 := by rw [hW1]; exact F.alloc _
  clear hW1
  (with_reducible refine (HR.out _ _ u1).mono ?_); rintro e w4 ⟨rfl, hw⟩; replace hw := hw.symm; subst hw
  clear u1
  go_wp2_with fail
  (with_reducible refine (HT.out _).mono ?_); rintro e w4 ⟨rfl, hw⟩; replace hw := hw.symm; subst hw
  go_wp2_with fail
  (with_reducible refine (HT.out _).mono ?_); rintro e w4 ⟨rfl, hw⟩; replace hw := hw.symm; subst hw
  go_wp2_with fail
  go_ret
  exact ⟨rfl, F⟩

set_option maxRecDepth 100000 in
set_option maxHeartbeats 16000000 in
theorem rateNeeds_yes (a p t : Nat) (ha : a ≤ 4611686018427387904) (hp : 1 ≤ p ∧ p ≤ 1099511627776) (ht : 1 ≤ t ∧ t ≤ 1000000) (w : World) :
    Calls Try.prog 5 #[.int .u64 (a : Int), .int .u64 (p : Int), .int .u64 (t : Int)] w fun e w' => e = .returned (.bool true) ∧ Fr F0 w w' := by
  have hpt := asked_room hp.2 ht.2
  have hpt0 : 0 < p * t := Nat.mul_pos hp.1 ht.1
  have HL := Lib.hid lives05_any
  have HR := Lib.hid (fun b w u => r5Right_any p t [a] b 1 1 rfl (by simp) true (decide_eq_true (three_right ha hp ht)) w u)
  have HV := Lib.hid (eNeeds_yes a p t ha hp ht)
  have HP := Lib.hid (eRoom_yes a p t ha hp ht)
  have HX1 := Lib.hid (fun b w h => r5Product_any [a, p, t] b 3 3 rfl (by simp) (by simp; omega) (a * (p * t)) (by rw [prd3, Nat.mul_assoc]) w h)
  have HX2 := Lib.hid (fun b w h => r5Product_any [100000000, 1000] b 2 2 rfl (by simp) (by simp) 100000000000 (by rw [prd2]) w h)
  have HX3 := Lib.hid (fun b w h => r5Product_any [a, 100000000, 1000] b 3 3 rfl (by simp) (by simp; omega) (a * 100000000000) (by rw [prd3, Nat.mul_assoc]) w h)
  have HX4 := Lib.hid (fun b w h => r5Product_any [p, t] b 2 2 rfl (by simp) (by simp; omega) (p * t) (prd2 p t) w h)
  have HD1 := Lib.hid (fun p1 c1 p2 c2 w h1 h2 => r5Divide_any (a * (p * t)) 100000000000 true p1 c1 p2 c2 _ (vlV (rdQ (a * (p * t)) 100000000000 true)) _ (by omega) (prod_room a (p * t) (by omega) (by omega)) (word_wide _ (by omega)) rfl rfl rfl w h1 h2)
  have HD2 := Lib.hid (fun p1 c1 p2 c2 w h1 h2 => r5Divide_any (a * 100000000000) (p * t) false p1 c1 p2 c2 _ (vlV (rdQ (a * 100000000000) (p * t) false)) _ (by omega) (prod_room a 100000000000 (by omega) (by omega)) (word_wide _ (by omega)) rfl rfl rfl w h1 h2)
  have HT1 := Lib.hid (told_is (rdQ (a * (p * t)) 100000000000 true) _ rfl)
  have HT2 := Lib.hid (told_is (rdQ (a * 100000000000) (p * t) false) _ rfl)
  have hq1 := up_enough (a * (p * t)) 100000000000 (by omega)
  have hq2 := up_less (a * (p * t)) 100000000000 (by omega)
  have hq3 := down_enough (a * 100000000000) (p * t)
  have hq4 := down_more (a * 100000000000) (p * t) hpt0
  have hri : ∀ c q, c ≤ 4611686018427387904 → q ≤ 4611686018427387904 → riP p t c q := fun c q hc hq => ⟨⟨hp, ht⟩, hc, hq⟩
  obtain ⟨q1, hq⟩ : ∃ q, rdQ (a * (p * t)) 100000000000 true = q := ⟨_, rfl⟩
  obtain ⟨q2, hq'⟩ : ∃ q, rdQ (a * 100000000000) (p * t) false = q := ⟨_, rfl⟩
  simp only [hq, hq'] at HV HP HD1 HD2 HT1 HT2 hq1 hq2 hq3 hq4
  have C1 : (vlE q1 = 4) ∨ (vlE q1 = 0 ∧ Hid (∀ w, Calls Try.prog 16 #[.int .u64 (vlV q1 : Nat), .int .u64 (a : Int), .int .u64 (p : Int), .int .u64 (t : Int)] w fun e w' => e = .returned (.bool true) ∧ Fr F0 w w') ∧
      (¬ (0 : Int) < (vlV q1 : Nat) ∨ ((0 : Int) < (vlV q1 : Nat) ∧ IntKind.u64.wrap (((vlV q1 : Nat) : Int) - 1) = ((vlV q1 - 1 : Nat) : Int) ∧ Hid (∀ w, Calls Try.prog 16 #[.int .u64 ((vlV q1 - 1 : Nat) : Int), .int .u64 (a : Int), .int .u64 (p : Int), .int .u64 (t : Int)] w fun e w' => e = .returned (.bool false) ∧ Fr F0 w w')))) := by
    unfold vlV vlE
    by_cases h : q1 ≤ 4611686018427387904
    · right
      rw [if_pos h, if_pos h]
      refine ⟨rfl, Lib.hid (eEnough_any q1 a p t (by omega) (by omega) true (decide_eq_true ((enP_iff (hri _ _ h ha)).2 hq1))), ?_⟩
      by_cases h0 : 0 < q1
      · refine .inr ⟨by omega, by rw [IntWalk.u64_in _ (by omega)]; omega, Lib.hid (eEnough_any (q1 - 1) a p t (by omega) (by omega) false (decide_eq_false fun e => ?_))⟩
        have e2 := (enP_iff (hri _ _ (by omega) ha)).1 e
        have := hq2 h0
        omega
      · exact .inl (by omega)
    · exact .inl (if_neg h)
  have C2 : (vlE q2 = 4) ∨ (vlE q2 = 0 ∧ Hid (∀ w, Calls Try.prog 16 #[.int .u64 (a : Int), .int .u64 (vlV q2 : Nat), .int .u64 (p : Int), .int .u64 (t : Int)] w fun e w' => e = .returned (.bool true) ∧ Fr F0 w w') ∧
      (((vlV q2 : Nat) : Int) = 4611686018427387904 ∨ (¬ ((vlV q2 : Nat) : Int) = 4611686018427387904 ∧ IntKind.u64.wrap (((vlV q2 : Nat) : Int) + 1) = ((vlV q2 + 1 : Nat) : Int) ∧ Hid (∀ w, Calls Try.prog 16 #[.int .u64 (a : Int), .int .u64 ((vlV q2 + 1 : Nat) : Int), .int .u64 (p : Int), .int .u64 (t : Int)] w fun e w' => e = .returned (.bool false) ∧ Fr F0 w w')))) := by
    unfold vlV vlE
    by_cases h : q2 ≤ 4611686018427387904
    · right
      rw [if_pos h, if_pos h]
      refine ⟨rfl, Lib.hid (eEnough_any a q2 p t (by omega) (by omega) true (decide_eq_true ((enP_iff (hri _ _ ha h)).2 hq3))), ?_⟩
      by_cases h0 : q2 = 4611686018427387904
      · exact .inl (by omega)
      · refine .inr ⟨by omega, by rw [IntWalk.u64_in _ (by omega)]; omega, Lib.hid (eEnough_any a (q2 + 1) p t (by omega) (by omega) false (decide_eq_false fun e => ?_))⟩
        have e2 := (enP_iff (hri _ _ ha (by omega))).1 e
        omega
    · exact .inl (if_neg h)
  clear hq1 hq2 hq3 hq4 hq hq' hri hpt hpt0 ha hp ht
  generalize decide (q1 ≤ 4611686018427387904) = o1 at *
  generalize decide (q2 ≤ 4611686018427387904) = o2 at *
  generalize vlV q1 = V1 at *
  generalize vlE q1 = E1 at *
  generalize vlV q2 = V2 at *
  generalize vlE q2 = E2 at *
  generalize a * (p * t) = X1 at *
  generalize p * t = X4 at *
  generalize a * 100000000000 = X3 at *
  obtain ⟨v1, hv1⟩ : ∃ v, V1 - 1 = v := ⟨_, rfl⟩
  obtain ⟨v2, hv2⟩ : ∃ v, V2 + 1 = v := ⟨_, rfl⟩
  rw [hv1] at C1
  rw [hv2] at C2
  clear hv1 hv2
  replace C1 := Lib.hid C1
  replace C2 := Lib.hid C2
  go_enter Try.func5, Try.ntmps5
  go_wp2_with fail
  (with_reducible refine (HL.out _).mono ?_); rintro e w1 ⟨rfl, F⟩
  go_wp2_with fail
  (with_reducible refine (HV.out _).mono ?_); rintro e w2 ⟨rfl, f⟩
  replace F := F.trans' f
  clear f
  go_wp2_with fail
  (with_reducible refine (HP.out _).mono ?_); rintro e w3 ⟨rfl, f⟩
  replace F := F.trans' f
  clear f
  go_wp2_with fail
  obtain ⟨W1, hW1⟩ : ∃ W, W = w3.alloc (.cells #[.int .u64 (a : Int)] 22) := ⟨_, rfl⟩
  refine Calls.of_world W1 hW1 ?_
  have u1 : Us W1 (some ⟨w3.heap.size, 0, none⟩) 1 [a] := by rw [hW1]; exact Us.of1 _ _ _
  replace F : Fr F0 w W1 := by rw [hW1]; exact F.alloc _
  clear hW1
  (with_reducible refine (HR.out _ _ u1).mono ?_); rintro e w4 ⟨rfl, hw⟩; replace hw := hw.symm; subst hw
  clear u1
  go_wp2_with fail
  obtain ⟨W4, hW4⟩ : ∃ W, W = W1.alloc (.cells #[.int .u64 (a : Int), .int .u64 (p : Int), .int .u64 (t : Int)] 22) := ⟨_, rfl⟩
  refine Calls.of_world W4 hW4 ?_
  have u4 : Us W4 (some ⟨W1.heap.size, 0, none⟩) 3 [a, p, t] := by rw [hW4]; exact Us.of3 _ _ _ _ _
  replace F : Fr F0 w W4 := by rw [hW4]; exact F.alloc _
  clear hW4
  (with_reducible refine (HX1.out _ _ u4).mono ?_); rintro e w5 ⟨p5, c5, rfl, n5, f⟩
  replace F := F.trans' f
  clear f u4
  go_wp2_with fail
  obtain ⟨W6, hW6⟩ : ∃ W, W = w5.alloc (.cells #[.int .u64 100000000, .int .u64 1000] 22) := ⟨_, rfl⟩
  refine Calls.of_world W6 hW6 ?_
  have u6 : Us W6 (some ⟨w5.heap.size, 0, none⟩) 2 [100000000, 1000] := by rw [hW6]; exact Us.of2 _ 100000000 1000 _
  have f : Fr F0 w5 W6 := by rw [hW6]; exact (Fr.refl _ _).alloc _
  replace F := F.trans' f
  replace n5 := Us.fr n5 f
  clear hW6 f
  (with_reducible refine (HX2.out _ _ u6).mono ?_); rintro e w7 ⟨p7, c7, rfl, n7, f⟩
  replace F := F.trans' f
  replace n5 := Us.fr n5 f
  clear f u6
  go_wp2_with fail
  (with_reducible refine (HD1.out _ _ _ _ _ n5 n7).mono ?_); rintro e w8 ⟨rfl, f⟩
  replace F := F.trans' f
  clear f n5 n7
  go_wp2_with fail
  obtain ⟨W9, hW9⟩ : ∃ W, W = w8.alloc (.cells #[.int .u64 (a : Int), .int .u64 100000000, .int .u64 1000] 22) := ⟨_, rfl⟩
  refine Calls.of_world W9 hW9 ?_
  have u9 : Us W9 (some ⟨w8.heap.size, 0, none⟩) 3 [a, 100000000, 1000] := by rw [hW9]; exact Us.of3 _ a 100000000 1000 _
  replace F : Fr F0 w W9 := by rw [hW9]; exact F.alloc _
  clear hW9
  (with_reducible refine (HX3.out _ _ u9).mono ?_); rintro e w10 ⟨p10, c10, rfl, n10, f⟩
  replace F := F.trans' f
  clear f u9
  go_wp2_with fail
  obtain ⟨W11, hW11⟩ : ∃ W, W = w10.alloc (.cells #[.int .u64 (p : Int), .int .u64 (t : Int)] 22) := ⟨_, rfl⟩
  refine Calls.of_world W11 hW11 ?_
  have u11 : Us W11 (some ⟨w10.heap.size, 0, none⟩) 2 [p, t] := by rw [hW11]; exact Us.of2 _ _ _ _
  have f : Fr F0 w10 W11 := by rw [hW11]; exact (Fr.refl _ _).alloc _
  replace F := F.trans' f
  replace n10 := Us.fr n10 f
  clear hW11 f
  (with_reducible refine (HX4.out _ _ u11).mono ?_); rintro e w12 ⟨p12, c12, rfl, n12, f⟩
  replace F := F.trans' f
  replace n10 := Us.fr n10 f
  clear f u11
  go_wp2_with fail
  (with_reducible refine (HD2.out _ _ _ _ _ n10 n12).mono ?_); rintro e w13 ⟨rfl, f⟩
  replace F := F.trans' f
  clear f n10 n12
  go_wp2_with fail
  (with_reducible refine (HT1.out _).mono ?_); rintro e w14 ⟨rfl, hw⟩; replace hw := hw.symm; subst hw
  go_wp2_with fail
  (with_reducible refine (HT2.out _).mono ?_); rintro e w14 ⟨rfl, hw⟩; replace hw := hw.symm; subst hw
  clear HL HR HV HP HX1 HX2 HX3 HX4 HD1 HD2 HT1 HT2
  rcases C1.out with rfl | ⟨rfl, A1, hc⟩
  · rcases C2.out with rfl | ⟨rfl, B1, hc⟩
    · go_wp2_with fail
      go_ret
      exact ⟨rfl, F⟩
    · go_wp2_with fail
      (with_reducible refine (B1.out _).mono ?_); rintro e w15 ⟨rfl, f⟩
      replace F := F.trans' f
      clear f
      rcases hc with h | ⟨h, hw, B2⟩
      · go_wp2_with fail
        go_ret
        exact ⟨rfl, F⟩
      · go_wp2_with fail
        (with_reducible refine (B2.out _).mono ?_); rintro e w15 ⟨rfl, f⟩
        replace F := F.trans' f
        clear f
        go_wp2_with fail
        go_ret
        exact ⟨rfl, F⟩
  · go_wp2_with fail
    (with_reducible refine (A1.out _).mono ?_); rintro e w15 ⟨rfl, f⟩
    replace F := F.trans' f
    clear f
    rcases hc with h | ⟨h, hw, A2⟩
    · rcases C2.out with rfl | ⟨rfl, B1, hc⟩
      · go_wp2_with fail
        go_ret
        exact ⟨rfl, F⟩
      · go_wp2_with fail
        (with_reducible refine (B1.out _).mono ?_); rintro e w15 ⟨rfl, f⟩
        replace F := F.trans' f
        clear f
        rcases hc with h | ⟨h, hw, B2⟩
        · go_wp2_with fail
          go_ret
          exact ⟨rfl, F⟩
        · go_wp2_with fail
          (with_reducible refine (B2.out _).mono ?_); rintro e w15 ⟨rfl, f⟩
          replace F := F.trans' f
          clear f
          go_wp2_with fail
          go_ret
          exact ⟨rfl, F⟩
    · go_wp2_with fail
      (with_reducible refine (A2.out _).mono ?_); rintro e w15 ⟨rfl, f⟩
      replace F := F.trans' f
      clear f
      clear h hw
      rcases C2.out with rfl | ⟨rfl, B1, hc⟩
      · go_wp2_with fail
        go_ret
        exact ⟨rfl, F⟩
      · go_wp2_with fail
        (with_reducible refine (B1.out _).mono ?_); rintro e w15 ⟨rfl, f⟩
        replace F := F.trans' f
        clear f
        rcases hc with h | ⟨h, hw, B2⟩
        · go_wp2_with fail
          go_ret
          exact ⟨rfl, F⟩
        · go_wp2_with fail
          (with_reducible refine (B2.out _).mono ?_); rintro e w15 ⟨rfl, f⟩
          replace F := F.trans' f
          clear f
          go_wp2_with fail
          go_ret
          exact ⟨rfl, F⟩

theorem rateNeeds_any (a p t : Nat) (ha : a < 18446744073709551616) (hp : p < 18446744073709551616) (ht : t < 18446744073709551616) (w : World) :
    Calls Try.prog 5 #[.int .u64 (a : Int), .int .u64 (p : Int), .int .u64 (t : Int)] w fun e w' => e = .returned (.bool true) ∧ Fr F0 w w' := by
  by_cases h : ((1 ≤ p ∧ p ≤ 1099511627776) ∧ (1 ≤ t ∧ t ≤ 1000000)) ∧ a ≤ 4611686018427387904
  · exact rateNeeds_yes a p t h.2 h.1.1 h.1.2 w
  · exact rateNeeds_no a p t h w
end Go.Proofs.Ytdmlopffdalhgaa
