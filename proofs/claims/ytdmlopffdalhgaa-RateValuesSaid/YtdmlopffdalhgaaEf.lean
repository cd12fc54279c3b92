/- Layer 5's law RateValues, walked. -/
import Derived.Test.YtdmlopffdalhgaaEd
namespace Go.Proofs.Ytdmlopffdalhgaa
set_option linter.unusedVariables false
set_option linter.unusedSimpArgs false
open Go.RowKit

theorem one_right1 {p a : Nat} (ha : a ≤ 4611686018427387904) (hp : 1 ≤ p ∧ p ≤ 1099511627776) : ((1 ≤ p ∧ p ≤ 1099511627776) ∧ (1 ≤ 1 ∧ 1 ≤ 1000000)) ∧ ∀ x ∈ [a], x ≤ 4611686018427387904 := ⟨⟨hp, by omega⟩, by simpa using ha⟩
theorem one_wrong1 {p a : Nat} (h : ¬ ((1 ≤ p ∧ p ≤ 1099511627776) ∧ a ≤ 4611686018427387904)) : ¬ (((1 ≤ p ∧ p ≤ 1099511627776) ∧ (1 ≤ 1 ∧ 1 ≤ 1000000)) ∧ ∀ x ∈ [a], x ≤ 4611686018427387904) := fun e => h ⟨e.1.1, by simpa using e.2⟩

set_option maxRecDepth 100000 in
set_option maxHeartbeats 8000000 in
theorem rateValues_no (a p : Nat) (more : Bool) (ha : a < 18446744073709551616) (hp : p < 18446744073709551616) (h : ¬ ((1 ≤ p ∧ p ≤ 1099511627776) ∧ a ≤ 4611686018427387904)) (w : World) :
    Calls Try.prog 3 #[.int .u64 (a : Int), .int .u64 (p : Int), .bool more] w fun e w' => e = .returned (.bool true) ∧ Fr F0 w w' := by
  have HL := Lib.hid lives05_any
  have HR := Lib.hid (fun b w u => show Calls Try.prog 8 #[.int .u64 (p : Int), .int .u64 1, .slice b 1 1] w _ from r5Right_any p 1 [a] b 1 1 rfl (by simp) false (decide_eq_false (one_wrong1 h)) w u)
  have HV := Lib.hid (eValue_no a p more h)
  have HP := Lib.hid (eParts_no a p h)
  have HT := Lib.hid (fun w => show Calls Try.prog 11 #[.int .u64 0, .int .i64 1, .bool false, .int .u64 0, .bool false] w _ from told_no 0 false w)
  have hcase : (¬ 1 ≤ p ∧ decide (1 ≤ p ∧ p ≤ 1099511627776) = false) ∨ (1 ≤ p ∧ ¬ p ≤ 1099511627776 ∧ decide (1 ≤ p ∧ p ≤ 1099511627776) = false) ∨ (1 ≤ p ∧ p ≤ 1099511627776 ∧ decide (1 ≤ p ∧ p ≤ 1099511627776) = true) := by
    rw [decide_eq_false_iff_not, decide_eq_true_iff]
    omega
  have HK : ∀ o, decide (1 ≤ p ∧ p ≤ 1099511627776) = o → Hid (∀ w, Calls Try.prog 12 #[.int .u64 (p : Int)] w fun e w' => e = .returned (.bool o) ∧ w' = w) := fun o ho => Lib.hid (ePright_any p o ho)
  clear h ha hp
  go_enter Try.func3, Try.ntmps3
  go_wp2_with fail
  (with_reducible refine (HL.out _).mono ?_); rintro e w1 ⟨rfl, F⟩
  go_wp2_with fail
  obtain ⟨W1, hW1⟩ : ∃ W, W = w1.alloc (.cells #[.int .u64 (a : Int)] 22) := ⟨_, rfl⟩
  refine Calls.of_world W1 hW1 ?_
  have u1 : Us W1 (some ⟨w1.heap.size, 0, none⟩) 1 [a] := by rw [hW1]; exact Us.of1 _ _ _
  replace F : Fr F0 w W1 := by rw [hW1]; exact F.alloc _
  clear hW1
  (with_reducible refine (HR.out _ _ u1).mono ?_); rintro e w2 ⟨rfl, hw⟩; replace hw := hw.symm; subst hw
  clear u1
  go_wp2_with fail
  (with_reducible refine (HV.out _).mono ?_); rintro e w2 ⟨rfl, f⟩
  replace F := F.trans' f
  clear f
  go_wp2_with fail
  (with_reducible refine (HP.out _).mono ?_); rintro e w3 ⟨rfl, f⟩
  replace F := F.trans' f
  clear f
  go_wp2_with fail
  (with_reducible refine (HT.out _).mono ?_); rintro e w4 ⟨rfl, hw⟩; replace hw := hw.symm; subst hw
  go_wp2_with fail
  (with_reducible refine (HT.out _).mono ?_); rintro e w4 ⟨rfl, hw⟩; replace hw := hw.symm; subst hw
  rcases hcase with ⟨h1, h2⟩ | ⟨h1, h3, h2⟩ | ⟨h1, h3, h2⟩
  · have HK := HK _ h2
    have l1 : ¬ (1 : Int) ≤ (p : Int) := by omega
    clear h1 h2
    go_wp2_with fail
    (with_reducible refine (HK.out _).mono ?_); rintro e w4 ⟨rfl, hw⟩; replace hw := hw.symm; subst hw
    go_wp2_with fail
    go_ret
    exact ⟨rfl, F⟩
  · have HK := HK _ h2
    have l1 : (1 : Int) ≤ (p : Int) := by omega
    have l2 : ¬ (p : Int) ≤ 1099511627776 := by omega
    have l3 : ¬ (p : Int) ≤ 1099511627776 := by omega
    clear h1 h2 h3
    go_wp2_with fail
    (with_reducible refine (HK.out _).mono ?_); rintro e w4 ⟨rfl, hw⟩; replace hw := hw.symm; subst hw
    go_wp2_with fail
    go_ret
    exact ⟨congrArg (fun b => Ending.returned (.bool (!b))) (decide_eq_false (p := (p : Int) ≤ 1099511627776) (by omega)), F⟩
  · have HK := HK _ h2
    have l1 : (1 : Int) ≤ (p : Int) := by omega
    have l2 : (p : Int) ≤ 1099511627776 := by omega
    clear h1 h2 h3
    go_wp2_with fail
    (with_reducible refine (HK.out _).mono ?_); rintro e w4 ⟨rfl, hw⟩; replace hw := hw.symm; subst hw
    go_wp2_with fail
    go_ret
    exact ⟨rfl, F⟩

set_option maxRecDepth 100000 in
set_option maxHeartbeats 8000000 in
theorem rateValues_yes (a p : Nat) (more : Bool) (ha : a ≤ 4611686018427387904) (hp : 1 ≤ p ∧ p ≤ 1099511627776) (w : World) :
    Calls Try.prog 3 #[.int .u64 (a : Int), .int .u64 (p : Int), .bool more] w fun e w' => e = .returned (.bool true) ∧ Fr F0 w w' := by
  have HL := Lib.hid lives05_any
  have HR := Lib.hid (fun b w u => show Calls Try.prog 8 #[.int .u64 (p : Int), .int .u64 1, .slice b 1 1] w _ from r5Right_any p 1 [a] b 1 1 rfl (by simp) true (decide_eq_true (one_right1 ha hp)) w u)
  have HV := Lib.hid (eValue_yes a p more ha hp)
  have HP := Lib.hid (eParts_yes a p ha hp)
  have HX1 := Lib.hid (fun b w h => r5Product_any [a, p] b 2 2 rfl (by simp) (by simp; omega) _ (prd2 a p) w h)
  have HX2 := Lib.hid (fun b w h => r5Product_any [a, 100000000] b 2 2 rfl (by simp) (by simp; omega) _ (prd2 a 100000000) w h)
  have HN1 := Lib.hid (fun w => show Calls Try.prog 15 #[.int .u64 100000000] w fun e w' => NN 100000000 w e w' from r5N_any 100000000 (by omega) w)
  have HN2 := Lib.hid (r5N_any p (by omega))
  have HD1 := Lib.hid (fun p1 c1 p2 c2 w h1 h2 => r5Divide_any (a * p) 100000000 more p1 c1 p2 c2 _ (vlV (rdQ (a * p) 100000000 more)) _ (by omega) (prod_room a p (by omega) (by omega)) (word_wide _ (by omega)) rfl rfl rfl w h1 h2)
  have HD2 := Lib.hid (fun p1 c1 p2 c2 w h1 h2 => r5Divide_any (a * 100000000) p false p1 c1 p2 c2 _ (vlV (rdQ (a * 100000000) p false)) _ (by omega) (prod_room a 100000000 (by omega) (by omega)) (word_wide _ (by omega)) rfl rfl rfl w h1 h2)
  have HT1 := Lib.hid (told_is (rdQ (a * p) 100000000 more) _ rfl)
  have HT2 := Lib.hid (told_is (rdQ (a * 100000000) p false) _ rfl)
  clear ha hp
  generalize decide (rdQ (a * p) 100000000 more ≤ 4611686018427387904) = o1 at *
  generalize decide (rdQ (a * 100000000) p false ≤ 4611686018427387904) = o2 at *
  generalize vlV (rdQ (a * p) 100000000 more) = V1 at *
  generalize vlE (rdQ (a * p) 100000000 more) = E1 at *
  generalize vlV (rdQ (a * 100000000) p false) = V2 at *
  generalize vlE (rdQ (a * 100000000) p false) = E2 at *
  generalize a * p = X1 at *
  generalize a * 100000000 = X2 at *
  go_enter Try.func3, Try.ntmps3
  go_wp2_with fail
  (with_reducible refine (HL.out _).mono ?_); rintro e w1 ⟨rfl, F⟩
  go_wp2_with fail
  obtain ⟨W1, hW1⟩ : ∃ W, W = w1.alloc (.cells #[.int .u64 (a : Int)] 22) := ⟨_, rfl⟩
  refine Calls.of_world W1 hW1 ?_
  have u1 : Us W1 (some ⟨w1.heap.size, 0, none⟩) 1 [a] := by rw [hW1]; exact Us.of1 _ _ _
  replace F : Fr F0 w W1 := by rw [hW1]; exact F.alloc _
  clear hW1
  (with_reducible refine (HR.out _ _ u1).mono ?_); rintro e w2 ⟨rfl, hw⟩; replace hw := hw.symm; subst hw
  clear u1
  go_wp2_with fail
  (with_reducible refine (HV.out _).mono ?_); rintro e w2 ⟨rfl, f⟩
  replace F := F.trans' f
  clear f
  go_wp2_with fail
  (with_reducible refine (HP.out _).mono ?_); rintro e w3 ⟨rfl, f⟩
  replace F := F.trans' f
  clear f
  go_wp2_with fail
  obtain ⟨W4, hW4⟩ : ∃ W, W = w3.alloc (.cells #[.int .u64 (a : Int), .int .u64 (p : Int)] 22) := ⟨_, rfl⟩
  refine Calls.of_world W4 hW4 ?_
  have u4 : Us W4 (some ⟨w3.heap.size, 0, none⟩) 2 [a, p] := by rw [hW4]; exact Us.of2 _ _ _ _
  replace F : Fr F0 w W4 := by rw [hW4]; exact F.alloc _
  clear hW4
  (with_reducible refine (HX1.out _ _ u4).mono ?_); rintro e w5 ⟨p5, c5, rfl, n5, f⟩
  replace F := F.trans' f
  clear f u4
  go_wp2_with fail
  (with_reducible refine (HN1.out _).mono ?_); rintro e w6 ⟨p6, c6, rfl, n6, f⟩
  replace F := F.trans' f
  replace n5 := Us.fr n5 f
  clear f
  go_wp2_with fail
  (with_reducible refine (HD1.out _ _ _ _ _ n5 n6).mono ?_); rintro e w7 ⟨rfl, f⟩
  replace F := F.trans' f
  clear f n5 n6
  go_wp2_with fail
  obtain ⟨W8, hW8⟩ : ∃ W, W = w7.alloc (.cells #[.int .u64 (a : Int), .int .u64 100000000] 22) := ⟨_, rfl⟩
  refine Calls.of_world W8 hW8 ?_
  have u8 : Us W8 (some ⟨w7.heap.size, 0, none⟩) 2 [a, 100000000] := by rw [hW8]; exact Us.of2 _ a 100000000 _
  replace F : Fr F0 w W8 := by rw [hW8]; exact F.alloc _
  clear hW8
  (with_reducible refine (HX2.out _ _ u8).mono ?_); rintro e w9 ⟨p9, c9, rfl, n9, f⟩
  replace F := F.trans' f
  clear f u8
  go_wp2_with fail
  (with_reducible refine (HN2.out _).mono ?_); rintro e w10 ⟨p10, c10, rfl, n10, f⟩
  replace F := F.trans' f
  replace n9 := Us.fr n9 f
  clear f
  go_wp2_with fail
  (with_reducible refine (HD2.out _ _ _ _ _ n9 n10).mono ?_); rintro e w11 ⟨rfl, f⟩
  replace F := F.trans' f
  clear f n9 n10
  go_wp2_with fail
  (with_reducible refine (HT1.out _).mono ?_); rintro e w12 ⟨rfl, hw⟩; replace hw := hw.symm; subst hw
  go_wp2_with fail
  (with_reducible refine (HT2.out _).mono ?_); rintro e w12 ⟨rfl, hw⟩; replace hw := hw.symm; subst hw
  go_wp2_with fail
  go_ret
  exact ⟨rfl, F⟩

theorem rateValues_any (a p : Nat) (more : Bool) (ha : a < 18446744073709551616) (hp : p < 18446744073709551616) (w : World) :
    Calls Try.prog 3 #[.int .u64 (a : Int), .int .u64 (p : Int), .bool more] w fun e w' => e = .returned (.bool true) ∧ Fr F0 w w' := by
  by_cases h : (1 ≤ p ∧ p ≤ 1099511627776) ∧ a ≤ 4611686018427387904
  · exact rateValues_yes a p more h.2 h.1 w
  · exact rateValues_no a p more ha hp h w
end Go.Proofs.Ytdmlopffdalhgaa
