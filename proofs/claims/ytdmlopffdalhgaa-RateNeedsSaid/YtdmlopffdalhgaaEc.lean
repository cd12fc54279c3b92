/- Layer 5 (rate): Enough, both ways. -/
import Derived.Test.YtdmlopffdalhgaaEb
namespace Go.Proofs.Ytdmlopffdalhgaa
set_option linter.unusedVariables false
set_option linter.unusedSimpArgs false
open Go.RowKit

theorem Us.of1 (w : World) (x : Nat) (t : TypeId) : Us (w.alloc (.cells #[.int .u64 (x : Int)] t)) (some ⟨w.heap.size, 0, none⟩) 1 [x] := Us.of_list w [x] t (by simp)
theorem Us.of2 (w : World) (x y : Nat) (t : TypeId) : Us (w.alloc (.cells #[.int .u64 (x : Int), .int .u64 (y : Int)] t)) (some ⟨w.heap.size, 0, none⟩) 2 [x, y] := Us.of_list w [x, y] t (by simp)
theorem Us.of3 (w : World) (x y z : Nat) (t : TypeId) : Us (w.alloc (.cells #[.int .u64 (x : Int), .int .u64 (y : Int), .int .u64 (z : Int)] t)) (some ⟨w.heap.size, 0, none⟩) 3 [x, y, z] := Us.of_list w [x, y, z] t (by simp)

/-- All are right. -/
def riP (p t c q : Nat) : Prop := ((1 ≤ p ∧ p ≤ 1099511627776) ∧ (1 ≤ t ∧ t ≤ 1000000)) ∧ c ≤ 4611686018427387904 ∧ q ≤ 4611686018427387904
instance (p t c q : Nat) : Decidable (riP p t c q) := by unfold riP; infer_instance
/-- Collateral is enough. -/
def enP (c q p t : Nat) : Prop := riP p t c q ∧ q * p * t ≤ c * 100000000 * 1000
instance (c q p t : Nat) : Decidable (enP c q p t) := by unfold enP; infer_instance

theorem prd3 (x y z : Nat) : prd [x, y, z] = x * y * z := by simp [prd]
theorem prd2 (x y : Nat) : prd [x, y] = x * y := by simp [prd]

theorem p3_wide {x y z : Nat} (hx : x < 18446744073709551616) (hy : y < 18446744073709551616) (hz : z < 18446744073709551616) : x * y * z + 1 < W256 := by
  have h1 : x * y < 2 ^ 128 := Nat.mul_lt_mul'' (c := 2 ^ 64) (d := 2 ^ 64) (by omega) (by omega)
  have h2 : x * y * z < 2 ^ 192 := Nat.mul_lt_mul'' (c := 2 ^ 128) (d := 2 ^ 64) h1 (by omega)
  have h3 : 2 ^ 192 * 2 ≤ W256 := by rw [show 2 ^ 192 * 2 = 2 ^ 193 from rfl]; exact Nat.pow_le_pow_right (by omega) (by omega)
  generalize 2 ^ 192 = P at *
  omega

set_option maxRecDepth 100000 in
set_option maxHeartbeats 4000000 in
theorem r5Enough_any (c q p t : Nat) (hc : c < 18446744073709551616) (hq : q < 18446744073709551616) (hp : p < 18446744073709551616) (ht : t < 18446744073709551616) (o : Bool) (ho : decide (enP c q p t) = o) (w : World) :
    Calls Try.prog 17 #[.int .u64 (c : Int), .int .u64 (q : Int), .int .u64 (p : Int), .int .u64 (t : Int)] w fun e w' => e = .returned (.bool o) ∧ Fr F0 w w' := by
  have hR : decide (((1 ≤ p ∧ p ≤ 1099511627776) ∧ (1 ≤ t ∧ t ≤ 1000000)) ∧ ∀ x ∈ [c, q], x ≤ 4611686018427387904) = decide (riP p t c q) := by
    refine decide_eq_decide.2 ?_
    unfold riP
    simp
  by_cases hri : riP p t c q
  · rw [decide_eq_true hri] at hR
    have hen : enP c q p t ↔ q * p * t ≤ c * 100000000 * 1000 := ⟨fun h => h.2, fun h => ⟨hri, h⟩⟩
    have wA := p3_wide hc (show 100000000 < 18446744073709551616 by omega) (show 1000 < 18446744073709551616 by omega)
    have wB := p3_wide hq hp ht
    have HR := Lib.hid (fun a w h => r5Right_any p t [c, q] a 2 2 rfl (by simp) true hR w h)
    have HA := Lib.hid (fun a w h => r5Product_any [c, 100000000, 1000] a 3 3 rfl (by simp) (by simp [hc]) _ (prd3 c 100000000 1000) w h)
    have HB := Lib.hid (fun a w h => r5Product_any [q, p, t] a 3 3 rfl (by simp) (by simp [hq, hp, ht]) _ (prd3 q p t) w h)
    have HC := Lib.hid (fun a1 c1 a2 c2 w h1 h2 => r3Cmp_any (c * 100000000 * 1000) (q * p * t) a1 c1 a2 c2 (Nat.le_trans (lg_word (by omega)) (by omega)) (Nat.le_trans (lg_word (by omega)) (by omega)) w h1 h2)
    have hz : (o = true ∧ (0 : Int) ≤ cmpZ (c * 100000000 * 1000) (q * p * t)) ∨ (o = false ∧ ¬ (0 : Int) ≤ cmpZ (c * 100000000 * 1000) (q * p * t)) := by
      rw [← ho]
      unfold cmpZ
      by_cases h : q * p * t ≤ c * 100000000 * 1000
      · refine .inl ⟨decide_eq_true (hen.2 h), ?_⟩
        rw [if_neg (by omega)]; split <;> omega
      · refine .inr ⟨decide_eq_false fun e => h (hen.1 e), ?_⟩
        rw [if_pos (by omega)]; omega
    clear ho hen hR hri wA wB
    generalize cmpZ (c * 100000000 * 1000) (q * p * t) = z at *
    generalize c * 100000000 * 1000 = A at *
    generalize q * p * t = B at *
    have HZ := Lib.hid hz
    clear hz
    go_enter Try.func17, Try.ntmps17
    go_wp2_with fail
    obtain ⟨W1, hW1⟩ : ∃ W, W = w.alloc (.cells #[.int .u64 (c : Int), .int .u64 (q : Int)] 22) := ⟨_, rfl⟩
    refine Calls.of_world W1 hW1 ?_
    have u1 : Us W1 (some ⟨w.heap.size, 0, none⟩) 2 [c, q] := by rw [hW1]; exact Us.of2 _ _ _ _
    have F : Fr F0 w W1 := by rw [hW1]; exact (Fr.refl _ _).alloc _
    clear hW1
    (with_reducible refine (HR.out _ _ u1).mono ?_); rintro e w1 ⟨rfl, hw⟩; replace hw := hw.symm; subst hw
    clear u1
    go_wp2_with fail
    obtain ⟨W2, hW2⟩ : ∃ W, W = W1.alloc (.cells #[.int .u64 (c : Int), .int .u64 100000000, .int .u64 1000] 22) := ⟨_, rfl⟩
    refine Calls.of_world W2 hW2 ?_
    have u2 : Us W2 (some ⟨W1.heap.size, 0, none⟩) 3 [c, 100000000, 1000] := by rw [hW2]; exact Us.of3 _ c 100000000 1000 _
    replace F : Fr F0 w W2 := by rw [hW2]; exact F.alloc _
    clear hW2
    (with_reducible refine (HA.out _ _ u2).mono ?_); rintro e w3 ⟨p3, c3, rfl, n3, f⟩
    replace F := F.trans' f
    clear f u2
    go_wp2_with fail
    obtain ⟨W4, hW4⟩ : ∃ W, W = w3.alloc (.cells #[.int .u64 (q : Int), .int .u64 (p : Int), .int .u64 (t : Int)] 22) := ⟨_, rfl⟩
    refine Calls.of_world W4 hW4 ?_
    have u4 : Us W4 (some ⟨w3.heap.size, 0, none⟩) 3 [q, p, t] := by rw [hW4]; exact Us.of3 _ _ _ _ _
    have f : Fr F0 w3 W4 := by rw [hW4]; exact (Fr.refl _ _).alloc _
    replace F := F.trans' f
    replace n3 := Us.fr n3 f
    clear hW4 f
    (with_reducible refine (HB.out _ _ u4).mono ?_); rintro e w5 ⟨p5, c5, rfl, n5, f⟩
    replace F := F.trans' f
    replace n3 := Us.fr n3 f
    clear f u4
    go_wp2_with fail
    (with_reducible refine (HC.out _ _ _ _ _ n3 n5).mono ?_); rintro e w6 ⟨rfl, hw⟩; replace hw := hw.symm; subst hw
    rcases HZ.out with ⟨rfl, hz⟩ | ⟨rfl, hz⟩
    · go_wp2_with fail
      go_ret
      exact ⟨rfl, F⟩
    · go_wp2_with fail
      go_ret
      exact ⟨congrArg (fun b => Ending.returned (.bool b)) (decide_eq_false (p := (0 : Int) ≤ z) (by omega)), F⟩
  · rw [decide_eq_false hri] at hR
    have HR := Lib.hid (fun a w h => r5Right_any p t [c, q] a 2 2 rfl (by simp) false hR w h)
    obtain rfl : false = o := by rw [← ho]; exact (decide_eq_false fun h => hri h.1).symm
    clear ho hR hri hc hq hp ht
    go_enter Try.func17, Try.ntmps17
    go_wp2_with fail
    obtain ⟨W1, hW1⟩ : ∃ W, W = w.alloc (.cells #[.int .u64 (c : Int), .int .u64 (q : Int)] 22) := ⟨_, rfl⟩
    refine Calls.of_world W1 hW1 ?_
    have u1 : Us W1 (some ⟨w.heap.size, 0, none⟩) 2 [c, q] := by rw [hW1]; exact Us.of2 _ _ _ _
    have F : Fr F0 w W1 := by rw [hW1]; exact (Fr.refl _ _).alloc _
    clear hW1
    (with_reducible refine (HR.out _ _ u1).mono ?_); rintro e w1 ⟨rfl, hw⟩; replace hw := hw.symm; subst hw
    clear u1
    go_wp2_with fail
    go_ret
    exact ⟨rfl, F⟩

set_option maxRecDepth 100000 in
set_option maxHeartbeats 4000000 in
theorem eEnough_any (c q p t : Nat) (hc : c < 18446744073709551616) (hq : q < 18446744073709551616) (o : Bool) (ho : decide (enP c q p t) = o) (w : World) :
    Calls Try.prog 16 #[.int .u64 (c : Int), .int .u64 (q : Int), .int .u64 (p : Int), .int .u64 (t : Int)] w fun e w' => e = .returned (.bool o) ∧ Fr F0 w w' := by
  by_cases h1 : (1 ≤ p ∧ p ≤ 1099511627776) ∧ ∀ x ∈ [c, q], x ≤ 4611686018427387904
  · have HR := Lib.hid (fun a w h => eright_any p [c, q] a 2 2 rfl (by simp) true (decide_eq_true h1) w h)
    by_cases h2 : 1 ≤ t ∧ t ≤ 1000000
    · have HT := Lib.hid (ethreshold_any t true (decide_eq_true h2))
      have hri : riP p t c q := ⟨⟨h1.1, h2⟩, h1.2 c (by simp), h1.2 q (by simp)⟩
      have hen : enP c q p t ↔ q * (p * t) ≤ c * 100000000000 := by
        rw [← Nat.mul_assoc, show c * 100000000000 = c * 100000000 * 1000 by rw [Nat.mul_assoc]]
        exact ⟨fun h => h.2, fun h => ⟨hri, h⟩⟩
      have hpt := asked_room h1.1.2 h2.2
      have HK := Lib.hid (easked_any p t h1.1.2 h2.2)
      have HA := Lib.hid (fun w => show Calls Try.prog 31 #[.int .u64 (c : Int), .int .u64 100000000000] w _ from wProduct_any c 100000000000 (by omega) (by omega) w)
      have HB := Lib.hid (wProduct_any q (p * t) (by omega) (by omega))
      have HC := Lib.hid (wCmp_any (c * 100000000000) (q * (p * t)) (prod_wide _ _ (by omega) (by omega)) (prod_wide _ _ (by omega) (by omega)))
      have hz : (o = true ∧ (0 : Int) ≤ sgn (c * 100000000000) (q * (p * t))) ∨ (o = false ∧ ¬ (0 : Int) ≤ sgn (c * 100000000000) (q * (p * t))) := by
        rw [← ho]
        unfold sgn
        by_cases h : q * (p * t) ≤ c * 100000000000
        · refine .inl ⟨decide_eq_true (hen.2 h), ?_⟩
          rw [if_neg (by omega)]; split <;> omega
        · refine .inr ⟨decide_eq_false fun e => h (hen.1 e), ?_⟩
          rw [if_pos (by omega)]; omega
      clear ho hen hri h1 h2 hpt hc hq
      generalize sgn (c * 100000000000) (q * (p * t)) = z at *
      generalize q * (p * t) = B at *
      generalize p * t = k at *
      generalize c * 100000000000 = A at *
      have HZ := Lib.hid hz
      clear hz
      go_enter Try.func16, Try.ntmps16
      go_wp2_with fail
      obtain ⟨W1, hW1⟩ : ∃ W, W = w.alloc (.cells #[.int .u64 (c : Int), .int .u64 (q : Int)] 23) := ⟨_, rfl⟩
      refine Calls.of_world W1 hW1 ?_
      have u1 : Us W1 (some ⟨w.heap.size, 0, none⟩) 2 [c, q] := by rw [hW1]; exact Us.of2 _ _ _ _
      have F : Fr F0 w W1 := by rw [hW1]; exact (Fr.refl _ _).alloc _
      clear hW1
      (with_reducible refine (HR.out _ _ u1).mono ?_); rintro e w1 ⟨rfl, hw⟩; replace hw := hw.symm; subst hw
      clear u1
      go_wp2_with fail
      (with_reducible refine (HT.out _).mono ?_); rintro e w1 ⟨rfl, hw⟩; replace hw := hw.symm; subst hw
      go_wp2_with fail
      (with_reducible refine (HA.out _).mono ?_); rintro e w2 ⟨rfl, f⟩
      replace F := F.trans' f
      clear f
      go_wp2_with fail
      obtain ⟨W3, hW3⟩ : ∃ W, W = (w2.alloc (.cells (rowN .u64 64 4 0) 60)).setRow w2.heap.size (rowN .u64 64 4 A) := ⟨_, rfl⟩
      refine wp_of_world W3 hW3 ?_
      have N := put_new w2 (rowN .u64 64 4 0) (rowN .u64 64 4 A) 60
      rw [← hW3] at N
      have r0 := N.new
      replace F := F.trans' N.fr
      clear N hW3
      generalize w2.heap.size = g at *
      refine wp_region_noPanic ?_
      refine wp_region_held_drew (S := (fun w' => w'.heap[g]? = some (.cells (rowN .u64 64 4 A) 60 (0, 0)) ∧ Fr F0 w w')) (by kernel_rfl) ?_ (fun hHeld => ?_)
      · ((try dsimp only) <;> (first | exact ⟨r0, F.drew⟩ | exact hHeld | exact ⟨keep_fr f5 hHeld.1, hHeld.2.trans' f5⟩))
      refine wpAnyH_take (i := 0) (oi := ⟨_, _, _, _, _, _⟩) (v := ?_) rfl (by kernel_rfl) (by kernel_rfl) (by kernel_rfl) (fun _ _ _ h => h) (Or.inl ⟨by rfl, ?_⟩) (by assumption) ?_
      rotate_left
      · intro w hSw; (try dsimp only at hSw); go_simp; (try (with_reducible rfl)); done
      simp only [Act.put, List.setIfInBounds_toArray]; dsimp only [List.set_cons_zero, List.set_cons_succ]
      refine wpAnyH_take (i := 1) (oi := ⟨_, _, _, _, _, _⟩) (v := ?_) rfl (by kernel_rfl) (by kernel_rfl) (by kernel_rfl) (fun _ _ _ h => h) (Or.inl ⟨by rfl, ?_⟩) (by assumption) ?_
      rotate_left
      · intro w hSw; (try dsimp only at hSw); go_simp; (try (with_reducible rfl)); done
      simp only [Act.put, List.setIfInBounds_toArray]; dsimp only [List.set_cons_zero, List.set_cons_succ]
      refine wpAnyH_take (i := 2) (oi := ⟨_, _, _, _, _, _⟩) (v := ?_) rfl (by kernel_rfl) (by kernel_rfl) (by kernel_rfl) (fun _ _ _ h => h) (Or.inl ⟨by rfl, ?_⟩) (by assumption) ?_
      rotate_left
      · intro w hSw; (try dsimp only at hSw); go_simp; (try (with_reducible rfl)); done
      simp only [Act.put, List.setIfInBounds_toArray]; dsimp only [List.set_cons_zero, List.set_cons_succ]
      refine wpAnyH_take (i := 3) (oi := ⟨_, _, _, _, _, _⟩) (v := ?_) rfl (by kernel_rfl) (by kernel_rfl) (by kernel_rfl) (fun _ _ _ h => h) (Or.inl ⟨by rfl, ?_⟩) (by assumption) ?_
      rotate_left
      · intro w hSw; (try dsimp only at hSw); go_simp; (try (with_reducible rfl)); done
      simp only [Act.put, List.setIfInBounds_toArray]; dsimp only [List.set_cons_zero, List.set_cons_succ]
      refine wpAnyH_ready (rs := [4]) (by kernel_rfl) (by simp) ?_
      refine AllReadyH.cons (o := ⟨_, _, _, _, _, _⟩) rfl (fun K hK => ?_) AllReadyH.nil
      go_simp
      ((with_reducible refine (HK.out _).mono ?_); rintro e w5 ⟨rfl, hw⟩; replace hw := hw.symm; subst hw)
      refine hK.out _ _ ?_ (fun hHeld => ?_)
      · ((try dsimp only) <;> (first | exact ⟨r0, F.drew⟩ | exact hHeld | exact ⟨keep_fr f5 hHeld.1, hHeld.2.trans' f5⟩))
      clear hK K
      try (simp only [Act.put, List.setIfInBounds_toArray]; dsimp only [List.set_cons_zero, List.set_cons_succ])
      refine wpAnyH_ready (rs := [5]) (by kernel_rfl) (by simp) ?_
      refine AllReadyH.cons (o := ⟨_, _, _, _, _, _⟩) rfl (fun K hK => ?_) AllReadyH.nil
      go_simp
      ((with_reducible refine (HB.out _).mono ?_); rintro e w5 ⟨rfl, f5⟩)
      refine hK.out _ _ ?_ (fun hHeld => ?_)
      · ((try dsimp only) <;> (first | exact ⟨r0, F.drew⟩ | exact hHeld | exact ⟨keep_fr f5 hHeld.1, hHeld.2.trans' f5⟩))
      clear hK K
      try (simp only [Act.put, List.setIfInBounds_toArray]; dsimp only [List.set_cons_zero, List.set_cons_succ])
      refine wpAnyH_ready (rs := [6]) (by kernel_rfl) (by simp) ?_
      refine AllReadyH.cons (o := ⟨_, _, _, _, _, _⟩) rfl (fun K hK => ?_) AllReadyH.nil
      go_simp
      ((with_reducible refine (HC.out _).mono ?_); rintro e w5 ⟨rfl, f5⟩)
      refine hK.out _ _ ?_ (fun hHeld => ?_)
      · ((try dsimp only) <;> (first | exact ⟨r0, F.drew⟩ | exact hHeld | exact ⟨keep_fr f5 hHeld.1, hHeld.2.trans' f5⟩))
      clear hK K
      try (simp only [Act.put, List.setIfInBounds_toArray]; dsimp only [List.set_cons_zero, List.set_cons_succ])
      refine wpAnyH_take (i := 7) (oi := ⟨_, _, _, _, _, _⟩) (v := ?_) rfl (by kernel_rfl) (by kernel_rfl) (by kernel_rfl) (fun _ _ _ h => h) (Or.inl ⟨by rfl, ?_⟩) (by assumption) ?_
      rotate_left
      · intro w hSw; (try dsimp only at hSw); go_simp; (try (with_reducible rfl)); done
      simp only [Act.put, List.setIfInBounds_toArray]; dsimp only [List.set_cons_zero, List.set_cons_succ]
      refine wpAnyH_take (i := 8) (oi := ⟨_, _, _, _, _, _⟩) (v := ?_) rfl (by kernel_rfl) (by kernel_rfl) (by kernel_rfl) (fun _ _ _ h => h) (Or.inl ⟨by rfl, ?_⟩) (by assumption) ?_
      rotate_left
      · intro w hSw; (try dsimp only at hSw); go_simp; (try (with_reducible rfl)); done
      simp only [Act.put, List.setIfInBounds_toArray]; dsimp only [List.set_cons_zero, List.set_cons_succ]
      refine wpAnyH_done (by kernel_rfl) ?_ _
      refine NoPanic.normal ?_
      all_goals
        rcases HZ.out with ⟨rfl, hz⟩ | ⟨rfl, hz⟩
        · go_wp2
          go_ret
          exact ⟨rfl, hHeld.2⟩
        · go_wp2
          go_ret
          exact ⟨congrArg (fun b => Ending.returned (.bool b)) (decide_eq_false (p := (0 : Int) ≤ z) (by omega)), hHeld.2⟩
    · have HT := Lib.hid (ethreshold_any t false (decide_eq_false h2))
      obtain rfl : false = o := by rw [← ho]; exact (decide_eq_false fun h => h2 h.1.1.2).symm
      clear ho h1 h2 hc hq
      go_enter Try.func16, Try.ntmps16
      go_wp2_with fail
      obtain ⟨W1, hW1⟩ : ∃ W, W = w.alloc (.cells #[.int .u64 (c : Int), .int .u64 (q : Int)] 23) := ⟨_, rfl⟩
      refine Calls.of_world W1 hW1 ?_
      have u1 : Us W1 (some ⟨w.heap.size, 0, none⟩) 2 [c, q] := by rw [hW1]; exact Us.of2 _ _ _ _
      have F : Fr F0 w W1 := by rw [hW1]; exact (Fr.refl _ _).alloc _
      clear hW1
      (with_reducible refine (HR.out _ _ u1).mono ?_); rintro e w1 ⟨rfl, hw⟩; replace hw := hw.symm; subst hw
      clear u1
      go_wp2_with fail
      (with_reducible refine (HT.out _).mono ?_); rintro e w1 ⟨rfl, hw⟩; replace hw := hw.symm; subst hw
      go_wp2_with fail
      go_ret
      exact ⟨rfl, F⟩
  · have HR := Lib.hid (fun a w h => eright_any p [c, q] a 2 2 rfl (by simp) false (decide_eq_false h1) w h)
    obtain rfl : false = o := by
      rw [← ho]
      exact (decide_eq_false fun h => h1 ⟨h.1.1.1, by simpa using h.1.2⟩).symm
    clear ho h1 hc hq
    go_enter Try.func16, Try.ntmps16
    go_wp2_with fail
    obtain ⟨W1, hW1⟩ : ∃ W, W = w.alloc (.cells #[.int .u64 (c : Int), .int .u64 (q : Int)] 23) := ⟨_, rfl⟩
    refine Calls.of_world W1 hW1 ?_
    have u1 : Us W1 (some ⟨w.heap.size, 0, none⟩) 2 [c, q] := by rw [hW1]; exact Us.of2 _ _ _ _
    have F : Fr F0 w W1 := by rw [hW1]; exact (Fr.refl _ _).alloc _
    clear hW1
    (with_reducible refine (HR.out _ _ u1).mono ?_); rintro e w1 ⟨rfl, hw⟩; replace hw := hw.symm; subst hw
    clear u1
    go_wp2_with fail
    go_ret
    exact ⟨rfl, F⟩
end Go.Proofs.Ytdmlopffdalhgaa
