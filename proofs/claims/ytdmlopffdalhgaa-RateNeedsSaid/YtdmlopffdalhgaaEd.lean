/- Layer 5 (rate): Value, Parts, Needs, Room; told; the fixed fact. -/
import Derived.Test.YtdmlopffdalhgaaEc
namespace Go.Proofs.Ytdmlopffdalhgaa
set_option linter.unusedVariables false
set_option linter.unusedSimpArgs false
open Go.RowKit

/-- What is told of a number, and what beside it. -/
def vlV (q : Nat) : Nat := if q ≤ 4611686018427387904 then q else 0
def vlE (q : Nat) : Int := if q ≤ 4611686018427387904 then 0 else 4

theorem part_is (a up by' : Nat) (more : Bool) (ha : a ≤ 4611686018427387904) (hup : up < 18446744073709551616) (hby : by' < 18446744073709551616) (hb : 0 < by') (w : World) :
    Calls Try.prog 23 #[.int .u64 (a : Int), .int .u64 (up : Int), .int .u64 (by' : Int), .bool more] w fun e w' => e = .returned (.tuple #[.int .u64 (vlV (rdQ (a * up) by' more) : Nat), .int .i64 (vlE (rdQ (a * up) by' more))]) ∧ Fr F0 w w' :=
  aPart_val a up by' more ha hup hby hb w

theorem one_right {p a : Nat} (ha : a ≤ 4611686018427387904) (hp : 1 ≤ p ∧ p ≤ 1099511627776) : (1 ≤ p ∧ p ≤ 1099511627776) ∧ ∀ x ∈ [a], x ≤ 4611686018427387904 := ⟨hp, by simpa using ha⟩
theorem one_wrong {p a : Nat} (h : ¬ ((1 ≤ p ∧ p ≤ 1099511627776) ∧ a ≤ 4611686018427387904)) : ¬ ((1 ≤ p ∧ p ≤ 1099511627776) ∧ ∀ x ∈ [a], x ≤ 4611686018427387904) := fun e => h ⟨e.1, by simpa using e.2⟩

set_option maxHeartbeats 2000000 in
theorem eValue_yes (a p : Nat) (more : Bool) (ha : a ≤ 4611686018427387904) (hp : 1 ≤ p ∧ p ≤ 1099511627776) (w : World) :
    Calls Try.prog 9 #[.int .u64 (a : Int), .int .u64 (p : Int), .bool more] w fun e w' => e = .returned (.tuple #[.int .u64 (vlV (rdQ (a * p) 100000000 more) : Nat), .int .i64 (vlE (rdQ (a * p) 100000000 more))]) ∧ Fr F0 w w' := by
  have HR := Lib.hid (fun b w h => eright_any p [a] b 1 1 rfl (by simp) true (decide_eq_true (one_right ha hp)) w h)
  have HP := Lib.hid (fun w => show Calls Try.prog 23 #[.int .u64 (a : Int), .int .u64 (p : Int), .int .u64 100000000, .bool more] w _ from part_is a p 100000000 more ha (by omega) (by omega) (by omega) w)
  clear ha hp
  generalize vlV (rdQ (a * p) 100000000 more) = V at *
  generalize vlE (rdQ (a * p) 100000000 more) = E at *
  go_enter Try.func9, Try.ntmps9
  go_wp2_with fail
  obtain ⟨W1, hW1⟩ : ∃ W, W = w.alloc (.cells #[.int .u64 (a : Int)] 23) := ⟨_, rfl⟩
  refine Calls.of_world W1 hW1 ?_
  have u1 : Us W1 (some ⟨w.heap.size, 0, none⟩) 1 [a] := by rw [hW1]; exact Us.of1 _ _ _
  have F : Fr F0 w W1 := by rw [hW1]; exact (Fr.refl _ _).alloc _
  clear hW1
  (with_reducible refine (HR.out _ _ u1).mono ?_); rintro e w1 ⟨rfl, hw⟩; replace hw := hw.symm; subst hw
  clear u1
  go_wp2_with fail
  (with_reducible refine (HP.out _).mono ?_); rintro e w2 ⟨rfl, f⟩
  replace F := F.trans' f
  clear f
  go_wp2_with fail
  go_ret2
  exact ⟨rfl, F⟩

set_option maxHeartbeats 2000000 in
theorem eValue_no (a p : Nat) (more : Bool) (h : ¬ ((1 ≤ p ∧ p ≤ 1099511627776) ∧ a ≤ 4611686018427387904)) (w : World) :
    Calls Try.prog 9 #[.int .u64 (a : Int), .int .u64 (p : Int), .bool more] w fun e w' => e = .returned (.tuple #[.int .u64 0, .int .i64 1]) ∧ Fr F0 w w' := by
  have HR := Lib.hid (fun b w u => eright_any p [a] b 1 1 rfl (by simp) false (decide_eq_false (one_wrong h)) w u)
  clear h
  go_enter Try.func9, Try.ntmps9
  go_wp2_with fail
  obtain ⟨W1, hW1⟩ : ∃ W, W = w.alloc (.cells #[.int .u64 (a : Int)] 23) := ⟨_, rfl⟩
  refine Calls.of_world W1 hW1 ?_
  have u1 : Us W1 (some ⟨w.heap.size, 0, none⟩) 1 [a] := by rw [hW1]; exact Us.of1 _ _ _
  have F : Fr F0 w W1 := by rw [hW1]; exact (Fr.refl _ _).alloc _
  clear hW1
  (with_reducible refine (HR.out _ _ u1).mono ?_); rintro e w1 ⟨rfl, hw⟩; replace hw := hw.symm; subst hw
  clear u1
  go_wp2_with fail
  go_ret2
  exact ⟨rfl, F⟩

set_option maxHeartbeats 2000000 in
theorem eParts_yes (a p : Nat) (ha : a ≤ 4611686018427387904) (hp : 1 ≤ p ∧ p ≤ 1099511627776) (w : World) :
    Calls Try.prog 10 #[.int .u64 (a : Int), .int .u64 (p : Int)] w fun e w' => e = .returned (.tuple #[.int .u64 (vlV (rdQ (a * 100000000) p false) : Nat), .int .i64 (vlE (rdQ (a * 100000000) p false))]) ∧ Fr F0 w w' := by
  have HR := Lib.hid (fun b w h => eright_any p [a] b 1 1 rfl (by simp) true (decide_eq_true (one_right ha hp)) w h)
  have HP := Lib.hid (fun w => show Calls Try.prog 23 #[.int .u64 (a : Int), .int .u64 100000000, .int .u64 (p : Int), .bool false] w _ from part_is a 100000000 p false ha (by omega) (by omega) (by omega) w)
  clear ha hp
  generalize vlV (rdQ (a * 100000000) p false) = V at *
  generalize vlE (rdQ (a * 100000000) p false) = E at *
  go_enter Try.func10, Try.ntmps10
  go_wp2_with fail
  obtain ⟨W1, hW1⟩ : ∃ W, W = w.alloc (.cells #[.int .u64 (a : Int)] 23) := ⟨_, rfl⟩
  refine Calls.of_world W1 hW1 ?_
  have u1 : Us W1 (some ⟨w.heap.size, 0, none⟩) 1 [a] := by rw [hW1]; exact Us.of1 _ _ _
  have F : Fr F0 w W1 := by rw [hW1]; exact (Fr.refl _ _).alloc _
  clear hW1
  (with_reducible refine (HR.out _ _ u1).mono ?_); rintro e w1 ⟨rfl, hw⟩; replace hw := hw.symm; subst hw
  clear u1
  go_wp2_with fail
  (with_reducible refine (HP.out _).mono ?_); rintro e w2 ⟨rfl, f⟩
  replace F := F.trans' f
  clear f
  go_wp2_with fail
  go_ret2
  exact ⟨rfl, F⟩

set_option maxHeartbeats 2000000 in
theorem eParts_no (a p : Nat) (h : ¬ ((1 ≤ p ∧ p ≤ 1099511627776) ∧ a ≤ 4611686018427387904)) (w : World) :
    Calls Try.prog 10 #[.int .u64 (a : Int), .int .u64 (p : Int)] w fun e w' => e = .returned (.tuple #[.int .u64 0, .int .i64 1]) ∧ Fr F0 w w' := by
  have HR := Lib.hid (fun b w u => eright_any p [a] b 1 1 rfl (by simp) false (decide_eq_false (one_wrong h)) w u)
  clear h
  go_enter Try.func10, Try.ntmps10
  go_wp2_with fail
  obtain ⟨W1, hW1⟩ : ∃ W, W = w.alloc (.cells #[.int .u64 (a : Int)] 23) := ⟨_, rfl⟩
  refine Calls.of_world W1 hW1 ?_
  have u1 : Us W1 (some ⟨w.heap.size, 0, none⟩) 1 [a] := by rw [hW1]; exact Us.of1 _ _ _
  have F : Fr F0 w W1 := by rw [hW1]; exact (Fr.refl _ _).alloc _
  clear hW1
  (with_reducible refine (HR.out _ _ u1).mono ?_); rintro e w1 ⟨rfl, hw⟩; replace hw := hw.symm; subst hw
  clear u1
  go_wp2_with fail
  go_ret2
  exact ⟨rfl, F⟩

set_option maxHeartbeats 2000000 in
theorem eNeeds_yes (a p t : Nat) (ha : a ≤ 4611686018427387904) (hp : 1 ≤ p ∧ p ≤ 1099511627776) (ht : 1 ≤ t ∧ t ≤ 1000000) (w : World) :
    Calls Try.prog 20 #[.int .u64 (a : Int), .int .u64 (p : Int), .int .u64 (t : Int)] w fun e w' => e = .returned (.tuple #[.int .u64 (vlV (rdQ (a * (p * t)) 100000000000 true) : Nat), .int .i64 (vlE (rdQ (a * (p * t)) 100000000000 true))]) ∧ Fr F0 w w' := by
  have hpt := asked_room hp.2 ht.2
  have hpt0 : 0 < p * t := Nat.mul_pos hp.1 ht.1
  have HR := Lib.hid (fun b w h => eright_any p [a] b 1 1 rfl (by simp) true (decide_eq_true (one_right ha hp)) w h)
  have HT := Lib.hid (ethreshold_any t true (decide_eq_true ht))
  have HK := Lib.hid (easked_any p t hp.2 ht.2)
  have HP := Lib.hid (fun w => show Calls Try.prog 23 #[.int .u64 (a : Int), .int .u64 ((p * t : Nat) : Int), .int .u64 100000000000, .bool true] w _ from part_is a (p * t) 100000000000 true ha (by omega) (by omega) (by omega) w)
  clear ha hp ht hpt hpt0
  generalize vlV (rdQ (a * (p * t)) 100000000000 true) = V at *
  generalize vlE (rdQ (a * (p * t)) 100000000000 true) = E at *
  generalize p * t = k at *
  go_enter Try.func20, Try.ntmps20
  go_wp2_with fail
  obtain ⟨W1, hW1⟩ : ∃ W, W = w.alloc (.cells #[.int .u64 (a : Int)] 23) := ⟨_, rfl⟩
  refine Calls.of_world W1 hW1 ?_
  have u1 : Us W1 (some ⟨w.heap.size, 0, none⟩) 1 [a] := by rw [hW1]; exact Us.of1 _ _ _
  have F : Fr F0 w W1 := by rw [hW1]; exact (Fr.refl _ _).alloc _
  clear hW1
  (with_reducible refine (HR.out _ _ u1).mono ?_); rintro e w1 ⟨rfl, hw⟩; replace hw := hw.symm; subst hw
  clear u1
  go_wp2_with fail
  (with_reducible refine (HT.out _).mono ?_); rintro e w1 ⟨rfl, hw⟩; replace hw := hw.symm; subst hw
  go_wp2_with fail
  (with_reducible refine (HK.out _).mono ?_); rintro e w1 ⟨rfl, hw⟩; replace hw := hw.symm; subst hw
  go_wp2_with fail
  (with_reducible refine (HP.out _).mono ?_); rintro e w2 ⟨rfl, f⟩
  replace F := F.trans' f
  clear f
  go_wp2_with fail
  go_ret2
  exact ⟨rfl, F⟩

set_option maxHeartbeats 2000000 in
theorem eNeeds_no (a p t : Nat) (h : ¬ (((1 ≤ p ∧ p ≤ 1099511627776) ∧ (1 ≤ t ∧ t ≤ 1000000)) ∧ a ≤ 4611686018427387904)) (w : World) :
    Calls Try.prog 20 #[.int .u64 (a : Int), .int .u64 (p : Int), .int .u64 (t : Int)] w fun e w' => e = .returned (.tuple #[.int .u64 0, .int .i64 1]) ∧ Fr F0 w w' := by
  by_cases h1 : (1 ≤ p ∧ p ≤ 1099511627776) ∧ a ≤ 4611686018427387904
  · have HR := Lib.hid (fun b w u => eright_any p [a] b 1 1 rfl (by simp) true (decide_eq_true (one_right h1.2 h1.1)) w u)
    have HT := Lib.hid (ethreshold_any t false (decide_eq_false fun ht => h ⟨⟨h1.1, ht⟩, h1.2⟩))
    clear h h1
    go_enter Try.func20, Try.ntmps20
    go_wp2_with fail
    obtain ⟨W1, hW1⟩ : ∃ W, W = w.alloc (.cells #[.int .u64 (a : Int)] 23) := ⟨_, rfl⟩
    refine Calls.of_world W1 hW1 ?_
    have u1 : Us W1 (some ⟨w.heap.size, 0, none⟩) 1 [a] := by rw [hW1]; exact Us.of1 _ _ _
    have F : Fr F0 w W1 := by rw [hW1]; exact (Fr.refl _ _).alloc _
    clear hW1
    (with_reducible refine (HR.out _ _ u1).mono ?_); rintro e w1 ⟨rfl, hw⟩; replace hw := hw.symm; subst hw
    clear u1
    go_wp2_with fail
    (with_reducible refine (HT.out _).mono ?_); rintro e w1 ⟨rfl, hw⟩; replace hw := hw.symm; subst hw
    go_wp2_with fail
    go_ret2
    exact ⟨rfl, F⟩
  · have HR := Lib.hid (fun b w u => eright_any p [a] b 1 1 rfl (by simp) false (decide_eq_false (one_wrong h1)) w u)
    clear h h1
    go_enter Try.func20, Try.ntmps20
    go_wp2_with fail
    obtain ⟨W1, hW1⟩ : ∃ W, W = w.alloc (.cells #[.int .u64 (a : Int)] 23) := ⟨_, rfl⟩
    refine Calls.of_world W1 hW1 ?_
    have u1 : Us W1 (some ⟨w.heap.size, 0, none⟩) 1 [a] := by rw [hW1]; exact Us.of1 _ _ _
    have F : Fr F0 w W1 := by rw [hW1]; exact (Fr.refl _ _).alloc _
    clear hW1
    (with_reducible refine (HR.out _ _ u1).mono ?_); rintro e w1 ⟨rfl, hw⟩; replace hw := hw.symm; subst hw
    clear u1
    go_wp2_with fail
    go_ret2
    exact ⟨rfl, F⟩

set_option maxHeartbeats 2000000 in
theorem eRoom_yes (a p t : Nat) (ha : a ≤ 4611686018427387904) (hp : 1 ≤ p ∧ p ≤ 1099511627776) (ht : 1 ≤ t ∧ t ≤ 1000000) (w : World) :
    Calls Try.prog 21 #[.int .u64 (a : Int), .int .u64 (p : Int), .int .u64 (t : Int)] w fun e w' => e = .returned (.tuple #[.int .u64 (vlV (rdQ (a * 100000000000) (p * t) false) : Nat), .int .i64 (vlE (rdQ (a * 100000000000) (p * t) false))]) ∧ Fr F0 w w' := by
  have hpt := asked_room hp.2 ht.2
  have hpt0 : 0 < p * t := Nat.mul_pos hp.1 ht.1
  have HR := Lib.hid (fun b w h => eright_any p [a] b 1 1 rfl (by simp) true (decide_eq_true (one_right ha hp)) w h)
  have HT := Lib.hid (ethreshold_any t true (decide_eq_true ht))
  have HK := Lib.hid (easked_any p t hp.2 ht.2)
  have HP := Lib.hid (fun w => show Calls Try.prog 23 #[.int .u64 (a : Int), .int .u64 100000000000, .int .u64 ((p * t : Nat) : Int), .bool false] w _ from part_is a 100000000000 (p * t) false ha (by omega) (by omega) (by omega) w)
  clear ha hp ht hpt hpt0
  generalize vlV (rdQ (a * 100000000000) (p * t) false) = V at *
  generalize vlE (rdQ (a * 100000000000) (p * t) false) = E at *
  generalize p * t = k at *
  go_enter Try.func21, Try.ntmps21
  go_wp2_with fail
  obtain ⟨W1, hW1⟩ : ∃ W, W = w.alloc (.cells #[.int .u64 (a : Int)] 23) := ⟨_, rfl⟩
  refine Calls.of_world W1 hW1 ?_
  have u1 : Us W1 (some ⟨w.heap.size, 0, none⟩) 1 [a] := by rw [hW1]; exact Us.of1 _ _ _
  have F : Fr F0 w W1 := by rw [hW1]; exact (Fr.refl _ _).alloc _
  clear hW1
  (with_reducible refine (HR.out _ _ u1).mono ?_); rintro e w1 ⟨rfl, hw⟩; replace hw := hw.symm; subst hw
  clear u1
  go_wp2_with fail
  (with_reducible refine (HT.out _).mono ?_); rintro e w1 ⟨rfl, hw⟩; replace hw := hw.symm; subst hw
  go_wp2_with fail
  (with_reducible refine (HK.out _).mono ?_); rintro e w1 ⟨rfl, hw⟩; replace hw := hw.symm; subst hw
  go_wp2_with fail
  (with_reducible refine (HP.out _).mono ?_); rintro e w2 ⟨rfl, f⟩
  replace F := F.trans' f
  clear f
  go_wp2_with fail
  go_ret2
  exact ⟨rfl, F⟩

set_option maxHeartbeats 2000000 in
theorem eRoom_no (a p t : Nat) (h : ¬ (((1 ≤ p ∧ p ≤ 1099511627776) ∧ (1 ≤ t ∧ t ≤ 1000000)) ∧ a ≤ 4611686018427387904)) (w : World) :
    Calls Try.prog 21 #[.int .u64 (a : Int), .int .u64 (p : Int), .int .u64 (t : Int)] w fun e w' => e = .returned (.tuple #[.int .u64 0, .int .i64 1]) ∧ Fr F0 w w' := by
  by_cases h1 : (1 ≤ p ∧ p ≤ 1099511627776) ∧ a ≤ 4611686018427387904
  · have HR := Lib.hid (fun b w u => eright_any p [a] b 1 1 rfl (by simp) true (decide_eq_true (one_right h1.2 h1.1)) w u)
    have HT := Lib.hid (ethreshold_any t false (decide_eq_false fun ht => h ⟨⟨h1.1, ht⟩, h1.2⟩))
    clear h h1
    go_enter Try.func21, Try.ntmps21
    go_wp2_with fail
    obtain ⟨W1, hW1⟩ : ∃ W, W = w.alloc (.cells #[.int .u64 (a : Int)] 23) := ⟨_, rfl⟩
    refine Calls.of_world W1 hW1 ?_
    have u1 : Us W1 (some ⟨w.heap.size, 0, none⟩) 1 [a] := by rw [hW1]; exact Us.of1 _ _ _
    have F : Fr F0 w W1 := by rw [hW1]; exact (Fr.refl _ _).alloc _
    clear hW1
    (with_reducible refine (HR.out _ _ u1).mono ?_); rintro e w1 ⟨rfl, hw⟩; replace hw := hw.symm; subst hw
    clear u1
    go_wp2_with fail
    (with_reducible refine (HT.out _).mono ?_); rintro e w1 ⟨rfl, hw⟩; replace hw := hw.symm; subst hw
    go_wp2_with fail
    go_ret2
    exact ⟨rfl, F⟩
  · have HR := Lib.hid (fun b w u => eright_any p [a] b 1 1 rfl (by simp) false (decide_eq_false (one_wrong h1)) w u)
    clear h h1
    go_enter Try.func21, Try.ntmps21
    go_wp2_with fail
    obtain ⟨W1, hW1⟩ : ∃ W, W = w.alloc (.cells #[.int .u64 (a : Int)] 23) := ⟨_, rfl⟩
    refine Calls.of_world W1 hW1 ?_
    have u1 : Us W1 (some ⟨w.heap.size, 0, none⟩) 1 [a] := by rw [hW1]; exact Us.of1 _ _ _
    have F : Fr F0 w W1 := by rw [hW1]; exact (Fr.refl _ _).alloc _
    clear hW1
    (with_reducible refine (HR.out _ _ u1).mono ?_); rintro e w1 ⟨rfl, hw⟩; replace hw := hw.symm; subst hw
    clear u1
    go_wp2_with fail
    go_ret2
    exact ⟨rfl, F⟩

theorem told_no (x : Nat) (b : Bool) (w : World) : Calls Try.prog 11 #[.int .u64 0, .int .i64 1, .bool false, .int .u64 (x : Int), .bool b] w fun e w' => e = .returned (.bool true) ∧ w' = w := by
  go_enter Try.func11, Try.ntmps11
  go_wp2_with fail
  go_ret
  exact ⟨rfl, rfl⟩
theorem told_over (x : Nat) (w : World) : Calls Try.prog 11 #[.int .u64 0, .int .i64 4, .bool true, .int .u64 (x : Int), .bool false] w fun e w' => e = .returned (.bool true) ∧ w' = w := by
  go_enter Try.func11, Try.ntmps11
  go_wp2_with fail
  go_ret
  exact ⟨rfl, rfl⟩
theorem told_yes (x : Nat) (w : World) : Calls Try.prog 11 #[.int .u64 (x : Int), .int .i64 0, .bool true, .int .u64 (x : Int), .bool true] w fun e w' => e = .returned (.bool true) ∧ w' = w := by
  go_enter Try.func11, Try.ntmps11
  go_wp2_with fail
  go_ret
  exact ⟨rfl, rfl⟩
/-- What is told of a number is the document's. -/
theorem told_is (q : Nat) (o : Bool) (ho : decide (q ≤ 4611686018427387904) = o) (w : World) : Calls Try.prog 11 #[.int .u64 (vlV q : Nat), .int .i64 (vlE q), .bool true, .int .u64 (vlV q : Nat), .bool o] w fun e w' => e = .returned (.bool true) ∧ w' = w := by
  unfold vlV vlE
  by_cases h : q ≤ 4611686018427387904
  · rw [if_pos h, if_pos h, ← ho, decide_eq_true h]; exact told_yes q w
  · rw [if_neg h, if_neg h, ← ho, decide_eq_false h]; exact told_over 0 w

theorem live_q : rdQ (50000000 * 5000) 100000000 false = 2500 := by decide
theorem live_e1 : decide (enP 7500 100000000 5000 1500) = true := by decide
theorem live_e2 : decide (enP 7499 100000000 5000 1500) = false := by decide
set_option maxHeartbeats 2000000 in
theorem lives05_any (w : World) : Calls Try.prog 7 #[] w fun e w' => e = .returned (.bool true) ∧ Fr F0 w w' := by
  have H1 := Lib.hid (fun w => show Calls Try.prog 9 #[.int .u64 50000000, .int .u64 5000, .bool false] w fun e w' => e = .returned (.tuple #[.int .u64 2500, .int .i64 0]) ∧ Fr F0 w w' by
    have := eValue_yes 50000000 5000 false (by omega) (by omega) w
    rwa [live_q] at this)
  have H2 := Lib.hid (fun w => show Calls Try.prog 16 #[.int .u64 7500, .int .u64 100000000, .int .u64 5000, .int .u64 1500] w _ from eEnough_any 7500 100000000 5000 1500 (by omega) (by omega) _ live_e1 w)
  have H3 := Lib.hid (fun w => show Calls Try.prog 16 #[.int .u64 7499, .int .u64 100000000, .int .u64 5000, .int .u64 1500] w _ from eEnough_any 7499 100000000 5000 1500 (by omega) (by omega) _ live_e2 w)
  go_enter Try.func7, Try.ntmps7
  go_wp2_with fail
  (with_reducible refine (H1.out _).mono ?_); rintro e w1 ⟨rfl, F⟩
  go_wp2_with fail
  (with_reducible refine (H2.out _).mono ?_); rintro e w1 ⟨rfl, f⟩
  replace F := F.trans' f
  clear f
  go_wp2_with fail
  (with_reducible refine (H3.out _).mono ?_); rintro e w1 ⟨rfl, f⟩
  replace F := F.trans' f
  clear f
  go_wp2_with fail
  go_ret
  exact ⟨rfl, F⟩
end Go.Proofs.Ytdmlopffdalhgaa
