/- Layer 5 (rate): bands. -/
import Derived.Test.YtdmlopffdalhgaaEd
namespace Go.Proofs.Ytdmlopffdalhgaa
set_option linter.unusedVariables false
set_option linter.unusedSimpArgs false
open Go.RowKit

/-- Thresholds, in order. -/
def bdP (x y z : Nat) : Prop := (y ≤ x ∧ z ≤ y) ∧ (1 ≤ z ∧ x ≤ 1000000)
instance (x y z : Nat) : Decidable (bdP x y z) := by unfold bdP; infer_instance

/-- Bands as cells. -/
abbrev BV (x y z : Nat) : Array Value := #[.int .u64 (x : Int), .int .u64 (y : Int), .int .u64 (z : Int)]

set_option maxRecDepth 100000 in
set_option maxHeartbeats 8000000 in
theorem eBright_any (x y z : Nat) (o : Bool) (ho : decide (bdP x y z) = o) (w : World) :
    Calls Try.prog 19 #[.agg (BV x y z)] w fun e w' => e = .returned (.bool o) ∧ Fr F0 w w' := by
  have hcase : (¬ y ≤ x ∧ o = false) ∨ (y ≤ x ∧ ¬ z ≤ y ∧ o = false) ∨ (y ≤ x ∧ z ≤ y ∧ decide (1 ≤ x ∧ x ≤ 1000000) = false ∧ o = false) ∨ (y ≤ x ∧ z ≤ y ∧ decide (1 ≤ x ∧ x ≤ 1000000) = true ∧ decide (1 ≤ y ∧ y ≤ 1000000) = false ∧ o = false) ∨
      (y ≤ x ∧ z ≤ y ∧ decide (1 ≤ x ∧ x ≤ 1000000) = true ∧ decide (1 ≤ y ∧ y ≤ 1000000) = true ∧ decide (1 ≤ z ∧ z ≤ 1000000) = o) := by
    rw [← ho]
    by_cases h1 : y ≤ x
    · by_cases h2 : z ≤ y
      · by_cases h3 : 1 ≤ x ∧ x ≤ 1000000
        · by_cases h4 : 1 ≤ y ∧ y ≤ 1000000
          · exact .inr (.inr (.inr (.inr ⟨h1, h2, decide_eq_true h3, decide_eq_true h4, decide_eq_decide.2 (by unfold bdP; omega)⟩)))
          · exact .inr (.inr (.inr (.inl ⟨h1, h2, decide_eq_true h3, decide_eq_false h4, decide_eq_false (by unfold bdP; omega)⟩)))
        · exact .inr (.inr (.inl ⟨h1, h2, decide_eq_false h3, decide_eq_false (by unfold bdP; omega)⟩))
      · exact .inr (.inl ⟨h1, h2, decide_eq_false (by unfold bdP; omega)⟩)
    · exact .inl ⟨h1, decide_eq_false (by unfold bdP; omega)⟩
  clear ho
  rcases hcase with ⟨h1, rfl⟩ | ⟨h1, h2, rfl⟩ | ⟨h1, h2, h3, rfl⟩ | ⟨h1, h2, h3, h4, rfl⟩ | ⟨h1, h2, h3, h4, h5⟩
  · have l1 : ¬ (y : Int) ≤ (x : Int) := by omega
    clear h1
    go_enter Try.func19, Try.ntmps19
    go_wp2_with fail
    go_ret
    exact ⟨rfl, (Fr.refl _ _).alloc _⟩
  · have l1 : (y : Int) ≤ (x : Int) := by omega
    have l2 : ¬ (z : Int) ≤ (y : Int) := by omega
    clear h1 h2
    go_enter Try.func19, Try.ntmps19
    go_wp2_with fail
    go_ret
    exact ⟨rfl, (Fr.refl _ _).alloc _⟩
  · have l1 : (y : Int) ≤ (x : Int) := by omega
    have l2 : (z : Int) ≤ (y : Int) := by omega
    have T1 := Lib.hid (ethreshold_any x _ h3)
    clear h1 h2 h3
    go_enter Try.func19, Try.ntmps19
    go_wp2_with fail
    (with_reducible refine (T1.out _).mono ?_); rintro e w1 ⟨rfl, rfl⟩
    go_wp2_with fail
    go_ret
    exact ⟨rfl, (Fr.refl _ _).alloc _⟩
  · have l1 : (y : Int) ≤ (x : Int) := by omega
    have l2 : (z : Int) ≤ (y : Int) := by omega
    have T1 := Lib.hid (ethreshold_any x _ h3)
    have T2 := Lib.hid (ethreshold_any y _ h4)
    clear h1 h2 h3 h4
    go_enter Try.func19, Try.ntmps19
    go_wp2_with fail
    (with_reducible refine (T1.out _).mono ?_); rintro e w1 ⟨rfl, rfl⟩
    go_wp2_with fail
    (with_reducible refine (T2.out _).mono ?_); rintro e w1 ⟨rfl, rfl⟩
    go_wp2_with fail
    go_ret
    exact ⟨rfl, (Fr.refl _ _).alloc _⟩
  · have l1 : (y : Int) ≤ (x : Int) := by omega
    have l2 : (z : Int) ≤ (y : Int) := by omega
    have T1 := Lib.hid (ethreshold_any x _ h3)
    have T2 := Lib.hid (ethreshold_any y _ h4)
    have T3 := Lib.hid (ethreshold_any z _ h5)
    clear h1 h2 h3 h4 h5
    go_enter Try.func19, Try.ntmps19
    go_wp2_with fail
    (with_reducible refine (T1.out _).mono ?_); rintro e w1 ⟨rfl, rfl⟩
    go_wp2_with fail
    (with_reducible refine (T2.out _).mono ?_); rintro e w1 ⟨rfl, rfl⟩
    go_wp2_with fail
    (with_reducible refine (T3.out _).mono ?_); rintro e w1 ⟨rfl, rfl⟩
    go_wp2_with fail
    go_ret
    exact ⟨rfl, (Fr.refl _ _).alloc _⟩

set_option maxRecDepth 100000 in
set_option maxHeartbeats 8000000 in
theorem eOf_no (x y z c q p : Nat) (h : ¬ (bdP x y z ∧ (1 ≤ p ∧ p ≤ 1099511627776) ∧ ∀ v ∈ [c, q], v ≤ 4611686018427387904)) (w : World) :
    Calls Try.prog 18 #[.agg (BV x y z), .int .u64 (c : Int), .int .u64 (q : Int), .int .u64 (p : Int)] w fun e w' => e = .returned (.tuple #[.int .i64 0, .int .i64 1]) ∧ Fr F0 w w' := by
  by_cases hb : bdP x y z
  · have HB := Lib.hid (eBright_any x y z true (decide_eq_true hb))
    have HR := Lib.hid (fun b w u => eright_any p [c, q] b 2 2 rfl (by simp) false (decide_eq_false fun e => h ⟨hb, e⟩) w u)
    clear h hb
    go_enter Try.func18, Try.ntmps18
    go_wp2_with fail
    obtain ⟨W0, hW0⟩ : ∃ W, W = w.alloc (.cells (BV x y z) 40) := ⟨_, rfl⟩
    refine Calls.of_world W0 hW0 ?_
    have r0 : W0.heap[w.heap.size]? = some (.cells (BV x y z) 40 (0, 0)) := by rw [hW0]; exact heap_alloc_new _ _
    have F : Fr F0 w W0 := by rw [hW0]; exact (Fr.refl _ _).alloc _
    clear hW0
    generalize w.heap.size = g at *
    (with_reducible refine (HB.out _).mono ?_); rintro e w1 ⟨rfl, f⟩
    replace F := F.trans' f
    replace r0 := keep_fr f r0
    clear f
    go_wp2_with fail
    obtain ⟨W2, hW2⟩ : ∃ W, W = w1.alloc (.cells #[.int .u64 (c : Int), .int .u64 (q : Int)] 23) := ⟨_, rfl⟩
    refine Calls.of_world W2 hW2 ?_
    have u2 : Us W2 (some ⟨w1.heap.size, 0, none⟩) 2 [c, q] := by rw [hW2]; exact Us.of2 _ _ _ _
    have f : Fr F0 w1 W2 := by rw [hW2]; exact (Fr.refl _ _).alloc _
    replace F := F.trans' f
    replace r0 := keep_fr f r0
    clear hW2 f
    (with_reducible refine (HR.out _ _ u2).mono ?_); rintro e w3 ⟨rfl, hw⟩; replace hw := hw.symm; subst hw
    clear u2
    go_wp2_with fail
    go_ret2
    exact ⟨rfl, F⟩
  · have HB := Lib.hid (eBright_any x y z false (decide_eq_false hb))
    clear h hb
    go_enter Try.func18, Try.ntmps18
    go_wp2_with fail
    obtain ⟨W0, hW0⟩ : ∃ W, W = w.alloc (.cells (BV x y z) 40) := ⟨_, rfl⟩
    refine Calls.of_world W0 hW0 ?_
    have r0 : W0.heap[w.heap.size]? = some (.cells (BV x y z) 40 (0, 0)) := by rw [hW0]; exact heap_alloc_new _ _
    have F : Fr F0 w W0 := by rw [hW0]; exact (Fr.refl _ _).alloc _
    clear hW0
    generalize w.heap.size = g at *
    (with_reducible refine (HB.out _).mono ?_); rintro e w1 ⟨rfl, f⟩
    replace F := F.trans' f
    replace r0 := keep_fr f r0
    clear f
    go_wp2_with fail
    go_ret2
    exact ⟨rfl, F⟩

/-- Which band. -/
def bnd (o1 o2 o3 : Bool) : Int := if o1 = true then 0 else if o2 = true then 1 else if o3 = true then 2 else 3

set_option maxRecDepth 100000 in
set_option maxHeartbeats 8000000 in
theorem eOf_yes (x y z c q p : Nat) (hb : bdP x y z) (hr : (1 ≤ p ∧ p ≤ 1099511627776) ∧ ∀ v ∈ [c, q], v ≤ 4611686018427387904) (o1 o2 o3 : Bool)
    (h1 : decide (enP c q p x) = o1) (h2 : decide (enP c q p y) = o2) (h3 : decide (enP c q p z) = o3) (w : World) :
    Calls Try.prog 18 #[.agg (BV x y z), .int .u64 (c : Int), .int .u64 (q : Int), .int .u64 (p : Int)] w fun e w' => e = .returned (.tuple #[.int .i64 (bnd o1 o2 o3), .int .i64 0]) ∧ Fr F0 w w' := by
  have hcq : c ≤ 4611686018427387904 ∧ q ≤ 4611686018427387904 := by simpa using hr.2
  have HB := Lib.hid (eBright_any x y z true (decide_eq_true hb))
  have HR := Lib.hid (fun b w u => eright_any p [c, q] b 2 2 rfl (by simp) true (decide_eq_true hr) w u)
  have H1 := Lib.hid (eEnough_any c q p x (by omega) (by omega) o1 h1)
  have H2 := Lib.hid (eEnough_any c q p y (by omega) (by omega) o2 h2)
  have H3 := Lib.hid (eEnough_any c q p z (by omega) (by omega) o3 h3)
  clear hb hr hcq h1 h2 h3
  go_enter Try.func18, Try.ntmps18
  go_wp2_with fail
  obtain ⟨W0, hW0⟩ : ∃ W, W = w.alloc (.cells (BV x y z) 40) := ⟨_, rfl⟩
  refine Calls.of_world W0 hW0 ?_
  have r0 : W0.heap[w.heap.size]? = some (.cells (BV x y z) 40 (0, 0)) := by rw [hW0]; exact heap_alloc_new _ _
  have F : Fr F0 w W0 := by rw [hW0]; exact (Fr.refl _ _).alloc _
  clear hW0
  generalize w.heap.size = g at *
  (with_reducible refine (HB.out _).mono ?_); rintro e w1 ⟨rfl, f⟩
  replace F := F.trans' f
  replace r0 := keep_fr f r0
  clear f
  go_wp2_with fail
  obtain ⟨W2, hW2⟩ : ∃ W, W = w1.alloc (.cells #[.int .u64 (c : Int), .int .u64 (q : Int)] 23) := ⟨_, rfl⟩
  refine Calls.of_world W2 hW2 ?_
  have u2 : Us W2 (some ⟨w1.heap.size, 0, none⟩) 2 [c, q] := by rw [hW2]; exact Us.of2 _ _ _ _
  have f : Fr F0 w1 W2 := by rw [hW2]; exact (Fr.refl _ _).alloc _
  replace F := F.trans' f
  replace r0 := keep_fr f r0
  clear hW2 f
  (with_reducible refine (HR.out _ _ u2).mono ?_); rintro e w3 ⟨rfl, hw⟩; replace hw := hw.symm; subst hw
  clear u2
  go_wp2_with fail
  (with_reducible refine (H1.out _).mono ?_); rintro e w4 ⟨rfl, f⟩
  replace F := F.trans' f
  replace r0 := keep_fr f r0
  clear f
  cases o1
  · go_wp2_with fail
    (with_reducible refine (H2.out _).mono ?_); rintro e w5 ⟨rfl, f⟩
    replace F := F.trans' f
    replace r0 := keep_fr f r0
    clear f
    cases o2
    · go_wp2_with fail
      (with_reducible refine (H3.out _).mono ?_); rintro e w6 ⟨rfl, f⟩
      replace F := F.trans' f
      clear f r0
      cases o3
      · go_wp2_with fail
        go_ret2
        exact ⟨rfl, F⟩
      · go_wp2_with fail
        go_ret2
        exact ⟨rfl, F⟩
    · go_wp2_with fail
      go_ret2
      exact ⟨rfl, F⟩
  · go_wp2_with fail
    go_ret2
    exact ⟨rfl, F⟩
end Go.Proofs.Ytdmlopffdalhgaa
