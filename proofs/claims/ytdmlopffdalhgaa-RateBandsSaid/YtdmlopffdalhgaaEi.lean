/- Layer 5's law RateBands, walked. -/
import Derived.Test.YtdmlopffdalhgaaEh
namespace Go.Proofs.Ytdmlopffdalhgaa
set_option linter.unusedVariables false
set_option linter.unusedSimpArgs false
open Go.RowKit

theorem band_right {p c q : Nat} : (((1 ≤ p ∧ p ≤ 1099511627776) ∧ (1 ≤ 1 ∧ 1 ≤ 1000000)) ∧ ∀ v ∈ [c, q], v ≤ 4611686018427387904) ↔ ((1 ≤ p ∧ p ≤ 1099511627776) ∧ ∀ v ∈ [c, q], v ≤ 4611686018427387904) :=
  ⟨fun h => ⟨h.1.1, h.2⟩, fun h => ⟨⟨h.1, by omega⟩, h.2⟩⟩

set_option maxRecDepth 100000 in
set_option maxHeartbeats 16000000 in
theorem rateBands_bad (c q p t x y z : Nat) (hc : c < 18446744073709551616) (hq : q < 18446744073709551616) (hp : p < 18446744073709551616) (ht : t < 18446744073709551616) (hb : ¬ bdP x y z) (w : World) :
    Calls Try.prog 4 #[.int .u64 (c : Int), .int .u64 (q : Int), .int .u64 (p : Int), .int .u64 (t : Int), .agg (BV x y z)] w fun e w' => e = .returned (.bool true) ∧ Fr F0 w w' := by
  have HL := Lib.hid lives05_any
  obtain ⟨ot, hot⟩ : ∃ o, decide (enP c q p t) = o := ⟨_, rfl⟩
  have HE := Lib.hid (eEnough_any c q p t hc hq ot hot)
  have HE2 := Lib.hid (r5Enough_any c q p t hc hq hp ht ot hot)
  have HO := Lib.hid (eOf_no x y z c q p (fun h => hb h.1))
  have HB := Lib.hid (eBright_any x y z false (decide_eq_false hb))
  have hcase : ¬ y ≤ x ∨ (y ≤ x ∧ ¬ z ≤ y) ∨ (y ≤ x ∧ z ≤ y ∧ ¬ 1 ≤ z) ∨ (y ≤ x ∧ z ≤ y ∧ 1 ≤ z ∧ ¬ x ≤ 1000000) := by
    unfold bdP at hb
    omega
  clear hb hot hc hq hp ht
  go_enter Try.func4, Try.ntmps4
  go_wp2_with fail
  obtain ⟨W0, hW0⟩ : ∃ W, W = w.alloc (.cells (BV x y z) 40) := ⟨_, rfl⟩
  refine Calls.of_world W0 hW0 ?_
  have r0 : W0.heap[w.heap.size]? = some (.cells (BV x y z) 40 (0, 0)) := by rw [hW0]; exact heap_alloc_new _ _
  have F : Fr F0 w W0 := by rw [hW0]; exact (Fr.refl _ _).alloc _
  clear hW0
  generalize w.heap.size = g at *
  (with_reducible refine (HL.out _).mono ?_); rintro e w1 ⟨rfl, f⟩
  replace F := F.trans' f
  replace r0 := keep_fr f r0
  clear f
  go_wp2_with fail
  (with_reducible refine (HE.out _).mono ?_); rintro e w2 ⟨rfl, f⟩
  replace F := F.trans' f
  replace r0 := keep_fr f r0
  clear f
  go_wp2_with fail
  (with_reducible refine (HE2.out _).mono ?_); rintro e w3 ⟨rfl, f⟩
  replace F := F.trans' f
  replace r0 := keep_fr f r0
  clear f
  have Hb : (ot != ot) = false := by simp
  go_wp2_with fail
  (with_reducible refine (HO.out _).mono ?_); rintro e w4 ⟨rfl, f⟩
  replace F := F.trans' f
  replace r0 := keep_fr f r0
  clear f
  rcases hcase with h1 | ⟨h1, h2⟩ | ⟨h1, h2, h3⟩ | ⟨h1, h2, h3, h4⟩
  · have l1 : ¬ (y : Int) ≤ (x : Int) := by omega
    clear h1
    go_wp2_with fail
    (with_reducible refine (HB.out _).mono ?_); rintro e w5 ⟨rfl, f⟩
    replace F := F.trans' f
    clear f r0
    go_wp2_with fail
    go_ret
    exact ⟨rfl, F⟩
  · have l1 : (y : Int) ≤ (x : Int) := by omega
    have l2 : ¬ (z : Int) ≤ (y : Int) := by omega
    clear h1 h2
    go_wp2_with fail
    (with_reducible refine (HB.out _).mono ?_); rintro e w5 ⟨rfl, f⟩
    replace F := F.trans' f
    clear f r0
    go_wp2_with fail
    go_ret
    exact ⟨rfl, F⟩
  · have l1 : (y : Int) ≤ (x : Int) := by omega
    have l2 : (z : Int) ≤ (y : Int) := by omega
    have l3 : ¬ (1 : Int) ≤ (z : Int) := by omega
    clear h1 h2 h3
    go_wp2_with fail
    (with_reducible refine (HB.out _).mono ?_); rintro e w5 ⟨rfl, f⟩
    replace F := F.trans' f
    clear f r0
    go_wp2_with fail
    go_ret
    exact ⟨rfl, F⟩
  · have l1 : (y : Int) ≤ (x : Int) := by omega
    have l2 : (z : Int) ≤ (y : Int) := by omega
    have l3 : (1 : Int) ≤ (z : Int) := by omega
    have l4 : ¬ (x : Int) ≤ 1000000 := by omega
    clear h1 h2 h3 h4
    go_wp2_with fail
    (with_reducible refine (HB.out _).mono ?_); rintro e w5 ⟨rfl, f⟩
    replace F := F.trans' f
    clear f r0
    go_wp2_with fail
    go_ret
    exact ⟨rfl, F⟩

set_option maxRecDepth 100000 in
set_option maxHeartbeats 16000000 in
theorem rateBands_arg (c q p t x y z : Nat) (hc : c < 18446744073709551616) (hq : q < 18446744073709551616) (hp : p < 18446744073709551616) (ht : t < 18446744073709551616) (hb : bdP x y z) (hr : ¬ ((1 ≤ p ∧ p ≤ 1099511627776) ∧ ∀ v ∈ [c, q], v ≤ 4611686018427387904)) (w : World) :
    Calls Try.prog 4 #[.int .u64 (c : Int), .int .u64 (q : Int), .int .u64 (p : Int), .int .u64 (t : Int), .agg (BV x y z)] w fun e w' => e = .returned (.bool true) ∧ Fr F0 w w' := by
  have HL := Lib.hid lives05_any
  obtain ⟨ot, hot⟩ : ∃ o, decide (enP c q p t) = o := ⟨_, rfl⟩
  have HE := Lib.hid (eEnough_any c q p t hc hq ot hot)
  have HE2 := Lib.hid (r5Enough_any c q p t hc hq hp ht ot hot)
  have HO := Lib.hid (eOf_no x y z c q p (fun h => hr h.2))
  have HB := Lib.hid (eBright_any x y z true (decide_eq_true hb))
  have HR := Lib.hid (fun b w u => show Calls Try.prog 8 #[.int .u64 (p : Int), .int .u64 1, .slice b 2 2] w _ from r5Right_any p 1 [c, q] b 2 2 rfl (by simp) false (decide_eq_false fun e => hr (band_right.1 e)) w u)
  have l1 : (y : Int) ≤ (x : Int) := by have := hb.1.1; omega
  have l2 : (z : Int) ≤ (y : Int) := by have := hb.1.2; omega
  have l3 : (1 : Int) ≤ (z : Int) := by have := hb.2.1; omega
  have l4 : (x : Int) ≤ 1000000 := by have := hb.2.2; omega
  clear hb hr hot hc hq hp ht
  go_enter Try.func4, Try.ntmps4
  go_wp2_with fail
  obtain ⟨W0, hW0⟩ : ∃ W, W = w.alloc (.cells (BV x y z) 40) := ⟨_, rfl⟩
  refine Calls.of_world W0 hW0 ?_
  have r0 : W0.heap[w.heap.size]? = some (.cells (BV x y z) 40 (0, 0)) := by rw [hW0]; exact heap_alloc_new _ _
  have F : Fr F0 w W0 := by rw [hW0]; exact (Fr.refl _ _).alloc _
  clear hW0
  generalize w.heap.size = g at *
  (with_reducible refine (HL.out _).mono ?_); rintro e w1 ⟨rfl, f⟩
  replace F := F.trans' f
  replace r0 := keep_fr f r0
  clear f
  go_wp2_with fail
  (with_reducible refine (HE.out _).mono ?_); rintro e w2 ⟨rfl, f⟩
  replace F := F.trans' f
  replace r0 := keep_fr f r0
  clear f
  go_wp2_with fail
  (with_reducible refine (HE2.out _).mono ?_); rintro e w3 ⟨rfl, f⟩
  replace F := F.trans' f
  replace r0 := keep_fr f r0
  clear f
  have Hb : (ot != ot) = false := by simp
  go_wp2_with fail
  (with_reducible refine (HO.out _).mono ?_); rintro e w4 ⟨rfl, f⟩
  replace F := F.trans' f
  replace r0 := keep_fr f r0
  clear f
  go_wp2_with fail
  (with_reducible refine (HB.out _).mono ?_); rintro e w5 ⟨rfl, f⟩
  replace F := F.trans' f
  replace r0 := keep_fr f r0
  clear f
  go_wp2_with fail
  obtain ⟨W6, hW6⟩ : ∃ W, W = w5.alloc (.cells #[.int .u64 (c : Int), .int .u64 (q : Int)] 22) := ⟨_, rfl⟩
  refine Calls.of_world W6 hW6 ?_
  have u6 : Us W6 (some ⟨w5.heap.size, 0, none⟩) 2 [c, q] := by rw [hW6]; exact Us.of2 _ _ _ _
  have f : Fr F0 w5 W6 := by rw [hW6]; exact (Fr.refl _ _).alloc _
  replace F := F.trans' f
  replace r0 := keep_fr f r0
  clear hW6 f
  (with_reducible refine (HR.out _ _ u6).mono ?_); rintro e w7 ⟨rfl, hw⟩; replace hw := hw.symm; subst hw
  clear u6
  go_wp2_with fail
  go_ret
  exact ⟨rfl, F⟩

/-- The band that the law reckons, threshold by threshold. -/
def wnt (f : Nat → Bool) : Nat → Int
  | 0 => 3
  | i + 1 => if f i = true then 2 - (i : Int) else wnt f i
theorem wnt_bnd (f : Nat → Bool) : wnt f 3 = bnd (f 2) (f 1) (f 0) := by
  unfold bnd
  simp only [wnt]
  rfl

set_option maxRecDepth 100000 in
set_option maxHeartbeats 16000000 in
theorem rateBands_yes (c q p t x y z : Nat) (hc : c < 18446744073709551616) (hq : q < 18446744073709551616) (hp : p < 18446744073709551616) (ht : t < 18446744073709551616) (hx : x < 18446744073709551616) (hy : y < 18446744073709551616) (hz : z < 18446744073709551616) (hb : bdP x y z) (hr : (1 ≤ p ∧ p ≤ 1099511627776) ∧ ∀ v ∈ [c, q], v ≤ 4611686018427387904) (w : World) :
    Calls Try.prog 4 #[.int .u64 (c : Int), .int .u64 (q : Int), .int .u64 (p : Int), .int .u64 (t : Int), .agg (BV x y z)] w fun e w' => e = .returned (.bool true) ∧ Fr F0 w w' := by
  have HL := Lib.hid lives05_any
  obtain ⟨ot, hot⟩ : ∃ o, decide (enP c q p t) = o := ⟨_, rfl⟩
  have HE := Lib.hid (eEnough_any c q p t hc hq ot hot)
  have HE2 := Lib.hid (r5Enough_any c q p t hc hq hp ht ot hot)
  have HB := Lib.hid (eBright_any x y z true (decide_eq_true hb))
  have HR := Lib.hid (fun b w u => show Calls Try.prog 8 #[.int .u64 (p : Int), .int .u64 1, .slice b 2 2] w _ from r5Right_any p 1 [c, q] b 2 2 rfl (by simp) true (decide_eq_true (band_right.2 hr)) w u)
  obtain ⟨v, hv⟩ : ∃ v : Nat → Nat, v = fun i => [z, y, x].getD i 0 := ⟨_, rfl⟩
  obtain ⟨o, ho⟩ : ∃ o : Nat → Bool, o = fun i => decide (enP c q p (v i)) := ⟨_, rfl⟩
  have HO := Lib.hid (eOf_yes x y z c q p hb hr (o 2) (o 1) (o 0) (by rw [ho, hv]; rfl) (by rw [ho, hv]; rfl) (by rw [ho, hv]; rfl))
  rw [← wnt_bnd] at HO
  have hvw : ∀ i, v i < 18446744073709551616 := fun i => by
    rw [hv]
    match i with
    | 0 => exact hz
    | 1 => exact hy
    | 2 => exact hx
    | n + 3 => exact Nat.zero_lt_of_lt hx
  have HV := Lib.hid (fun i => r5Enough_any c q p (v i) hc hq hp (hvw i) (o i) (by rw [ho]))
  have HVV := Lib.hid (show ∀ i, [z, y, x].getD i 0 = v i from fun i => by rw [hv])
  have l1 : (y : Int) ≤ (x : Int) := by have := hb.1.1; omega
  have l2 : (z : Int) ≤ (y : Int) := by have := hb.1.2; omega
  have l3 : (1 : Int) ≤ (z : Int) := by have := hb.2.1; omega
  have l4 : (x : Int) ≤ 1000000 := by have := hb.2.2; omega
  clear hb hr hot hc hq hp ht hx hy hz ho hvw hv
  go_enter Try.func4, Try.ntmps4
  go_wp2_with fail
  obtain ⟨W0, hW0⟩ : ∃ W, W = w.alloc (.cells (BV x y z) 40) := ⟨_, rfl⟩
  refine Calls.of_world W0 hW0 ?_
  have r0 : W0.heap[w.heap.size]? = some (.cells (BV x y z) 40 (0, 0)) := by rw [hW0]; exact heap_alloc_new _ _
  have F : Fr F0 w W0 := by rw [hW0]; exact (Fr.refl _ _).alloc _
  clear hW0
  generalize w.heap.size = g at *
  (with_reducible refine (HL.out _).mono ?_); rintro e w1 ⟨rfl, f⟩
  replace F := F.trans' f
  replace r0 := keep_fr f r0
  clear f
  go_wp2_with fail
  (with_reducible refine (HE.out _).mono ?_); rintro e w2 ⟨rfl, f⟩
  replace F := F.trans' f
  replace r0 := keep_fr f r0
  clear f
  go_wp2_with fail
  (with_reducible refine (HE2.out _).mono ?_); rintro e w3 ⟨rfl, f⟩
  replace F := F.trans' f
  replace r0 := keep_fr f r0
  clear f
  have Hb : (ot != ot) = false := by simp
  go_wp2_with fail
  (with_reducible refine (HO.out _).mono ?_); rintro e w4 ⟨rfl, f⟩
  replace F := F.trans' f
  replace r0 := keep_fr f r0
  clear f
  go_wp2_with fail
  (with_reducible refine (HB.out _).mono ?_); rintro e w5 ⟨rfl, f⟩
  replace F := F.trans' f
  replace r0 := keep_fr f r0
  clear f
  go_wp2_with fail
  obtain ⟨W6, hW6⟩ : ∃ W, W = w5.alloc (.cells #[.int .u64 (c : Int), .int .u64 (q : Int)] 22) := ⟨_, rfl⟩
  refine Calls.of_world W6 hW6 ?_
  have u6 : Us W6 (some ⟨w5.heap.size, 0, none⟩) 2 [c, q] := by rw [hW6]; exact Us.of2 _ _ _ _
  have f : Fr F0 w5 W6 := by rw [hW6]; exact (Fr.refl _ _).alloc _
  replace F := F.trans' f
  replace r0 := keep_fr f r0
  clear hW6 f
  (with_reducible refine (HR.out _ _ u6).mono ?_); rintro e w7 ⟨rfl, hw⟩; replace hw := hw.symm; subst hw
  clear u6
  go_wp2_with fail
  clear HL HE HE2 HB HR HO l1 l2 l3 l4 Hb
  obtain ⟨W8, hW8⟩ : ∃ W, W = W6.alloc (.cells #[.int .u64 (z : Int), .int .u64 (y : Int), .int .u64 (x : Int)] 22) := ⟨_, rfl⟩
  refine wp_of_world W8 hW8 ?_
  have u8 : Us W8 (some ⟨W6.heap.size, 0, none⟩) 3 [z, y, x] := by rw [hW8]; exact Us.of3 _ _ _ _ _
  replace F : Fr F0 w W8 := by rw [hW8]; exact F.alloc _
  clear hW8 r0
  generalize W6.heap.size = g8 at *
  go_loopw [14, 88] (fun ov iv wr => ∃ i : Nat, i ≤ 3 ∧ ov = .int .i64 (wnt o i) ∧ iv = .int .i64 i ∧ Fr F0 W8 wr) (fun _ iv _ => 3 - (intOf iv).toNat)
  case atStart => exact ⟨0, by omega, rfl, rfl, Fr.refl _ _⟩
  case round =>
    obtain ⟨i, hi, rfl, rfl, hf⟩ := hrel
    by_cases h1 : i < 3
    · have l1 : (i : Int) < 3 := by omega
      obtain ⟨b, off, ea, hc⟩ := (Us.fr u8 hf).get i h1
      rw [HVV.out] at hc
      cases ea
      rw [Nat.zero_add] at hc
      have m1 : IntKind.i64.wrap (2 - (i : Int)) = 2 - (i : Int) := IntWalk.i64_in _ (by omega)
      have HVi := HV.out i
      cases hoi : o i
      · rw [hoi] at HVi
        have HS := Lib.hid (show wnt o (i + 1) = wnt o i from if_neg (by rw [hoi]; exact Bool.false_ne_true))
        have HVi := Lib.hid HVi
        clear hoi
        generalize wnt o i = r at *
        generalize v i = vi at *
        go_wp2_with fail
        (with_reducible refine (HVi.out _).mono ?_); rintro e w9 ⟨rfl, f⟩
        replace hf := hf.trans' f
        clear f hc
        go_wp2_with fail
        go_roundw
        case rel => exact ⟨i + 1, h1, by rw [HS.out], by go_num, hf⟩
        case measure => simp [intOf]; omega
      · rw [hoi] at HVi
        have HS := Lib.hid (show wnt o (i + 1) = 2 - (i : Int) from if_pos hoi)
        have HVi := Lib.hid HVi
        clear hoi
        generalize wnt o i = r at *
        generalize v i = vi at *
        go_wp2_with fail
        (with_reducible refine (HVi.out _).mono ?_); rintro e w9 ⟨rfl, f⟩
        replace hf := hf.trans' f
        clear f hc
        go_wp2_with fail
        go_roundw
        case rel => exact ⟨i + 1, h1, by rw [HS.out], by go_num, hf⟩
        case measure => simp [intOf]; omega
    · have l1 : ¬ (i : Int) < 3 := by omega
      obtain rfl : i = 3 := by omega
      generalize wnt o 3 = r at *
      replace F := F.trans' hf
      clear hf
      go_wp2_with fail
      go_ret
      exact ⟨rfl, F⟩

theorem rateBands_any (c q p t x y z : Nat) (hc : c < 18446744073709551616) (hq : q < 18446744073709551616) (hp : p < 18446744073709551616) (ht : t < 18446744073709551616) (hxyz : x < 18446744073709551616 ∧ y < 18446744073709551616 ∧ z < 18446744073709551616) (w : World) :
    Calls Try.prog 4 #[.int .u64 (c : Int), .int .u64 (q : Int), .int .u64 (p : Int), .int .u64 (t : Int), .agg (BV x y z)] w fun e w' => e = .returned (.bool true) ∧ Fr F0 w w' := by
  by_cases hb : bdP x y z
  · by_cases hr : (1 ≤ p ∧ p ≤ 1099511627776) ∧ ∀ v ∈ [c, q], v ≤ 4611686018427387904
    · exact rateBands_yes c q p t x y z hc hq hp ht hxyz.1 hxyz.2.1 hxyz.2.2 hb hr w
    · exact rateBands_arg c q p t x y z hc hq hp ht hb hr w
  · exact rateBands_bad c q p t x y z hc hq hp ht hb w
end Go.Proofs.Ytdmlopffdalhgaa
