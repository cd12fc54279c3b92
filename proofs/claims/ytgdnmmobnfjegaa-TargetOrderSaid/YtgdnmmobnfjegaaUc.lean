/- Layer 6 (target): Encode. -/
import Derived.Test.YtgdnmmobnfjegaaUb
import Derived.Test.YtgdnmmobnfjegaaPe
namespace Go.Proofs.Ytgdnmmobnfjegaa
set_option linter.unusedVariables false
set_option linter.unusedSimpArgs false
open Go.RowKit

theorem top3_low {t : Nat} (ht : 0 < t) : top3 t < 8388608 ↔ nbits t + 1 ≤ 8 * nby t := by
  have h0 := (nby_ge ht).1
  unfold top3
  by_cases h3 : 3 ≤ nby t
  · rw [if_pos h3, by2_two, Nat.div_lt_iff_lt_mul (Nat.two_pow_pos _), show 8388608 = 2 ^ 23 from rfl, ← Nat.pow_add, ← nbits_le]
    omega
  · rw [if_neg h3, by2_two]
    have e : 8388608 = 2 ^ (8 * nby t - 1) * 2 ^ (8 * (3 - nby t)) := by
      rw [← Nat.pow_add, show 8 * nby t - 1 + 8 * (3 - nby t) = 23 by omega]
    rw [e, Nat.mul_lt_mul_right (Nat.two_pow_pos _), ← nbits_le]
    omega
theorem enE_bits {t : Nat} (ht : 0 < t) : enE t = nbits t / 8 + 1 := by
  have h := top3_low ht
  have h2 : nby t = (nbits t + 7) / 8 := rfl
  have h3 := (nby_ge ht).1
  unfold enE
  by_cases h4 : 8388608 ≤ top3 t
  · rw [if_pos h4]; omega
  · rw [if_neg h4]; omega

theorem up_small (a k : Nat) (h : k < 256) (h2 : a * 2 ^ k < W256) : upBy a (k : Int) = a * 2 ^ k := by rw [up_up a k h, Nat.mod_eq_of_lt h2]
theorem small_w {x : Nat} (h : x < 16777216) : x < W256 := word_w (by omega)

/-- What is moved down, to its highest two or three bytes. -/
theorem enc_num {t : Nat} (ht : 0 < t) (h33 : enE t ≤ 33) : upBy t (-(8 * ((enE t : Int) - 3))) = enM t := by
  have h1 := top3_range ht
  have h0 := (nby_ge ht).1
  by_cases hi : 8388608 ≤ top3 t
  · have e1 : enE t = nby t + 1 := if_pos hi
    rw [enM_hi hi]
    rw [e1] at h33 ⊢
    unfold top3 at h1 ⊢
    by_cases h3 : 3 ≤ nby t
    · rw [if_pos h3, div_div3 t (nby t) h3, by2_two]
      have : -(8 * (((nby t + 1 : Nat) : Int) - 3)) = -((8 * (nby t - 2) : Nat) : Int) := by omega
      rw [this, up_down t _ (by omega) (by omega)]
    · rw [if_neg h3] at h1 ⊢
      have hc : nby t = 1 ∨ nby t = 2 := by omega
      rcases hc with h | h
      · rw [h, by2_2] at h1
        rw [h, by2_2, show -(8 * (((1 + 1 : Nat) : Int) - 3)) = ((8 : Nat) : Int) by omega, up_small t 8 (by omega) (small_w (by omega))]
        omega
      · rw [h, by2_1] at h1
        rw [h, by2_1, show -(8 * (((2 + 1 : Nat) : Int) - 3)) = ((0 : Nat) : Int) by omega, up_small t 0 (by omega) (small_w (by omega))]
        omega
  · have e1 : enE t = nby t := if_neg hi
    rw [enM_lo hi]
    rw [e1] at h33 ⊢
    unfold top3 at h1 ⊢
    by_cases h3 : 3 ≤ nby t
    · rw [if_pos h3, by2_two]
      by_cases h4 : nby t = 3
      · rw [h4, show -(8 * (((3 : Nat) : Int) - 3)) = ((0 : Nat) : Int) by omega, up_small t 0 (by omega) ?_]
        · simp
        · rw [if_pos h3, h4] at h1
          refine small_w ?_
          simp [by2] at h1
          omega
      · have : -(8 * ((nby t : Int) - 3)) = -((8 * (nby t - 3) : Nat) : Int) := by omega
        rw [this, up_down t _ (by omega) (by omega)]
    · rw [if_neg h3] at h1 ⊢
      have : -(8 * ((nby t : Int) - 3)) = ((8 * (3 - nby t) : Nat) : Int) := by omega
      rw [by2_two] at h1
      rw [this, by2_two, up_small t _ (by omega) (small_w h1.2)]

theorem or_enc (e m : Nat) (he : e ≤ 33) (hm : m < 8388608) : bits BinOp.or IntKind.u32 ((e * 16777216 : Nat) : Int) (m : Int) = ((m + e * 16777216 : Nat) : Int) := by
  rw [u32_or_nat _ _ (by omega) (by omega)]
  congr 1
  rw [Nat.or_comm, show (16777216 : Nat) = 2 ^ 24 from rfl, Nat.mul_comm, Nat.or_comm, Nat.two_pow_add_eq_or_of_lt (by omega) _ |>.symm]
  omega

set_option maxRecDepth 100000 in
set_option maxHeartbeats 4000000 in
theorem tEncode_core (t n e m B : Nat) (u : Int) (hB : B < 4294967296) (hn : (n : Int) ≤ 256) (he : (n : Int) / 8 + 1 = (e : Int)) (he2 : (e : Int) ≤ 33) (hm2 : (m : Int) < 8388608)
    (ht : rowEq 256 t 0 = false) (ho : bits BinOp.or IntKind.u32 ((e * 16777216 : Nat) : Int) (m : Int) = (B : Int)) 
    (HB : Hid (∀ w, Calls Try.prog 31 #[.agg (rowN .u64 64 4 t)] w fun o w' => o = .returned (.int .i64 (n : Int)) ∧ Fr F0 w w'))
    (HM : Hid (∀ w, Calls Try.prog 30 #[.int .i64 (e : Int)] w fun o w' => o = .returned (.int .i64 u) ∧ w' = w))
    (HR : Hid (∀ w, Calls Try.prog 35 #[.agg (rowN .u64 64 4 t), .int .i64 u] w fun o w' => o = .returned (.agg (rowN .u64 64 4 m)) ∧ Fr F0 w w'))
    (HU : Hid (∀ w, Calls Try.prog 36 #[.agg (rowN .u64 64 4 m)] w fun o w' => o = .returned (.tuple #[.int .u64 (m : Int), .bool true]) ∧ Fr F0 w w')) (w : World) :
    Calls Try.prog 15 #[.agg (rowN .u64 64 4 t)] w fun o w' => o = .returned (.int .u32 (B : Int)) ∧ Fr F0 w w' := by
  obtain ⟨q, hq⟩ : ∃ q : Int, (n : Int) / 8 = q := ⟨_, rfl⟩
  have c0 : Int.tdiv (n : Int) 8 = q := by rw [Int.tdiv_eq_ediv_of_nonneg (by omega)]; exact hq
  have c1 : IntKind.i64.wrap q = q := IntWalk.i64_in _ (by omega)
  have c2 : IntKind.i64.wrap (q + 1) = (e : Int) := by rw [IntWalk.i64_in _ (by omega)]; omega
  have c3 : IntKind.u32.wrap (e : Int) = (e : Int) := IntWalk.u32_in _ (by omega)
  have c4 : IntKind.u32.wrap ((e : Int) * 16777216) = ((e * 16777216 : Nat) : Int) := by rw [IntWalk.u32_in _ (by omega)]; omega
  have c5 : IntKind.u32.wrap (m : Int) = (m : Int) := IntWalk.u32_in _ (by omega)
  generalize e * 16777216 = E at *
  clear hB hn he he2 hm2
  go_enter Try.func15, Try.ntmps15
  go_wp2_with fail
  (with_reducible refine (HB.out _).mono ?_); rintro o w1 ⟨rfl, f⟩
  have r0 := keep_fr f (heap_alloc_new w _)
  have F := ((Fr.refl F0 w).alloc (.cells (rowN .u64 64 4 t) 24)).trans' f
  clear f
  generalize w.heap.size = g0 at *
  go_wp2_with fail
  refine wp_region_noPanic ?_
  refine wp_region_held_drew (S := (fun w' => w'.heap[g0]? = some (.cells (rowN .u64 64 4 t) 24 (0, 0)) ∧ Fr F0 w w')) (by kernel_rfl) ?_ (fun hHeld => ?_)
  · ((try dsimp only) <;> (first | exact ⟨r0, F.drew⟩ | exact hHeld | exact ⟨keep_fr f5 hHeld.1, hHeld.2.trans' f5⟩))
  refine wpAnyH_take (i := 0) (oi := ⟨_, _, _, _, _, _⟩) (v := ?_) rfl (by kernel_rfl) (by kernel_rfl) (by kernel_rfl) (fun _ _ _ h => h) (Or.inl ⟨by rfl, ?_⟩) (by assumption) ?_
  rotate_left
  · intro w hSw; (try dsimp only at hSw); go_simp; (try (with_reducible rfl)); done
  simp only [Act.put, List.setIfInBounds_toArray]; dsimp only [List.set_cons_zero, List.set_cons_succ]
  refine wpAnyH_take (i := 1) (oi := ⟨_, _, _, _, _, _⟩) (v := ?_) rfl (by kernel_rfl) (by kernel_rfl) (by kernel_rfl) (fun _ _ _ h => h) (Or.inl ⟨by rfl, ?_⟩) (by assumption) ?_
  rotate_left
  · intro w hSw; (try dsimp only at hSw); go_simp; (try (with_reducible rfl)); done
  simp only [Act.put, List.setIfInBounds_toArray]; dsimp only [List.set_cons_zero, List.set_cons_succ]
  refine wpAnyH_ready (rs := [2]) (by kernel_rfl) (by simp) ?_
  refine AllReadyH.cons (o := ⟨_, _, _, _, _, _⟩) rfl (fun K hK => ?_) AllReadyH.nil
  go_simp
  ((with_reducible refine (HM.out _).mono ?_); rintro e w5 ⟨rfl, rfl⟩)
  refine hK.out _ _ ?_ (fun hHeld => ?_)
  · ((try dsimp only) <;> (first | exact ⟨r0, F.drew⟩ | exact hHeld | exact ⟨keep_fr f5 hHeld.1, hHeld.2.trans' f5⟩))
  clear hK K
  try (simp only [Act.put, List.setIfInBounds_toArray]; dsimp only [List.set_cons_zero, List.set_cons_succ])
  refine wpAnyH_ready (rs := [3]) (by kernel_rfl) (by simp) ?_
  refine AllReadyH.cons (o := ⟨_, _, _, _, _, _⟩) rfl (fun K hK => ?_) AllReadyH.nil
  go_simp
  ((with_reducible refine (HR.out _).mono ?_); rintro e w5 ⟨rfl, f5⟩)
  refine hK.out _ _ ?_ (fun hHeld => ?_)
  · ((try dsimp only) <;> (first | exact ⟨r0, F.drew⟩ | exact hHeld | exact ⟨keep_fr f5 hHeld.1, hHeld.2.trans' f5⟩))
  clear hK K
  try (simp only [Act.put, List.setIfInBounds_toArray]; dsimp only [List.set_cons_zero, List.set_cons_succ])
  refine wpAnyH_ready (rs := [4]) (by kernel_rfl) (by simp) ?_
  refine AllReadyH.cons (o := ⟨_, _, _, _, _, _⟩) rfl (fun K hK => ?_) AllReadyH.nil
  go_simp
  ((with_reducible refine (HU.out _).mono ?_); rintro e w5 ⟨rfl, f5⟩)
  refine hK.out _ _ ?_ (fun hHeld => ?_)
  · ((try dsimp only) <;> (first | exact ⟨r0, F.drew⟩ | exact hHeld | exact ⟨keep_fr f5 hHeld.1, hHeld.2.trans' f5⟩))
  clear hK K
  try (simp only [Act.put, List.setIfInBounds_toArray]; dsimp only [List.set_cons_zero, List.set_cons_succ])
  refine wpAnyH_take (i := 5) (oi := ⟨_, _, _, _, _, _⟩) (v := ?_) rfl (by kernel_rfl) (by kernel_rfl) (by kernel_rfl) (fun _ _ _ h => h) (Or.inl ⟨by rfl, ?_⟩) (by assumption) ?_
  rotate_left
  · intro w hSw; (try dsimp only at hSw); go_simp; (try (with_reducible rfl)); done
  simp only [Act.put, List.setIfInBounds_toArray]; dsimp only [List.set_cons_zero, List.set_cons_succ]
  refine wpAnyH_take (i := 6) (oi := ⟨_, _, _, _, _, _⟩) (v := ?_) rfl (by kernel_rfl) (by kernel_rfl) (by kernel_rfl) (fun _ _ _ h => h) (Or.inl ⟨by rfl, ?_⟩) (by assumption) ?_
  rotate_left
  · intro w hSw; (try dsimp only at hSw); go_simp; (try (with_reducible rfl)); done
  simp only [Act.put, List.setIfInBounds_toArray]; dsimp only [List.set_cons_zero, List.set_cons_succ]
  refine wpAnyH_take (i := 7) (oi := ⟨_, _, _, _, _, _⟩) (v := ?_) rfl (by kernel_rfl) (by kernel_rfl) (by kernel_rfl) (fun _ _ _ h => h) (Or.inl ⟨by rfl, ?_⟩) (by assumption) ?_
  rotate_left
  · intro w hSw; (try dsimp only at hSw); go_simp; (try (with_reducible rfl)); done
  simp only [Act.put, List.setIfInBounds_toArray]; dsimp only [List.set_cons_zero, List.set_cons_succ]
  refine wpAnyH_take (i := 8) (oi := ⟨_, _, _, _, _, _⟩) (v := ?_) rfl (by kernel_rfl) (by kernel_rfl) (by kernel_rfl) (fun _ _ _ h => h) (Or.inl ⟨by rfl, ?_⟩) (by assumption) ?_
  rotate_left
  · intro w hSw; (try dsimp only at hSw); go_simp; (try (with_reducible rfl)); done
  simp only [Act.put, List.setIfInBounds_toArray]; dsimp only [List.set_cons_zero, List.set_cons_succ]
  refine wpAnyH_take (i := 9) (oi := ⟨_, _, _, _, _, _⟩) (v := ?_) rfl (by kernel_rfl) (by kernel_rfl) (by kernel_rfl) (fun _ _ _ h => h) (Or.inl ⟨by rfl, ?_⟩) (by assumption) ?_
  rotate_left
  · intro w hSw; (try dsimp only at hSw); go_simp; (try (with_reducible rfl)); done
  simp only [Act.put, List.setIfInBounds_toArray]; dsimp only [List.set_cons_zero, List.set_cons_succ]
  refine wpAnyH_done (by kernel_rfl) ?_ _
  refine NoPanic.normal ?_
  all_goals
    go_wp2
    go_ret
    exact ⟨by simp, hHeld.2⟩

set_option maxRecDepth 100000 in
theorem tEncode_zero (w : World) : Calls Try.prog 15 #[.agg (rowN .u64 64 4 0)] w fun o w' => o = .returned (.int .u32 0) ∧ Fr F0 w w' := by
  have hz : rowEq 256 0 0 = true := rfl
  go_enter Try.func15, Try.ntmps15
  go_wp2_with fail
  go_ret
  exact ⟨rfl, (Fr.refl F0 w).alloc _⟩

theorem enM_small (t : Nat) : enM t < 8388608 := by
  by_cases h : 0 < t
  · exact enM_lt h
  · obtain rfl : t = 0 := by omega
    decide
theorem enB_small {t : Nat} (h : t < W256) : enB t < 4294967296 := by
  have h1 := enE_33 h
  have h2 := enM_small t
  unfold enB
  omega

theorem encC : EncC := by
  intro t ht w
  by_cases h0 : 0 < t
  · have h33 := enE_33 ht
    have hE := enE_bits h0
    have hm := enM_small t
    have hn : nbits t ≤ 256 := (nbits_le t 256).2 ht
    have hmW : enM t < W256 := small_w (by omega)
    refine tEncode_core t (nbits t) (enE t) (enM t) (enB t) (8 * ((enE t : Int) - 3)) (enB_small ht) (by omega) (by omega) (by omega) (by omega) (rowEq_0 t ht _ (decide_eq_false (by omega))) ?_
      (Lib.hid (wBits_any t ht)) (Lib.hid (tmoved_any (enE t) (by omega))) (Lib.hid fun w => ?_) (Lib.hid fun w => ?_) w
    · rw [or_enc _ _ h33 hm]; rfl
    · have := wRight_any t (8 * ((enE t : Int) - 3)) ht (by omega) (by omega) w
      rwa [enc_num h0 h33] at this
    · have := wUint_any (enM t) hmW w
      rwa [if_pos (by omega), decide_eq_true (by omega)] at this
  · obtain rfl : t = 0 := by omega
    exact tEncode_zero w
end Go.Proofs.Ytgdnmmobnfjegaa
