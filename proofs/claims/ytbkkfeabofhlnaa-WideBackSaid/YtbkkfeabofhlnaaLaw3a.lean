/- Layer 3's law WideBack, walked. -/
import Derived.Test.YtbkkfeabofhlnaaBk9
import Derived.Deep.Cut
namespace Go.Proofs.Ytbkkfeabofhlnaa
set_option linter.unusedVariables false
set_option linter.unusedSimpArgs false
open Go.RowKit

theorem word_lt (x : Nat) (h : x < 2 ^ 64) : x < W256 := Nat.lt_of_lt_of_le h (Nat.pow_le_pow_right (by omega) (by omega))

set_option maxRecDepth 100000 in
set_option maxHeartbeats 8000000 in
theorem wideBack_any (a b x : Nat) (ha : a < W256) (hb : b < W256) (hx : x < 2 ^ 64) (w : World) :
    Calls Try.prog 3 #[.agg (rowN .u64 64 4 a), .agg (rowN .u64 64 4 b), .int .u64 x] w fun e w' => e = .returned (.bool true) ∧ Fr F0 w w' := by
  have HLv := Lib.hid lives03_any
  have HA := Lib.hid (wAdd_any a b ha hb)
  have hs : (a + b) % W256 < W256 := Nat.mod_lt _ W256_pos
  have HS := Lib.hid (wSub_any _ b hs hb)
  have hd : ((a + b) % W256 + W256 - b) % W256 = a := by
    by_cases h : a + b < W256
    · rw [Nat.mod_eq_of_lt h, show a + b + W256 - b = a + W256 by omega, Nat.add_mod_right, Nat.mod_eq_of_lt ha]
    · have e : (a + b) % W256 = a + b - W256 := by
        rw [Nat.mod_eq_sub_mod (by omega), Nat.mod_eq_of_lt (by omega)]
      rw [e, show a + b - W256 + W256 - b = a by omega, Nat.mod_eq_of_lt ha]
  rw [hd] at HS
  have HN := Lib.hid (wNot_any a ha)
  have HN2 := Lib.hid (wNot_any (W256 - 1 - a) (by omega))
  rw [show W256 - 1 - (W256 - 1 - a) = a by omega] at HN2
  have HO := Lib.hid (wOf_any x hx)
  have hx2 := word_lt x hx
  generalize (a + b) % W256 = s at *
  generalize decide (W256 ≤ a + b) = o1 at *
  generalize decide (s < b) = o2 at *
  go_enter Try.func3, Try.ntmps3
  go_wp2_with fail
  obtain ⟨r0, r1⟩ := heap2 w (.cells (rowN .u64 64 4 a) 24) (.cells (rowN .u64 64 4 b) 24)
  refine (HLv.out _).mono ?_
  rintro e w1 ⟨rfl, f1⟩
  replace r0 := f1.keeps (fun f => f) r0
  replace r1 := f1.keeps (fun f => f) r1
  have F := (((Fr.refl F0 w).alloc _).alloc _).trans' f1
  clear f1
  generalize w.heap.size = g0 at *
  generalize g0 + 1 = g1 at *
  go_wp2_with fail
  refine (HA.out _).mono ?_
  rintro e w2 ⟨rfl, f2⟩
  replace r0 := f2.keeps (fun f => f) r0
  replace r1 := f2.keeps (fun f => f) r1
  have F := F.trans' f2
  clear f2
  go_upto_region 4 with fail
  obtain ⟨W3, hW3⟩ : ∃ W, W = (w2.alloc (.cells (rowN .u64 64 4 0) 24)).setRow w2.heap.size (rowN .u64 64 4 s) := ⟨_, rfl⟩
  refine wp_of_world W3 hW3 ?_
  have N := put_new w2 (rowN .u64 64 4 0) (rowN .u64 64 4 s) 24
  rw [← hW3] at N
  have rg7 := N.new
  have F := F.trans' N.fr
  replace r0 := N.old r0
  replace r1 := N.old r1
  clear N hW3
  generalize w2.heap.size = g7 at *
  go_wp2_with fail
  refine (HS.out _).mono ?_
  rintro e w4 ⟨rfl, f⟩
  replace r0 := keep_fr f r0
  replace r1 := keep_fr f r1
  replace rg7 := keep_fr f rg7
  have F := F.trans' f
  clear f
  go_upto_region 5 with fail
  obtain ⟨W5, hW5⟩ : ∃ W, W = (w4.alloc (.cells (rowN .u64 64 4 0) 24)).setRow w4.heap.size (rowN .u64 64 4 a) := ⟨_, rfl⟩
  refine wp_of_world W5 hW5 ?_
  have N := put_new w4 (rowN .u64 64 4 0) (rowN .u64 64 4 a) 24
  rw [← hW5] at N
  have rg9 := N.new
  have F := F.trans' N.fr
  replace r0 := N.old r0
  replace r1 := N.old r1
  clear N hW5
  generalize w4.heap.size = g9 at *
  clear rg7
  refine wp_region_noPanic ?_
  refine wp_region_held_drew (S := (fun w' => (w'.heap[g0]? = some (.cells (rowN .u64 64 4 a) 24 (0, 0)) ∧ w'.heap[g9]? = some (.cells (rowN .u64 64 4 a) 24 (0, 0))) ∧ Fr F0 w w')) (by kernel_rfl) ?_ (fun hHeld => ?_)
  · ((try dsimp only) <;> (first | exact ⟨⟨r0, rg9⟩, F.drew⟩ | exact ⟨⟨keep_fr f5 hHeld.1.1, keep_fr f5 hHeld.1.2⟩, hHeld.2.trans' f5⟩))
  refine wpAnyH_take (i := 0) (oi := ⟨_, _, _, _, _, _⟩) (v := ?_) rfl (by kernel_rfl) (by kernel_rfl) (by kernel_rfl) (fun _ _ _ h => h) (Or.inl ⟨by rfl, ?_⟩) (by assumption) ?_
  rotate_left
  · intro w hSw; (try dsimp only at hSw); go_simp; (try (with_reducible rfl)); done
  simp only [Act.put, List.setIfInBounds_toArray]; dsimp only [List.set_cons_zero, List.set_cons_succ]
  refine wpAnyH_take (i := 1) (oi := ⟨_, _, _, _, _, _⟩) (v := ?_) rfl (by kernel_rfl) (by kernel_rfl) (by kernel_rfl) (fun _ _ _ h => h) (Or.inl ⟨by rfl, ?_⟩) (by assumption) ?_
  rotate_left
  · intro w hSw; (try dsimp only at hSw); go_simp; (try (with_reducible rfl)); done
  simp only [Act.put, List.setIfInBounds_toArray]; dsimp only [List.set_cons_zero, List.set_cons_succ]
  refine wpAnyH_take (i := 2) (oi := ⟨_, _, _, _, _, _⟩) (v := ?_) rfl (by kernel_rfl) (by kernel_rfl) (by kernel_rfl) (fun _ _ _ h => h) (Or.inl ⟨by rfl, ?_⟩) (by assumption) ?_
  rotate_left
  · intro w hSw; (try dsimp only at hSw); go_simp; (try (with_reducible rfl)); done
  simp only [Act.put, List.setIfInBounds_toArray]; dsimp only [List.set_cons_zero, List.set_cons_succ]
  refine wpAnyH_take (i := 3) (oi := ⟨_, _, _, _, _, _⟩) (v := ?_) rfl (by kernel_rfl) (by kernel_rfl) (by kernel_rfl) (fun _ _ _ h => h) (Or.inl ⟨by rfl, ?_⟩) (by assumption) ?_
  rotate_left
  · intro w hSw; (try dsimp only at hSw); go_simp; (try (with_reducible rfl)); done
  simp only [Act.put, List.setIfInBounds_toArray]; dsimp only [List.set_cons_zero, List.set_cons_succ]
  refine wpAnyH_take (i := 4) (oi := ⟨_, _, _, _, _, _⟩) (v := ?_) rfl (by kernel_rfl) (by kernel_rfl) (by kernel_rfl) (fun _ _ _ h => h) (Or.inl ⟨by rfl, ?_⟩) (by assumption) ?_
  rotate_left
  · intro w hSw; (try dsimp only at hSw); go_simp; (try (with_reducible rfl)); done
  simp only [Act.put, List.setIfInBounds_toArray]; dsimp only [List.set_cons_zero, List.set_cons_succ]
  refine wpAnyH_take (i := 7) (oi := ⟨_, _, _, _, _, _⟩) (v := ?_) rfl (by kernel_rfl) (by kernel_rfl) (by kernel_rfl) (fun _ _ _ h => h) (Or.inl ⟨by rfl, ?_⟩) (by assumption) ?_
  rotate_left
  · intro w hSw; (try dsimp only at hSw); go_simp; (try (with_reducible rfl)); done
  simp only [Act.put, List.setIfInBounds_toArray]; dsimp only [List.set_cons_zero, List.set_cons_succ]
  refine wpAnyH_ready (rs := [5]) (by kernel_rfl) (by simp) ?_
  refine AllReadyH.cons (o := ⟨_, _, _, _, _, _⟩) rfl (fun K hK => ?_) AllReadyH.nil
  go_simp
  (refine (HN.out _).mono ?_; rintro e w5 ⟨rfl, f5⟩)
  refine hK.out _ _ ?_ (fun hHeld => ?_)
  · ((try dsimp only) <;> (first | exact ⟨⟨r0, rg9⟩, F.drew⟩ | exact ⟨⟨keep_fr f5 hHeld.1.1, keep_fr f5 hHeld.1.2⟩, hHeld.2.trans' f5⟩))
  clear hK K
  try (simp only [Act.put, List.setIfInBounds_toArray]; dsimp only [List.set_cons_zero, List.set_cons_succ])
  refine wpAnyH_ready (rs := [6]) (by kernel_rfl) (by simp) ?_
  refine AllReadyH.cons (o := ⟨_, _, _, _, _, _⟩) rfl (fun K hK => ?_) AllReadyH.nil
  go_simp
  (refine (HN2.out _).mono ?_; rintro e w5 ⟨rfl, f5⟩)
  refine hK.out _ _ ?_ (fun hHeld => ?_)
  · ((try dsimp only) <;> (first | exact ⟨⟨r0, rg9⟩, F.drew⟩ | exact ⟨⟨keep_fr f5 hHeld.1.1, keep_fr f5 hHeld.1.2⟩, hHeld.2.trans' f5⟩))
  clear hK K
  try (simp only [Act.put, List.setIfInBounds_toArray]; dsimp only [List.set_cons_zero, List.set_cons_succ])
  refine wpAnyH_take (i := 8) (oi := ⟨_, _, _, _, _, _⟩) (v := ?_) rfl (by kernel_rfl) (by kernel_rfl) (by kernel_rfl) (fun _ _ _ h => h) (Or.inl ⟨by rfl, ?_⟩) (by assumption) ?_
  rotate_left
  · intro w hSw; (try dsimp only at hSw); go_simp; (try (with_reducible rfl)); done
  simp only [Act.put, List.setIfInBounds_toArray]; dsimp only [List.set_cons_zero, List.set_cons_succ]
  refine wpAnyH_take (i := 9) (oi := ⟨_, _, _, _, _, _⟩) (v := ?_) rfl (by kernel_rfl) (by kernel_rfl) (by kernel_rfl) (fun _ _ _ h => h) (Or.inl ⟨by rfl, ?_⟩) (by assumption) ?_
  rotate_left
  · intro w hSw; (try dsimp only at hSw); go_simp; (try (with_reducible rfl)); done
  simp only [Act.put, List.setIfInBounds_toArray]; dsimp only [List.set_cons_zero, List.set_cons_succ]
  refine wpAnyH_done (by kernel_rfl) ?_ _
  refine NoPanic.normal ?_
  obtain ⟨⟨r0', _⟩, F'⟩ := hHeld
  clear r0 r1 rg9 F
  have r0 := r0'
  have F := F'
  clear r0' F'
  by_cases h0 : x = 0
  · have h0' : ((x : Int) == 0) = true := by rw [h0]; rfl
    clear h0
    go_wp2_with fail
    go_ret
    exact ⟨rfl, F⟩
  · have h0' : ((x : Int) == 0) = false := by simp; omega
    have HD := Lib.hid (wDiv_any a x ha hx2 (by omega))
    have hmd := Nat.mod_add_div a x
    have hqx : a / x * x = x * (a / x) := Nat.mul_comm _ _
    have hq : a / x < W256 := Nat.lt_of_le_of_lt (Nat.div_le_self _ _) ha
    have hr : a % x < W256 := Nat.lt_of_le_of_lt (Nat.mod_le _ _) ha
    have hrx := Nat.mod_lt a (show 0 < x by omega)
    have HM := Lib.hid (wMul_any (a / x) x hq hx)
    rw [show a / x * x % W256 = a / x * x from Nat.mod_eq_of_lt (by omega), show decide (W256 ≤ a / x * x) = false from decide_eq_false (by omega)] at HM
    have HA2 := Lib.hid (wAdd_any (a / x * x) (a % x) (by omega) hr)
    rw [show a / x * x + a % x = a by omega, Nat.mod_eq_of_lt ha, show decide (W256 ≤ a) = false from decide_eq_false (by omega)] at HA2
    have HC := Lib.hid (wCmp_any (a % x) x hr hx2)
    rw [show sgn (a % x) x = -1 by unfold sgn; rw [if_pos hrx]] at HC
    clear hmd hqx hq hr hrx h0
    generalize a / x * x = m at *
    generalize a / x = q at *
    generalize a % x = r at *
    go_upto_region 9 with fail
    refine back9 w w5 a x q r g0 HO HD r0 F (Lib.hid ?_)
    clear r0 F
    rename_i w7
    rintro ⟨⟨p1, p2, rfl, rfl, r11, r12⟩, rfl, r0, F⟩
    go_wp2_with fail
    refine (HM.out _).mono ?_
    rintro e w8 ⟨rfl, f⟩
    replace r0 := keep_fr f r0
    replace r12 := keep_fr f r12
    have F := F.trans' f
    clear f r11
    go_upto_region 11 with fail
    obtain ⟨W9, hW9⟩ : ∃ W, W = (w8.alloc (.cells (rowN .u64 64 4 0) 24)).setRow w8.heap.size (rowN .u64 64 4 m) := ⟨_, rfl⟩
    refine wp_of_world W9 hW9 ?_
    have N := put_new w8 (rowN .u64 64 4 0) (rowN .u64 64 4 m) 24
    rw [← hW9] at N
    have r14 := N.new
    have F := F.trans' N.fr
    replace r0 := N.old r0
    replace r12 := N.old r12
    clear N hW9
    generalize w8.heap.size = g14 at *
    go_wp2_with fail
    refine (HA2.out _).mono ?_
    rintro e w10 ⟨rfl, f⟩
    replace r0 := keep_fr f r0
    replace r12 := keep_fr f r12
    have F := F.trans' f
    clear f r14
    go_upto_region 12 with fail
    obtain ⟨W11, hW11⟩ : ∃ W, W = (w10.alloc (.cells (rowN .u64 64 4 0) 24)).setRow w10.heap.size (rowN .u64 64 4 a) := ⟨_, rfl⟩
    refine wp_of_world W11 hW11 ?_
    have N := put_new w10 (rowN .u64 64 4 0) (rowN .u64 64 4 a) 24
    rw [← hW11] at N
    have r16 := N.new
    have F := F.trans' N.fr
    replace r0 := N.old r0
    replace r12 := N.old r12
    clear N hW11
    generalize w10.heap.size = g16 at *
    refine wp_region_noPanic ?_
    refine wp_region_held_drew (S := (fun w' => (w'.heap[g0]? = some (.cells (rowN .u64 64 4 a) 24 (0, 0)) ∧ w'.heap[p2]? = some (.cells (rowN .u64 64 4 r) 24 (0, 0)) ∧ w'.heap[g16]? = some (.cells (rowN .u64 64 4 a) 24 (0, 0))) ∧ Fr F0 w w')) (by kernel_rfl) ?_ (fun hHeld => ?_)
    · ((try dsimp only) <;> (first | exact ⟨⟨r0, r12, r16⟩, F.drew⟩ | exact ⟨⟨keep_fr f5 hHeld.1.1, keep_fr f5 hHeld.1.2.1, keep_fr f5 hHeld.1.2.2⟩, hHeld.2.trans' f5⟩))
    refine wpAnyH_take (i := 0) (oi := ⟨_, _, _, _, _, _⟩) (v := ?_) rfl (by kernel_rfl) (by kernel_rfl) (by kernel_rfl) (fun _ _ _ h => h) (Or.inl ⟨by rfl, ?_⟩) (by assumption) ?_
    rotate_left
    · intro w hSw; (try dsimp only at hSw); go_simp; (try (with_reducible rfl)); done
    simp only [Act.put, List.setIfInBounds_toArray]; dsimp only [List.set_cons_zero, List.set_cons_succ]
    refine wpAnyH_take (i := 1) (oi := ⟨_, _, _, _, _, _⟩) (v := ?_) rfl (by kernel_rfl) (by kernel_rfl) (by kernel_rfl) (fun _ _ _ h => h) (Or.inl ⟨by rfl, ?_⟩) (by assumption) ?_
    rotate_left
    · intro w hSw; (try dsimp only at hSw); go_simp; (try (with_reducible rfl)); done
    simp only [Act.put, List.setIfInBounds_toArray]; dsimp only [List.set_cons_zero, List.set_cons_succ]
    refine wpAnyH_take (i := 2) (oi := ⟨_, _, _, _, _, _⟩) (v := ?_) rfl (by kernel_rfl) (by kernel_rfl) (by kernel_rfl) (fun _ _ _ h => h) (Or.inl ⟨by rfl, ?_⟩) (by assumption) ?_
    rotate_left
    · intro w hSw; (try dsimp only at hSw); go_simp; (try (with_reducible rfl)); done
    simp only [Act.put, List.setIfInBounds_toArray]; dsimp only [List.set_cons_zero, List.set_cons_succ]
    refine wpAnyH_take (i := 3) (oi := ⟨_, _, _, _, _, _⟩) (v := ?_) rfl (by kernel_rfl) (by kernel_rfl) (by kernel_rfl) (fun _ _ _ h => h) (Or.inl ⟨by rfl, ?_⟩) (by assumption) ?_
    rotate_left
    · intro w hSw; (try dsimp only at hSw); go_simp; (try (with_reducible rfl)); done
    simp only [Act.put, List.setIfInBounds_toArray]; dsimp only [List.set_cons_zero, List.set_cons_succ]
    refine wpAnyH_take (i := 4) (oi := ⟨_, _, _, _, _, _⟩) (v := ?_) rfl (by kernel_rfl) (by kernel_rfl) (by kernel_rfl) (fun _ _ _ h => h) (Or.inl ⟨by rfl, ?_⟩) (by assumption) ?_
    rotate_left
    · intro w hSw; (try dsimp only at hSw); go_simp; (try (with_reducible rfl)); done
    simp only [Act.put, List.setIfInBounds_toArray]; dsimp only [List.set_cons_zero, List.set_cons_succ]
    refine wpAnyH_take (i := 5) (oi := ⟨_, _, _, _, _, _⟩) (v := ?_) rfl (by kernel_rfl) (by kernel_rfl) (by kernel_rfl) (fun _ _ _ h => h) (Or.inl ⟨by rfl, ?_⟩) (by assumption) ?_
    rotate_left
    · intro w hSw; (try dsimp only at hSw); go_simp; (try (with_reducible rfl)); done
    simp only [Act.put, List.setIfInBounds_toArray]; dsimp only [List.set_cons_zero, List.set_cons_succ]
    refine wpAnyH_take (i := 6) (oi := ⟨_, _, _, _, _, _⟩) (v := ?_) rfl (by kernel_rfl) (by kernel_rfl) (by kernel_rfl) (fun _ _ _ h => h) (Or.inl ⟨by rfl, ?_⟩) (by assumption) ?_
    rotate_left
    · intro w hSw; (try dsimp only at hSw); go_simp; (try (with_reducible rfl)); done
    simp only [Act.put, List.setIfInBounds_toArray]; dsimp only [List.set_cons_zero, List.set_cons_succ]
    refine wpAnyH_take (i := 7) (oi := ⟨_, _, _, _, _, _⟩) (v := ?_) rfl (by kernel_rfl) (by kernel_rfl) (by kernel_rfl) (fun _ _ _ h => h) (Or.inl ⟨by rfl, ?_⟩) (by assumption) ?_
    rotate_left
    · intro w hSw; (try dsimp only at hSw); go_simp; (try (with_reducible rfl)); done
    simp only [Act.put, List.setIfInBounds_toArray]; dsimp only [List.set_cons_zero, List.set_cons_succ]
    refine wpAnyH_take (i := 8) (oi := ⟨_, _, _, _, _, _⟩) (v := ?_) rfl (by kernel_rfl) (by kernel_rfl) (by kernel_rfl) (fun _ _ _ h => h) (Or.inl ⟨by rfl, ?_⟩) (by assumption) ?_
    rotate_left
    · intro w hSw; (try dsimp only at hSw); go_simp; (try (with_reducible rfl)); done
    simp only [Act.put, List.setIfInBounds_toArray]; dsimp only [List.set_cons_zero, List.set_cons_succ]
    refine wpAnyH_take (i := 9) (oi := ⟨_, _, _, _, _, _⟩) (v := ?_) rfl (by kernel_rfl) (by kernel_rfl) (by kernel_rfl) (fun _ _ _ h => h) (Or.inl ⟨by rfl, ?_⟩) (by assumption) ?_
    rotate_left
    · intro w hSw; (try dsimp only at hSw); go_simp; (try (with_reducible rfl)); done
    simp only [Act.put, List.setIfInBounds_toArray]; dsimp only [List.set_cons_zero, List.set_cons_succ]
    refine wpAnyH_take (i := 10) (oi := ⟨_, _, _, _, _, _⟩) (v := ?_) rfl (by kernel_rfl) (by kernel_rfl) (by kernel_rfl) (fun _ _ _ h => h) (Or.inl ⟨by rfl, ?_⟩) (by assumption) ?_
    rotate_left
    · intro w hSw; (try dsimp only at hSw); go_simp; (try (with_reducible rfl)); done
    simp only [Act.put, List.setIfInBounds_toArray]; dsimp only [List.set_cons_zero, List.set_cons_succ]
    refine wpAnyH_take (i := 11) (oi := ⟨_, _, _, _, _, _⟩) (v := ?_) rfl (by kernel_rfl) (by kernel_rfl) (by kernel_rfl) (fun _ _ _ h => h) (Or.inl ⟨by rfl, ?_⟩) (by assumption) ?_
    rotate_left
    · intro w hSw; (try dsimp only at hSw); go_simp; (try (with_reducible rfl)); done
    simp only [Act.put, List.setIfInBounds_toArray]; dsimp only [List.set_cons_zero, List.set_cons_succ]
    refine wpAnyH_take (i := 12) (oi := ⟨_, _, _, _, _, _⟩) (v := ?_) rfl (by kernel_rfl) (by kernel_rfl) (by kernel_rfl) (fun _ _ _ h => h) (Or.inl ⟨by rfl, ?_⟩) (by assumption) ?_
    rotate_left
    · intro w hSw; (try dsimp only at hSw); go_simp; (try (with_reducible rfl)); done
    simp only [Act.put, List.setIfInBounds_toArray]; dsimp only [List.set_cons_zero, List.set_cons_succ]
    refine wpAnyH_take (i := 13) (oi := ⟨_, _, _, _, _, _⟩) (v := ?_) rfl (by kernel_rfl) (by kernel_rfl) (by kernel_rfl) (fun _ _ _ h => h) (Or.inl ⟨by rfl, ?_⟩) (by assumption) ?_
    rotate_left
    · intro w hSw; (try dsimp only at hSw); go_simp; (try (with_reducible rfl)); done
    simp only [Act.put, List.setIfInBounds_toArray]; dsimp only [List.set_cons_zero, List.set_cons_succ]
    refine wpAnyH_take (i := 14) (oi := ⟨_, _, _, _, _, _⟩) (v := ?_) rfl (by kernel_rfl) (by kernel_rfl) (by kernel_rfl) (fun _ _ _ h => h) (Or.inl ⟨by rfl, ?_⟩) (by assumption) ?_
    rotate_left
    · intro w hSw; (try dsimp only at hSw); go_simp; (try (with_reducible rfl)); done
    simp only [Act.put, List.setIfInBounds_toArray]; dsimp only [List.set_cons_zero, List.set_cons_succ]
    refine wpAnyH_take (i := 15) (oi := ⟨_, _, _, _, _, _⟩) (v := ?_) rfl (by kernel_rfl) (by kernel_rfl) (by kernel_rfl) (fun _ _ _ h => h) (Or.inl ⟨by rfl, ?_⟩) (by assumption) ?_
    rotate_left
    · intro w hSw; (try dsimp only at hSw); go_simp; (try (with_reducible rfl)); done
    simp only [Act.put, List.setIfInBounds_toArray]; dsimp only [List.set_cons_zero, List.set_cons_succ]
    refine wpAnyH_take (i := 16) (oi := ⟨_, _, _, _, _, _⟩) (v := ?_) rfl (by kernel_rfl) (by kernel_rfl) (by kernel_rfl) (fun _ _ _ h => h) (Or.inl ⟨by rfl, ?_⟩) (by assumption) ?_
    rotate_left
    · intro w hSw; (try dsimp only at hSw); go_simp; (try (with_reducible rfl)); done
    simp only [Act.put, List.setIfInBounds_toArray]; dsimp only [List.set_cons_zero, List.set_cons_succ]
    refine wpAnyH_take (i := 17) (oi := ⟨_, _, _, _, _, _⟩) (v := ?_) rfl (by kernel_rfl) (by kernel_rfl) (by kernel_rfl) (fun _ _ _ h => h) (Or.inl ⟨by rfl, ?_⟩) (by assumption) ?_
    rotate_left
    · intro w hSw; (try dsimp only at hSw); go_simp; (try (with_reducible rfl)); done
    simp only [Act.put, List.setIfInBounds_toArray]; dsimp only [List.set_cons_zero, List.set_cons_succ]
    refine wpAnyH_ready (rs := [18]) (by kernel_rfl) (by simp) ?_
    refine AllReadyH.cons (o := ⟨_, _, _, _, _, _⟩) rfl (fun K hK => ?_) AllReadyH.nil
    go_simp
    (refine (HO.out _).mono ?_; rintro e w5 ⟨rfl, f5⟩)
    refine hK.out _ _ ?_ (fun hHeld => ?_)
    · ((try dsimp only) <;> (first | exact ⟨⟨r0, r12, r16⟩, F.drew⟩ | exact ⟨⟨keep_fr f5 hHeld.1.1, keep_fr f5 hHeld.1.2.1, keep_fr f5 hHeld.1.2.2⟩, hHeld.2.trans' f5⟩))
    clear hK K
    try (simp only [Act.put, List.setIfInBounds_toArray]; dsimp only [List.set_cons_zero, List.set_cons_succ])
    refine wpAnyH_ready (rs := [19]) (by kernel_rfl) (by simp) ?_
    refine AllReadyH.cons (o := ⟨_, _, _, _, _, _⟩) rfl (fun K hK => ?_) AllReadyH.nil
    go_simp
    (refine (HC.out _).mono ?_; rintro e w5 ⟨rfl, f5⟩)
    refine hK.out _ _ ?_ (fun hHeld => ?_)
    · ((try dsimp only) <;> (first | exact ⟨⟨r0, r12, r16⟩, F.drew⟩ | exact ⟨⟨keep_fr f5 hHeld.1.1, keep_fr f5 hHeld.1.2.1, keep_fr f5 hHeld.1.2.2⟩, hHeld.2.trans' f5⟩))
    clear hK K
    try (simp only [Act.put, List.setIfInBounds_toArray]; dsimp only [List.set_cons_zero, List.set_cons_succ])
    refine wpAnyH_take (i := 20) (oi := ⟨_, _, _, _, _, _⟩) (v := ?_) rfl (by kernel_rfl) (by kernel_rfl) (by kernel_rfl) (fun _ _ _ h => h) (Or.inl ⟨by rfl, ?_⟩) (by assumption) ?_
    rotate_left
    · intro w hSw; (try dsimp only at hSw); go_simp; (try (with_reducible rfl)); done
    simp only [Act.put, List.setIfInBounds_toArray]; dsimp only [List.set_cons_zero, List.set_cons_succ]
    refine wpAnyH_take (i := 21) (oi := ⟨_, _, _, _, _, _⟩) (v := ?_) rfl (by kernel_rfl) (by kernel_rfl) (by kernel_rfl) (fun _ _ _ h => h) (Or.inl ⟨by rfl, ?_⟩) (by assumption) ?_
    rotate_left
    · intro w hSw; (try dsimp only at hSw); go_simp; (try (with_reducible rfl)); done
    simp only [Act.put, List.setIfInBounds_toArray]; dsimp only [List.set_cons_zero, List.set_cons_succ]
    refine wpAnyH_take (i := 22) (oi := ⟨_, _, _, _, _, _⟩) (v := ?_) rfl (by kernel_rfl) (by kernel_rfl) (by kernel_rfl) (fun _ _ _ h => h) (Or.inl ⟨by rfl, ?_⟩) (by assumption) ?_
    rotate_left
    · intro w hSw; (try dsimp only at hSw); go_simp; (try (with_reducible rfl)); done
    simp only [Act.put, List.setIfInBounds_toArray]; dsimp only [List.set_cons_zero, List.set_cons_succ]
    refine wpAnyH_done (by kernel_rfl) ?_ _
    refine NoPanic.normal ?_
    all_goals
      go_wp2
      go_ret
      exact ⟨rfl, hHeld.2⟩
end Go.Proofs.Ytbkkfeabofhlnaa
