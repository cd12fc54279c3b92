/- Layer 3's law WideSums, walked. -/
import Derived.Test.YtbkkfeabofhlnaaRi
import Derived.Deep.Cut
namespace Go.Proofs.Ytbkkfeabofhlnaa
set_option linter.unusedVariables false
set_option linter.unusedSimpArgs false
open Go.RowKit

theorem word_lt' (x : Nat) (h : x < 2 ^ 64) : x < W256 := Nat.lt_of_lt_of_le h (Nat.pow_le_pow_right (by omega) (by omega))
theorem lg_minp {x n : Nat} (h : x < pw n) : lg x ≤ n := lg_min h
theorem lg_small {z : Nat} (h : z < W256 * W256) : lg z ≤ 10000 := by
  have e16 : W256 = pw 16 := rfl
  rw [e16, ← pw_add] at h
  exact Nat.le_trans (lg_minp h) (by omega)

set_option maxRecDepth 100000 in
set_option maxHeartbeats 16000000 in
theorem wideSums_any (a b x y : Nat) (ha : a < W256) (hb : b < W256) (hx : x < 2 ^ 64) (hy : y < 2 ^ 64) (w : World) :
    Calls Try.prog 4 #[.agg (rowN .u64 64 4 a), .agg (rowN .u64 64 4 b), .int .u64 x, .int .u64 y] w fun e w' => e = .returned (.bool true) ∧ Fr F0 w w' := by
  have HLv := Lib.hid lives03_any
  have hWp := W256_pos
  have hx2 := word_lt' x hx
  have hy2 := word_lt' y hy
  have hW1 : W256 ≤ W256 * W256 := Nat.le_mul_of_pos_right _ hWp
  have hab : a + b < W256 * W256 := by
    have : W256 * 2 ≤ W256 * W256 := Nat.mul_le_mul_left _ (show 2 ≤ 2 ^ 256 from Nat.pow_le_pow_right (n := 2) (i := 1) (by omega) (by omega))
    omega
  have hax : a * x < W256 * W256 := Nat.mul_lt_mul'' ha hx2
  have hxy : x * y < W256 := Nat.lt_of_lt_of_le (Nat.mul_lt_mul'' hx hy) (by rw [← Nat.pow_add]; exact Nat.pow_le_pow_right (by omega) (by omega))
  have HL := Lib.hid (And.intro (lg_small (z := a) (by omega)) (And.intro (lg_small (z := b) (by omega)) (And.intro (lg_small (z := x) (by omega)) (And.intro (lg_small (z := y) (by omega)) (And.intro (lg_small hab) (And.intro (lg_small hax) (lg_small (z := x * y) (by omega))))))))
  have HLd := Lib.hid (lg_small (z := a - b) (by omega))
  have HA := Lib.hid (wAdd_any a b ha hb)
  have HS := Lib.hid (wSub_any a b ha hb)
  have HM := Lib.hid (wMul_any a x ha hx)
  have HP := Lib.hid (wProduct_any x y hx hy)
  have HOa := Lib.hid (r3Of_any a ha)
  have HOb := Lib.hid (r3Of_any b hb)
  have HOx := Lib.hid (r3Of_any x hx2)
  have HOy := Lib.hid (r3Of_any y hy2)
  have HI1 := Lib.hid (fun p c => is03_any ((a + b) % W256) (a + b) (decide (W256 ≤ a + b)) p c rfl rfl HL.out.2.2.2.2.1)
  have HI2 := Lib.hid (fun p c => is03_any (a * x % W256) (a * x) (decide (W256 ≤ a * x)) p c rfl rfl HL.out.2.2.2.2.2.1)
  have HI3 := Lib.hid (fun p c => is03_any (x * y) (x * y) false p c (Nat.mod_eq_of_lt hxy).symm (decide_eq_false (by omega)).symm HL.out.2.2.2.2.2.2)
  have HB := Lib.hid (And.intro ha (And.intro hb hxy))
  have hx64 : x < 18446744073709551616 := hx
  have hy64 : y < 18446744073709551616 := hy
  clear ha hb hx2 hy2 hW1 hab hax hxy hWp hx hy
  generalize decide (W256 ≤ a + b) = o1 at *
  generalize decide (W256 ≤ a * x) = o3 at *
  generalize hs : (a + b) % W256 = s at *
  generalize hm : a * x % W256 = m at *
  generalize hd : (a + W256 - b) % W256 = d at *
  generalize ho2 : decide (a < b) = o2 at *
  clear hs hm
  have HD := Lib.hid (And.intro hd ho2)
  clear hd ho2
  go_enter Try.func4, Try.ntmps4
  go_wp2_with fail
  obtain ⟨r0, r1⟩ := heap2 w (.cells (rowN .u64 64 4 a) 24) (.cells (rowN .u64 64 4 b) 24)
  refine (HLv.out _).mono ?_
  rintro e w1 ⟨rfl, f1⟩
  replace r0 := f1.keeps (fun f => f) r0
  replace r1 := f1.keeps (fun f => f) r1
  have F := (((Fr.refl F0 w).alloc _).alloc _).trans' f1
  clear f1
  generalize w.heap.size = g0 at *
  generalize g0 + 1 = g1 at *
  go_wp2_with fail
  refine wp_region_noPanic ?_
  refine wp_region_held_drew (S := (fun w' => (w'.heap[g0]? = some (.cells (rowN .u64 64 4 a) 24 (0, 0)) ∧ w'.heap[g1]? = some (.cells (rowN .u64 64 4 b) 24 (0, 0))) ∧ Fr F0 w w')) (by kernel_rfl) ?_ (fun hHeld => ?_)
  · ((try dsimp only) <;> (first | exact ⟨⟨r0, r1⟩, F.drew⟩ | exact ⟨⟨keep_fr f5 hHeld.1.1, keep_fr f5 hHeld.1.2⟩, hHeld.2.trans' f5⟩))
  refine wpAnyH_take (i := 0) (oi := ⟨_, _, _, _, _, _⟩) (v := ?_) rfl (by kernel_rfl) (by kernel_rfl) (by kernel_rfl) (fun _ _ _ h => h) (Or.inl ⟨by rfl, ?_⟩) (by assumption) ?_
  rotate_left
  · intro w hSw; (try dsimp only at hSw); go_simp; (try (with_reducible rfl)); done
  simp only [Act.put, List.setIfInBounds_toArray]; dsimp only [List.set_cons_zero, List.set_cons_succ]
  refine wpAnyH_take (i := 2) (oi := ⟨_, _, _, _, _, _⟩) (v := ?_) rfl (by kernel_rfl) (by kernel_rfl) (by kernel_rfl) (fun _ _ _ h => h) (Or.inl ⟨by rfl, ?_⟩) (by assumption) ?_
  rotate_left
  · intro w hSw; (try dsimp only at hSw); go_simp; (try (with_reducible rfl)); done
  simp only [Act.put, List.setIfInBounds_toArray]; dsimp only [List.set_cons_zero, List.set_cons_succ]
  refine wpAnyH_ready (rs := [1]) (by kernel_rfl) (by simp) ?_
  refine AllReadyH.cons (o := ⟨_, _, _, _, _, _⟩) rfl (fun K hK => ?_) AllReadyH.nil
  go_simp
  ((with_reducible refine (HOa.out _).mono ?_); rintro e w5 ⟨a1, c1, rfl, n1, f5⟩)
  refine hK.out _ _ ?_ (fun hHeld => ?_)
  · ((try dsimp only) <;> (first | exact ⟨⟨r0, r1⟩, F.drew⟩ | exact ⟨⟨keep_fr f5 hHeld.1.1, keep_fr f5 hHeld.1.2⟩, hHeld.2.trans' f5⟩))
  clear hK K
  try (simp only [Act.put, List.setIfInBounds_toArray]; dsimp only [List.set_cons_zero, List.set_cons_succ])
  refine wpAnyH_ready (rs := [3]) (by kernel_rfl) (by simp) ?_
  refine AllReadyH.cons (o := ⟨_, _, _, _, _, _⟩) rfl (fun K hK => ?_) AllReadyH.nil
  go_simp
  ((with_reducible refine (HOb.out _).mono ?_); rintro e w6 ⟨a2, c2, rfl, n2, f5⟩; replace n1 := Us.fr n1 f5)
  refine hK.out _ _ ?_ (fun hHeld => ?_)
  · ((try dsimp only) <;> (first | exact ⟨⟨r0, r1⟩, F.drew⟩ | exact ⟨⟨keep_fr f5 hHeld.1.1, keep_fr f5 hHeld.1.2⟩, hHeld.2.trans' f5⟩))
  clear hK K
  try (simp only [Act.put, List.setIfInBounds_toArray]; dsimp only [List.set_cons_zero, List.set_cons_succ])
  refine wpAnyH_take (i := 4) (oi := ⟨_, _, _, _, _, _⟩) (v := ?_) rfl (by kernel_rfl) (by kernel_rfl) (by kernel_rfl) (fun _ _ _ h => h) (Or.inl ⟨by rfl, ?_⟩) (by assumption) ?_
  rotate_left
  · intro w hSw; (try dsimp only at hSw); go_simp; (try (with_reducible rfl)); done
  simp only [Act.put, List.setIfInBounds_toArray]; dsimp only [List.set_cons_zero, List.set_cons_succ]
  refine wpAnyH_take (i := 5) (oi := ⟨_, _, _, _, _, _⟩) (v := ?_) rfl (by kernel_rfl) (by kernel_rfl) (by kernel_rfl) (fun _ _ _ h => h) (Or.inl ⟨by rfl, ?_⟩) (by assumption) ?_
  rotate_left
  · intro w hSw; (try dsimp only at hSw); go_simp; (try (with_reducible rfl)); done
  simp only [Act.put, List.setIfInBounds_toArray]; dsimp only [List.set_cons_zero, List.set_cons_succ]
  refine wpAnyH_done (by kernel_rfl) ?_ _
  refine NoPanic.normal ?_
  clear r0 r1 F
  obtain ⟨⟨r0, r1⟩, F⟩ := hHeld
  go_wp2_with fail
  refine (HA.out _).mono ?_
  rintro e v11 ⟨rfl, f⟩
  replace r0 := keep_fr f r0
  replace r1 := keep_fr f r1
  replace n1 := Us.fr n1 f
  replace n2 := Us.fr n2 f
  have F := F.trans' f
  clear f
  go_upto_region 5 with fail
  obtain ⟨W11, hW⟩ : ∃ W, W = (v11.alloc (.cells (rowN .u64 64 4 0) 24)).setRow v11.heap.size (rowN .u64 64 4 s) := ⟨_, rfl⟩
  refine wp_of_world W11 hW ?_
  have N := put_new v11 (rowN .u64 64 4 0) (rowN .u64 64 4 s) 24
  rw [← hW] at N
  have rs := N.new
  have F := F.trans' N.fr
  replace r0 := N.old r0
  replace r1 := N.old r1
  replace n1 := Us.fr n1 N.fr
  replace n2 := Us.fr n2 N.fr
  clear N hW
  generalize v11.heap.size = g11 at *
  go_wp2_with fail
  refine (HS.out _).mono ?_
  rintro e v13 ⟨rfl, f⟩
  replace r0 := keep_fr f r0
  replace r1 := keep_fr f r1
  replace rs := keep_fr f rs
  replace n1 := Us.fr n1 f
  replace n2 := Us.fr n2 f
  have F := F.trans' f
  clear f
  go_upto_region 6 with fail
  obtain ⟨W13, hW⟩ : ∃ W, W = (v13.alloc (.cells (rowN .u64 64 4 0) 24)).setRow v13.heap.size (rowN .u64 64 4 d) := ⟨_, rfl⟩
  refine wp_of_world W13 hW ?_
  have N := put_new v13 (rowN .u64 64 4 0) (rowN .u64 64 4 d) 24
  rw [← hW] at N
  have rd := N.new
  have F := F.trans' N.fr
  replace r0 := N.old r0
  replace r1 := N.old r1
  replace rs := N.old rs
  replace n1 := Us.fr n1 N.fr
  replace n2 := Us.fr n2 N.fr
  clear N hW
  generalize v13.heap.size = g13 at *
  go_wp2_with fail
  refine (HM.out _).mono ?_
  rintro e v15 ⟨rfl, f⟩
  replace r0 := keep_fr f r0
  replace r1 := keep_fr f r1
  replace rs := keep_fr f rs
  replace rd := keep_fr f rd
  replace n1 := Us.fr n1 f
  replace n2 := Us.fr n2 f
  have F := F.trans' f
  clear f
  go_upto_region 7 with fail
  obtain ⟨W15, hW⟩ : ∃ W, W = (v15.alloc (.cells (rowN .u64 64 4 0) 24)).setRow v15.heap.size (rowN .u64 64 4 m) := ⟨_, rfl⟩
  refine wp_of_world W15 hW ?_
  have N := put_new v15 (rowN .u64 64 4 0) (rowN .u64 64 4 m) 24
  rw [← hW] at N
  have rm := N.new
  have F := F.trans' N.fr
  replace r0 := N.old r0
  replace r1 := N.old r1
  replace rs := N.old rs
  replace rd := N.old rd
  replace n1 := Us.fr n1 N.fr
  replace n2 := Us.fr n2 N.fr
  clear N hW
  generalize v15.heap.size = g15 at *
  clear HLv HA HS HM HOa HOb
  have fd := (Fr.refl F0 W15).drew
  replace n1 := Us.fr n1 fd
  replace n2 := Us.fr n2 fd
  clear fd
  have hbn := rowN_nil4 0
  refine wp_region_noPanic ?_
  refine wp_region_held_drew (S := (fun w' => (w'.heap[g0]? = some (.cells (rowN .u64 64 4 a) 24 (0, 0)) ∧ w'.heap[g1]? = some (.cells (rowN .u64 64 4 b) 24 (0, 0)) ∧ w'.heap[g11]? = some (.cells (rowN .u64 64 4 s) 24 (0, 0)) ∧ w'.heap[g13]? = some (.cells (rowN .u64 64 4 d) 24 (0, 0)) ∧ w'.heap[g15]? = some (.cells (rowN .u64 64 4 m) 24 (0, 0))) ∧ Fr F0 w w')) (by kernel_rfl) ?_ (fun hHeld => ?_)
  · ((try dsimp only) <;> (first | exact ⟨⟨r0, r1, rs, rd, rm⟩, F.drew⟩ | exact ⟨⟨keep_fr f5 hHeld.1.1, keep_fr f5 hHeld.1.2.1, keep_fr f5 hHeld.1.2.2.1, keep_fr f5 hHeld.1.2.2.2.1, keep_fr f5 hHeld.1.2.2.2.2⟩, hHeld.2.trans' f5⟩))
  refine wpAnyH_take (i := 0) (oi := ⟨_, _, _, _, _, _⟩) (v := ?_) rfl (by kernel_rfl) (by kernel_rfl) (by kernel_rfl) (fun _ _ _ h => h) (Or.inl ⟨by rfl, ?_⟩) (by assumption) ?_
  rotate_left
  · intro w hSw; (try dsimp only at hSw); go_simp; (try (with_reducible rfl)); done
  simp only [Act.put, List.setIfInBounds_toArray]; dsimp only [List.set_cons_zero, List.set_cons_succ]
  refine wpAnyH_take (i := 1) (oi := ⟨_, _, _, _, _, _⟩) (v := ?_) rfl (by kernel_rfl) (by kernel_rfl) (by kernel_rfl) (fun _ _ _ h => h) (Or.inl ⟨by rfl, ?_⟩) (by assumption) ?_
  rotate_left
  · intro w hSw; (try dsimp only at hSw); go_simp; (try (with_reducible rfl)); done
  simp only [Act.put, List.setIfInBounds_toArray]; dsimp only [List.set_cons_zero, List.set_cons_succ]
  refine wpAnyH_take (i := 2) (oi := ⟨_, _, _, _, _, _⟩) (v := ?_) rfl (by kernel_rfl) (by kernel_rfl) (by kernel_rfl) (fun _ _ _ h => h) (Or.inl ⟨by rfl, ?_⟩) (by assumption) ?_
  rotate_left
  · intro w hSw; (try dsimp only at hSw); go_simp; (try (with_reducible rfl)); done
  simp only [Act.put, List.setIfInBounds_toArray]; dsimp only [List.set_cons_zero, List.set_cons_succ]
  refine wpAnyH_take (i := 3) (oi := ⟨_, _, _, _, _, _⟩) (v := ?_) rfl (by kernel_rfl) (by kernel_rfl) (by kernel_rfl) (fun _ _ _ h => h) (Or.inl ⟨by rfl, ?_⟩) (by assumption) ?_
  rotate_left
  · intro w hSw; (try dsimp only at hSw); go_simp; (try (with_reducible rfl)); done
  simp only [Act.put, List.setIfInBounds_toArray]; dsimp only [List.set_cons_zero, List.set_cons_succ]
  refine wpAnyH_ready (rs := [4]) (by kernel_rfl) (by simp) ?_
  refine AllReadyH.cons (o := ⟨_, _, _, _, _, _⟩) rfl (fun K hK => ?_) AllReadyH.nil
  go_simp
  ((with_reducible refine (r3Add_any a b _ _ _ _ HL.out.1 HL.out.2.1 _ n1 n2).mono ?_); rintro e w7 ⟨a7, c7, rfl, n7, f5⟩; replace n1 := Us.fr n1 f5; replace n2 := Us.fr n2 f5)
  refine hK.out _ _ ?_ (fun hHeld => ?_)
  · ((try dsimp only) <;> (first | exact ⟨⟨r0, r1, rs, rd, rm⟩, F.drew⟩ | exact ⟨⟨keep_fr f5 hHeld.1.1, keep_fr f5 hHeld.1.2.1, keep_fr f5 hHeld.1.2.2.1, keep_fr f5 hHeld.1.2.2.2.1, keep_fr f5 hHeld.1.2.2.2.2⟩, hHeld.2.trans' f5⟩))
  clear hK K
  try (simp only [Act.put, List.setIfInBounds_toArray]; dsimp only [List.set_cons_zero, List.set_cons_succ])
  refine wpAnyH_ready (rs := [5]) (by kernel_rfl) (by simp) ?_
  refine AllReadyH.cons (o := ⟨_, _, _, _, _, _⟩) rfl (fun K hK => ?_) AllReadyH.nil
  go_simp
  ((with_reducible refine (HI1.out _ _ _ n7).mono ?_); rintro e w8 ⟨rfl, f5⟩; replace n1 := Us.fr n1 f5; replace n2 := Us.fr n2 f5)
  refine hK.out _ _ ?_ (fun hHeld => ?_)
  · ((try dsimp only) <;> (first | exact ⟨⟨r0, r1, rs, rd, rm⟩, F.drew⟩ | exact ⟨⟨keep_fr f5 hHeld.1.1, keep_fr f5 hHeld.1.2.1, keep_fr f5 hHeld.1.2.2.1, keep_fr f5 hHeld.1.2.2.2.1, keep_fr f5 hHeld.1.2.2.2.2⟩, hHeld.2.trans' f5⟩))
  clear hK K
  try (simp only [Act.put, List.setIfInBounds_toArray]; dsimp only [List.set_cons_zero, List.set_cons_succ])
  refine wpAnyH_take (i := 6) (oi := ⟨_, _, _, _, _, _⟩) (v := ?_) rfl (by kernel_rfl) (by kernel_rfl) (by kernel_rfl) (fun _ _ _ h => h) (Or.inl ⟨by rfl, ?_⟩) (by assumption) ?_
  rotate_left
  · intro w hSw; (try dsimp only at hSw); go_simp; (try (with_reducible rfl)); done
  simp only [Act.put, List.setIfInBounds_toArray]; dsimp only [List.set_cons_zero, List.set_cons_succ]
  refine wpAnyH_take (i := 7) (oi := ⟨_, _, _, _, _, _⟩) (v := ?_) rfl (by kernel_rfl) (by kernel_rfl) (by kernel_rfl) (fun _ _ _ h => h) (Or.inl ⟨by rfl, ?_⟩) (by assumption) ?_
  rotate_left
  · intro w hSw; (try dsimp only at hSw); go_simp; (try (with_reducible rfl)); done
  simp only [Act.put, List.setIfInBounds_toArray]; dsimp only [List.set_cons_zero, List.set_cons_succ]
  refine wpAnyH_take (i := 8) (oi := ⟨_, _, _, _, _, _⟩) (v := ?_) rfl (by kernel_rfl) (by kernel_rfl) (by kernel_rfl) (fun _ _ _ h => h) (Or.inl ⟨by rfl, ?_⟩) (by assumption) ?_
  rotate_left
  · intro w hSw; (try dsimp only at hSw); go_simp; (try (with_reducible rfl)); done
  simp only [Act.put, List.setIfInBounds_toArray]; dsimp only [List.set_cons_zero, List.set_cons_succ]
  refine wpAnyH_take (i := 9) (oi := ⟨_, _, _, _, _, _⟩) (v := ?_) rfl (by kernel_rfl) (by kernel_rfl) (by kernel_rfl) (fun _ _ _ h => h) (Or.inl ⟨by rfl, ?_⟩) (by assumption) ?_
  rotate_left
  · intro w hSw; (try dsimp only at hSw); go_simp; (try (with_reducible rfl)); done
  simp only [Act.put, List.setIfInBounds_toArray]; dsimp only [List.set_cons_zero, List.set_cons_succ]
  refine wpAnyH_take (i := 10) (oi := ⟨_, _, _, _, _, _⟩) (v := ?_) rfl (by kernel_rfl) (by kernel_rfl) (by kernel_rfl) (fun _ _ _ h => h) (Or.inl ⟨by rfl, ?_⟩) (by assumption) ?_
  rotate_left
  · intro w hSw; (try dsimp only at hSw); go_simp; (try (with_reducible rfl)); done
  simp only [Act.put, List.setIfInBounds_toArray]; dsimp only [List.set_cons_zero, List.set_cons_succ]
  refine wpAnyH_take (i := 11) (oi := ⟨_, _, _, _, _, _⟩) (v := ?_) rfl (by kernel_rfl) (by kernel_rfl) (by kernel_rfl) (fun _ _ _ h => h) (Or.inl ⟨by rfl, ?_⟩) (by assumption) ?_
  rotate_left
  · intro w hSw; (try dsimp only at hSw); go_simp; (try (with_reducible rfl)); done
  simp only [Act.put, List.setIfInBounds_toArray]; dsimp only [List.set_cons_zero, List.set_cons_succ]
  refine wpAnyH_take (i := 12) (oi := ⟨_, _, _, _, _, _⟩) (v := ?_) rfl (by kernel_rfl) (by kernel_rfl) (by kernel_rfl) (fun _ _ _ h => h) (Or.inl ⟨by rfl, ?_⟩) (by assumption) ?_
  rotate_left
  · intro w hSw; (try dsimp only at hSw); go_simp; (try (with_reducible rfl)); done
  simp only [Act.put, List.setIfInBounds_toArray]; dsimp only [List.set_cons_zero, List.set_cons_succ]
  refine wpAnyH_ready (rs := [13]) (by kernel_rfl) (by simp) ?_
  refine AllReadyH.cons (o := ⟨_, _, _, _, _, _⟩) rfl (fun K hK => ?_) AllReadyH.nil
  go_simp
  ((with_reducible refine (HOx.out _).mono ?_); rintro e w9 ⟨a9, c9, rfl, n9, f5⟩; replace n1 := Us.fr n1 f5; replace n2 := Us.fr n2 f5)
  refine hK.out _ _ ?_ (fun hHeld => ?_)
  · ((try dsimp only) <;> (first | exact ⟨⟨r0, r1, rs, rd, rm⟩, F.drew⟩ | exact ⟨⟨keep_fr f5 hHeld.1.1, keep_fr f5 hHeld.1.2.1, keep_fr f5 hHeld.1.2.2.1, keep_fr f5 hHeld.1.2.2.2.1, keep_fr f5 hHeld.1.2.2.2.2⟩, hHeld.2.trans' f5⟩))
  clear hK K
  try (simp only [Act.put, List.setIfInBounds_toArray]; dsimp only [List.set_cons_zero, List.set_cons_succ])
  refine wpAnyH_ready (rs := [14]) (by kernel_rfl) (by simp) ?_
  refine AllReadyH.cons (o := ⟨_, _, _, _, _, _⟩) rfl (fun K hK => ?_) AllReadyH.nil
  go_simp
  ((with_reducible refine (r3Mul_any a x _ _ _ _ HL.out.1 HL.out.2.2.1 _ n1 n9).mono ?_); rintro e w10 ⟨a10, c10, rfl, n10, f5⟩; replace n1 := Us.fr n1 f5; replace n2 := Us.fr n2 f5)
  refine hK.out _ _ ?_ (fun hHeld => ?_)
  · ((try dsimp only) <;> (first | exact ⟨⟨r0, r1, rs, rd, rm⟩, F.drew⟩ | exact ⟨⟨keep_fr f5 hHeld.1.1, keep_fr f5 hHeld.1.2.1, keep_fr f5 hHeld.1.2.2.1, keep_fr f5 hHeld.1.2.2.2.1, keep_fr f5 hHeld.1.2.2.2.2⟩, hHeld.2.trans' f5⟩))
  clear hK K
  try (simp only [Act.put, List.setIfInBounds_toArray]; dsimp only [List.set_cons_zero, List.set_cons_succ])
  refine wpAnyH_ready (rs := [15]) (by kernel_rfl) (by simp) ?_
  refine AllReadyH.cons (o := ⟨_, _, _, _, _, _⟩) rfl (fun K hK => ?_) AllReadyH.nil
  go_simp
  ((with_reducible refine (HI2.out _ _ _ n10).mono ?_); rintro e w11 ⟨rfl, f5⟩; replace n1 := Us.fr n1 f5; replace n2 := Us.fr n2 f5)
  refine hK.out _ _ ?_ (fun hHeld => ?_)
  · ((try dsimp only) <;> (first | exact ⟨⟨r0, r1, rs, rd, rm⟩, F.drew⟩ | exact ⟨⟨keep_fr f5 hHeld.1.1, keep_fr f5 hHeld.1.2.1, keep_fr f5 hHeld.1.2.2.1, keep_fr f5 hHeld.1.2.2.2.1, keep_fr f5 hHeld.1.2.2.2.2⟩, hHeld.2.trans' f5⟩))
  clear hK K
  try (simp only [Act.put, List.setIfInBounds_toArray]; dsimp only [List.set_cons_zero, List.set_cons_succ])
  refine wpAnyH_take (i := 16) (oi := ⟨_, _, _, _, _, _⟩) (v := ?_) rfl (by kernel_rfl) (by kernel_rfl) (by kernel_rfl) (fun _ _ _ h => h) (Or.inl ⟨by rfl, ?_⟩) (by assumption) ?_
  rotate_left
  · intro w hSw; (try dsimp only at hSw); go_simp; (try (with_reducible rfl)); done
  simp only [Act.put, List.setIfInBounds_toArray]; dsimp only [List.set_cons_zero, List.set_cons_succ]
  refine wpAnyH_take (i := 17) (oi := ⟨_, _, _, _, _, _⟩) (v := ?_) rfl (by kernel_rfl) (by kernel_rfl) (by kernel_rfl) (fun _ _ _ h => h) (Or.inl ⟨by rfl, ?_⟩) (by assumption) ?_
  rotate_left
  · intro w hSw; (try dsimp only at hSw); go_simp; (try (with_reducible rfl)); done
  simp only [Act.put, List.setIfInBounds_toArray]; dsimp only [List.set_cons_zero, List.set_cons_succ]
  refine wpAnyH_take (i := 18) (oi := ⟨_, _, _, _, _, _⟩) (v := ?_) rfl (by kernel_rfl) (by kernel_rfl) (by kernel_rfl) (fun _ _ _ h => h) (Or.inl ⟨by rfl, ?_⟩) (by assumption) ?_
  rotate_left
  · intro w hSw; (try dsimp only at hSw); go_simp; (try (with_reducible rfl)); done
  simp only [Act.put, List.setIfInBounds_toArray]; dsimp only [List.set_cons_zero, List.set_cons_succ]
  refine wpAnyH_take (i := 19) (oi := ⟨_, _, _, _, _, _⟩) (v := ?_) rfl (by kernel_rfl) (by kernel_rfl) (by kernel_rfl) (fun _ _ _ h => h) (Or.inl ⟨by rfl, ?_⟩) (by assumption) ?_
  rotate_left
  · intro w hSw; (try dsimp only at hSw); go_simp; (try (with_reducible rfl)); done
  simp only [Act.put, List.setIfInBounds_toArray]; dsimp only [List.set_cons_zero, List.set_cons_succ]
  refine wpAnyH_take (i := 20) (oi := ⟨_, _, _, _, _, _⟩) (v := ?_) rfl (by kernel_rfl) (by kernel_rfl) (by kernel_rfl) (fun _ _ _ h => h) (Or.inl ⟨by rfl, ?_⟩) (by assumption) ?_
  rotate_left
  · intro w hSw; (try dsimp only at hSw); go_simp; (try (with_reducible rfl)); done
  simp only [Act.put, List.setIfInBounds_toArray]; dsimp only [List.set_cons_zero, List.set_cons_succ]
  refine wpAnyH_take (i := 22) (oi := ⟨_, _, _, _, _, _⟩) (v := ?_) rfl (by kernel_rfl) (by kernel_rfl) (by kernel_rfl) (fun _ _ _ h => h) (Or.inl ⟨by rfl, ?_⟩) (by assumption) ?_
  rotate_left
  · intro w hSw; (try dsimp only at hSw); go_simp; (try (with_reducible rfl)); done
  simp only [Act.put, List.setIfInBounds_toArray]; dsimp only [List.set_cons_zero, List.set_cons_succ]
  refine wpAnyH_take (i := 23) (oi := ⟨_, _, _, _, _, _⟩) (v := ?_) rfl (by kernel_rfl) (by kernel_rfl) (by kernel_rfl) (fun _ _ _ h => h) (Or.inl ⟨by rfl, ?_⟩) (by assumption) ?_
  rotate_left
  · intro w hSw; (try dsimp only at hSw); go_simp; (try (with_reducible rfl)); done
  simp only [Act.put, List.setIfInBounds_toArray]; dsimp only [List.set_cons_zero, List.set_cons_succ]
  refine wpAnyH_take (i := 25) (oi := ⟨_, _, _, _, _, _⟩) (v := ?_) rfl (by kernel_rfl) (by kernel_rfl) (by kernel_rfl) (fun _ _ _ h => h) (Or.inl ⟨by rfl, ?_⟩) (by assumption) ?_
  rotate_left
  · intro w hSw; (try dsimp only at hSw); go_simp; (try (with_reducible rfl)); done
  simp only [Act.put, List.setIfInBounds_toArray]; dsimp only [List.set_cons_zero, List.set_cons_succ]
  refine wpAnyH_take (i := 26) (oi := ⟨_, _, _, _, _, _⟩) (v := ?_) rfl (by kernel_rfl) (by kernel_rfl) (by kernel_rfl) (fun _ _ _ h => h) (Or.inl ⟨by rfl, ?_⟩) (by assumption) ?_
  rotate_left
  · intro w hSw; (try dsimp only at hSw); go_simp; (try (with_reducible rfl)); done
  simp only [Act.put, List.setIfInBounds_toArray]; dsimp only [List.set_cons_zero, List.set_cons_succ]
  refine wpAnyH_ready (rs := [21]) (by kernel_rfl) (by simp) ?_
  refine AllReadyH.cons (o := ⟨_, _, _, _, _, _⟩) rfl (fun K hK => ?_) AllReadyH.nil
  go_simp
  ((with_reducible refine (HP.out _).mono ?_); rintro e w12 ⟨rfl, f5⟩; replace n1 := Us.fr n1 f5; replace n2 := Us.fr n2 f5)
  refine hK.out _ _ ?_ (fun hHeld => ?_)
  · ((try dsimp only) <;> (first | exact ⟨⟨r0, r1, rs, rd, rm⟩, F.drew⟩ | exact ⟨⟨keep_fr f5 hHeld.1.1, keep_fr f5 hHeld.1.2.1, keep_fr f5 hHeld.1.2.2.1, keep_fr f5 hHeld.1.2.2.2.1, keep_fr f5 hHeld.1.2.2.2.2⟩, hHeld.2.trans' f5⟩))
  clear hK K
  try (simp only [Act.put, List.setIfInBounds_toArray]; dsimp only [List.set_cons_zero, List.set_cons_succ])
  refine wpAnyH_ready (rs := [24]) (by kernel_rfl) (by simp) ?_
  refine AllReadyH.cons (o := ⟨_, _, _, _, _, _⟩) rfl (fun K hK => ?_) AllReadyH.nil
  go_simp
  ((with_reducible refine (HOx.out _).mono ?_); rintro e w14 ⟨a14, c14, rfl, n14, f5⟩; replace n1 := Us.fr n1 f5; replace n2 := Us.fr n2 f5)
  refine hK.out _ _ ?_ (fun hHeld => ?_)
  · ((try dsimp only) <;> (first | exact ⟨⟨r0, r1, rs, rd, rm⟩, F.drew⟩ | exact ⟨⟨keep_fr f5 hHeld.1.1, keep_fr f5 hHeld.1.2.1, keep_fr f5 hHeld.1.2.2.1, keep_fr f5 hHeld.1.2.2.2.1, keep_fr f5 hHeld.1.2.2.2.2⟩, hHeld.2.trans' f5⟩))
  clear hK K
  try (simp only [Act.put, List.setIfInBounds_toArray]; dsimp only [List.set_cons_zero, List.set_cons_succ])
  refine wpAnyH_ready (rs := [27]) (by kernel_rfl) (by simp) ?_
  refine AllReadyH.cons (o := ⟨_, _, _, _, _, _⟩) rfl (fun K hK => ?_) AllReadyH.nil
  go_simp
  ((with_reducible refine (HOy.out _).mono ?_); rintro e w16 ⟨a16, c16, rfl, n16, f5⟩; replace n1 := Us.fr n1 f5; replace n2 := Us.fr n2 f5; replace n14 := Us.fr n14 f5)
  refine hK.out _ _ ?_ (fun hHeld => ?_)
  · ((try dsimp only) <;> (first | exact ⟨⟨r0, r1, rs, rd, rm⟩, F.drew⟩ | exact ⟨⟨keep_fr f5 hHeld.1.1, keep_fr f5 hHeld.1.2.1, keep_fr f5 hHeld.1.2.2.1, keep_fr f5 hHeld.1.2.2.2.1, keep_fr f5 hHeld.1.2.2.2.2⟩, hHeld.2.trans' f5⟩))
  clear hK K
  try (simp only [Act.put, List.setIfInBounds_toArray]; dsimp only [List.set_cons_zero, List.set_cons_succ])
  refine wpAnyH_ready (rs := [28]) (by kernel_rfl) (by simp) ?_
  refine AllReadyH.cons (o := ⟨_, _, _, _, _, _⟩) rfl (fun K hK => ?_) AllReadyH.nil
  go_simp
  ((with_reducible refine (r3Mul_any x y _ _ _ _ HL.out.2.2.1 HL.out.2.2.2.1 _ n14 n16).mono ?_); rintro e w17 ⟨a17, c17, rfl, n17, f5⟩; replace n1 := Us.fr n1 f5; replace n2 := Us.fr n2 f5)
  refine hK.out _ _ ?_ (fun hHeld => ?_)
  · ((try dsimp only) <;> (first | exact ⟨⟨r0, r1, rs, rd, rm⟩, F.drew⟩ | exact ⟨⟨keep_fr f5 hHeld.1.1, keep_fr f5 hHeld.1.2.1, keep_fr f5 hHeld.1.2.2.1, keep_fr f5 hHeld.1.2.2.2.1, keep_fr f5 hHeld.1.2.2.2.2⟩, hHeld.2.trans' f5⟩))
  clear hK K
  try (simp only [Act.put, List.setIfInBounds_toArray]; dsimp only [List.set_cons_zero, List.set_cons_succ])
  refine wpAnyH_ready (rs := [29]) (by kernel_rfl) (by simp) ?_
  refine AllReadyH.cons (o := ⟨_, _, _, _, _, _⟩) rfl (fun K hK => ?_) AllReadyH.nil
  go_simp
  ((with_reducible refine (HI3.out _ _ _ n17).mono ?_); rintro e w18 ⟨rfl, f5⟩; replace n1 := Us.fr n1 f5; replace n2 := Us.fr n2 f5)
  refine hK.out _ _ ?_ (fun hHeld => ?_)
  · ((try dsimp only) <;> (first | exact ⟨⟨r0, r1, rs, rd, rm⟩, F.drew⟩ | exact ⟨⟨keep_fr f5 hHeld.1.1, keep_fr f5 hHeld.1.2.1, keep_fr f5 hHeld.1.2.2.1, keep_fr f5 hHeld.1.2.2.2.1, keep_fr f5 hHeld.1.2.2.2.2⟩, hHeld.2.trans' f5⟩))
  clear hK K
  try (simp only [Act.put, List.setIfInBounds_toArray]; dsimp only [List.set_cons_zero, List.set_cons_succ])
  refine wpAnyH_take (i := 30) (oi := ⟨_, _, _, _, _, _⟩) (v := ?_) rfl (by kernel_rfl) (by kernel_rfl) (by kernel_rfl) (fun _ _ _ h => h) (Or.inl ⟨by rfl, ?_⟩) (by assumption) ?_
  rotate_left
  · intro w hSw; (try dsimp only at hSw); go_simp; (try (with_reducible rfl)); done
  simp only [Act.put, List.setIfInBounds_toArray]; dsimp only [List.set_cons_zero, List.set_cons_succ]
  refine wpAnyH_take (i := 31) (oi := ⟨_, _, _, _, _, _⟩) (v := ?_) rfl (by kernel_rfl) (by kernel_rfl) (by kernel_rfl) (fun _ _ _ h => h) (Or.inl ⟨by rfl, ?_⟩) (by assumption) ?_
  rotate_left
  · intro w hSw; (try dsimp only at hSw); go_simp; (try (with_reducible rfl)); done
  simp only [Act.put, List.setIfInBounds_toArray]; dsimp only [List.set_cons_zero, List.set_cons_succ]
  refine wpAnyH_done (by kernel_rfl) ?_ _
  refine NoPanic.normal ?_
  clear r0 r1 rs rd rm F
  obtain ⟨⟨r0, r1, rs, rd, rm⟩, F⟩ := hHeld
  clear HI1 HI2 HI3 HP HOx HOy rs rm n7 n9 n10 n14 n16 n17
  have HC := Lib.hid (fun w h1 h2 => r3Cmp_any a b a1 c1 a2 c2 HL.out.1 HL.out.2.1 w h1 h2)
  obtain ⟨hd, ho2⟩ := HD.out
  obtain ⟨hba, hbb, _⟩ := HB.out
  by_cases hlt : a < b
  · have ez : cmpZ a b = -1 := by unfold cmpZ; rw [if_pos hlt]
    rw [ez] at HC
    have eo : o2 = true := by rw [← ho2]; exact decide_eq_true hlt
    have hd2 : a + W256 - b = d := by rw [← hd]; exact (Nat.mod_eq_of_lt (by omega)).symm
    have hdW : d < W256 := by omega
    have HA2 := Lib.hid (wAdd_any d b hdW hbb)
    rw [show d + b = a + W256 by omega, Nat.add_mod_right, Nat.mod_eq_of_lt hba] at HA2
    generalize decide (W256 ≤ a + W256) = o9 at *
    subst eo
    clear hd ho2 hba hbb hlt ez hd2 hdW HD HB HL HLd
    go_wp2_with fail
    (with_reducible refine (HC.out _ n1 n2).mono ?_)
    rintro e w20 ⟨rfl, hw⟩
    have hw := hw.symm
    subst hw
    go_wp2_with fail
    (with_reducible refine (HA2.out _).mono ?_)
    rintro e w21 ⟨rfl, f⟩
    replace r0 := keep_fr f r0
    have F := F.trans' f
    clear f
    go_upto_region 11 with fail
    obtain ⟨W22, hW⟩ : ∃ W, W = (w21.alloc (.cells (rowN .u64 64 4 0) 24)).setRow w21.heap.size (rowN .u64 64 4 a) := ⟨_, rfl⟩
    refine wp_of_world W22 hW ?_
    have N := put_new w21 (rowN .u64 64 4 0) (rowN .u64 64 4 a) 24
    rw [← hW] at N
    have rb := N.new
    have F := F.trans' N.fr
    replace r0 := N.old r0
    clear N hW
    generalize w21.heap.size = g21 at *
    go_wp2_with fail
    go_ret
    exact ⟨rfl, F⟩
  · have ez : ¬ cmpZ a b < 0 := by unfold cmpZ; rw [if_neg hlt]; split <;> omega
    have eo : o2 = false := by rw [← ho2]; exact decide_eq_false hlt
    have hd2 : d = a - b := by rw [← hd, show a + W256 - b = a - b + W256 by omega, Nat.add_mod_right]; exact Nat.mod_eq_of_lt (by omega)
    have HSb := Lib.hid (fun w h1 h2 => r3Sub_any a b a1 c1 a2 c2 HL.out.1 (Nat.le_of_not_lt hlt) w h1 h2)
    have HI := Lib.hid (fun p c => is03_any d (a - b) false p c (by rw [hd2]; exact (Nat.mod_eq_of_lt (by omega)).symm) (decide_eq_false (by omega)).symm HLd.out)
    generalize cmpZ a b = z at *
    subst eo
    clear hd ho2 hba hbb hlt hd2 HD HB HL HLd
    go_wp2_with fail
    (with_reducible refine (HC.out _ n1 n2).mono ?_)
    rintro e w20 ⟨rfl, hw⟩
    have hw := hw.symm
    subst hw
    go_wp2_with fail
    have fd := (Fr.refl F0 w18).drew
    replace n1 := Us.fr n1 fd
    replace n2 := Us.fr n2 fd
    clear fd
    refine wp_region_noPanic ?_
    refine wp_region_held_drew (S := (fun w' => w'.heap[g13]? = some (.cells (rowN .u64 64 4 d) 24 (0, 0)) ∧ Fr F0 w w')) (by kernel_rfl) ?_ (fun hHeld => ?_)
    · ((try dsimp only) <;> (first | exact ⟨rd, F.drew⟩ | exact ⟨keep_fr f5 hHeld.1, hHeld.2.trans' f5⟩))
    refine wpAnyH_take (i := 0) (oi := ⟨_, _, _, _, _, _⟩) (v := ?_) rfl (by kernel_rfl) (by kernel_rfl) (by kernel_rfl) (fun _ _ _ h => h) (Or.inl ⟨by rfl, ?_⟩) (by assumption) ?_
    rotate_left
    · intro w hSw; (try dsimp only at hSw); go_simp; (try (with_reducible rfl)); done
    simp only [Act.put, List.setIfInBounds_toArray]; dsimp only [List.set_cons_zero, List.set_cons_succ]
    refine wpAnyH_take (i := 1) (oi := ⟨_, _, _, _, _, _⟩) (v := ?_) rfl (by kernel_rfl) (by kernel_rfl) (by kernel_rfl) (fun _ _ _ h => h) (Or.inl ⟨by rfl, ?_⟩) (by assumption) ?_
    rotate_left
    · intro w hSw; (try dsimp only at hSw); go_simp; (try (with_reducible rfl)); done
    simp only [Act.put, List.setIfInBounds_toArray]; dsimp only [List.set_cons_zero, List.set_cons_succ]
    refine wpAnyH_take (i := 2) (oi := ⟨_, _, _, _, _, _⟩) (v := ?_) rfl (by kernel_rfl) (by kernel_rfl) (by kernel_rfl) (fun _ _ _ h => h) (Or.inl ⟨by rfl, ?_⟩) (by assumption) ?_
    rotate_left
    · intro w hSw; (try dsimp only at hSw); go_simp; (try (with_reducible rfl)); done
    simp only [Act.put, List.setIfInBounds_toArray]; dsimp only [List.set_cons_zero, List.set_cons_succ]
    refine wpAnyH_take (i := 3) (oi := ⟨_, _, _, _, _, _⟩) (v := ?_) rfl (by kernel_rfl) (by kernel_rfl) (by kernel_rfl) (fun _ _ _ h => h) (Or.inl ⟨by rfl, ?_⟩) (by assumption) ?_
    rotate_left
    · intro w hSw; (try dsimp only at hSw); go_simp; (try (with_reducible rfl)); done
    simp only [Act.put, List.setIfInBounds_toArray]; dsimp only [List.set_cons_zero, List.set_cons_succ]
    refine wpAnyH_ready (rs := [4]) (by kernel_rfl) (by simp) ?_
    refine AllReadyH.cons (o := ⟨_, _, _, _, _, _⟩) rfl (fun K hK => ?_) AllReadyH.nil
    go_simp
    ((with_reducible refine (HSb.out _ n1 n2).mono ?_); rintro e w23 ⟨a23, c23, rfl, n23, f5⟩)
    refine hK.out _ _ ?_ (fun hHeld => ?_)
    · ((try dsimp only) <;> (first | exact ⟨rd, F.drew⟩ | exact ⟨keep_fr f5 hHeld.1, hHeld.2.trans' f5⟩))
    clear hK K
    try (simp only [Act.put, List.setIfInBounds_toArray]; dsimp only [List.set_cons_zero, List.set_cons_succ])
    refine wpAnyH_ready (rs := [5]) (by kernel_rfl) (by simp) ?_
    refine AllReadyH.cons (o := ⟨_, _, _, _, _, _⟩) rfl (fun K hK => ?_) AllReadyH.nil
    go_simp
    ((with_reducible refine (HI.out _ _ _ n23).mono ?_); rintro e w24 ⟨rfl, f5⟩)
    refine hK.out _ _ ?_ (fun hHeld => ?_)
    · ((try dsimp only) <;> (first | exact ⟨rd, F.drew⟩ | exact ⟨keep_fr f5 hHeld.1, hHeld.2.trans' f5⟩))
    clear hK K
    try (simp only [Act.put, List.setIfInBounds_toArray]; dsimp only [List.set_cons_zero, List.set_cons_succ])
    refine wpAnyH_take (i := 6) (oi := ⟨_, _, _, _, _, _⟩) (v := ?_) rfl (by kernel_rfl) (by kernel_rfl) (by kernel_rfl) (fun _ _ _ h => h) (Or.inl ⟨by rfl, ?_⟩) (by assumption) ?_
    rotate_left
    · intro w hSw; (try dsimp only at hSw); go_simp; (try (with_reducible rfl)); done
    simp only [Act.put, List.setIfInBounds_toArray]; dsimp only [List.set_cons_zero, List.set_cons_succ]
    refine wpAnyH_done (by kernel_rfl) ?_ _
    refine NoPanic.normal ?_
    go_wp2_with fail
    go_ret
    exact ⟨rfl, hHeld.2⟩
end Go.Proofs.Ytbkkfeabofhlnaa
