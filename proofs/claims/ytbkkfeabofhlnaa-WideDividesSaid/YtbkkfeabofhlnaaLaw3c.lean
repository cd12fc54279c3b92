/- Layer 3's law WideDivides, walked. -/
import Derived.Test.YtbkkfeabofhlnaaLaw3b
import Derived.Test.YtbkkfeabofhlnaaRv
namespace Go.Proofs.Ytbkkfeabofhlnaa
set_option linter.unusedVariables false
set_option linter.unusedSimpArgs false
open Go.RowKit

theorem lg_256 {z : Nat} (h : z < W256) : lg z ≤ 16 := lg_minp (n := 16) h

theorem lg_twice {y z : Nat} (hy : y < W256) (h : z < y + y) : lg z ≤ 16 + 1 := by
  have e : W256 = pw 16 := rfl
  rw [e] at hy
  refine lg_minp (n := 16 + 1) ?_
  rw [pw_succ]
  omega

set_option maxRecDepth 100000 in
set_option maxHeartbeats 16000000 in
theorem wideDivides_any (a b : Nat) (ha : a < W256) (hb : b < W256) (w : World) :
    Calls Try.prog 5 #[.agg (rowN .u64 64 4 a), .agg (rowN .u64 64 4 b)] w fun e w' => e = .returned (.bool true) ∧ Fr F0 w w' := by
  have HLv := Lib.hid lives03_any
  obtain ⟨Q, R, E, HD, hcase⟩ : ∃ (Q R : Nat) (E : Int), Hid (∀ w, Calls Try.prog 11 #[.agg (rowN .u64 64 4 a), .agg (rowN .u64 64 4 b)] w fun e w' => e = .returned (.tuple #[.agg (rowN .u64 64 4 Q), .agg (rowN .u64 64 4 R), .int .i64 E]) ∧ Fr F0 w w') ∧
      ((b = 0 ∧ Q = 0 ∧ R = 0 ∧ E = 5) ∨ (0 < b ∧ Q = a / b ∧ R = a % b ∧ E = 0)) := by
    by_cases h0 : b = 0
    · exact ⟨0, 0, 5, Lib.hid (wDiv_zero a b h0), .inl ⟨h0, rfl, rfl, rfl⟩⟩
    · exact ⟨a / b, a % b, 0, Lib.hid (wDiv_any a b ha hb (by omega)), .inr ⟨by omega, rfl, rfl, rfl⟩⟩
  have HC := Lib.hid hcase
  have HAB := Lib.hid (And.intro ha hb)
  clear hcase ha hb
  go_enter Try.func5, Try.ntmps5
  go_wp2_with fail
  obtain ⟨r0, r1⟩ := heap2 w (.cells (rowN .u64 64 4 a) 24) (.cells (rowN .u64 64 4 b) 24)
  refine (HLv.out _).mono ?_
  rintro e w1 ⟨rfl, f1⟩
  replace r0 := f1.keeps (fun f => f) r0
  replace r1 := f1.keeps (fun f => f) r1
  have F := (((Fr.refl F0 w).alloc _).alloc _).trans' f1
  clear f1
  generalize w.heap.size = g0 at *
  generalize g0 + 1 = g1 at *
  go_wp2_with fail
  (with_reducible refine (HD.out _).mono ?_)
  rintro e w2 ⟨rfl, f2⟩
  replace r0 := keep_fr f2 r0
  replace r1 := keep_fr f2 r1
  have F := F.trans' f2
  clear f2
  go_upto_region 4 with fail
  obtain ⟨W3, hW⟩ : ∃ W, W = ((((w2.alloc (.cells (rowN .u64 64 4 0) 24)).alloc (.cells (rowN .u64 64 4 0) 24)).setRow w2.heap.size (rowN .u64 64 4 Q)).setRow (w2.heap.size + 1) (rowN .u64 64 4 R)) := ⟨_, rfl⟩
  refine wp_of_world W3 hW ?_
  have r5 : W3.heap[w2.heap.size]? = some (.cells (rowN .u64 64 4 Q) 24 (0, 0)) := by rw [hW]; exact keep_row (by omega) (new_row (heap_alloc2_old _ _ _))
  have r6 : W3.heap[w2.heap.size + 1]? = some (.cells (rowN .u64 64 4 R) 24 (0, 0)) := by rw [hW]; exact new_row (keep_row (by omega) (heap_alloc2_new _ _ _))
  have l0 := (Array.getElem?_eq_some_iff.1 r0).1
  have l1 := (Array.getElem?_eq_some_iff.1 r1).1
  replace r0 : W3.heap[g0]? = some (.cells (rowN .u64 64 4 a) 24 (0, 0)) := by rw [hW]; exact keep_row (by omega) (keep_row (by omega) (keep_alloc (keep_alloc r0)))
  replace r1 : W3.heap[g1]? = some (.cells (rowN .u64 64 4 b) 24 (0, 0)) := by rw [hW]; exact keep_row (by omega) (keep_row (by omega) (keep_alloc (keep_alloc r1)))
  have f3 : Fr F0 w2 W3 := by rw [hW]; exact ((((Fr.refl F0 w2).alloc _).alloc _).setRow (fun h => by omega) _).setRow (fun h => by omega) _
  have F := F.trans' f3
  clear hW l0 l1 f3
  generalize w2.heap.size + 1 = g6 at *
  generalize w2.heap.size = g5 at *
  have hbn := rowN_nil4 0
  rcases HC.out with ⟨hb0, rfl, rfl, rfl⟩ | ⟨hb0, rfl, rfl, rfl⟩
  · have hz : rowEq 256 b 0 = true := by rw [hb0]; exact rowEq_self _ _
    clear HC HD HAB hb0 HLv
    go_wp2_with fail
    go_ret
    exact ⟨rfl, F⟩
  · obtain ⟨ha, hb⟩ := HAB.out
    have hz : rowEq 256 b 0 = false := by rw [rowEq_of b 0 hb W256_pos]; exact decide_eq_false (by omega)
    have hql : a / b < W256 := Nat.lt_of_le_of_lt (Nat.div_le_self _ _) ha
    have hrl : a % b < W256 := Nat.lt_of_le_of_lt (Nat.mod_le _ _) ha
    have HOa := Lib.hid (r3Of_any a ha)
    have HOb := Lib.hid (r3Of_any b hb)
    have HDv := Lib.hid (fun a1 c1 a2 c2 => r3Div_any a b a1 c1 a2 c2 hb0 (Nat.le_trans (lg_256 ha) (by omega)) (fun z hz => Nat.le_trans (lg_twice hb hz) (by omega)))
    have HI1 := Lib.hid (fun p c => is03_any (a / b) (a / b) false p c (Nat.mod_eq_of_lt hql).symm (decide_eq_false (by omega)).symm (Nat.le_trans (lg_256 hql) (by omega)))
    have HI2 := Lib.hid (fun p c => is03_any (a % b) (a % b) false p c (Nat.mod_eq_of_lt hrl).symm (decide_eq_false (by omega)).symm (Nat.le_trans (lg_256 hrl) (by omega)))
    clear HC HD HAB hb0 HLv ha hb hql hrl
    generalize a / b = Q at *
    generalize a % b = R at *
    go_wp2_with fail
    refine wp_region_noPanic ?_
    refine wp_region_held_drew (S := (fun w' => (w'.heap[g0]? = some (.cells (rowN .u64 64 4 a) 24 (0, 0)) ∧ w'.heap[g1]? = some (.cells (rowN .u64 64 4 b) 24 (0, 0)) ∧ w'.heap[g5]? = some (.cells (rowN .u64 64 4 Q) 24 (0, 0)) ∧ w'.heap[g6]? = some (.cells (rowN .u64 64 4 R) 24 (0, 0))) ∧ Fr F0 w w')) (by kernel_rfl) ?_ (fun hHeld => ?_)
    · ((try dsimp only) <;> (first | exact ⟨⟨r0, r1, r5, r6⟩, F.drew⟩ | exact ⟨⟨keep_fr f5 hHeld.1.1, keep_fr f5 hHeld.1.2.1, keep_fr f5 hHeld.1.2.2.1, keep_fr f5 hHeld.1.2.2.2⟩, hHeld.2.trans' f5⟩))
    refine wpAnyH_take (i := 0) (oi := ⟨_, _, _, _, _, _⟩) (v := ?_) rfl (by kernel_rfl) (by kernel_rfl) (by kernel_rfl) (fun _ _ _ h => h) (Or.inl ⟨by rfl, ?_⟩) (by assumption) ?_
    rotate_left
    · intro w hSw; (try dsimp only at hSw); go_simp; (try (with_reducible rfl)); done
    simp only [Act.put, List.setIfInBounds_toArray]; dsimp only [List.set_cons_zero, List.set_cons_succ]
    refine wpAnyH_take (i := 2) (oi := ⟨_, _, _, _, _, _⟩) (v := ?_) rfl (by kernel_rfl) (by kernel_rfl) (by kernel_rfl) (fun _ _ _ h => h) (Or.inl ⟨by rfl, ?_⟩) (by assumption) ?_
    rotate_left
    · intro w hSw; (try dsimp only at hSw); go_simp; (try (with_reducible rfl)); done
    simp only [Act.put, List.setIfInBounds_toArray]; dsimp only [List.set_cons_zero, List.set_cons_succ]
    refine wpAnyH_ready (rs := [1]) (by kernel_rfl) (by simp) ?_
    refine AllReadyH.cons (o := ⟨_, _, _, _, _, _⟩) rfl (fun K hK => ?_) AllReadyH.nil
    go_simp
    ((with_reducible refine (HOa.out _).mono ?_); rintro e w5 ⟨a1, c1, rfl, n1, f5⟩)
    refine hK.out _ _ ?_ (fun hHeld => ?_)
    · ((try dsimp only) <;> (first | exact ⟨⟨r0, r1, r5, r6⟩, F.drew⟩ | exact ⟨⟨keep_fr f5 hHeld.1.1, keep_fr f5 hHeld.1.2.1, keep_fr f5 hHeld.1.2.2.1, keep_fr f5 hHeld.1.2.2.2⟩, hHeld.2.trans' f5⟩))
    clear hK K
    try (simp only [Act.put, List.setIfInBounds_toArray]; dsimp only [List.set_cons_zero, List.set_cons_succ])
    refine wpAnyH_ready (rs := [3]) (by kernel_rfl) (by simp) ?_
    refine AllReadyH.cons (o := ⟨_, _, _, _, _, _⟩) rfl (fun K hK => ?_) AllReadyH.nil
    go_simp
    ((with_reducible refine (HOb.out _).mono ?_); rintro e w6 ⟨a2, c2, rfl, n2, f5⟩; replace n1 := Us.fr n1 f5)
    refine hK.out _ _ ?_ (fun hHeld => ?_)
    · ((try dsimp only) <;> (first | exact ⟨⟨r0, r1, r5, r6⟩, F.drew⟩ | exact ⟨⟨keep_fr f5 hHeld.1.1, keep_fr f5 hHeld.1.2.1, keep_fr f5 hHeld.1.2.2.1, keep_fr f5 hHeld.1.2.2.2⟩, hHeld.2.trans' f5⟩))
    clear hK K
    try (simp only [Act.put, List.setIfInBounds_toArray]; dsimp only [List.set_cons_zero, List.set_cons_succ])
    refine wpAnyH_ready (rs := [4]) (by kernel_rfl) (by simp) ?_
    refine AllReadyH.cons (o := ⟨_, _, _, _, _, _⟩) rfl (fun K hK => ?_) AllReadyH.nil
    go_simp
    ((with_reducible refine (HDv.out _ _ _ _ _ n1 n2).mono ?_); rintro e w7 ⟨a3, c3, a4, c4, rfl, n3, n4, f5⟩)
    refine hK.out _ _ ?_ (fun hHeld => ?_)
    · ((try dsimp only) <;> (first | exact ⟨⟨r0, r1, r5, r6⟩, F.drew⟩ | exact ⟨⟨keep_fr f5 hHeld.1.1, keep_fr f5 hHeld.1.2.1, keep_fr f5 hHeld.1.2.2.1, keep_fr f5 hHeld.1.2.2.2⟩, hHeld.2.trans' f5⟩))
    clear hK K
    try (simp only [Act.put, List.setIfInBounds_toArray]; dsimp only [List.set_cons_zero, List.set_cons_succ])
    refine wpAnyH_take (i := 5) (oi := ⟨_, _, _, _, _, _⟩) (v := ?_) rfl (by kernel_rfl) (by kernel_rfl) (by kernel_rfl) (fun _ _ _ h => h) (Or.inl ⟨by rfl, ?_⟩) (by assumption) ?_
    rotate_left
    · intro w hSw; (try dsimp only at hSw); go_simp; (try (with_reducible rfl)); done
    simp only [Act.put, List.setIfInBounds_toArray]; dsimp only [List.set_cons_zero, List.set_cons_succ]
    refine wpAnyH_take (i := 6) (oi := ⟨_, _, _, _, _, _⟩) (v := ?_) rfl (by kernel_rfl) (by kernel_rfl) (by kernel_rfl) (fun _ _ _ h => h) (Or.inl ⟨by rfl, ?_⟩) (by assumption) ?_
    rotate_left
    · intro w hSw; (try dsimp only at hSw); go_simp; (try (with_reducible rfl)); done
    simp only [Act.put, List.setIfInBounds_toArray]; dsimp only [List.set_cons_zero, List.set_cons_succ]
    refine wpAnyH_take (i := 7) (oi := ⟨_, _, _, _, _, _⟩) (v := ?_) rfl (by kernel_rfl) (by kernel_rfl) (by kernel_rfl) (fun _ _ _ h => h) (Or.inl ⟨by rfl, ?_⟩) (by assumption) ?_
    rotate_left
    · intro w hSw; (try dsimp only at hSw); go_simp; (try (with_reducible rfl)); done
    simp only [Act.put, List.setIfInBounds_toArray]; dsimp only [List.set_cons_zero, List.set_cons_succ]
    refine wpAnyH_take (i := 8) (oi := ⟨_, _, _, _, _, _⟩) (v := ?_) rfl (by kernel_rfl) (by kernel_rfl) (by kernel_rfl) (fun _ _ _ h => h) (Or.inl ⟨by rfl, ?_⟩) (by assumption) ?_
    rotate_left
    · intro w hSw; (try dsimp only at hSw); go_simp; (try (with_reducible rfl)); done
    simp only [Act.put, List.setIfInBounds_toArray]; dsimp only [List.set_cons_zero, List.set_cons_succ]
    refine wpAnyH_take (i := 9) (oi := ⟨_, _, _, _, _, _⟩) (v := ?_) rfl (by kernel_rfl) (by kernel_rfl) (by kernel_rfl) (fun _ _ _ h => h) (Or.inl ⟨by rfl, ?_⟩) (by assumption) ?_
    rotate_left
    · intro w hSw; (try dsimp only at hSw); go_simp; (try (with_reducible rfl)); done
    simp only [Act.put, List.setIfInBounds_toArray]; dsimp only [List.set_cons_zero, List.set_cons_succ]
    refine wpAnyH_done (by kernel_rfl) ?_ _
    refine NoPanic.normal ?_
    clear r0 r1 r5 r6 F n1 n2
    obtain ⟨⟨r0, r1, r5, r6⟩, F⟩ := hHeld
    go_wp2_with fail
    (with_reducible refine (HI1.out _ _ _ n3).mono ?_)
    rintro e w8 ⟨rfl, f⟩
    replace n4 := Us.fr n4 f
    replace r6 := keep_fr f r6
    have F := F.trans' f
    clear f
    go_wp2_with fail
    (with_reducible refine (HI2.out _ _ _ n4).mono ?_)
    rintro e w9 ⟨rfl, f⟩
    have F := F.trans' f
    go_wp2_with fail
    go_ret
    exact ⟨rfl, F⟩
end Go.Proofs.Ytbkkfeabofhlnaa
