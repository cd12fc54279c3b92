/- Layer 4 (money): parts; its fixed fact. -/
import Derived.Test.YtdmlopffdalhgaaMa
import Derived.Test.YtdmlopffdalhgaaLv3
namespace Go.Proofs.Ytdmlopffdalhgaa
set_option linter.unusedVariables false
set_option linter.unusedSimpArgs false
open Go.RowKit

theorem aPart_arg (a up by' : Nat) (more : Bool) (ha : ¬ a ≤ 4611686018427387904) (w : World) :
    Calls Try.prog 23 #[.int .u64 (a : Int), .int .u64 (up : Int), .int .u64 (by' : Int), .bool more] w fun e w' => e = .returned (.tuple #[.int .u64 0, .int .i64 1]) ∧ Fr F0 w w' := by
  have HA := Lib.hid (aRight_any a false (decide_eq_false ha))
  clear ha
  go_enter Try.func23, Try.ntmps23
  go_wp2_with fail
  (with_reducible refine (HA.out _).mono ?_); rintro e w1 ⟨rfl, rfl⟩
  go_wp2_with fail
  go_ret2
  exact ⟨rfl, Fr.refl _ _⟩

theorem word_wide (x : Nat) (h : x < 2 ^ 64) : x < W256 := Nat.lt_of_lt_of_le h (Nat.pow_le_pow_right (by omega) (by omega))
theorem prod_wide (x y : Nat) (hx : x < 2 ^ 64) (hy : y < 2 ^ 64) : x * y < W256 := Nat.lt_of_lt_of_le (Nat.mul_lt_mul'' hx hy) (by rw [← Nat.pow_add]; exact Nat.pow_le_pow_right (by omega) (by omega))
theorem prod_room (x y : Nat) (hx : x < 2 ^ 64) (hy : y < 2 ^ 64) : x * y + 1 < W256 := by
  have h1 := Nat.mul_lt_mul'' hx hy
  rw [← Nat.pow_add] at h1
  have h2 : 2 ^ (64 + 64) * 2 ≤ W256 := by rw [show 2 ^ (64 + 64) * 2 = 2 ^ 129 from rfl]; exact Nat.pow_le_pow_right (by omega) (by omega)
  generalize 2 ^ (64 + 64) = p at *
  omega

set_option maxRecDepth 100000 in
set_option maxHeartbeats 4000000 in
theorem aPart_zero (a up by' : Nat) (more : Bool) (ha : a ≤ 4611686018427387904) (hup : up < 18446744073709551616) (hb : by' = 0) (w : World) :
    Calls Try.prog 23 #[.int .u64 (a : Int), .int .u64 (up : Int), .int .u64 (by' : Int), .bool more] w fun e w' => e = .returned (.tuple #[.int .u64 0, .int .i64 5]) ∧ Fr F0 w w' := by
  have HA := Lib.hid (aRight_any a true (decide_eq_true ha))
  have HP := Lib.hid (fun w => show Calls Try.prog 31 #[.int .u64 (a : Int), .int .u64 (up : Int)] w _ from wProduct_any a up (by omega) (by omega) w)
  have HO := Lib.hid (fun w => show Calls Try.prog 36 #[.int .u64 (by' : Int)] w _ from wOf_any by' (by omega) w)
  have HD := Lib.hid (fun w => wDiv_zero (a * up) by' hb w)
  clear ha hup hb
  go_enter Try.func23, Try.ntmps23
  go_wp2_with fail
  (with_reducible refine (HA.out _).mono ?_); rintro e w1 ⟨rfl, hw⟩; replace hw := hw.symm; subst hw
  go_wp2_with fail
  (with_reducible refine (HP.out _).mono ?_); rintro e w2 ⟨rfl, f1⟩
  go_wp2_with fail
  (with_reducible refine (HO.out _).mono ?_); rintro e w3 ⟨rfl, f2⟩
  go_wp2_with fail
  (with_reducible refine (HD.out _).mono ?_); rintro e w4 ⟨rfl, f3⟩
  have F := (f1.trans' f2).trans' f3
  clear f1 f2 f3
  go_upto_region 4 with fail
  obtain ⟨W5, hW5⟩ : ∃ W, W = (((w4.alloc (.cells (rowN .u64 64 4 0) 60)).alloc (.cells (rowN .u64 64 4 0) 60)).setRow w4.heap.size (rowN .u64 64 4 0)).setRow (w4.heap.size + 1) (rowN .u64 64 4 0) := ⟨_, rfl⟩
  refine wp_of_world W5 hW5 ?_
  replace F : Fr F0 w W5 := by rw [hW5]; exact ((F.alloc _).alloc _ |>.setRow (fun h => by have := F.size; omega) _).setRow (fun h => by have := F.size; omega) _
  clear hW5
  go_wp2_with fail
  go_ret2
  exact ⟨rfl, F⟩

/-- A part, rounded as asked, of whatever size. -/
def ptQ (a up by' : Nat) (more : Bool) : Nat := if more = true ∧ a * up % by' ≠ 0 then a * up / by' + 1 else a * up / by'
def ptV (a up by' : Nat) (more : Bool) : Nat := if ptQ a up by' more ≤ 4611686018427387904 then ptQ a up by' more else 0
def ptE (a up by' : Nat) (more : Bool) : Int := if ptQ a up by' more ≤ 4611686018427387904 then 0 else 4

set_option maxRecDepth 100000 in
set_option maxHeartbeats 8000000 in
theorem aPart_core (a up by' x Q R q v V : Nat) (E : Int) (ob os or : Bool) (more : Bool)
    (HA : Hid (∀ w, Calls Try.prog 34 #[.int .u64 (a : Int)] w fun e w' => e = .returned (.bool true) ∧ w' = w))
    (HP : Hid (∀ w, Calls Try.prog 31 #[.int .u64 (a : Int), .int .u64 (up : Int)] w fun e w' => e = .returned (.agg (rowN .u64 64 4 x)) ∧ Fr F0 w w'))
    (HO : Hid (∀ w, Calls Try.prog 36 #[.int .u64 (by' : Int)] w fun e w' => e = .returned (.agg (rowN .u64 64 4 by')) ∧ Fr F0 w w'))
    (HO1 : Hid (∀ w, Calls Try.prog 36 #[.int .u64 1] w fun e w' => e = .returned (.agg (rowN .u64 64 4 1)) ∧ Fr F0 w w'))
    (HD : Hid (∀ w, Calls Try.prog 35 #[.agg (rowN .u64 64 4 x), .agg (rowN .u64 64 4 by')] w fun e w' => e = .returned (.tuple #[.agg (rowN .u64 64 4 Q), .agg (rowN .u64 64 4 R), .int .i64 0]) ∧ Fr F0 w w'))
    (HQ : Hid (∀ w, Calls Try.prog 37 #[.agg (rowN .u64 64 4 Q), .agg (rowN .u64 64 4 1)] w fun e w' => e = .returned (.tuple #[.agg (rowN .u64 64 4 (Q + 1)), .bool false]) ∧ Fr F0 w w'))
    (hR : rowEq 256 R 0 = ob) (hq : q = if more = true ∧ ob = false then Q + 1 else Q)
    (HU : Hid (∀ w, Calls Try.prog 38 #[.agg (rowN .u64 64 4 q)] w fun e w' => e = .returned (.tuple #[.int .u64 (v : Int), .bool os]) ∧ Fr F0 w w'))
    (HR : Hid (∀ w, Calls Try.prog 34 #[.int .u64 (v : Int)] w fun e w' => e = .returned (.bool or) ∧ w' = w))
    (hV : V = if (os && or) = true then v else 0) (hE : E = if (os && or) = true then 0 else 4) (w : World) :
    Calls Try.prog 23 #[.int .u64 (a : Int), .int .u64 (up : Int), .int .u64 (by' : Int), .bool more] w fun e w' => e = .returned (.tuple #[.int .u64 (V : Int), .int .i64 E]) ∧ Fr F0 w w' := by
  have HV := Lib.hid (And.intro hV hE)
  clear hV hE
  have Hq := Lib.hid hq
  clear hq
  go_enter Try.func23, Try.ntmps23
  go_wp2_with fail
  (with_reducible refine (HA.out _).mono ?_); rintro e w1 ⟨rfl, hw⟩; replace hw := hw.symm; subst hw
  go_wp2_with fail
  (with_reducible refine (HP.out _).mono ?_); rintro e w2 ⟨rfl, f1⟩
  go_wp2_with fail
  (with_reducible refine (HO.out _).mono ?_); rintro e w3 ⟨rfl, f2⟩
  go_wp2_with fail
  (with_reducible refine (HD.out _).mono ?_); rintro e w4 ⟨rfl, f3⟩
  have F := (f1.trans' f2).trans' f3
  clear f1 f2 f3
  go_upto_region 4 with fail
  obtain ⟨W5, hW5⟩ : ∃ W, W = (((w4.alloc (.cells (rowN .u64 64 4 0) 60)).alloc (.cells (rowN .u64 64 4 0) 60)).setRow w4.heap.size (rowN .u64 64 4 Q)).setRow (w4.heap.size + 1) (rowN .u64 64 4 R) := ⟨_, rfl⟩
  refine wp_of_world W5 hW5 ?_
  have hs := F.size
  replace F : Fr F0 w W5 := by rw [hW5]; exact ((F.alloc _).alloc _ |>.setRow (fun h => by omega) _).setRow (fun h => by omega) _
  obtain ⟨r1, r2⟩ := heap2 w4 (.cells (rowN .u64 64 4 0) 60) (.cells (rowN .u64 64 4 0) 60)
  replace r1 : W5.heap[w4.heap.size]? = some (.cells (rowN .u64 64 4 Q) 60 (0, 0)) := by rw [hW5, heap_setRow_ne _ _ _ _ (by omega), heap_setRow_at, r1]; rfl
  replace r2 : W5.heap[w4.heap.size + 1]? = some (.cells (rowN .u64 64 4 R) 60 (0, 0)) := by rw [hW5, heap_setRow_at, heap_setRow_ne _ _ _ _ (by omega), r2]; rfl
  clear hW5
  generalize hg1 : w4.heap.size = g1 at *
  generalize hg2 : g1 + 1 = g2 at *
  have HG := Lib.hid (show w.heap.size ≤ g1 ∧ g2 ≠ g1 by omega)
  clear hg1 hg2 hs
  cases more
  · have e : q = Q := by rw [Hq.out]; exact if_neg fun h => by cases h.1
    clear Hq
    subst e
    go_wp2_with fail
    (with_reducible refine (HU.out _).mono ?_); rintro e w7 ⟨rfl, f⟩
    replace F := F.trans' f
    clear f r1
    cases os
    · go_wp2_with fail
      go_ret2
      exact ⟨by rw [HV.out.1, HV.out.2]; rfl, F⟩
    · go_wp2_with fail
      (with_reducible refine (HR.out _).mono ?_); rintro e w8 ⟨rfl, hw⟩; replace hw := hw.symm; subst hw
      cases or
      · go_wp2_with fail
        go_ret2
        exact ⟨by rw [HV.out.1, HV.out.2]; rfl, F⟩
      · go_wp2_with fail
        go_ret2
        exact ⟨by rw [HV.out.1, HV.out.2]; rfl, F⟩
  · cases ob
    · have e : q = Q + 1 := by rw [Hq.out]; exact if_pos ⟨rfl, rfl⟩
      rw [← e] at HQ
      clear Hq e
      go_wp2_with fail
      refine wp_region_noPanic ?_
      refine wp_region_held_drew (S := (fun w' => w'.heap[g2]? = some (.cells (rowN .u64 64 4 R) 60 (0, 0)) ∧ Fr F0 w w')) (by kernel_rfl) ?_ (fun hHeld => ?_)
      · ((try dsimp only) <;> (first | exact ⟨r2, F.drew⟩ | exact ⟨keep_fr f5 hHeld.1, hHeld.2.trans' f5⟩ | exact ⟨keep_row HG.out.2 hHeld.1, hHeld.2.setRow (fun h => by have := HG.out.1; omega) _⟩ | exact hHeld))
      refine wpAnyH_ready (rs := [0, 1]) (by kernel_rfl) (by simp) ?_
      refine AllReadyH.cons (o := ⟨_, _, _, _, _, _⟩) rfl (fun K hK => ?_) (AllReadyH.cons (o := ⟨_, _, _, _, _, _⟩) rfl (fun K hK => ?_) AllReadyH.nil)
      go_simp
      refine hK.out _ _ ?_ (fun hHeld => ?_)
      · ((try dsimp only) <;> (first | exact ⟨r2, F.drew⟩ | exact ⟨keep_fr f5 hHeld.1, hHeld.2.trans' f5⟩ | exact ⟨keep_row HG.out.2 hHeld.1, hHeld.2.setRow (fun h => by have := HG.out.1; omega) _⟩ | exact hHeld))
      clear hK K
      try (simp only [Act.put, List.setIfInBounds_toArray]; dsimp only [List.set_cons_zero, List.set_cons_succ])
      refine wpAnyH_ready (rs := [1]) (by kernel_rfl) (by simp) ?_
      refine AllReadyH.cons (o := ⟨_, _, _, _, _, _⟩) rfl (fun K hK => ?_) AllReadyH.nil
      go_simp
      ((with_reducible refine (HO1.out _).mono ?_); rintro e w5 ⟨rfl, f5⟩; replace r1 := keep_fr f5 r1)
      refine hK.out _ _ ?_ (fun hHeld => ?_)
      · ((try dsimp only) <;> (first | exact ⟨r2, F.drew⟩ | exact ⟨keep_fr f5 hHeld.1, hHeld.2.trans' f5⟩ | exact ⟨keep_row HG.out.2 hHeld.1, hHeld.2.setRow (fun h => by have := HG.out.1; omega) _⟩ | exact hHeld))
      clear hK K
      try (simp only [Act.put, List.setIfInBounds_toArray]; dsimp only [List.set_cons_zero, List.set_cons_succ])
      refine wpAnyH_ready (rs := [2]) (by kernel_rfl) (by simp) ?_
      refine AllReadyH.cons (o := ⟨_, _, _, _, _, _⟩) rfl (fun K hK => ?_) AllReadyH.nil
      go_simp
      ((with_reducible refine (HQ.out _).mono ?_); rintro e w6 ⟨rfl, f5⟩; replace r1 := keep_fr f5 r1)
      refine hK.out _ _ ?_ (fun hHeld => ?_)
      · ((try dsimp only) <;> (first | exact ⟨r2, F.drew⟩ | exact ⟨keep_fr f5 hHeld.1, hHeld.2.trans' f5⟩ | exact ⟨keep_row HG.out.2 hHeld.1, hHeld.2.setRow (fun h => by have := HG.out.1; omega) _⟩ | exact hHeld))
      clear hK K
      try (simp only [Act.put, List.setIfInBounds_toArray]; dsimp only [List.set_cons_zero, List.set_cons_succ])
      refine wpAnyH_take (i := 3) (oi := ⟨_, _, _, _, _, _⟩) (v := ?_) rfl (by kernel_rfl) (by kernel_rfl) (by kernel_rfl) (fun _ _ _ h => h) (Or.inl ⟨by rfl, ?_⟩) (by assumption) ?_
      rotate_left
      · intro w hSw; (try dsimp only at hSw); go_simp; (try (with_reducible rfl)); done
      simp only [Act.put, List.setIfInBounds_toArray]; dsimp only [List.set_cons_zero, List.set_cons_succ]
      refine wpAnyH_take (i := 4) (oi := ⟨_, _, _, _, _, _⟩) (v := ?_) rfl (by kernel_rfl) (by kernel_rfl) (by kernel_rfl) (fun _ _ _ h => h) (Or.inl ⟨by rfl, ?_⟩) (by assumption) ?_
      rotate_left
      · intro w hSw; (try dsimp only at hSw); go_simp; (try (with_reducible rfl)); done
      simp only [Act.put, List.setIfInBounds_toArray]; dsimp only [List.set_cons_zero, List.set_cons_succ]
      refine wpAnyH_take (i := 5) (oi := ⟨_, _, _, _, _, _⟩) (v := ?_) rfl (by kernel_rfl) (by kernel_rfl) (by kernel_rfl) (fun _ _ _ h => h) (Or.inl ⟨by rfl, ?_⟩) (by assumption) ?_
      rotate_left
      · intro w hSw; (try dsimp only at hSw); go_simp; (try (with_reducible rfl)); done
      simp only [Act.put, List.setIfInBounds_toArray]; dsimp only [List.set_cons_zero, List.set_cons_succ]
      refine wpAnyH_ready (rs := [6]) (by kernel_rfl) (by simp) ?_
      refine AllReadyH.cons (o := ⟨_, _, _, _, _, _⟩) rfl (fun K hK => ?_) AllReadyH.nil
      go_simp
      refine hK.out _ _ ?_ (fun hHeld => ?_)
      · ((try dsimp only) <;> (first | exact ⟨r2, F.drew⟩ | exact ⟨keep_fr f5 hHeld.1, hHeld.2.trans' f5⟩ | exact ⟨keep_row HG.out.2 hHeld.1, hHeld.2.setRow (fun h => by have := HG.out.1; omega) _⟩ | exact hHeld))
      clear hK K
      try (simp only [Act.put, List.setIfInBounds_toArray]; dsimp only [List.set_cons_zero, List.set_cons_succ])
      refine wpAnyH_done (by kernel_rfl) ?_ _
      refine NoPanic.normal ?_
      rotate_left
      go_simp
      ((with_reducible refine (HO1.out _).mono ?_); rintro e w5 ⟨rfl, f5⟩; replace r1 := keep_fr f5 r1)
      refine hK.out _ _ ?_ (fun hHeld => ?_)
      · ((try dsimp only) <;> (first | exact ⟨r2, F.drew⟩ | exact ⟨keep_fr f5 hHeld.1, hHeld.2.trans' f5⟩ | exact ⟨keep_row HG.out.2 hHeld.1, hHeld.2.setRow (fun h => by have := HG.out.1; omega) _⟩ | exact hHeld))
      clear hK K
      try (simp only [Act.put, List.setIfInBounds_toArray]; dsimp only [List.set_cons_zero, List.set_cons_succ])
      refine wpAnyH_ready (rs := [0]) (by kernel_rfl) (by simp) ?_
      refine AllReadyH.cons (o := ⟨_, _, _, _, _, _⟩) rfl (fun K hK => ?_) AllReadyH.nil
      go_simp
      refine hK.out _ _ ?_ (fun hHeld => ?_)
      · ((try dsimp only) <;> (first | exact ⟨r2, F.drew⟩ | exact ⟨keep_fr f5 hHeld.1, hHeld.2.trans' f5⟩ | exact ⟨keep_row HG.out.2 hHeld.1, hHeld.2.setRow (fun h => by have := HG.out.1; omega) _⟩ | exact hHeld))
      clear hK K
      try (simp only [Act.put, List.setIfInBounds_toArray]; dsimp only [List.set_cons_zero, List.set_cons_succ])
      refine wpAnyH_ready (rs := [2]) (by kernel_rfl) (by simp) ?_
      refine AllReadyH.cons (o := ⟨_, _, _, _, _, _⟩) rfl (fun K hK => ?_) AllReadyH.nil
      go_simp
      ((with_reducible refine (HQ.out _).mono ?_); rintro e w6 ⟨rfl, f5⟩; replace r1 := keep_fr f5 r1)
      refine hK.out _ _ ?_ (fun hHeld => ?_)
      · ((try dsimp only) <;> (first | exact ⟨r2, F.drew⟩ | exact ⟨keep_fr f5 hHeld.1, hHeld.2.trans' f5⟩ | exact ⟨keep_row HG.out.2 hHeld.1, hHeld.2.setRow (fun h => by have := HG.out.1; omega) _⟩ | exact hHeld))
      clear hK K
      try (simp only [Act.put, List.setIfInBounds_toArray]; dsimp only [List.set_cons_zero, List.set_cons_succ])
      refine wpAnyH_take (i := 3) (oi := ⟨_, _, _, _, _, _⟩) (v := ?_) rfl (by kernel_rfl) (by kernel_rfl) (by kernel_rfl) (fun _ _ _ h => h) (Or.inl ⟨by rfl, ?_⟩) (by assumption) ?_
      rotate_left
      · intro w hSw; (try dsimp only at hSw); go_simp; (try (with_reducible rfl)); done
      simp only [Act.put, List.setIfInBounds_toArray]; dsimp only [List.set_cons_zero, List.set_cons_succ]
      refine wpAnyH_take (i := 4) (oi := ⟨_, _, _, _, _, _⟩) (v := ?_) rfl (by kernel_rfl) (by kernel_rfl) (by kernel_rfl) (fun _ _ _ h => h) (Or.inl ⟨by rfl, ?_⟩) (by assumption) ?_
      rotate_left
      · intro w hSw; (try dsimp only at hSw); go_simp; (try (with_reducible rfl)); done
      simp only [Act.put, List.setIfInBounds_toArray]; dsimp only [List.set_cons_zero, List.set_cons_succ]
      refine wpAnyH_take (i := 5) (oi := ⟨_, _, _, _, _, _⟩) (v := ?_) rfl (by kernel_rfl) (by kernel_rfl) (by kernel_rfl) (fun _ _ _ h => h) (Or.inl ⟨by rfl, ?_⟩) (by assumption) ?_
      rotate_left
      · intro w hSw; (try dsimp only at hSw); go_simp; (try (with_reducible rfl)); done
      simp only [Act.put, List.setIfInBounds_toArray]; dsimp only [List.set_cons_zero, List.set_cons_succ]
      refine wpAnyH_ready (rs := [6]) (by kernel_rfl) (by simp) ?_
      refine AllReadyH.cons (o := ⟨_, _, _, _, _, _⟩) rfl (fun K hK => ?_) AllReadyH.nil
      go_simp
      refine hK.out _ _ ?_ (fun hHeld => ?_)
      · ((try dsimp only) <;> (first | exact ⟨r2, F.drew⟩ | exact ⟨keep_fr f5 hHeld.1, hHeld.2.trans' f5⟩ | exact ⟨keep_row HG.out.2 hHeld.1, hHeld.2.setRow (fun h => by have := HG.out.1; omega) _⟩ | exact hHeld))
      clear hK K
      try (simp only [Act.put, List.setIfInBounds_toArray]; dsimp only [List.set_cons_zero, List.set_cons_succ])
      refine wpAnyH_done (by kernel_rfl) ?_ _
      refine NoPanic.normal ?_
      rotate_left
      all_goals
        clear F
        obtain ⟨_, F⟩ := hHeld
        replace r1 := new_row (c := rowN .u64 64 4 q) r1
        generalize World.setRow _ g1 (rowN .u64 64 4 q) = W8 at *
        go_wp2_with fail
        (with_reducible refine (HU.out _).mono ?_); rintro e w7 ⟨rfl, f⟩
        replace F := F.trans' f
        clear f r1
        cases os
        · go_wp2_with fail
          go_ret2
          exact ⟨by rw [HV.out.1, HV.out.2]; rfl, F⟩
        · go_wp2_with fail
          (with_reducible refine (HR.out _).mono ?_); rintro e w8 ⟨rfl, hw⟩; replace hw := hw.symm; subst hw
          cases or
          · go_wp2_with fail
            go_ret2
            exact ⟨by rw [HV.out.1, HV.out.2]; rfl, F⟩
          · go_wp2_with fail
            go_ret2
            exact ⟨by rw [HV.out.1, HV.out.2]; rfl, F⟩
    · have e : q = Q := by rw [Hq.out]; exact if_neg fun h => by cases h.2
      clear Hq
      subst e
      go_wp2_with fail
      (with_reducible refine (HU.out _).mono ?_); rintro e w7 ⟨rfl, f⟩
      replace F := F.trans' f
      clear f r1
      cases os
      · go_wp2_with fail
        go_ret2
        exact ⟨by rw [HV.out.1, HV.out.2]; rfl, F⟩
      · go_wp2_with fail
        (with_reducible refine (HR.out _).mono ?_); rintro e w8 ⟨rfl, hw⟩; replace hw := hw.symm; subst hw
        cases or
        · go_wp2_with fail
          go_ret2
          exact ⟨by rw [HV.out.1, HV.out.2]; rfl, F⟩
        · go_wp2_with fail
          go_ret2
          exact ⟨by rw [HV.out.1, HV.out.2]; rfl, F⟩
end Go.Proofs.Ytdmlopffdalhgaa
