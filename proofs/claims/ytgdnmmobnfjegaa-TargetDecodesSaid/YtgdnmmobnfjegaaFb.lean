/- Layer 3 (wide): a number of bytes. -/
import Derived.Test.YtgdnmmobnfjegaaBy
namespace Go.Proofs.Ytgdnmmobnfjegaa
set_option linter.unusedVariables false
set_option linter.unusedSimpArgs false
open Go.RowKit

theorem fb_step (x i : Nat) (hi : i < 32) :
    let A := x % 2 ^ (8 * i)
    dgt 64 A (i / 8) < 2 ^ (i % 8 * 8) ∧ dgt 64 A (i / 8) + dgt 8 x i * 2 ^ (i % 8 * 8) < 2 ^ 64 ∧ putw 64 A (i / 8) (dgt 64 A (i / 8) + dgt 8 x i * 2 ^ (i % 8 * 8)) = x % 2 ^ (8 * (i + 1)) := by
  intro A
  obtain ⟨q, hq⟩ : ∃ q, q = i / 8 := ⟨_, rfl⟩
  obtain ⟨r, hr⟩ : ∃ r, r = i % 8 := ⟨_, rfl⟩
  rw [← hq, ← hr]
  have hA : A < 2 ^ (64 * q + r * 8) := by
    have : A < 2 ^ (8 * i) := Nat.mod_lt _ (Nat.two_pow_pos _)
    rwa [show 8 * i = 64 * q + r * 8 by omega] at this
  have hr8 : r < 8 := by omega
  have hA1 : A < 2 ^ (64 * (q + 1)) := Nat.lt_of_lt_of_le hA (Nat.pow_le_pow_right (by omega) (by omega))
  have hm : dgt 64 A q = A / 2 ^ (64 * q) := by
    unfold dgt
    refine Nat.mod_eq_of_lt ?_
    rw [Nat.div_lt_iff_lt_mul (Nat.two_pow_pos _), ← Nat.pow_add]
    rwa [show 64 + 64 * q = 64 * (q + 1) by omega]
  have hml : A / 2 ^ (64 * q) < 2 ^ (r * 8) := by
    rw [Nat.div_lt_iff_lt_mul (Nat.two_pow_pos _), ← Nat.pow_add, Nat.add_comm]
    exact hA
  have hc := dgt_lt 8 x i
  have hA3 := mod_succ 8 x i
  have hpow : 2 ^ (8 * i) = 2 ^ (64 * q) * 2 ^ (r * 8) := by rw [← Nat.pow_add]; congr 1; omega
  have hsplit : A % 2 ^ (64 * q) + 2 ^ (64 * q) * (A / 2 ^ (64 * q)) = A := Nat.mod_add_div _ _
  have hz : A / 2 ^ (64 * (q + 1)) = 0 := Nat.div_eq_of_lt hA1
  rw [hm]
  generalize dgt 8 x i = c at *
  generalize A / 2 ^ (64 * q) = m at *
  refine ⟨hml, ?_, ?_⟩
  · have h1 : (c + 1) * 2 ^ (r * 8) ≤ 2 ^ 8 * 2 ^ (r * 8) := Nat.mul_le_mul_right _ hc
    have h2 : 2 ^ 8 * 2 ^ (r * 8) ≤ 2 ^ 64 := by rw [← Nat.pow_add]; exact Nat.pow_le_pow_right (by omega) (by omega)
    rw [Nat.add_mul, Nat.one_mul] at h1
    generalize c * 2 ^ (r * 8) = u at *
    generalize 2 ^ (r * 8) = t at *
    omega
  · have e : 2 ^ (64 * q) * (c * 2 ^ (r * 8)) = 2 ^ (8 * i) * c := by rw [hpow, Nat.mul_assoc, Nat.mul_comm c]
    rw [putw, hz, Nat.mul_zero, Nat.add_zero, Nat.mul_add, ← Nat.add_assoc, hsplit, e, hA3]

theorem or_sum (m c s : Nat) (hm : m < 2 ^ s) (h : m + c * 2 ^ s < 2 ^ 64) : bits BinOp.or IntKind.u64 (m : Int) (IntKind.u64.wrap ((c : Int) * 2 ^ s)) = ((m + c * 2 ^ s : Nat) : Int) := by
  have e : IntKind.u64.wrap ((c : Int) * 2 ^ s) = ((c * 2 ^ s : Nat) : Int) := by
    have : (c : Int) * 2 ^ s = ((c * 2 ^ s : Nat) : Int) := by rw [Int.natCast_mul, Int.natCast_pow]; rfl
    rw [this]
    exact IntWalk.u64_in _ (by omega)
  rw [e, u64_or_nat _ _ (by omega) (by omega)]
  congr 1
  have := Nat.shiftLeft_add_eq_or_of_lt (a := c) (i := s) (b := m) hm
  rw [Nat.shiftLeft_eq] at this
  rw [Nat.or_comm, ← this, Nat.add_comm]

set_option maxRecDepth 100000 in
set_option maxHeartbeats 4000000 in
theorem wFromBytes_any (x : Nat) (hx : x < W256) (w : World) :
    Calls Try.prog 27 #[.agg (rowN .u8 8 32 x)] w fun e w' => e = .returned (.agg (rowN .u64 64 4 x)) ∧ Fr F0 w w' := by
  have HA := Lib.hid (show x % 2 ^ (8 * 32) = x from Nat.mod_eq_of_lt hx)
  clear hx
  go_enter Try.func27, Try.ntmps27
  go_upto_region 2 with fail
  obtain ⟨W1, hW1⟩ : ∃ W1, W1 = ((w.alloc (.cells (rowN .u8 8 32 x) 25)).alloc (.cells (rowN .u64 64 4 0) 24)).alloc (.cells (rowN .u64 64 4 0) 24) := ⟨_, rfl⟩
  refine wp_of_world W1 hW1 ?_
  have f1 : Fr F0 w W1 := by rw [hW1]; exact (((Fr.refl F0 w).alloc _).alloc _).alloc _
  obtain ⟨r0, r1, r2⟩ := heap3 w (.cells (rowN .u8 8 32 x) 25) (.cells (rowN .u64 64 4 0) 24) (.cells (rowN .u64 64 4 0) 24)
  rw [← hW1] at r0 r1 r2
  clear hW1
  generalize hg0 : w.heap.size = g0 at *
  generalize hg1 : g0 + 1 = g1 at *
  generalize hg2 : g1 + 1 = g2 at *
  have n1 : g1 ≠ g2 := by omega
  have HG := Lib.hid (show w.heap.size ≤ g1 ∧ w.heap.size ≤ g2 by omega)
  clear hg0 hg1 hg2
  go_wp2_with fail
  go_loopw [7] (fun iv wr => ∃ i : Nat, i ≤ 32 ∧ iv = .int .i64 i ∧ wr.heap[g1]? = some (.cells (rowN .u64 64 4 0) 24 (0, 0)) ∧ wr.heap[g2]? = some (.cells (rowN .u64 64 4 (x % 2 ^ (8 * i))) 24 (0, 0)) ∧ Fr F0 w wr) (fun iv _ => 32 - (intOf iv).toNat)
  case atStart => exact ⟨0, by omega, rfl, r1, by simpa [Nat.mod_one] using r2, f1⟩
  case round =>
    clear r0 r1 r2 f1
    obtain ⟨i, hi, rfl, r1, r2, f1⟩ := hrel
    by_cases hi32 : i < 32
    · have li : (i : Int) < 32 := by omega
      obtain ⟨h1, h2, h3⟩ := fb_step x i hi32
      have hd8 := dgt_lt 8 x i
      obtain ⟨q, hq⟩ : ∃ q, q = i / 8 := ⟨_, rfl⟩
      obtain ⟨r, hr⟩ : ∃ r, r = i % 8 := ⟨_, rfl⟩
      obtain ⟨s, hs⟩ : ∃ s, s = r * 8 := ⟨_, rfl⟩
      rw [← hq, ← hr, ← hs] at h1 h2 h3
      have eq1 : (i : Int) / 8 = (q : Int) := by omega
      have eq2 : Int.tdiv (i : Int) 8 = (q : Int) := by rw [Int.tdiv_eq_ediv_of_nonneg (by omega)]; omega
      have er1 : (i : Int) % 8 = (r : Int) := by omega
      have er2 : Int.tmod (i : Int) 8 = (r : Int) := by rw [Int.tmod_eq_emod_of_nonneg (by omega)]; omega
      have es : IntKind.i64.wrap ((r : Int) * 8) = (s : Int) := by rw [IntWalk.i64_in _ (by omega)]; omega
      have lq : (q : Int) < 4 := by omega
      have lqn : q < 4 := by omega
      have ls : (s : Int) ≤ 64 := by omega
      have ewq : IntKind.i64.wrap (q : Int) = (q : Int) := IntWalk.i64_in _ (by omega)
      have ewr : IntKind.i64.wrap (r : Int) = (r : Int) := IntWalk.i64_in _ (by omega)
      have ls0 : ¬ (s : Int) < 0 := by omega
      generalize hz : x % 2 ^ (8 * i) = z at *
      generalize hz2 : x % 2 ^ (8 * (i + 1)) = z2 at *
      have HZ2 := Lib.hid hz2
      have ho := or_sum _ _ _ h1 h2
      obtain ⟨c, hc⟩ : ∃ c, c = dgt 8 x i := ⟨_, rfl⟩
      rw [← hc] at ho h2 h3 hd8
      replace hc := hc.symm
      obtain ⟨m, hm⟩ : ∃ m, m = dgt 64 z q := ⟨_, rfl⟩
      rw [← hm] at ho h1 h2 h3
      replace hm := hm.symm
      generalize hv : m + c * 2 ^ s = v at *
      have HV := Lib.hid (And.intro h2 h3)
      have cw : IntKind.u64.wrap (c : Int) = (c : Int) := IntWalk.u64_in _ (by omega)
      clear hq hr hs hz hz2 h1 h2 h3 hv
      go_wp2_with fail
      refine wp_region_noPanic ?_
      refine wp_region_held_drew (S := (fun w' => w'.heap[g1]? = some (.cells (rowN .u64 64 4 0) 24 (0, 0)))) (by kernel_rfl) ?_ (fun hHeld => ?_)
      · ((try dsimp only) <;> (first | exact r1 | exact hHeld | (simp only [heap_drew']; rw [heap_setCell_ne' _ _ _ _ _ n1]; assumption)))
      refine wpAnyH_take (i := 0) (oi := ⟨_, _, _, _, _, _⟩) (v := ?_) rfl (by kernel_rfl) (by kernel_rfl) (by kernel_rfl) (fun _ _ _ h => h) (Or.inl ⟨by rfl, ?_⟩) (by assumption) ?_
      rotate_left
      · intro w hSw; (try dsimp only at hSw); go_simp; (try (with_reducible rfl)); done
      simp only [Act.put, List.setIfInBounds_toArray]; dsimp only [List.set_cons_zero, List.set_cons_succ]
      refine wpAnyH_take (i := 1) (oi := ⟨_, _, _, _, _, _⟩) (v := ?_) rfl (by kernel_rfl) (by kernel_rfl) (by kernel_rfl) (fun _ _ _ h => h) (Or.inl ⟨by rfl, ?_⟩) (by assumption) ?_
      rotate_left
      · intro w hSw; (try dsimp only at hSw); go_simp; (try (with_reducible rfl)); done
      simp only [Act.put, List.setIfInBounds_toArray]; dsimp only [List.set_cons_zero, List.set_cons_succ]
      refine wpAnyH_take (i := 2) (oi := ⟨_, _, _, _, _, _⟩) (v := ?_) rfl (by kernel_rfl) (by kernel_rfl) (by kernel_rfl) (fun _ _ _ h => h) (Or.inl ⟨by rfl, ?_⟩) (by assumption) ?_
      rotate_left
      · intro w hSw; (try dsimp only at hSw); go_simp; (try (with_reducible rfl)); done
      simp only [Act.put, List.setIfInBounds_toArray]; dsimp only [List.set_cons_zero, List.set_cons_succ]
      refine wpAnyH_take (i := 4) (oi := ⟨_, _, _, _, _, _⟩) (v := ?_) rfl (by kernel_rfl) (by kernel_rfl) (by kernel_rfl) (fun _ _ _ h => h) (Or.inl ⟨by rfl, ?_⟩) (by assumption) ?_
      rotate_left
      · intro w hSw; (try dsimp only at hSw); go_simp; (try (with_reducible rfl)); done
      simp only [Act.put, List.setIfInBounds_toArray]; dsimp only [List.set_cons_zero, List.set_cons_succ]
      refine wpAnyH_take (i := 5) (oi := ⟨_, _, _, _, _, _⟩) (v := ?_) rfl (by kernel_rfl) (by kernel_rfl) (by kernel_rfl) (fun _ _ _ h => h) (Or.inl ⟨by rfl, ?_⟩) (by assumption) ?_
      rotate_left
      · intro w hSw; (try dsimp only at hSw); go_simp; (try (with_reducible rfl)); done
      simp only [Act.put, List.setIfInBounds_toArray]; dsimp only [List.set_cons_zero, List.set_cons_succ]
      refine wpAnyH_take (i := 6) (oi := ⟨_, _, _, _, _, _⟩) (v := ?_) rfl (by kernel_rfl) (by kernel_rfl) (by kernel_rfl) (fun _ _ _ h => h) (Or.inl ⟨by rfl, ?_⟩) (by assumption) ?_
      rotate_left
      · intro w hSw; (try dsimp only at hSw); go_simp; (try (with_reducible rfl)); done
      simp only [Act.put, List.setIfInBounds_toArray]; dsimp only [List.set_cons_zero, List.set_cons_succ]
      refine wpAnyH_take (i := 7) (oi := ⟨_, _, _, _, _, _⟩) (v := ?_) rfl (by kernel_rfl) (by kernel_rfl) (by kernel_rfl) (fun _ _ _ h => h) (Or.inl ⟨by rfl, ?_⟩) (by assumption) ?_
      rotate_left
      · intro w hSw; (try dsimp only at hSw); go_simp; (try (with_reducible rfl)); done
      simp only [Act.put, List.setIfInBounds_toArray]; dsimp only [List.set_cons_zero, List.set_cons_succ]
      refine wpAnyH_take (i := 8) (oi := ⟨_, _, _, _, _, _⟩) (v := ?_) rfl (by kernel_rfl) (by kernel_rfl) (by kernel_rfl) (fun _ _ _ h => h) (Or.inl ⟨by rfl, ?_⟩) (by assumption) ?_
      rotate_left
      · intro w hSw; (try dsimp only at hSw); go_simp; (try (with_reducible rfl)); done
      simp only [Act.put, List.setIfInBounds_toArray]; dsimp only [List.set_cons_zero, List.set_cons_succ]
      refine wpAnyH_take (i := 9) (oi := ⟨_, _, _, _, _, _⟩) (v := ?_) rfl (by kernel_rfl) (by kernel_rfl) (by kernel_rfl) (fun _ _ _ h => h) (Or.inl ⟨by rfl, ?_⟩) (by assumption) ?_
      rotate_left
      · intro w hSw; (try dsimp only at hSw); go_simp; (try (with_reducible rfl)); done
      simp only [Act.put, List.setIfInBounds_toArray]; dsimp only [List.set_cons_zero, List.set_cons_succ]
      refine wpAnyH_ready (rs := [3]) (by kernel_rfl) (by simp) ?_
      refine AllReadyH.cons (o := ⟨_, _, _, _, _, _⟩) rfl (fun K hK => ?_) AllReadyH.nil
      go_simp
      refine hK.out _ _ ?_ (fun hHeld => ?_)
      · ((try dsimp only) <;> (first | exact r1 | exact hHeld | (simp only [heap_drew']; rw [heap_setCell_ne' _ _ _ _ _ n1]; assumption)))
      clear hK K
      try (simp only [Act.put, List.setIfInBounds_toArray]; dsimp only [List.set_cons_zero, List.set_cons_succ])
      refine wpAnyH_take (i := 10) (oi := ⟨_, _, _, _, _, _⟩) (v := ?_) rfl (by kernel_rfl) (by kernel_rfl) (by kernel_rfl) (fun _ _ _ h => h) (Or.inl ⟨by rfl, ?_⟩) (by assumption) ?_
      rotate_left
      · intro w hSw; (try dsimp only at hSw); go_simp; (try (with_reducible rfl)); done
      simp only [Act.put, List.setIfInBounds_toArray]; dsimp only [List.set_cons_zero, List.set_cons_succ]
      refine wpAnyH_take (i := 11) (oi := ⟨_, _, _, _, _, _⟩) (v := ?_) rfl (by kernel_rfl) (by kernel_rfl) (by kernel_rfl) (fun _ _ _ h => h) (Or.inl ⟨by rfl, ?_⟩) (by assumption) ?_
      rotate_left
      · intro w hSw; (try dsimp only at hSw); go_simp; (try (with_reducible rfl)); done
      simp only [Act.put, List.setIfInBounds_toArray]; dsimp only [List.set_cons_zero, List.set_cons_succ]
      refine wpAnyH_ready (rs := [12]) (by kernel_rfl) (by simp) ?_
      refine AllReadyH.cons (o := ⟨_, _, _, _, _, _⟩) rfl (fun K hK => ?_) AllReadyH.nil
      go_simp
      refine hK.out _ _ ?_ (fun hHeld => ?_)
      · ((try dsimp only) <;> (first | exact r1 | exact hHeld | (simp only [heap_drew']; rw [heap_setCell_ne' _ _ _ _ _ n1]; assumption)))
      clear hK K
      try (simp only [Act.put, List.setIfInBounds_toArray]; dsimp only [List.set_cons_zero, List.set_cons_succ])
      refine wpAnyH_done (by kernel_rfl) ?_ _
      refine NoPanic.normal ?_
      all_goals
        go_wp2
        go_roundw
        case rel =>
          refine ⟨i + 1, by omega, by go_num, ?_, ?_, ((f1.setCell (p := ⟨g2, q, none⟩) (fun h => by have := HG.out; simp only at h; omega) _).drew)⟩
          · rw [heap_drew', heap_setCell_ne' _ _ _ _ _ n1]; exact r1
          · rw [heap_drew', heap_setCell_at, r2, withCell_cells, set_word _ _ _ HV.out.1, HV.out.2, HZ2.out]
        case measure => simp [intOf]; omega
    · obtain rfl : i = 32 := by omega
      rw [HA.out] at r2
      go_wp2
      refine bodyPost_ret (results_cell_row rfl _ _ g1 _ _ _ _ rfl (by rw [heap_setRow_at, r1]; rfl) Try.underlying24 rfl (by rw [Try.szWide]; rfl)) rfl ⟨rfl, ?_⟩
      exact f1.setRow (fun h => by have := HG.out; omega) _
end Go.Proofs.Ytgdnmmobnfjegaa
