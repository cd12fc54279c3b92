/- Stage 2, digest: after. -/
import Derived.Test.YtkppakhjfagdnaaDoorDigB
namespace Go.Proofs.YtkppakhjfagdnaaDoor
set_option linter.unusedVariables false
set_option linter.unusedSimpArgs false
open Go.RowKit

attribute [local go_sem high] wdv_and wdv_or wdv_xor wdv_not wdv_add wdv_shl wdv_shr wdv_to8 wdv_of8

/-- The table of the cube roots, in memory. -/
def Cub (w : World) : Prop := ∀ j, j < 64 → w.cell? ⟨0, j, none⟩ = some (.int .u32 (wi (cubesL.getD j 0)))

theorem Cub.lt {w : World} (h : Cub w) : 0 < w.heap.size := World.block_lt_of_cell? w ⟨0, 0, none⟩ (h 0 (by omega))
theorem Cub.fr {S : Nat → Prop} {w w' : World} (h : Cub w) (hf : Fr S w w') (hs : ¬ S 0) : Cub w' := fun j hj => hf.cell (p := ⟨0, j, none⟩) hs (h j hj)

theorem rnds_out (bs : List UInt8) (va vb vc vd ve vf vg vh : Wd) (l : List Wd) (h : rnds bs [va, vb, vc, vd, ve, vf, vg, vh] 64 = l) : compress bs [va, vb, vc, vd, ve, vf, vg, vh] = List.zipWith (· + ·) [va, vb, vc, vd, ve, vf, vg, vh] l := by rw [compress, h]

set_option maxRecDepth 100000 in
set_option maxHeartbeats 16000000 in
theorem after_any (s : List Wd) (hs : s.length = 8) (a : Option Addr) (n c : Nat) (bs : List UInt8) (hn : n = 64) (hl : bs.length = 64) (w : World) (h : Bs w a c bs) (hcub : Cub w) :
    Calls Tryd.prog 16 #[.agg (s.map W32).toArray, .slice a n c] w fun e w' => e = .returned (.agg ((compress bs s).map W32).toArray) ∧ Fr F0 w w' := by
  subst hn
  have hclt := hcub.lt
  have HC := Lib.hid hcub
  obtain ⟨va, vb, vc, vd, ve, vf, vg, vh, hsd⟩ := eight hs
  have HSD := Lib.hid hsd
  have HB := Lib.hid h
  have b1 : ((w.alloc (.cells (s.map W32).toArray 42)).alloc (.cells #[.int .u32 0, .int .u32 0, .int .u32 0, .int .u32 0, .int .u32 0, .int .u32 0, .int .u32 0, .int .u32 0] 42)).heap[w.heap.size]? = some (.cells (s.map W32).toArray 42 (0, 0)) := heap_alloc2_old _ _ _
  have d0 := (cell_of_row _ _ 0 _ _ _ b1).trans (show _ = some (.int .u32 (wi va)) by rw [hsd]; rfl)
  have d1 := (cell_of_row _ _ 1 _ _ _ b1).trans (show _ = some (.int .u32 (wi vb)) by rw [hsd]; rfl)
  have d2 := (cell_of_row _ _ 2 _ _ _ b1).trans (show _ = some (.int .u32 (wi vc)) by rw [hsd]; rfl)
  have d3 := (cell_of_row _ _ 3 _ _ _ b1).trans (show _ = some (.int .u32 (wi vd)) by rw [hsd]; rfl)
  have d4 := (cell_of_row _ _ 4 _ _ _ b1).trans (show _ = some (.int .u32 (wi ve)) by rw [hsd]; rfl)
  have d5 := (cell_of_row _ _ 5 _ _ _ b1).trans (show _ = some (.int .u32 (wi vf)) by rw [hsd]; rfl)
  have d6 := (cell_of_row _ _ 6 _ _ _ b1).trans (show _ = some (.int .u32 (wi vg)) by rw [hsd]; rfl)
  have d7 := (cell_of_row _ _ 7 _ _ _ b1).trans (show _ = some (.int .u32 (wi vh)) by rw [hsd]; rfl)
  clear hsd b1 h hcub
  go_enter Tryd.func16, Tryd.ntmps16
  go_wp2_with fail
  refine wp_region_noPanic ?_
  refine wp_region_held_drew (S := (fun w' => w'.cell? ⟨w.heap.size, 0, none⟩ = some (.int .u32 (wi va)) ∧ w'.cell? ⟨w.heap.size, 1, none⟩ = some (.int .u32 (wi vb)) ∧ w'.cell? ⟨w.heap.size, 2, none⟩ = some (.int .u32 (wi vc)) ∧ w'.cell? ⟨w.heap.size, 3, none⟩ = some (.int .u32 (wi vd)) ∧ w'.cell? ⟨w.heap.size, 4, none⟩ = some (.int .u32 (wi ve)) ∧ w'.cell? ⟨w.heap.size, 5, none⟩ = some (.int .u32 (wi vf)) ∧ w'.cell? ⟨w.heap.size, 6, none⟩ = some (.int .u32 (wi vg)) ∧ w'.cell? ⟨w.heap.size, 7, none⟩ = some (.int .u32 (wi vh)))) (by kernel_rfl) ?_ (fun hHeld => ?_)
  · ((try dsimp only) <;> (exact ⟨d0, d1, d2, d3, d4, d5, d6, d7⟩))
  refine wpAnyH_take (i := 0) (oi := ⟨_, _, _, _, _, _⟩) (v := ?_) rfl (by kernel_rfl) (by kernel_rfl) (by kernel_rfl) (fun _ _ _ h => h) (Or.inl ⟨by rfl, ?_⟩) (by assumption) ?_
  rotate_left
  · intro w hSw; (try dsimp only at hSw); go_simp; (try (with_reducible rfl)); done
  simp only [Act.put, List.setIfInBounds_toArray]; dsimp only [List.set_cons_zero, List.set_cons_succ]
  refine wpAnyH_take (i := 1) (oi := ⟨_, _, _, _, _, _⟩) (v := ?_) rfl (by kernel_rfl) (by kernel_rfl) (by kernel_rfl) (fun _ _ _ h => h) (Or.inl ⟨by rfl, ?_⟩) (by assumption) ?_
  rotate_left
  · intro w hSw; (try dsimp only at hSw); go_simp; (try (with_reducible rfl)); done
  simp only [Act.put, List.setIfInBounds_toArray]; dsimp only [List.set_cons_zero, List.set_cons_succ]
  refine wpAnyH_take (i := 2) (oi := ⟨_, _, _, _, _, _⟩) (v := ?_) rfl (by kernel_rfl) (by kernel_rfl) (by kernel_rfl) (fun _ _ _ h => h) (Or.inl ⟨by rfl, ?_⟩) (by assumption) ?_
  rotate_left
  · intro w hSw; (try dsimp only at hSw); go_simp; (try (with_reducible rfl)); done
  simp only [Act.put, List.setIfInBounds_toArray]; dsimp only [List.set_cons_zero, List.set_cons_succ]
  refine wpAnyH_take (i := 3) (oi := ⟨_, _, _, _, _, _⟩) (v := ?_) rfl (by kernel_rfl) (by kernel_rfl) (by kernel_rfl) (fun _ _ _ h => h) (Or.inl ⟨by rfl, ?_⟩) (by assumption) ?_
  rotate_left
  · intro w hSw; (try dsimp only at hSw); go_simp; (try (with_reducible rfl)); done
  simp only [Act.put, List.setIfInBounds_toArray]; dsimp only [List.set_cons_zero, List.set_cons_succ]
  refine wpAnyH_take (i := 4) (oi := ⟨_, _, _, _, _, _⟩) (v := ?_) rfl (by kernel_rfl) (by kernel_rfl) (by kernel_rfl) (fun _ _ _ h => h) (Or.inl ⟨by rfl, ?_⟩) (by assumption) ?_
  rotate_left
  · intro w hSw; (try dsimp only at hSw); go_simp; (try (with_reducible rfl)); done
  simp only [Act.put, List.setIfInBounds_toArray]; dsimp only [List.set_cons_zero, List.set_cons_succ]
  refine wpAnyH_take (i := 5) (oi := ⟨_, _, _, _, _, _⟩) (v := ?_) rfl (by kernel_rfl) (by kernel_rfl) (by kernel_rfl) (fun _ _ _ h => h) (Or.inl ⟨by rfl, ?_⟩) (by assumption) ?_
  rotate_left
  · intro w hSw; (try dsimp only at hSw); go_simp; (try (with_reducible rfl)); done
  simp only [Act.put, List.setIfInBounds_toArray]; dsimp only [List.set_cons_zero, List.set_cons_succ]
  refine wpAnyH_take (i := 6) (oi := ⟨_, _, _, _, _, _⟩) (v := ?_) rfl (by kernel_rfl) (by kernel_rfl) (by kernel_rfl) (fun _ _ _ h => h) (Or.inl ⟨by rfl, ?_⟩) (by assumption) ?_
  rotate_left
  · intro w hSw; (try dsimp only at hSw); go_simp; (try (with_reducible rfl)); done
  simp only [Act.put, List.setIfInBounds_toArray]; dsimp only [List.set_cons_zero, List.set_cons_succ]
  refine wpAnyH_take (i := 7) (oi := ⟨_, _, _, _, _, _⟩) (v := ?_) rfl (by kernel_rfl) (by kernel_rfl) (by kernel_rfl) (fun _ _ _ h => h) (Or.inl ⟨by rfl, ?_⟩) (by assumption) ?_
  rotate_left
  · intro w hSw; (try dsimp only at hSw); go_simp; (try (with_reducible rfl)); done
  simp only [Act.put, List.setIfInBounds_toArray]; dsimp only [List.set_cons_zero, List.set_cons_succ]
  refine wpAnyH_take (i := 8) (oi := ⟨_, _, _, _, _, _⟩) (v := ?_) rfl (by kernel_rfl) (by kernel_rfl) (by kernel_rfl) (fun _ _ _ h => h) (Or.inl ⟨by rfl, ?_⟩) (by assumption) ?_
  rotate_left
  · intro w hSw; (try dsimp only at hSw); go_simp; (try (with_reducible rfl)); done
  simp only [Act.put, List.setIfInBounds_toArray]; dsimp only [List.set_cons_zero, List.set_cons_succ]
  refine wpAnyH_take (i := 9) (oi := ⟨_, _, _, _, _, _⟩) (v := ?_) rfl (by kernel_rfl) (by kernel_rfl) (by kernel_rfl) (fun _ _ _ h => h) (Or.inl ⟨by rfl, ?_⟩) (by assumption) ?_
  rotate_left
  · intro w hSw; (try dsimp only at hSw); go_simp; (try (with_reducible rfl)); done
  simp only [Act.put, List.setIfInBounds_toArray]; dsimp only [List.set_cons_zero, List.set_cons_succ]
  refine wpAnyH_take (i := 10) (oi := ⟨_, _, _, _, _, _⟩) (v := ?_) rfl (by kernel_rfl) (by kernel_rfl) (by kernel_rfl) (fun _ _ _ h => h) (Or.inl ⟨by rfl, ?_⟩) (by assumption) ?_
  rotate_left
  · intro w hSw; (try dsimp only at hSw); go_simp; (try (with_reducible rfl)); done
  simp only [Act.put, List.setIfInBounds_toArray]; dsimp only [List.set_cons_zero, List.set_cons_succ]
  refine wpAnyH_take (i := 11) (oi := ⟨_, _, _, _, _, _⟩) (v := ?_) rfl (by kernel_rfl) (by kernel_rfl) (by kernel_rfl) (fun _ _ _ h => h) (Or.inl ⟨by rfl, ?_⟩) (by assumption) ?_
  rotate_left
  · intro w hSw; (try dsimp only at hSw); go_simp; (try (with_reducible rfl)); done
  simp only [Act.put, List.setIfInBounds_toArray]; dsimp only [List.set_cons_zero, List.set_cons_succ]
  refine wpAnyH_take (i := 12) (oi := ⟨_, _, _, _, _, _⟩) (v := ?_) rfl (by kernel_rfl) (by kernel_rfl) (by kernel_rfl) (fun _ _ _ h => h) (Or.inl ⟨by rfl, ?_⟩) (by assumption) ?_
  rotate_left
  · intro w hSw; (try dsimp only at hSw); go_simp; (try (with_reducible rfl)); done
  simp only [Act.put, List.setIfInBounds_toArray]; dsimp only [List.set_cons_zero, List.set_cons_succ]
  refine wpAnyH_take (i := 13) (oi := ⟨_, _, _, _, _, _⟩) (v := ?_) rfl (by kernel_rfl) (by kernel_rfl) (by kernel_rfl) (fun _ _ _ h => h) (Or.inl ⟨by rfl, ?_⟩) (by assumption) ?_
  rotate_left
  · intro w hSw; (try dsimp only at hSw); go_simp; (try (with_reducible rfl)); done
  simp only [Act.put, List.setIfInBounds_toArray]; dsimp only [List.set_cons_zero, List.set_cons_succ]
  refine wpAnyH_take (i := 14) (oi := ⟨_, _, _, _, _, _⟩) (v := ?_) rfl (by kernel_rfl) (by kernel_rfl) (by kernel_rfl) (fun _ _ _ h => h) (Or.inl ⟨by rfl, ?_⟩) (by assumption) ?_
  rotate_left
  · intro w hSw; (try dsimp only at hSw); go_simp; (try (with_reducible rfl)); done
  simp only [Act.put, List.setIfInBounds_toArray]; dsimp only [List.set_cons_zero, List.set_cons_succ]
  refine wpAnyH_take (i := 15) (oi := ⟨_, _, _, _, _, _⟩) (v := ?_) rfl (by kernel_rfl) (by kernel_rfl) (by kernel_rfl) (fun _ _ _ h => h) (Or.inl ⟨by rfl, ?_⟩) (by assumption) ?_
  rotate_left
  · intro w hSw; (try dsimp only at hSw); go_simp; (try (with_reducible rfl)); done
  simp only [Act.put, List.setIfInBounds_toArray]; dsimp only [List.set_cons_zero, List.set_cons_succ]
  refine wpAnyH_take (i := 16) (oi := ⟨_, _, _, _, _, _⟩) (v := ?_) rfl (by kernel_rfl) (by kernel_rfl) (by kernel_rfl) (fun _ _ _ h => h) (Or.inl ⟨by rfl, ?_⟩) (by assumption) ?_
  rotate_left
  · intro w hSw; (try dsimp only at hSw); go_simp; (try (with_reducible rfl)); done
  simp only [Act.put, List.setIfInBounds_toArray]; dsimp only [List.set_cons_zero, List.set_cons_succ]
  refine wpAnyH_take (i := 17) (oi := ⟨_, _, _, _, _, _⟩) (v := ?_) rfl (by kernel_rfl) (by kernel_rfl) (by kernel_rfl) (fun _ _ _ h => h) (Or.inl ⟨by rfl, ?_⟩) (by assumption) ?_
  rotate_left
  · intro w hSw; (try dsimp only at hSw); go_simp; (try (with_reducible rfl)); done
  simp only [Act.put, List.setIfInBounds_toArray]; dsimp only [List.set_cons_zero, List.set_cons_succ]
  refine wpAnyH_take (i := 18) (oi := ⟨_, _, _, _, _, _⟩) (v := ?_) rfl (by kernel_rfl) (by kernel_rfl) (by kernel_rfl) (fun _ _ _ h => h) (Or.inl ⟨by rfl, ?_⟩) (by assumption) ?_
  rotate_left
  · intro w hSw; (try dsimp only at hSw); go_simp; (try (with_reducible rfl)); done
  simp only [Act.put, List.setIfInBounds_toArray]; dsimp only [List.set_cons_zero, List.set_cons_succ]
  refine wpAnyH_take (i := 19) (oi := ⟨_, _, _, _, _, _⟩) (v := ?_) rfl (by kernel_rfl) (by kernel_rfl) (by kernel_rfl) (fun _ _ _ h => h) (Or.inl ⟨by rfl, ?_⟩) (by assumption) ?_
  rotate_left
  · intro w hSw; (try dsimp only at hSw); go_simp; (try (with_reducible rfl)); done
  simp only [Act.put, List.setIfInBounds_toArray]; dsimp only [List.set_cons_zero, List.set_cons_succ]
  refine wpAnyH_take (i := 20) (oi := ⟨_, _, _, _, _, _⟩) (v := ?_) rfl (by kernel_rfl) (by kernel_rfl) (by kernel_rfl) (fun _ _ _ h => h) (Or.inl ⟨by rfl, ?_⟩) (by assumption) ?_
  rotate_left
  · intro w hSw; (try dsimp only at hSw); go_simp; (try (with_reducible rfl)); done
  simp only [Act.put, List.setIfInBounds_toArray]; dsimp only [List.set_cons_zero, List.set_cons_succ]
  refine wpAnyH_take (i := 21) (oi := ⟨_, _, _, _, _, _⟩) (v := ?_) rfl (by kernel_rfl) (by kernel_rfl) (by kernel_rfl) (fun _ _ _ h => h) (Or.inl ⟨by rfl, ?_⟩) (by assumption) ?_
  rotate_left
  · intro w hSw; (try dsimp only at hSw); go_simp; (try (with_reducible rfl)); done
  simp only [Act.put, List.setIfInBounds_toArray]; dsimp only [List.set_cons_zero, List.set_cons_succ]
  refine wpAnyH_take (i := 22) (oi := ⟨_, _, _, _, _, _⟩) (v := ?_) rfl (by kernel_rfl) (by kernel_rfl) (by kernel_rfl) (fun _ _ _ h => h) (Or.inl ⟨by rfl, ?_⟩) (by assumption) ?_
  rotate_left
  · intro w hSw; (try dsimp only at hSw); go_simp; (try (with_reducible rfl)); done
  simp only [Act.put, List.setIfInBounds_toArray]; dsimp only [List.set_cons_zero, List.set_cons_succ]
  refine wpAnyH_take (i := 23) (oi := ⟨_, _, _, _, _, _⟩) (v := ?_) rfl (by kernel_rfl) (by kernel_rfl) (by kernel_rfl) (fun _ _ _ h => h) (Or.inl ⟨by rfl, ?_⟩) (by assumption) ?_
  rotate_left
  · intro w hSw; (try dsimp only at hSw); go_simp; (try (with_reducible rfl)); done
  simp only [Act.put, List.setIfInBounds_toArray]; dsimp only [List.set_cons_zero, List.set_cons_succ]
  refine wpAnyH_done (by kernel_rfl) ?_ _
  refine NoPanic.normal ?_
  clear d0 d1 d2 d3 d4 d5 d6 d7 hHeld
  generalize hY : w.heap.size + 1 = Y
  have hW : Fr F0 w (((w.alloc (.cells (s.map W32).toArray 42)).alloc (.cells #[.int .u32 0, .int .u32 0, .int .u32 0, .int .u32 0, .int .u32 0, .int .u32 0, .int .u32 0, .int .u32 0] 42)).drew) := (((Fr.refl F0 w).alloc _).alloc _).drew
  have h0 : (((w.alloc (.cells (s.map W32).toArray 42)).alloc (.cells #[.int .u32 0, .int .u32 0, .int .u32 0, .int .u32 0, .int .u32 0, .int .u32 0, .int .u32 0, .int .u32 0] 42)).drew).heap[w.heap.size]? = some (.cells (s.map W32).toArray 42 (0, 0)) := heap_alloc2_old _ _ _
  have h1 : (((w.alloc (.cells (s.map W32).toArray 42)).alloc (.cells #[.int .u32 0, .int .u32 0, .int .u32 0, .int .u32 0, .int .u32 0, .int .u32 0, .int .u32 0, .int .u32 0] 42)).drew).heap[Y]? = some (.cells #[.int .u32 0, .int .u32 0, .int .u32 0, .int .u32 0, .int .u32 0, .int .u32 0, .int .u32 0, .int .u32 0] 42 (0, 0)) := by subst hY; exact heap_alloc2_new _ _ _
  generalize (((w.alloc (.cells (s.map W32).toArray 42)).alloc (.cells #[.int .u32 0, .int .u32 0, .int .u32 0, .int .u32 0, .int .u32 0, .int .u32 0, .int .u32 0, .int .u32 0] 42)).drew) = w1 at *
  go_wp2_with fail
  refine (schedule_any a c bs hl w1 (Sl.fr HB.out hW fun _ _ f => f)).mono ?_
  rintro e w2 ⟨rfl, h2⟩
  replace h0 := h2.keeps (fun f => f) h0
  replace h1 := h2.keeps (fun f => f) h1
  replace h2 := hW.trans' h2
  clear hW
  go_wp2_with fail
  go_loopw [5, 6, 7, 8, 9, 10, 11, 12, 37] (fun v0 v1 v2 v3 v4 v5 v6 v7 i wr => ∃ k : Nat, k ≤ 64 ∧ i = .int .i64 k ∧ (∃ a b c d e f g h, rnds bs s k = [a, b, c, d, e, f, g, h] ∧ v0 = .int .u32 (wi a) ∧ v1 = .int .u32 (wi b) ∧ v2 = .int .u32 (wi c) ∧ v3 = .int .u32 (wi d) ∧ v4 = .int .u32 (wi e) ∧ v5 = .int .u32 (wi f) ∧ v6 = .int .u32 (wi g) ∧ v7 = .int .u32 (wi h)) ∧ wr.heap[w.heap.size]? = some (.cells (s.map W32).toArray 42 (0, 0)) ∧ (∃ cs, wr.heap[Y]? = some (.cells cs 42 (0, 0)) ∧ cs.size = 8) ∧ Fr F0 w wr) (fun _ _ _ _ _ _ _ _ i _ => 64 - (intOf i).toNat)
  case atStart => exact ⟨0, by omega, rfl, ⟨va, vb, vc, vd, ve, vf, vg, vh, HSD.out, rfl, rfl, rfl, rfl, rfl, rfl, rfl, rfl⟩, h0, ⟨_, h1, rfl⟩, h2⟩
  case round =>
    clear h0 h1 h2
    obtain ⟨k, hk, rfl, ⟨xa, xb, xc, xd, xe, xf, xg, xh, hr, rfl, rfl, rfl, rfl, rfl, rfl, rfl, rfl⟩, h0, ⟨cs, h1, hz⟩, hf⟩ := hrel
    have HR := Lib.hid hr
    clear hr
    by_cases hk8 : k < 64
    · have hx : ((sch bs 64).map W32).toArray[k]? = some (.int .u32 (wi ((sch bs 64).getD k 0))) := by
        simp [List.getD, List.getElem?_eq_getElem (show k < (sch bs 64).length by rw [sch_length]; exact hk8)]
      have hq : wr.cell? ⟨0, k, none⟩ = some (.int .u32 (wi (cubesL.getD k 0))) := HC.out.fr hf (fun f => f) k hk8
      have HS := Lib.hid (show rnds bs s (k + 1) = stp (cubesL.getD k 0) ((sch bs 64).getD k 0) (rnds bs s k) from rfl)
      generalize (sch bs 64).getD k 0 = x at *
      generalize cubesL.getD k 0 = q at *
      have hi := fun w => run_index_row (P := Tryd.prog) w 53 40 64 _ .i64 k _ Tryd.underlying53 Tryd.underlying40 rfl (by kernel_rfl) _ hk8 hx
      have HH := Lib.hid (And.intro h0 (And.intro h1 hf))
      have lk : (k : Int) < 64 := by omega
      clear h0 h1 hf hx
      go_wp2_with fail
      have hqd : wr.drew.cell? ⟨0, k, none⟩ = some (.int .u32 (wi q)) := hq
      refine wp_region_noPanic ?_
      refine wp_region_held_drew (S := (fun w' => w'.cell? ⟨0, k, none⟩ = some (.int .u32 (wi q)))) (by kernel_rfl) ?_ (fun hHeld => ?_)
      · ((try dsimp only) <;> (exact hqd))
      refine wpAnyH_take (i := 0) (oi := ⟨_, _, _, _, _, _⟩) (v := ?_) rfl (by kernel_rfl) (by kernel_rfl) (by kernel_rfl) (fun _ _ _ h => h) (Or.inl ⟨by rfl, ?_⟩) (by assumption) ?_
      rotate_left
      · intro w hSw; (try dsimp only at hSw); go_simp; (try (with_reducible rfl)); done
      simp only [Act.put, List.setIfInBounds_toArray]; dsimp only [List.set_cons_zero, List.set_cons_succ]
      refine wpAnyH_take (i := 1) (oi := ⟨_, _, _, _, _, _⟩) (v := ?_) rfl (by kernel_rfl) (by kernel_rfl) (by kernel_rfl) (fun _ _ _ h => h) (Or.inl ⟨by rfl, ?_⟩) (by assumption) ?_
      rotate_left
      · intro w hSw; (try dsimp only at hSw); go_simp; (try (with_reducible rfl)); done
      simp only [Act.put, List.setIfInBounds_toArray]; dsimp only [List.set_cons_zero, List.set_cons_succ]
      refine wpAnyH_take (i := 4) (oi := ⟨_, _, _, _, _, _⟩) (v := ?_) rfl (by kernel_rfl) (by kernel_rfl) (by kernel_rfl) (fun _ _ _ h => h) (Or.inl ⟨by rfl, ?_⟩) (by assumption) ?_
      rotate_left
      · intro w hSw; (try dsimp only at hSw); go_simp; (try (with_reducible rfl)); done
      simp only [Act.put, List.setIfInBounds_toArray]; dsimp only [List.set_cons_zero, List.set_cons_succ]
      refine wpAnyH_take (i := 6) (oi := ⟨_, _, _, _, _, _⟩) (v := ?_) rfl (by kernel_rfl) (by kernel_rfl) (by kernel_rfl) (fun _ _ _ h => h) (Or.inl ⟨by rfl, ?_⟩) (by assumption) ?_
      rotate_left
      · intro w hSw; (try dsimp only at hSw); go_simp; (try (with_reducible rfl)); done
      simp only [Act.put, List.setIfInBounds_toArray]; dsimp only [List.set_cons_zero, List.set_cons_succ]
      refine wpAnyH_take (i := 7) (oi := ⟨_, _, _, _, _, _⟩) (v := ?_) rfl (by kernel_rfl) (by kernel_rfl) (by kernel_rfl) (fun _ _ _ h => h) (Or.inl ⟨by rfl, ?_⟩) (by assumption) ?_
      rotate_left
      · intro w hSw; (try dsimp only at hSw); go_simp; (try (with_reducible rfl)); done
      simp only [Act.put, List.setIfInBounds_toArray]; dsimp only [List.set_cons_zero, List.set_cons_succ]
      refine wpAnyH_take (i := 8) (oi := ⟨_, _, _, _, _, _⟩) (v := ?_) rfl (by kernel_rfl) (by kernel_rfl) (by kernel_rfl) (fun _ _ _ h => h) (Or.inl ⟨by rfl, ?_⟩) (by assumption) ?_
      rotate_left
      · intro w hSw; (try dsimp only at hSw); go_simp; (try (with_reducible rfl)); done
      simp only [Act.put, List.setIfInBounds_toArray]; dsimp only [List.set_cons_zero, List.set_cons_succ]
      refine wpAnyH_take (i := 10) (oi := ⟨_, _, _, _, _, _⟩) (v := ?_) rfl (by kernel_rfl) (by kernel_rfl) (by kernel_rfl) (fun _ _ _ h => h) (Or.inl ⟨by rfl, ?_⟩) (by assumption) ?_
      rotate_left
      · intro w hSw; (try dsimp only at hSw); go_simp; (try (with_reducible rfl)); done
      simp only [Act.put, List.setIfInBounds_toArray]; dsimp only [List.set_cons_zero, List.set_cons_succ]
      refine wpAnyH_ready (rs := [2]) (by kernel_rfl) (by simp) ?_
      refine AllReadyH.cons (o := ⟨_, _, _, _, _, _⟩) rfl (fun K hK => ?_) AllReadyH.nil
      go_simp
      (refine (turned_any xe 6 11 25 _ (by omega) (by omega) (by omega)).mono ?_; rintro e w5 ⟨rfl, rfl⟩)
      refine hK.out _ _ ?_ (fun hHeld => ?_)
      · ((try dsimp only) <;> (exact hqd))
      clear hK K
      try (simp only [Act.put, List.setIfInBounds_toArray]; dsimp only [List.set_cons_zero, List.set_cons_succ])
      refine wpAnyH_take (i := 3) (oi := ⟨_, _, _, _, _, _⟩) (v := ?_) rfl (by kernel_rfl) (by kernel_rfl) (by kernel_rfl) (fun _ _ _ h => h) (Or.inl ⟨by rfl, ?_⟩) (by assumption) ?_
      rotate_left
      · intro w hSw; (try dsimp only at hSw); go_simp; (try (with_reducible rfl)); done
      simp only [Act.put, List.setIfInBounds_toArray]; dsimp only [List.set_cons_zero, List.set_cons_succ]
      refine wpAnyH_take (i := 5) (oi := ⟨_, _, _, _, _, _⟩) (v := ?_) rfl (by kernel_rfl) (by kernel_rfl) (by kernel_rfl) (fun _ _ _ h => h) (Or.inl ⟨by rfl, ?_⟩) (by assumption) ?_
      rotate_left
      · intro w hSw; (try dsimp only at hSw); go_simp; (try (with_reducible rfl)); done
      simp only [Act.put, List.setIfInBounds_toArray]; dsimp only [List.set_cons_zero, List.set_cons_succ]
      refine wpAnyH_take (i := 9) (oi := ⟨_, _, _, _, _, _⟩) (v := ?_) rfl (by kernel_rfl) (by kernel_rfl) (by kernel_rfl) (fun _ _ _ h => h) (Or.inl ⟨by rfl, ?_⟩) (by assumption) ?_
      rotate_left
      · intro w hSw; (try dsimp only at hSw); go_simp; (try (with_reducible rfl)); done
      simp only [Act.put, List.setIfInBounds_toArray]; dsimp only [List.set_cons_zero, List.set_cons_succ]
      refine wpAnyH_take (i := 11) (oi := ⟨_, _, _, _, _, _⟩) (v := ?_) rfl (by kernel_rfl) (by kernel_rfl) (by kernel_rfl) (fun _ _ _ h => h) (Or.inl ⟨by rfl, ?_⟩) (by assumption) ?_
      rotate_left
      · intro w hSw; (try dsimp only at hSw); go_simp; (try (with_reducible rfl)); done
      simp only [Act.put, List.setIfInBounds_toArray]; dsimp only [List.set_cons_zero, List.set_cons_succ]
      refine wpAnyH_take (i := 12) (oi := ⟨_, _, _, _, _, _⟩) (v := ?_) rfl (by kernel_rfl) (by kernel_rfl) (by kernel_rfl) (fun _ _ _ h => h) (Or.inl ⟨by rfl, ?_⟩) (by assumption) ?_
      rotate_left
      · intro w hSw; (try dsimp only at hSw); go_simp; (try (with_reducible rfl)); done
      simp only [Act.put, List.setIfInBounds_toArray]; dsimp only [List.set_cons_zero, List.set_cons_succ]
      refine wpAnyH_done (by kernel_rfl) ?_ _
      refine NoPanic.normal ?_
      go_wp2_with fail
      refine (turned_any xa 2 13 22 _ (by omega) (by omega) (by omega)).mono ?_
      rintro e w5 ⟨rfl, rfl⟩
      go_wp2
      go_roundw
      case rel =>
        obtain ⟨h0, h1, hf⟩ := HH.out
        exact ⟨k + 1, by omega, by go_num, ⟨_, _, _, _, _, _, _, _, by rw [HS.out, HR.out]; rfl, rfl, rfl, rfl, rfl, rfl, rfl, rfl, rfl⟩, h0, ⟨cs, h1, hz⟩, hf.drew⟩
      case measure => simp [intOf]; omega
    · have hk16 : k = 64 := by omega
      have HS : rnds bs s 64 = [xa, xb, xc, xd, xe, xf, xg, xh] := by rw [← hk16]; exact HR.out
      have HS2 : compress bs s = List.zipWith (· + ·) s [xa, xb, xc, xd, xe, xf, xg, xh] := by rw [compress, HS]
      have e0 := HSD.out
      rw [e0] at HS2 h0
      have d0 := (cell_of_row _ _ 0 _ _ _ h0).trans (show _ = some (.int .u32 (wi va)) by rfl)
      have d1 := (cell_of_row _ _ 1 _ _ _ h0).trans (show _ = some (.int .u32 (wi vb)) by rfl)
      have d2 := (cell_of_row _ _ 2 _ _ _ h0).trans (show _ = some (.int .u32 (wi vc)) by rfl)
      have d3 := (cell_of_row _ _ 3 _ _ _ h0).trans (show _ = some (.int .u32 (wi vd)) by rfl)
      have d4 := (cell_of_row _ _ 4 _ _ _ h0).trans (show _ = some (.int .u32 (wi ve)) by rfl)
      have d5 := (cell_of_row _ _ 5 _ _ _ h0).trans (show _ = some (.int .u32 (wi vf)) by rfl)
      have d6 := (cell_of_row _ _ 6 _ _ _ h0).trans (show _ = some (.int .u32 (wi vg)) by rfl)
      have d7 := (cell_of_row _ _ 7 _ _ _ h0).trans (show _ = some (.int .u32 (wi vh)) by rfl)
      have HS3 := Lib.hid HS2
      clear HS HS2 hk16 e0 h0
      go_wp2_with (refine wpList_store_row rfl 42 (.tmp 4) (.tmp 121) rfl Y ([va + xa, vb + xb, vc + xc, vd + xd, ve + xe, vf + xf, vg + xg, vh + xh].map W32).toArray rfl rfl 42 cs h1 Tryd.sz8 hz (oneW_map _) ?_)
      refine bodyPost_ret (results_cell_row rfl _ _ Y _ _ _ _ rfl (setRow_heap _ _ _ _ _ _ h1) Tryd.underlying42 rfl Tryd.sz8) rfl ⟨?_, ?_⟩
      · rw [HSD.out, HS3.out]
        rfl
      · exact hf.setRow (fun h => by omega) _
end Go.Proofs.YtkppakhjfagdnaaDoor
