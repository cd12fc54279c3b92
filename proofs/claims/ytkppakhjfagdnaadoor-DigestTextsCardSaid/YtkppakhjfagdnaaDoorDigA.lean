/- Stage 2, digest: begin, hash. -/
import Derived.Test.YtkppakhjfagdnaaDoorShaS
import Derived.Test.YtkppakhjfagdnaaDoorArr
namespace Go.Proofs.YtkppakhjfagdnaaDoor
set_option linter.unusedVariables false
set_option linter.unusedSimpArgs false
open Go.RowKit

attribute [local go_sem high] wdv_and wdv_or wdv_xor wdv_not wdv_add wdv_shl wdv_shr wdv_to8 wdv_of8

theorem Tryd.sz8 : (Tryd.prog.info? 42).map (·.size) = some 8 := by kernel_rfl
theorem Tryd.sz32 : (Tryd.prog.info? 23).map (·.size) = some 32 := by kernel_rfl
theorem Tryd.sz64 : (Tryd.prog.info? 53).map (·.size) = some 64 := by kernel_rfl

theorem begin_any (w : World) : Calls Tryd.prog 14 #[] w fun e w' => e = .returned (.agg (H0.map W32).toArray) ∧ Fr F0 w w' := by
  go_enter Tryd.func14, Tryd.ntmps14
  go_wp2
  refine bodyPost_ret (results_cell_row rfl _ _ _ _ _ _ _ rfl (heap_alloc_new w _) Tryd.underlying42 rfl Tryd.sz8) rfl ⟨rfl, (Fr.refl F0 w).alloc _⟩

theorem bytesOf_snoc (s : List Wd) (x : Wd) : bytesOf (s ++ [x]) = bytesOf s ++ [lo8 (x >>> 24)] ++ [lo8 (x >>> 16)] ++ [lo8 (x >>> 8)] ++ [lo8 x] := by simp [bytesOf]

set_option maxHeartbeats 4000000 in
theorem hash_any (s : List Wd) (hs : s.length = 8) (w : World) :
    Calls Tryd.prog 18 #[.agg (s.map W32).toArray] w fun e w' => e = .returned (.agg ((bytesOf s).map B8).toArray) ∧ Fr F0 w w' := by
  go_enter Tryd.func18, Tryd.ntmps18
  go_wp2_with (refine wpList_load_row rfl 42 (.tmp 1) rfl w.heap.size rfl 42 (s.map W32).toArray (0, 0) _ (heap3_0 _ _ _ _) Tryd.underlying42 rfl (by rw [Tryd.sz8]; simp [hs]) ?_)
  generalize hX : w.heap.size + 1 + 1 = X
  generalize hY : w.heap.size + 1 = Y
  go_loopw [7] (fun i wr => ∃ k : Nat, k ≤ 8 ∧ i = .int .i64 k ∧ wr.heap[X]? = some (.cells (arrB (bytesOf (s.take k)) 32) 23 (0, 0)) ∧ (∃ cs, wr.heap[Y]? = some (.cells cs 23 (0, 0)) ∧ cs.size = 32) ∧ Fr F0 w wr) (fun i _ => 8 - (intOf i).toNat)
  case atStart => exact ⟨0, by omega, rfl, by subst hX; exact heap3_2 _ _ _ _, ⟨_, by subst hY; exact heap3_1 _ _ _ _, rfl⟩, (((Fr.refl F0 w).alloc _).alloc _).alloc _⟩
  case round =>
    obtain ⟨k, hk, rfl, h2, ⟨cs, h1, hz⟩, hf⟩ := hrel
    by_cases hk8 : k < 8
    · have hx : (s.map W32).toArray[k]? = some (.int .u32 (wi (s.getD k 0))) := by
        simp [List.getD, List.getElem?_eq_getElem (show k < s.length by omega)]
      have hL : (bytesOf (s.take k)).length = 4 * k := by rw [bytesOf_length]; simp; omega
      have hst : s.take (k + 1) = s.take k ++ [s.getD k 0] := by
        rw [List.take_succ_eq_append_getElem (show k < s.length by omega)]
        simp [List.getD, List.getElem?_eq_getElem (show k < s.length by omega)]
      generalize s.getD k 0 = x at *
      have HS := Lib.hid hst
      have hi := fun w => run_index_row (P := Tryd.prog) w 42 40 8 _ .i64 k _ Tryd.underlying42 Tryd.underlying40 rfl (by kernel_rfl) _ hk8 hx
      have b0 := rowB_get0 (i := 4 * k) h2 (by omega) (by omega)
      have z0 := free_row (i := 4 * k) h2
      have b1 := rowB_get0 (i := 4 * k + 1) h2 (by omega) (by omega)
      have z1 := free_row (i := 4 * k + 1) h2
      have b2 := rowB_get0 (i := 4 * k + 2) h2 (by omega) (by omega)
      have z2 := free_row (i := 4 * k + 2) h2
      have b3 := rowB_get0 (i := 4 * k + 3) h2 (by omega) (by omega)
      have z3 := free_row (i := 4 * k + 3) h2
      have HH := Lib.hid (And.intro h2 (And.intro h1 hf))
      have HL := Lib.hid hL
      clear hst hx hL h2 h1 hf
      go_wp2
      go_roundw
      case rel =>
        obtain ⟨h2, h1, hf⟩ := HH.out
        have hne : Y ≠ X := by omega
        refine ⟨k + 1, by omega, by go_num, ?_, ⟨cs, ?_, hz⟩, ?_⟩
        · rw [HS.out, bytesOf_snoc]
          have hL := HL.out
          have g0 := heap_setCell_in wr X (4 * k) _ _ _ (.int .u8 ((lo8 (x >>> 24)).toNat : Int)) h2
          rw [arrB_set _ _ _ _ (by omega) (by omega)] at g0
          have g1 := heap_setCell_in _ X (4 * k + 1) _ _ _ (.int .u8 ((lo8 (x >>> 16)).toNat : Int)) g0
          rw [arrB_set _ _ _ _ (by simp; omega) (by simp; omega)] at g1
          have g2 := heap_setCell_in _ X (4 * k + 2) _ _ _ (.int .u8 ((lo8 (x >>> 8)).toNat : Int)) g1
          rw [arrB_set _ _ _ _ (by simp; omega) (by simp; omega)] at g2
          have g3 := heap_setCell_in _ X (4 * k + 3) _ _ _ (.int .u8 ((lo8 x).toNat : Int)) g2
          rw [arrB_set _ _ _ _ (by simp; omega) (by simp; omega)] at g3
          exact g3
        · rw [Below.heap_setCell _ _ _ _ hne, Below.heap_setCell _ _ _ _ hne, Below.heap_setCell _ _ _ _ hne, Below.heap_setCell _ _ _ _ hne]
          exact h1
        · exact (((hf.setCell (p := ⟨X, _, none⟩) (fun h => by simp only at h; omega) _).setCell (p := ⟨X, _, none⟩) (fun h => by simp only at h; omega) _).setCell (p := ⟨X, _, none⟩) (fun h => by simp only at h; omega) _).setCell (p := ⟨X, _, none⟩) (fun h => by simp only at h; omega) _
      case measure => simp [intOf]; omega
    · obtain rfl : k = 8 := by omega
      have hfull : arrB (bytesOf (s.take 8)) 32 = ((bytesOf s).map B8).toArray := by
        rw [List.take_of_length_le (by omega)]
        exact arrB_full _ _ (by rw [bytesOf_length, hs])
      rw [hfull] at h2
      have hb : ((bytesOf s).map B8).toArray.size = 32 := by simp [bytesOf_length, hs]
      go_wp2_with (first | refine wpList_load_row rfl 23 (.tmp 3) rfl X rfl 23 _ (0, 0) _ h2 Tryd.underlying23 rfl (by rw [Tryd.sz32, hb]) ?_ | refine wpList_store_row rfl 23 (.tmp 2) (.tmp 38) rfl Y _ rfl rfl 23 cs h1 (by rw [Tryd.sz32, hb]) (by rw [hz, hb]) (oneB_map _) ?_)
      refine bodyPost_ret (results_cell_row rfl _ _ Y _ _ _ _ rfl (setRow_heap _ _ _ _ _ _ h1) Tryd.underlying23 rfl (by rw [Tryd.sz32, hb])) rfl ⟨rfl, ?_⟩
      exact hf.setRow (fun h => by omega) _
end Go.Proofs.YtkppakhjfagdnaaDoor
