/- Stage 2, digest: Double. -/
import Derived.Test.YtkppakhjfagdnaaDoorDigS
namespace Go.Proofs.YtkppakhjfagdnaaDoor
set_option linter.unusedVariables false
set_option linter.unusedSimpArgs false
open Go.RowKit

set_option maxHeartbeats 4000000 in
theorem Double_any (a : Option Addr) (n c : Nat) (bs : List UInt8) (hn : n = bs.length) (hl : bs.length ≤ 140737488355000) (w : World) (h : Bs w a c bs) (hcub : Cub w) :
    Calls Tryd.prog 11 #[.slice a n c] w fun e w' => e = .returned (.agg ((sha2 bs).map B8).toArray) ∧ Fr F0 w w' := by
  subst hn
  have hz1 : ((sha bs).map B8).toArray.size = 32 := by simp [sha_length]
  have hz2 : ((sha2 bs).map B8).toArray.size = 32 := by simp [sha2, sha_length]
  have HB := Lib.hid h
  have HC := Lib.hid hcub
  clear h hcub
  go_enter Tryd.func11, Tryd.ntmps11
  go_wp2_with fail
  refine (Sum_any a _ c bs rfl hl _ (Sl.fr HB.out ((Fr.refl F0 w).alloc _) fun _ _ f => f) (HC.out.fr ((Fr.refl F0 w).alloc _) fun f => f)).mono ?_
  rintro e w1 ⟨rfl, h1⟩
  have h1s := h1.size
  simp only [World.size_alloc] at h1s
  go_wp2_with (refine wpList_store_row rfl 23 (.tmp 3) (.tmp 5) rfl w1.heap.size _ rfl rfl 23 _ (heap_alloc_new w1 _) (by rw [Tryd.sz32, hz1]) (by rw [hz1]; rfl) (oneB_map _) ?_)
  generalize hY : w1.heap.size = Y at *
  have hF2 : Fr F0 w ((w1.alloc (.cells #[.int .u8 0, .int .u8 0, .int .u8 0, .int .u8 0, .int .u8 0, .int .u8 0, .int .u8 0, .int .u8 0, .int .u8 0, .int .u8 0, .int .u8 0, .int .u8 0, .int .u8 0, .int .u8 0, .int .u8 0, .int .u8 0, .int .u8 0, .int .u8 0, .int .u8 0, .int .u8 0, .int .u8 0, .int .u8 0, .int .u8 0, .int .u8 0, .int .u8 0, .int .u8 0, .int .u8 0, .int .u8 0, .int .u8 0, .int .u8 0, .int .u8 0, .int .u8 0] 23)).setRow Y ((sha bs).map B8).toArray) := ((((Fr.refl F0 w).alloc _).trans' h1).alloc _).setRow (fun h => by omega) _
  have hY2 := setRow_heap _ _ _ ((sha bs).map B8).toArray _ _ (show (w1.alloc (.cells #[.int .u8 0, .int .u8 0, .int .u8 0, .int .u8 0, .int .u8 0, .int .u8 0, .int .u8 0, .int .u8 0, .int .u8 0, .int .u8 0, .int .u8 0, .int .u8 0, .int .u8 0, .int .u8 0, .int .u8 0, .int .u8 0, .int .u8 0, .int .u8 0, .int .u8 0, .int .u8 0, .int .u8 0, .int .u8 0, .int .u8 0, .int .u8 0, .int .u8 0, .int .u8 0, .int .u8 0, .int .u8 0, .int .u8 0, .int .u8 0, .int .u8 0, .int .u8 0] 23)).heap[Y]? = some (.cells _ 23 (0, 0)) by rw [← hY]; exact heap_alloc_new w1 _)
  have hR : ∃ cs, ((w1.alloc (.cells #[.int .u8 0, .int .u8 0, .int .u8 0, .int .u8 0, .int .u8 0, .int .u8 0, .int .u8 0, .int .u8 0, .int .u8 0, .int .u8 0, .int .u8 0, .int .u8 0, .int .u8 0, .int .u8 0, .int .u8 0, .int .u8 0, .int .u8 0, .int .u8 0, .int .u8 0, .int .u8 0, .int .u8 0, .int .u8 0, .int .u8 0, .int .u8 0, .int .u8 0, .int .u8 0, .int .u8 0, .int .u8 0, .int .u8 0, .int .u8 0, .int .u8 0, .int .u8 0] 23)).setRow Y ((sha bs).map B8).toArray).heap[w.heap.size]? = some (.cells cs 23 (0, 0)) ∧ cs.size = 32 := ⟨_, by rw [setRow_other _ _ _ _ (by omega), heap_alloc_old _ _ (by omega)]; exact h1.keeps (fun f => f) (heap_alloc_new w _), rfl⟩
  generalize (w1.alloc (.cells #[.int .u8 0, .int .u8 0, .int .u8 0, .int .u8 0, .int .u8 0, .int .u8 0, .int .u8 0, .int .u8 0, .int .u8 0, .int .u8 0, .int .u8 0, .int .u8 0, .int .u8 0, .int .u8 0, .int .u8 0, .int .u8 0, .int .u8 0, .int .u8 0, .int .u8 0, .int .u8 0, .int .u8 0, .int .u8 0, .int .u8 0, .int .u8 0, .int .u8 0, .int .u8 0, .int .u8 0, .int .u8 0, .int .u8 0, .int .u8 0, .int .u8 0, .int .u8 0] 23)).setRow Y ((sha bs).map B8).toArray = w2 at *
  obtain ⟨cs, hR, hRz⟩ := hR
  have hx := Bs.of_row hY2 (by rw [sha_length]; unfold maxLen; omega)
  rw [sha_length] at hx
  refine (Sum_any _ 32 32 (sha bs) (sha_length _).symm (by rw [sha_length]; omega) _ hx (HC.out.fr hF2 fun f => f)).mono ?_
  rintro e w3 ⟨rfl, h3⟩
  go_wp2_with (refine wpList_store_row rfl 23 (.tmp 2) (.tmp 7) rfl w.heap.size _ rfl rfl 23 _ (h3.keeps (fun f => f) hR) (by rw [Tryd.sz32]; exact congrArg some hz2.symm) (by rw [hRz]; exact hz2.symm) (oneB_map _) ?_)
  refine bodyPost_ret (results_cell_row rfl _ _ w.heap.size _ _ _ _ rfl (setRow_heap _ _ _ _ _ _ (h3.keeps (fun f => f) hR)) Tryd.underlying23 rfl (by rw [Tryd.sz32]; exact congrArg some hz2.symm)) rfl ⟨rfl, ?_⟩
  exact (hF2.trans' h3).setRow (fun h => by omega) _
end Go.Proofs.YtkppakhjfagdnaaDoor
