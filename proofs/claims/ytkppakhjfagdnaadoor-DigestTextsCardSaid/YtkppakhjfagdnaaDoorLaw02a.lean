/- Layer 2's laws: lives. -/
import Derived.Test.YtkppakhjfagdnaaDoorDigDb
import Derived.Test.YtkppakhjfagdnaaDoorLive2
import Derived.Test.YtkppakhjfagdnaaDoorEqRow
import Derived.Lib.SmallJoins
import Derived.Deep.CutBlock
import Derived.Deep.DeepCutAuto
namespace Go.Proofs.YtkppakhjfagdnaaDoor
set_option linter.unusedVariables false
set_option linter.unusedSimpArgs false
open Go.RowKit

theorem Bs.of_row' {w : World} {g : Nat} {t : TypeId} {fr : Nat × Nat} {L : List UInt8} (h : w.heap[g]? = some (.cells (L.map B8).toArray t fr)) (hm : L.length ≤ maxLen) : Bs w (some ⟨g, 0, none⟩) L.length L :=
  ⟨by simp, Nat.le_refl _, hm, (fun e => by cases e), fun j u hj => ⟨g, 0, rfl, by rw [Nat.zero_add, cell_of_row w g j _ t _ h]; simpa using hj⟩⟩

theorem wp_of_world' {P : Program} {c : Code} {Q : Exit → Act → World → Prop} {a : Act} {w : World} (W : World) (h : W = w) (k : Code.wp P c Q a W) : Code.wp P c Q a w := h ▸ k

set_option maxRecDepth 100000 in
set_option maxHeartbeats 8000000 in
theorem lives02_any (w : World) (hcub : Cub w) : Calls Tryd.prog 4 #[] w fun e w' => e = .returned (.bool true) ∧ Fr F0 w w' := by
  have HC := Lib.hid hcub
  clear hcub
  have hconv := Joins.run_convert_bytes_const_at (P := Tryd.prog) w 34 5 #[.int .u8 97, .int .u8 98, .int .u8 99] 3 3 w.heap.size rfl Tryd.underlying34 Tryd.underlying5
  have hF0 : Fr F0 w (w.alloc (.cells #[.int .u8 97, .int .u8 98, .int .u8 99] 5 (3, 4))) := (Fr.refl F0 w).alloc _
  have hB0 : Bs (w.alloc (.cells #[.int .u8 97, .int .u8 98, .int .u8 99] 5 (3, 4))) (some ⟨w.heap.size, 0, none⟩) 3 [97, 98, 99] := Bs.of_row' (L := [97, 98, 99]) (heap_alloc_new w _) (by unfold maxLen; simp)
  go_enter Tryd.func4, Tryd.ntmps4
  go_wp2_with fail
  refine (Sum_any _ 3 3 [97, 98, 99] rfl (by simp) _ hB0 (HC.out.fr hF0 fun f => f)).mono ?_
  rintro e w1 ⟨rfl, h1⟩
  have hF1 := hF0.trans' h1
  clear hconv hB0
  go_wp2_with fail
  refine (Double_any none 0 0 [] rfl (by simp) _ (Bs.nothing w1) (HC.out.fr hF1 fun f => f)).mono ?_
  rintro e w2 ⟨rfl, h2⟩
  have hF2 := hF1.trans' h2
  have e1 : sha2 [] = [93, 246, 224, 226, 118, 19, 89, 211, 10, 130, 117, 5, 142, 41, 159, 204, 3, 129, 83, 69, 69, 245, 92, 244, 62, 65, 152, 63, 93, 76, 148, 86] := by rw [sha2, shaNone, shaTwo]
  have HE1 := Lib.hid e1
  have HE2 := Lib.hid shaAbc
  have zA : ((sha [97, 98, 99]).map B8).toArray.size = 32 := by simp [sha_length]
  have zB : ((sha2 []).map B8).toArray.size = 32 := by simp [sha2, sha_length]
  generalize sha [97, 98, 99] = A at *
  generalize sha2 [] = B at *
  clear hF0 h1 h2 hF1 e1
  have z1 : ((w2.alloc (.cells (arrB [] 32) 23)).alloc (.cells (arrB [] 32) 23)).heap[w2.heap.size]? = some (.cells (arrB [] 32) 23 (0, 0)) := heap_alloc2_old _ _ _
  have z2 : ((w2.alloc (.cells (arrB [] 32) 23)).alloc (.cells (arrB [] 32) 23)).heap[w2.heap.size + 1]? = some (.cells (arrB [] 32) 23 (0, 0)) := heap_alloc2_new _ _ _
  have e32 : (arrB [] 32).size = 32 := arrB_size _ _ (by simp)
  go_upto_region 2 with (first | (refine wpList_store_row rfl 23 (.tmp 1) (.tmp 5) rfl w2.heap.size _ rfl rfl 23 _ z1 (Tryd.sz32.trans (congrArg some zA.symm)) (e32.trans zA.symm) (oneB_map _) ?_) | (refine wpList_store_row rfl 23 (.tmp 2) (.tmp 6) rfl (w2.heap.size + 1) _ rfl rfl 23 _ ((setRow_other _ _ _ _ (by omega)).trans z2) (Tryd.sz32.trans (congrArg some zB.symm)) (e32.trans zB.symm) (oneB_map _) ?_))
  obtain ⟨W1, hW1⟩ : ∃ W1, W1 = (((w2.alloc (.cells (arrB [] 32) 23)).alloc (.cells (arrB [] 32) 23)).setRow w2.heap.size (A.map B8).toArray).setRow (w2.heap.size + 1) (B.map B8).toArray := ⟨_, rfl⟩
  have r1 : W1.heap[w2.heap.size]? = some (.cells (A.map B8).toArray 23 (0, 0)) := by
    rw [hW1, setRow_other _ _ _ _ (by omega)]
    exact setRow_heap _ _ _ _ _ _ z1
  have r2 : W1.heap[w2.heap.size + 1]? = some (.cells (B.map B8).toArray 23 (0, 0)) := by
    rw [hW1]
    exact setRow_heap _ _ _ _ _ _ ((setRow_other _ _ _ _ (by omega)).trans z2)
  have c0 := (cell_of_row W1 _ 0 _ _ _ r1).trans (show _ = some (.int .u8 186) by rw [HE2.out]; rfl)
  have c1 := (cell_of_row W1 _ 1 _ _ _ r1).trans (show _ = some (.int .u8 120) by rw [HE2.out]; rfl)
  have c2 := (cell_of_row W1 _ 0 _ _ _ r2).trans (show _ = some (.int .u8 93) by rw [HE1.out]; rfl)
  have c3 := (cell_of_row W1 _ 1 _ _ _ r2).trans (show _ = some (.int .u8 246) by rw [HE1.out]; rfl)
  have F1 : Fr F0 w W1 := by
    rw [hW1]
    have hs := hF2.size
    exact ((((hF2.alloc _).alloc _).setRow (fun h => by omega) _).setRow (fun h => by omega) _)
  refine wp_of_world' W1 hW1 ?_
  clear hW1 z1 z2 r1 r2 e32 zA zB
  generalize w2.heap.size = Y at *
  go_wp2
  go_ret
  exact ⟨rfl, F1⟩
end Go.Proofs.YtkppakhjfagdnaaDoor
