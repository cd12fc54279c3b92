/- Lengths of the document's numbers; rows and slices that were just made. -/
import Derived.Test.YtgdnmmobnfjegaaRf
import Derived.Test.YtgdnmmobnfjegaaLv3
namespace Go.Proofs.Ytgdnmmobnfjegaa
set_option linter.unusedVariables false
set_option linter.unusedSimpArgs false
open Go.RowKit

theorem lg_minp {x n : Nat} (h : x < pw n) : lg x ≤ n := lg_min h
theorem lg_small {z : Nat} (h : z < W256 * W256) : lg z ≤ 10000 := by
  have e16 : W256 = pw 16 := rfl
  rw [e16, ← pw_add] at h
  exact Nat.le_trans (lg_minp h) (by omega)
theorem lg_word {z : Nat} (h : z < W256) : lg z ≤ 16 := lg_minp (show z < pw 16 from h)

theorem set_first (a : Nat) (h : a < 18446744073709551616) : (rowN .u64 64 4 0).setIfInBounds 0 (.int .u64 (a : Int)) = rowN .u64 64 4 a := by
  have := set_word 0 0 a h
  rw [putw_new _ _ _ _ (by simp)] at this
  simpa using this

/-- A slice that was just built. -/
theorem Us.of_list (w : World) (l : List Nat) (t : TypeId) (hl : l.length ≤ 1000) : Us (w.alloc (.cells (l.map U64).toArray t)) (some ⟨w.heap.size, 0, none⟩) l.length l :=
  ⟨by simp, Nat.le_refl _, by unfold maxLen; omega, (fun e => by cases e), fun j u hj => ⟨w.heap.size, 0, rfl, by
    rw [Nat.zero_add, cell_of_row _ _ j _ _ _ (heap_alloc_new w _)]
    simpa using hj⟩⟩
theorem Us.of1 (w : World) (x : Nat) (t : TypeId) : Us (w.alloc (.cells #[.int .u64 (x : Int)] t)) (some ⟨w.heap.size, 0, none⟩) 1 [x] := Us.of_list w [x] t (by simp)
theorem Us.of2 (w : World) (x y : Nat) (t : TypeId) : Us (w.alloc (.cells #[.int .u64 (x : Int), .int .u64 (y : Int)] t)) (some ⟨w.heap.size, 0, none⟩) 2 [x, y] := Us.of_list w [x, y] t (by simp)
theorem Us.of3 (w : World) (x y z : Nat) (t : TypeId) : Us (w.alloc (.cells #[.int .u64 (x : Int), .int .u64 (y : Int), .int .u64 (z : Int)] t)) (some ⟨w.heap.size, 0, none⟩) 3 [x, y, z] := Us.of_list w [x, y, z] t (by simp)
end Go.Proofs.Ytgdnmmobnfjegaa
