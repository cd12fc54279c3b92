/- Stage 2, digest: Zero. -/
import Derived.Test.YtkppakhjfagdnaaDoorDigA
import Derived.Test.YtkppakhjfagdnaaDoorApp
import Derived.Test.YtkppakhjfagdnaaDoorEqRow
namespace Go.Proofs.YtkppakhjfagdnaaDoor
set_option linter.unusedVariables false
set_option linter.unusedSimpArgs false
open Go.RowKit

theorem wpList_build_no {P : Program} {w : World} {ops : Array Oper} {rest : List Oper} {o : Oper} {a : Act} {Q : Exit → Act → World → Prop} (hg : o.guard = none) (t : TypeId) (ho : o.op = .build t #[]) (cells : Array Value)
    (hb : P.built t [] = some cells) (h : wpList P ops Q rest (a.put o.dst (.agg cells)) w) : wpList P ops Q (o :: rest) a w := by
  refine wpList_build hg t #[] ho (by simp [hb]) ?_
  simpa [hb] using h

theorem Tryd.builtH : Tryd.prog.built 23 [] = some ((List.replicate 32 (0 : UInt8)).map B8).toArray := by kernel_rfl

theorem eql_hashes (w : World) (l m : List UInt8) (h : l.length = 32) (h' : m.length = 32) : (binOp .eql 23 (.agg (l.map B8).toArray) (.agg (m.map B8).toArray)).run Tryd.prog w = .ok (.bool (decide (l = m))) w := by
  obtain ⟨i0, hi, _⟩ := info_parts Tryd.infoU8
  exact run_eql_bytes w 23 5 32 i0 Tryd.underlying23 hi (by kernel_rfl) (by kernel_rfl) Tryd.underlying5 l m h h'

set_option maxHeartbeats 4000000 in
theorem Zero_any (h : List UInt8) (hh : h.length = 32) (w : World) :
    Calls Tryd.prog 9 #[.agg (h.map B8).toArray] w fun e w' => e = .returned (.bool (decide (h = List.replicate 32 0))) ∧ Fr F0 w w' := by
  have E := fun w => eql_hashes w h (List.replicate 32 0) hh (by simp)
  have hz : (h.map B8).toArray.size = 32 := by simp [hh]
  generalize hZ : List.replicate 32 (0 : UInt8) = Z at *
  have hB := Tryd.builtH
  rw [hZ] at hB
  go_enter Tryd.func9, Tryd.ntmps9
  go_wp2_with (first | refine wpList_load_row rfl 23 (.tmp 1) rfl w.heap.size rfl 23 _ (0, 0) _ (heap_alloc_new w _) Tryd.underlying23 rfl (by rw [Tryd.sz32, hz]) ?_ | refine wpList_build_no rfl 23 rfl _ hB ?_)
  go_ret
  exact ⟨rfl, (Fr.refl F0 w).alloc _⟩
end Go.Proofs.YtkppakhjfagdnaaDoor
