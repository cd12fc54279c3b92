/- What the row's condition on the table of the cube roots gives. -/
import Derived.Test.YtkppakhjfagdnaaDoorDigC
import Derived.ProofKit
import Derived.LaidMore
import Derived.OpenShut
import Derived.Stop.Joined
import Derived.MakeChecks
import Derived.FnData
namespace Go.Proofs.YtkppakhjfagdnaaDoor
set_option linter.unusedVariables false
set_option linter.unusedSimpArgs false
open Go.ChangeShapes Go.WideShapes Go.ChangeAt Go.RowKit

abbrev laidC : List (String × DataW Unit) := [("pontage/digest.cubes", Rows.laid_pontage_digest_cubes)]

theorem gCubes : Tryd.prog.globalNamed "pontage/digest.cubes" = some 0 := by kernel_rfl
theorem tCubes : (Tryd.prog.globals[0]?).map (·.type) = some 53 := by kernel_rfl
theorem cubes_data : Rows.laid_pontage_digest_cubes (H := Unit) = .agg (cubesN.map fun n : Nat => .lit (.int .u32 (n : Int))) := by rfl
theorem cubes_wi : ∀ i, i < 64 → wi (cubesL.getD i 0) = ((cubesN.getD i 0 : Nat) : Int) := by decide +kernel

theorem door_met (os : Os) (args : Array Value) : laidMetH Tryd.prog laidC ((World.doorLaid Tryd.prog 400 os).forCall (fun _ _ => 0) ⟨#[], args, []⟩).memory :=
  laidMetH_of_parts3 (fuel := 8) (laidMet_of_run' 8 (by kernel_rfl) (by kernel_rfl)) (by kernel_rfl) (by kernel_rfl)

theorem Cub.of_laid {W : World} (h : laidMetH Tryd.prog laidC W) : Cub W := by
  rw [MakeChecks.laidMetH_plain _ _ _ (by kernel_rfl)] at h
  obtain ⟨ps, ⟨g0, t0, cs0, f0, p0, q0, hg0, ht0, hv0, hd0, _, _⟩, _, _⟩ := h
  obtain rfl := Option.some.inj (gCubes.symm.trans hg0)
  obtain rfl := Option.some.inj (tCubes.symm.trans ht0)
  intro j hj
  obtain ⟨xs, m, rfl, hx, hlen, hn, hel⟩ := DataW.trod_array Tryd.underlying53 hd0
  have c1 : Tryd.prog.cellsOf 40 = 1 := by kernel_rfl
  have hxj := hel j hj
  rw [c1, Nat.mul_one] at hxj
  have hjx : j < xs.length := by omega
  rw [List.getElem?_eq_getElem hjx] at hxj
  obtain ⟨k, e1, e2, _⟩ := DataW.trod_int Tryd.underlying40 hxj
  simp only [Prod.mk.injEq] at hx
  have hx1 := hx.1
  rw [cubes_data, DataW.agg.injEq] at hx1
  have hk := congrArg (fun l => l[j]?) hx1
  simp only [List.getElem?_map, List.getElem?_eq_getElem hjx, Option.map_some] at hk
  have hcl : j < cubesN.length := by show j < 64; exact hj
  rw [List.getElem?_eq_getElem hcl, Option.map_some, e2] at hk
  have hk2 : (cubesN[j] : Int) = k := by simpa using hk
  rw [World.var?_cell hg0 hv0 j, cubes_wi j hj]
  have hcs : cs0.toList.drop j ≠ [] := by intro e; rw [e] at e1; simp at e1
  have hjl : j < cs0.toList.length := by
    rcases Nat.lt_or_ge j cs0.toList.length with h | h
    · exact h
    · exact absurd (List.drop_eq_nil_of_le h) hcs
  rw [List.drop_eq_getElem_cons hjl] at e1
  simp only [List.take_succ_cons, List.take_zero, List.cons.injEq, and_true] at e1
  rw [show cubesN.getD j 0 = cubesN[j] by simp [List.getD, List.getElem?_eq_getElem hcl], hk2, ← e1]
  simp at hjl
  simp [hjl]
end Go.Proofs.YtkppakhjfagdnaaDoor
