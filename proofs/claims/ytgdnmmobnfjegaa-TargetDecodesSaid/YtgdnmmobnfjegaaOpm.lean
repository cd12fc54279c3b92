/- Arguments that are amounts, bools, integers, opened. -/
import Derived.Test.YtgdnmmobnfjegaaOpw
namespace Go.Proofs.Ytgdnmmobnfjegaa
set_option linter.unusedVariables false
set_option linter.unusedSimpArgs false
open Go.RowKit Go.ChangeShapes Go.WideShapes

section
variable {H : Type} {enc : TypeId × Value → H} {W : World} {base : Nat} {sp : Nat → Bool} {held : Bool}


theorem open_bool {r : Reach} {b0 : Nat} {v : Value} {d : DataW H} {ps : List MemPlace} (hd : DataW.Trod enc Try.prog W base sp held 4 v d ps) (hv : Value.okWide Try.prog W r b0 4 v) :
    ∃ b : Bool, v = .bool b := okWide_bool Try.underlying4 hv
theorem open_int {r : Reach} {b0 : Nat} {v : Value} {d : DataW H} {ps : List MemPlace} (hd : DataW.Trod enc Try.prog W base sp held 3 v d ps) (hv : Value.okWide Try.prog W r b0 3 v) :
    ∃ n : Int, (Lit.int .i64 n).wf = true ∧ v = .int .i64 n := by
  obtain ⟨n, rfl⟩ := okWide_int Try.underlying3 hv
  obtain ⟨fuel, hf⟩ := hd
  obtain ⟨z, e, _, wf⟩ := DataW.trod_int Try.underlying3 (by simpa [Value.cells] using hf)
  simp at e
  subst e
  exact ⟨n, wf, rfl⟩
end
end Go.Proofs.Ytgdnmmobnfjegaa
