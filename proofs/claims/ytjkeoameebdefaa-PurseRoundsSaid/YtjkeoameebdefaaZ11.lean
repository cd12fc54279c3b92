import Derived.Test.YtjkeoameebdefaaZ10
/- Layer 16 (purse): the law's model: what is free and held. -/
namespace Go.Proofs.Ytjkeoameebdefaa
set_option maxRecDepth 100000
set_option linter.unusedVariables false
set_option linter.unusedSimpArgs false
open Go.RowKit
attribute [-go_sem] cell_at

set_option maxHeartbeats 4000000 in
theorem mall16_any {w : World} {m h i o : Nat} {f : Nat → Nat} (d : MD w m f h i o) (ho : o ≤ i) (hi : i < 18446744073709551616) :
    Calls Try.prog 21 #[.pointer (some ⟨m, 0, none⟩)] w fun e w' => e = .returned (.int .u64 ((i - o : Nat) : Int)) ∧ Fr F0 w w' := by
  have c1 := d.inn
  have c2 := d.out
  have m1 : IntKind.u64.wrap ((i : Int) - (o : Int)) = ((i - o : Nat) : Int) := by rw [IntWalk.u64_in _ (by omega)]; omega
  clear d ho hi
  go_enter Try.func21, Try.ntmps21
  have F := (Fr.refl F0 w).drew
  go_upto_region 1 with fail
  go_region
  go_wp2_with fail
  go_ret
  exact ⟨rfl, F⟩
end Go.Proofs.Ytjkeoameebdefaa
