/- strings.IndexByte among the signs of hexadecimal. -/
import Derived.Test.YtkppakhjfagdnaaDoorRef2p
import Derived.Lib.Bytealg
import Derived.Laws.Externs
namespace Go.Proofs.YtkppakhjfagdnaaDoor
set_option linter.unusedVariables false
set_option linter.unusedSimpArgs false
open Go.RowKit

/-- Where a sign stands among them, or -1. -/
def ixv (c : UInt8) : Int := match hexv c with | some d => (d.toNat : Int) | none => -1

theorem ix_all : ∀ n, n < 256 → Lib.indexByte signsL (UInt8.ofNat n) = ixv (UInt8.ofNat n) := by decide +kernel

abbrev signsB : ByteArray := { data := #[48, 49, 50, 51, 52, 53, 54, 55, 56, 57, 97, 98, 99, 100, 101, 102] }

@[go_sem] theorem run_IBS (c : UInt8) (w : World) :
    (callFunc 24 #[.string signsB, .int .u8 (c.toNat : Int)]).run Tryd.prog w = .ok (.value (.int .i64 (ixv c))) w := by
  rw [run_callFunc_extern Tryd.func24 (by kernel_rfl) (by kernel_rfl) (by kernel_rfl) (e := Extern.BytealgIndexByte.indexByte) (by kernel_rfl), Lib.run_indexByteString]
  have h := ix_all c.toNat c.toNat_lt
  have e : UInt8.ofNat c.toNat = c := by simp
  rw [e] at h
  have e2 : ((c.toNat : Int)).toNat.toUInt8 = c := by simp
  rw [e2, show signsB.data.toList = signsL from rfl, h]
  rfl

theorem slIndexByte_any (c : UInt8) (w : World) : Calls Tryd.prog 19 #[.string signsB, .int .u8 (c.toNat : Int)] w fun e w' => e = .returned (.int .i64 (ixv c)) ∧ w' = w := by
  have h := run_IBS c
  generalize ixv c = z at *
  generalize (c.toNat : Int) = y at *
  go_enter Tryd.func19, Tryd.ntmps19
  go_wp2
  go_ret
  exact ⟨rfl, rfl⟩
theorem sIndexByte_any (c : UInt8) (w : World) : Calls Tryd.prog 12 #[.string signsB, .int .u8 (c.toNat : Int)] w fun e w' => e = .returned (.int .i64 (ixv c)) ∧ w' = w := by
  have H := Lib.hid (slIndexByte_any c)
  generalize ixv c = z at *
  generalize (c.toNat : Int) = y at *
  go_enter Tryd.func12, Tryd.ntmps12
  go_wp2_with fail
  (with_reducible refine (H.out _).mono ?_); rintro e w1 ⟨rfl, hw⟩; replace hw := hw.symm; subst hw
  go_wp2_with fail
  go_ret
  exact ⟨rfl, rfl⟩
end Go.Proofs.YtkppakhjfagdnaaDoor
