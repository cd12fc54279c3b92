import Derived.Test.YtohckefafbhooaaGreatF35
namespace Go.Proofs.YtohckefafbhooaaGreat
set_option maxRecDepth 100000
set_option linter.unusedVariables false
set_option linter.unusedSimpArgs false
open Go.RowKit
attribute [-go_sem] cell_at
def bok0 : Bok := ⟨0,0,0,fun _ => 0,fun _ => 0,0,0,0,0,0,0,[]⟩
theorem bok0_ok : bok0.Ok := ⟨sumN_zero 256,by rw [show sumN bok0.tok 256 = 0 from sumN_zero 256]; omega,rfl,by rw [show sumN bok0.free 256 = 0 from sumN_zero 256]; rfl,Nat.zero_le _,fun x h => (by cases h),List.Pairwise.nil,Nat.zero_le _,Nat.zero_le _,Nat.zero_le _,Nat.zero_le _⟩
def buildBk (parts : Array (Nat × Value)) : Sem Value := Instr.build 47 parts
@[go_sem ↓ high] theorem build_Bk (p : Array (Nat × Value)) : Instr.build 47 p = buildBk p := rfl
end Go.Proofs.YtohckefafbhooaaGreat
