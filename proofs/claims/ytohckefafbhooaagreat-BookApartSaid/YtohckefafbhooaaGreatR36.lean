import Derived.Test.YtohckefafbhooaaGreatR35
set_option maxRecDepth 100000
set_option maxHeartbeats 64000000
namespace Go.Proofs.YtohckefafbhooaaGreat
set_option linter.unusedVariables false
set_option linter.unusedSimpArgs false
open Go.RowKit
attribute [-go_sem] gq
def alb : Bok := ⟨0,0,0,fun _ => 0,fun _ => 0,0,0,0,0,0,0,[]⟩
theorem ao5 : alb.Ok := ⟨aa2 256,by rw [show uy alb.tok 256 = 0 from aa2 256]; omega,rfl,by rw [show uy alb.free 256 = 0 from aa2 256]; rfl,Nat.zero_le _,fun x h => (by cases h),List.Pairwise.nil,Nat.zero_le _,Nat.zero_le _,Nat.zero_le _,Nat.zero_le _⟩
def aCx : Array Value := usC ++ Array.replicate 520 (.int .u64 0) ++ #[.slice none 0 0,.int .u64 0]
def awk (parts : Array (Nat × Value)) : Sem Value := Instr.build 47 parts
@[go_sem ↓ high] theorem build_Bk (p : Array (Nat × Value)) : Instr.build 47 p = awk p := rfl
theorem aft (w : World) : (awk #[(0,.agg usC)]).run Tryz.prog w = .ok (.agg aCx) w := run_build w _ _ _ (by kernel_rfl)
end Go.Proofs.YtohckefafbhooaaGreat
