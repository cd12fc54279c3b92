import Derived.Test.YtjlelckefiannaaGreatDoorRows
import Derived.WalkKit
import Derived.WalkSpells
import Derived.WalkLawsBesides
import Derived.Lib.Hide
import Derived.Test.YtjlelckefiannaaGreatDoorChecked
import Derived.ProofKit
import Derived.OpenShut
set_option maxRecDepth 100000
set_option maxHeartbeats 64000000
namespace Go.Proofs.YtjlelckefiannaaGreatDoor
set_option linter.unusedVariables false
set_option linter.unusedSimpArgs false
open Go.RowKit
def szB(n:Int):Bool:=(((n==1)||(n==2))||(n==4))||(n==8)
theorem ah4(n:Int)(w:World):Calls Tryz.prog 78 #[.int .i64 n] w λe w'=>e = .returned (.bool (szB n))∧w=w':=by
 by_cases h1:n=1
 ·subst h1;go_enter Tryz.func78,Tryz.ntmps78
  go_wp2
  go_ret
  exact⟨rfl,rfl⟩
 have b1:(n==1)=false:=by simpa using h1
 by_cases h2:n=2
 ·subst h2;go_enter Tryz.func78,Tryz.ntmps78
  go_wp2
  go_ret
  exact⟨rfl,rfl⟩
 have b2:(n==2)=false:=by simpa using h2
 by_cases h4:n=4
 ·subst h4;go_enter Tryz.func78,Tryz.ntmps78
  go_wp2
  go_ret
  exact⟨rfl,rfl⟩
 have b4:(n==4)=false:=by simpa using h4
 go_enter Tryz.func78,Tryz.ntmps78
 go_wp2
 go_ret
 exact⟨by simp[szB,b1,b2,b4],rfl⟩
end Go.Proofs.YtjlelckefiannaaGreatDoor
namespace Go.Proofs.YtjlelckefiannaaGreatDoor
set_option linter.unusedVariables false
def jw(n:Nat):Code→Option Code
 |.region i ops d=>if i=n then some (.region i ops d)else none
 |.seq a b=>match jw n a with
  |some c=>some c
  |none=>jw n b
 |.cond _ a b=>match jw n a with
  |some c=>some c
  |none=>jw n b
 |.rangeFunc _ _ a b=>match jw n a with
  |some c=>some c
  |none=>jw n b
 |.block _ c=>jw n c
 |.loop c=>jw n c
 |.scope c=>jw n c
 |_=>none
end Go.Proofs.YtjlelckefiannaaGreatDoor
namespace Go.Proofs.YtjlelckefiannaaGreatDoor
set_option linter.unusedVariables false
end Go.Proofs.YtjlelckefiannaaGreatDoor
namespace Go.Proofs.YtjlelckefiannaaGreatDoor
set_option linter.unusedVariables false
set_option linter.unusedSimpArgs false
open Go.RowKit
theorem own:ownKnob Tryz.prog.godebug=none:=by kernel_rfl
theorem laidOut:laidOutB Tryz.prog=true:=by kernel_rfl
end Go.Proofs.YtjlelckefiannaaGreatDoor
