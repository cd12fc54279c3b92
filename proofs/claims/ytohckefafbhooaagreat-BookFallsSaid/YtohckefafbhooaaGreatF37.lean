import Derived.Test.YtohckefafbhooaaGreatF7
import Derived.Test.YtohckefafbhooaaGreatF8
namespace Go.Proofs.YtohckefafbhooaaGreat
set_option maxRecDepth 100000
set_option linter.unusedVariables false
set_option linter.unusedSimpArgs false
open Go.RowKit
theorem Tryz.szPool : (Tryz.prog.info? 76).map (·.size) = some 2 := by kernel_rfl
@[go_sem ↓ high] theorem load_pool (p : Value) : Instr.loadAt 76 p = loadRowAt 76 p := rfl
@[go_sem ↓ high] theorem store_pool (p v : Value) : Instr.storeAt 76 p v = storeRowAt 76 p v := rfl
@[go_sem] theorem run_store_pool (w : World) (g : Nat) (cells : Array Value) : (storeRowAt 76 (.pointer (some ⟨g,0,none⟩)) (.agg cells)).run Tryz.prog w = rowIn Tryz.prog 76 (.pointer (some ⟨g,0,none⟩)) cells g w 2 w.heap[g]? :=
 run_storeRowAt w _ g 2 cells Tryz.szPool
structure PL (w : World) (p c i : Nat) : Prop where
 at_ : w.heap[p]? = some (.cells #[.int .u64 (c : Int),.int .u64 (i : Int)] 76 (0,0))
 coll : c ≤ 4611686018427387904
 iss : i ≤ 4611686018427387904
section
variable {w w' : World} {p c i : Nat}
end
end Go.Proofs.YtohckefafbhooaaGreat
