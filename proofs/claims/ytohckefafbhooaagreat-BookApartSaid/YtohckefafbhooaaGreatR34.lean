import Derived.Test.YtohckefafbhooaaGreatR8
import Derived.Test.YtohckefafbhooaaGreatR2
import Derived.Deep.CutBlock
import Derived.Deep.DeepCutAuto
namespace Go.Proofs.YtohckefafbhooaaGreat
set_option maxRecDepth 100000
set_option linter.unusedVariables false
set_option linter.unusedSimpArgs false
open Go.RowKit
attribute [simp high] abx ad5 heap_alloc_new heap_alloc_old bf dh cu bn acg jr jg ab2 mg
attribute [go_sem low] gq aex
theorem Tryz.szAddress : (Tryz.prog.info? 68).map (·.size) = some 20 := by kernel_rfl
@[go_sem ↓ high] theorem aCo (p : Value) : Instr.loadAt 68 p = gu 68 p := rfl
@[go_sem ↓ high] theorem aBp (p v : Value) : Instr.storeAt 68 p v = jd 68 p v := rfl
@[go_sem] theorem au4 (w : World) (g : Nat) : (gu 68 (.pointer (some ⟨g,0,none⟩))).run Tryz.prog w = abe Tryz.prog 68 (.pointer (some ⟨g,0,none⟩)) w 20 w.heap[g]? :=
 ku w _ g 20 _ Tryz.underlying68 rfl Tryz.szAddress
def awn (parts : Array (Nat × Value)) : Sem Value := Instr.build 68 parts
@[go_sem ↓ high] theorem aBt (p : Array (Nat × Value)) : Instr.build 68 p = awn p := rfl
structure LkC (k : Int) (A : List UInt8) (s : Value) (C : Array Value) : Prop where
 size : C.size = 22
 c0 : C[0]? = some (.int .i64 k)
 c21 : C[21]? = some s
 x1 : C.extract 1 21 = (A.map B8).toArray
theorem twenty (l : List UInt8) (h : l.length = 20) : ∃ x0 x1 x2 x3 x4 x5 x6 x7 x8 x9 x10 x11 x12 x13 x14 x15 x16 x17 x18 x19,l = [x0,x1,x2,x3,x4,x5,x6,x7,x8,x9,x10,x11,x12,x13,x14,x15,x16,x17,x18,x19] := by
 match l,h with
 |[x0,x1,x2,x3,x4,x5,x6,x7,x8,x9,x10,x11,x12,x13,x14,x15,x16,x17,x18,x19],_ => exact ⟨x0,x1,x2,x3,x4,x5,x6,x7,x8,x9,x10,x11,x12,x13,x14,x15,x16,x17,x18,x19,rfl⟩
end Go.Proofs.YtohckefafbhooaaGreat
