import Derived.Test.YtjlelckefiannaaGreatDoorZ20
import Derived.Test.YtjlelckefiannaaGreatDoorZ26
import Derived.Test.YtjlelckefiannaaGreatDoorZ1
import Derived.Test.YtjlelckefiannaaGreatDoorZ2
import Derived.Deep.Cut
namespace Go.Proofs.YtjlelckefiannaaGreatDoor
set_option maxRecDepth 100000
set_option linter.unusedVariables false
set_option linter.unusedSimpArgs false
open Go.RowKit
theorem af5(A:List UInt8)(h:A.length=32):∃x0 x1 x2 x3 x4 x5 x6 x7 x8 x9 x10 x11 x12 x13 x14 x15 x16 x17 x18 x19 x20 x21 x22 x23 x24 x25 x26 x27 x28 x29 x30 x31:UInt8,A = [x0,x1,x2,x3,x4,x5,x6,x7,x8,x9,x10,x11,x12,x13,x14,x15,x16,x17,x18,x19,x20,x21,x22,x23,x24,x25,x26,x27,x28,x29,x30,x31]:=by
 match A,h with
 |[x0,x1,x2,x3,x4,x5,x6,x7,x8,x9,x10,x11,x12,x13,x14,x15,x16,x17,x18,x19,x20,x21,x22,x23,x24,x25,x26,x27,x28,x29,x30,x31],_=>exact⟨x0,x1,x2,x3,x4,x5,x6,x7,x8,x9,x10,x11,x12,x13,x14,x15,x16,x17,x18,x19,x20,x21,x22,x23,x24,x25,x26,x27,x28,x29,x30,x31,rfl⟩
def adg(h:Hd)(v:Value):Bk:=⟨uj h.bytes,0,h.time,h.bits,v⟩
end Go.Proofs.YtjlelckefiannaaGreatDoor
