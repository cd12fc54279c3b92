import Derived.Test.YtedffdlkmpmdlaaGreatDoorFz2
import Derived.RangeFuncNested
import Derived.RangeFuncBound
import Derived.RangeFuncCalls
import Derived.RangeFuncLeaves
import Derived.Shelf.Abstract
import Derived.Shelf.RegionOpen
import Derived.OwnWalkIn
import Derived.TacticsInMore
import Derived.LoopNIn
import Derived.LoopIn
import Derived.RangeFuncBox
import Derived.Laws.BitsAllLaws
namespace Go.Proofs.YtedffdlkmpmdlaaGreatDoor
set_option maxRecDepth 100000
set_option linter.unusedVariables false
set_option linter.unusedSimpArgs false
open Go.RowKit
@[go_sem high] theorem run_slice_to_g {P : Program} (w : World) (t : TypeId) (ht : P.underlying t = some (.slice (P.elem t))) (a : Option Addr) (len cap : Nat) (kh : IntKind) (h : Int) (h0 : 0 ≤ h) (h2 : h ≤ cap) :
  (Instr.slice t (.slice a len cap) none (some (.int kh h)) none).run P w = ((sizeOf (P.elem t)).run P w).andThen fun _ w => .ok (.slice a h.toNat cap) w := by
 rw [run_slice_h w t a len cap ht kh h h0 h2]
 congr 1
 funext s w
 simp only [sliced,Nat.zero_mul,Nat.sub_zero]
 congr 2
 split
 ·rfl
 ·cases a <;> simp [Addr.add]
end Go.Proofs.YtedffdlkmpmdlaaGreatDoor
namespace Go.Proofs.YtedffdlkmpmdlaaGreatDoor
set_option maxRecDepth 100000
set_option linter.unusedVariables false
set_option linter.unusedSimpArgs false
open Go.RowKit
structure IsR (w : World) (b : Nat) (a : Option Addr) (st : Option (List UInt8)) : Prop where
 at_ : ∃ c,w.heap[b]? = some (.cells #[.slice a (st.getD []).length c,.bool st.isNone] 148 (0,0)) ∧ Bs w a c (st.getD [])
 blk : ∀ k,ablk a = some k → k < w.heap.size
def tk (n : Int) (st : Option (List UInt8)) : List UInt8 × Option (List UInt8) :=
 match st with
 |none => ([],none)
 |some bs => if 0 ≤ n ∧ n ≤ bs.length then (bs.take n.toNat,some (bs.drop n.toNat)) else ([],none)
end Go.Proofs.YtedffdlkmpmdlaaGreatDoor
namespace Go.Proofs.YtedffdlkmpmdlaaGreatDoor
set_option maxRecDepth 100000
set_option linter.unusedVariables false
set_option linter.unusedSimpArgs false
open Go.RowKit Go.Shelf
attribute [local go_sem] Oper.semAt_some
def ofLE : List UInt8 → Nat
 |[] => 0
 |c :: r => c.toNat + 256 * ofLE r
end Go.Proofs.YtedffdlkmpmdlaaGreatDoor
namespace Go.Proofs.YtedffdlkmpmdlaaGreatDoor
set_option maxRecDepth 100000
set_option linter.unusedVariables false
set_option linter.unusedSimpArgs false
open Go.RowKit Go.Shelf
attribute [local go_sem] Oper.semAt_some
theorem ofLE_lt (bs : List UInt8) : ofLE bs < 256 ^ bs.length := by
 induction bs with
 |nil => simp [ofLE]
 |cons c r ih =>
  have := c.toNat_lt
  simp only [ofLE,List.length_cons,Nat.pow_succ]
  omega
end Go.Proofs.YtedffdlkmpmdlaaGreatDoor
namespace Go.Proofs.YtedffdlkmpmdlaaGreatDoor
set_option maxRecDepth 100000
set_option linter.unusedVariables false
set_option linter.unusedSimpArgs false
open Go.RowKit
end Go.Proofs.YtedffdlkmpmdlaaGreatDoor
namespace Go.Proofs.YtedffdlkmpmdlaaGreatDoor
set_option maxRecDepth 100000
set_option linter.unusedVariables false
set_option linter.unusedSimpArgs false
open Go.RowKit
end Go.Proofs.YtedffdlkmpmdlaaGreatDoor
namespace Go.Proofs.YtedffdlkmpmdlaaGreatDoor
set_option maxRecDepth 100000
set_option linter.unusedVariables false
set_option linter.unusedSimpArgs false
open Go.RowKit
def Hd.bytes (h : Hd) : List UInt8 := le 4 h.ver ++ (h.ahead ++ (h.root ++ (le 4 h.time ++ (le 4 h.bits ++ le 4 h.nonce))))
theorem Hd.bytes_length {h : Hd} (o : h.Ok) : h.bytes.length = 80 := by simp [Hd.bytes,o.ahead,o.root,le_length]
end Go.Proofs.YtedffdlkmpmdlaaGreatDoor
namespace Go.Proofs.YtedffdlkmpmdlaaGreatDoor
set_option maxRecDepth 100000
set_option linter.unusedVariables false
set_option linter.unusedSimpArgs false
open Go.RowKit
end Go.Proofs.YtedffdlkmpmdlaaGreatDoor
