import Derived.Test.YtohckefafbhooaaGreatF10
import Derived.Test.YtohckefafbhooaaGreatF1
import Derived.Deep.Cut
namespace Go.Proofs.YtohckefafbhooaaGreat
set_option maxRecDepth 100000
set_option linter.unusedVariables false
set_option linter.unusedSimpArgs false
open Go.RowKit
attribute [-go_sem] cell_at
structure RB (B : Nat) (w : World) (m : Nat) (R : Nat → Nat) (M : Bok) (sv : Value) : Prop where
 blk : BF w m (encM R M sv)
 vs : OwnE 111 27 encV B w sv M.vs
 base : B ≤ m
section
variable {B : Nat} {w w' : World} {m : Nat} {R : Nat → Nat} {M : Bok} {sv : Value}
end
end Go.Proofs.YtohckefafbhooaaGreat
namespace Go.Proofs.YtohckefafbhooaaGreat
set_option maxRecDepth 100000
set_option linter.unusedVariables false
set_option linter.unusedSimpArgs false
open Go.RowKit
attribute [-go_sem] cell_at
theorem atV_found {l : List Vlt} {w k : Nat} {y : Vlt} (h : ∀ i,i < k → ∀ x,l[i]? = some x → x.who ≠ w) (hy : l[k]? = some y) (hw : y.who = w) : atV l w = k := by
 obtain ⟨hk,e⟩ := List.getElem?_eq_some_iff.1 hy
 refine (List.findIdx_eq (p := fun x : Vlt => x.who == w) hk).2 ⟨by rw [e]; exact beq_iff_eq.2 hw,fun j hj => ?_⟩
 exact beq_eq_false_iff_ne.2 (h j hj _ (List.getElem?_eq_getElem (by omega)))
section
variable {B : Nat} {w w' : World} {m : Nat} {R : Nat → Nat} {M : Bok} {sv : Value}
end
end Go.Proofs.YtohckefafbhooaaGreat
namespace Go.Proofs.YtohckefafbhooaaGreat
set_option maxRecDepth 100000
set_option linter.unusedVariables false
set_option linter.unusedSimpArgs false
open Go.RowKit
attribute [-go_sem] cell_at
section
variable {B : Nat} {w w' : World} {m : Nat} {R : Nat → Nat} {M : Bok} {sv : Value}
end
end Go.Proofs.YtohckefafbhooaaGreat
namespace Go.Proofs.YtohckefafbhooaaGreat
set_option maxRecDepth 100000
set_option linter.unusedVariables false
set_option linter.unusedSimpArgs false
open Go.RowKit
attribute [-go_sem] cell_at
section
variable {B : Nat} {w w' : World} {m : Nat} {R : Nat → Nat} {M : Bok} {sv : Value}
end
end Go.Proofs.YtohckefafbhooaaGreat
namespace Go.Proofs.YtohckefafbhooaaGreat
set_option maxRecDepth 100000
set_option linter.unusedVariables false
set_option linter.unusedSimpArgs false
open Go.RowKit
attribute [-go_sem] cell_at
section
variable {B : Nat} {w w' : World} {m : Nat} {R : Nat → Nat} {M : Bok} {sv : Value}
end
end Go.Proofs.YtohckefafbhooaaGreat
namespace Go.Proofs.YtohckefafbhooaaGreat
set_option maxRecDepth 100000
set_option linter.unusedVariables false
set_option linter.unusedSimpArgs false
open Go.RowKit
attribute [-go_sem] cell_at
end Go.Proofs.YtohckefafbhooaaGreat
namespace Go.Proofs.YtohckefafbhooaaGreat
set_option maxRecDepth 100000
set_option linter.unusedVariables false
set_option linter.unusedSimpArgs false
open Go.RowKit
attribute [-go_sem] cell_at
section
variable {B : Nat} {w w' : World} {m : Nat} {R : Nat → Nat} {M : Bok} {sv : Value}
end
end Go.Proofs.YtohckefafbhooaaGreat
namespace Go.Proofs.YtohckefafbhooaaGreat
set_option maxRecDepth 100000
set_option linter.unusedVariables false
set_option linter.unusedSimpArgs false
open Go.RowKit
attribute [-go_sem] cell_at
def appRV (ty : TypeId) (args : Array Value) : Sem Value := Builtin.append_ #[45,45] ty args
@[go_sem ↓ high] theorem app_RV (ty : TypeId) (args : Array Value) : Builtin.append_ #[45,45] ty args = appRV ty args := rfl
def buildRV0 (parts : Array (Nat × Value)) : Sem Value := Instr.buildSlice 45 0 parts
@[go_sem ↓ high] theorem build_RV0 (p : Array (Nat × Value)) : Instr.buildSlice 45 0 p = buildRV0 p := rfl
section
variable {B : Nat} {w w' : World} {m : Nat} {R : Nat → Nat} {M : Bok} {sv : Value}
end
end Go.Proofs.YtohckefafbhooaaGreat
namespace Go.Proofs.YtohckefafbhooaaGreat
set_option maxRecDepth 100000
set_option linter.unusedVariables false
set_option linter.unusedSimpArgs false
open Go.RowKit
attribute [-go_sem] cell_at
def S20 (m : Nat) (sv : Value) (k : Nat) : Prop := k = m ∨ sv.ownBlock = some k
structure St20 (B : Nat) (w : World) (m g : Nat) (R : Nat → Nat) (d : Dd) (sv : Value) (W : World) (M : Bok) : Prop where
 rb : RB B W m R M sv
 box : W.heap[g]? = some (.cells (dC d) 26 (0,0))
 ne : ¬ S20 m sv g
 fr : Fr (S20 m sv) w W
section
variable {B : Nat} {w W W' : World} {m g : Nat} {R : Nat → Nat} {d : Dd} {sv : Value} {M M' : Bok}
end
section
variable {B : Nat} {w w' : World} {m : Nat} {R : Nat → Nat} {M : Bok} {sv : Value}
end
end Go.Proofs.YtohckefafbhooaaGreat
