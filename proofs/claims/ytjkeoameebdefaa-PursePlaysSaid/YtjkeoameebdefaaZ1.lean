import Derived.Test.YtjkeoameebdefaaRows
import Derived.WalkKit
import Derived.Lib.Hide
import Derived.Test.YtjkeoameebdefaaChecked
import Derived.ProofKit
import Derived.OpenShut
import Derived.Deep.RegionHeld
import Derived.Deep.RegionHeld3
import Derived.Deep.Draws
/- Where a region lies in a function's text. Nothing here speaks of the program. -/
namespace Go.Proofs.Ytjkeoameebdefaa
set_option maxRecDepth 100000
set_option linter.unusedVariables false

/-- The region of that number. -/
def findRegion (n : Nat) : Code → Option Code
  | .region i ops d => if i = n then some (.region i ops d) else none
  | .seq a b => match findRegion n a with
    | some c => some c
    | none => findRegion n b
  | .cond _ a b => match findRegion n a with
    | some c => some c
    | none => findRegion n b
  | .rangeFunc _ _ a b => match findRegion n a with
    | some c => some c
    | none => findRegion n b
  | .block _ c => findRegion n c
  | .loop c => findRegion n c
  | .scope c => findRegion n c
  | _ => none

def isTmp (n : Nat) : Operand → Bool
  | .tmp t => t == n
  | _ => false

/-- The 'if' whose test lies in slot n. -/
def findIf (n : Nat) : Code → Option Code
  | .cond c a b => if isTmp n c then some (.cond c a b) else match findIf n a with
    | some c => some c
    | none => findIf n b
  | .seq a b => match findIf n a with
    | some c => some c
    | none => findIf n b
  | .rangeFunc _ _ a b => match findIf n a with
    | some c => some c
    | none => findIf n b
  | .block _ c => findIf n c
  | .loop c => findIf n c
  | .scope c => findIf n c
  | _ => none
end Go.Proofs.Ytjkeoameebdefaa

/- What all openers of arguments want of the program. -/
namespace Go.Proofs.Ytjkeoameebdefaa
set_option maxRecDepth 100000
set_option linter.unusedVariables false
set_option linter.unusedSimpArgs false
open Go.RowKit

theorem own : ownKnob Try.prog.godebug = none := by kernel_rfl
theorem laidOut : laidOutB Try.prog = true := by kernel_rfl
end Go.Proofs.Ytjkeoameebdefaa

/- Steps of a region that draws its order, with their side conditions laid by auto-parameters. Nothing here speaks of the program. -/
namespace Go.Proofs.Ytjkeoameebdefaa
set_option maxRecDepth 100000
set_option linter.unusedVariables false
section
variable {P : Program} {md : Region.Mode} {ops : Array Oper} {Q : Exit → Act → World → Prop} {S : World → Prop} {fuel : Nat} {listed : Array Bool} {a : Act} {w : World}

/-- An operation that reads alone, taken first. -/
theorem rtake (i : Nat) {d : Option Tmp} {op : Op} {ty : TypeId} {pos : String} {af : Array Edge} {gd : Option (Nat × Bool)} {v : Value} {a' : Act} (h : wpAnyH P md ops Q S fuel (listed.setIfInBounds i true) a' w)
    (hi : ops[i]? = some ⟨d, op, ty, pos, af, gd⟩ := by rfl) (hs : Region.noSelect ops = true := by kernel_rfl) (hf : Region.free md ops listed i = true := by kernel_rfl)
    (hr : (Region.ready md ops listed).contains i = true := by kernel_rfl) (hQ : ∀ c a w, Q (.panic c) (a.put (d) v) w → Q (.panic c) a w := by exact fun _ _ _ h => h)
    (hw : Region.wanted ⟨d, op, ty, pos, af, gd⟩ (yielded ops a.tmps) = true := by rfl)
    (hy : ∀ w, S w → (execOp a.eval ⟨d, op, ty, pos, af, gd⟩).run P w = .ok (.value v) w := by (intro w hSw; (try dsimp only at hSw); go_simp; (try (with_reducible rfl)); done))
    (ha : a.put (d) v = a' := by (conv => lhs; (simp only [Act.put, List.setIfInBounds_toArray]; dsimp only [List.set_cons_zero, List.set_cons_succ])))
    (hS : S w := by assumption) : wpAnyH P md ops Q S (fuel + 1) listed a w :=
  wpAnyH_take hi hs hf hr hQ (Or.inl ⟨hw, hy⟩) hS (ha ▸ h)
/-- One that is not wanted. -/
theorem rleave (i : Nat) {d : Option Tmp} {op : Op} {ty : TypeId} {pos : String} {af : Array Edge} {gd : Option (Nat × Bool)} {a' : Act} (h : wpAnyH P md ops Q S fuel (listed.setIfInBounds i true) a' w)
    (hi : ops[i]? = some ⟨d, op, ty, pos, af, gd⟩ := by rfl) (hs : Region.noSelect ops = true := by kernel_rfl) (hf : Region.free md ops listed i = true := by kernel_rfl)
    (hr : (Region.ready md ops listed).contains i = true := by kernel_rfl) (hQ : ∀ c a w, Q (.panic c) (a.put (d) undef) w → Q (.panic c) a w := by exact fun _ _ _ h => h)
    (hw : Region.wanted ⟨d, op, ty, pos, af, gd⟩ (yielded ops a.tmps) = false := by rfl)
    (ha : a.put (d) undef = a' := by (conv => lhs; (simp only [Act.put, List.setIfInBounds_toArray]; dsimp only [List.set_cons_zero, List.set_cons_succ])))
    (hS : S w := by assumption) : wpAnyH P md ops Q S (fuel + 1) listed a w :=
  wpAnyH_take hi hs hf hr hQ (Or.inr ⟨hw, rfl⟩) hS (ha ▸ h)
/-- The one that is ready. -/
theorem rone (i : Nat) {d : Option Tmp} {op : Op} {ty : TypeId} {pos : String} {af : Array Edge} {gd : Option (Nat × Bool)}
    (h : ∀ K' : Act → World → Prop, Shut (∀ a w, S w → (S w → wpAnyH P md ops Q S fuel (listed.setIfInBounds i true) a w) → K' a w) → if Region.wanted ⟨d, op, ty, pos, af, gd⟩ (yielded ops a.tmps) = true then Oper.wp P ⟨d, op, ty, pos, af, gd⟩ a w K' Q else K' (a.put d undef) w)
    (hr : Region.ready md ops listed = [i] := by kernel_rfl) (ho : ops[i]? = some ⟨d, op, ty, pos, af, gd⟩ := by rfl) : wpAnyH P md ops Q S (fuel + 1) listed a w :=
  wpAnyH_ready hr (by simp) (AllReadyH.cons ho h AllReadyH.nil)
theorem rdone (h : Q .normal a w) (hr : Region.ready md ops listed = [] := by kernel_rfl) : wpAnyH P md ops (NoPanic Q) S fuel listed a w := wpAnyH_done hr (NoPanic.normal h) _
theorem rbegin {id : Nat} (hS : S w.drew) (h : S w.drew → wpAnyH P .any ops (NoPanic Q) S ops.size (Array.replicate ops.size false) a w.drew) (hm : P.follows .mixedOrders = true := by kernel_rfl) : (Code.region id ops true).wp P Q a w :=
  wp_region_noPanic (wp_region_held_drew hm hS h)
end
theorem aST {α : Type} (l : List α) (i : Nat) (x : α) : l.toArray.setIfInBounds i x = (l.set i x).toArray := by simp
theorem aS0 {α : Type} (y : α) (l : List α) (x : α) : (y :: l).set 0 x = x :: l := rfl
theorem aS1 {α : Type} (y : α) (l : List α) (i : Nat) (x : α) : (y :: l).set (i + 1) x = y :: l.set i x := rfl
end Go.Proofs.Ytjkeoameebdefaa

/- Where a block lies in a function's text. Nothing here speaks of the program. -/
namespace Go.Proofs.Ytjkeoameebdefaa
set_option maxRecDepth 100000
set_option linter.unusedVariables false

/-- The block of that number. -/
def findBlock (n : Nat) : Code → Option Code
  | .block i c => if i = n then some (.block i c) else findBlock n c
  | .seq a b => match findBlock n a with
    | some c => some c
    | none => findBlock n b
  | .cond _ a b => match findBlock n a with
    | some c => some c
    | none => findBlock n b
  | .rangeFunc _ _ a b => match findBlock n a with
    | some c => some c
    | none => findBlock n b
  | .loop c => findBlock n c
  | .scope c => findBlock n c
  | _ => none
/-- The condition behind the region of that number. -/
def findCond (n : Nat) : Code → Option Code
  | .seq a b => match (match a, b with
      | .region i _ _, .cond t c d => if i = n then some (.cond t c d) else none
      | _, _ => none) with
    | some c => some c
    | none => match findCond n a with
      | some c => some c
      | none => findCond n b
  | .cond _ a b => match findCond n a with
    | some c => some c
    | none => findCond n b
  | .rangeFunc _ _ a b => match findCond n a with
    | some c => some c
    | none => findCond n b
  | .block _ c => findCond n c
  | .loop c => findCond n c
  | .scope c => findCond n c
  | _ => none
/-- What a block holds. -/
def inBlk : Code → Code
  | .block _ c => c
  | c => c
end Go.Proofs.Ytjkeoameebdefaa
