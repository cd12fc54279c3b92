/- What a ranging over a function leaves alone. Nothing here speaks of the program. -/
import Derived.RangeFuncNested
import Derived.RangeFuncBound
import Derived.RangeFuncCalls
import Derived.RangeFuncLeaves
import Derived.Shelf.Abstract
import Derived.Shelf.RegionOpen
import Derived.OwnWalkIn
import Derived.TacticsInMore
import Derived.LoopNIn
import Derived.LoopIn
import Derived.RangeFuncBox
import Derived.Test.YtgdnmmobnfjegaaFr
namespace Go.Proofs.Ytgdnmmobnfjegaa
set_option linter.unusedVariables false
set_option linter.unusedSimpArgs false
open Go.RowKit Go.Shelf

/-- But for block x, and what is no cells, memory is as it was. -/
def Kc (x : Nat) (W W' : World) : Prop := W.heap.size ≤ W'.heap.size ∧ ∀ k c e f, k ≠ x → W.heap[k]? = some (.cells c e f) → W'.heap[k]? = some (.cells c e f)

theorem Kc.refl (x : Nat) (W : World) : Kc x W W := ⟨Nat.le_refl _, fun _ _ _ _ _ h => h⟩
theorem Kc.trans {x : Nat} {A B C : World} (h : Kc x A B) (k : Kc x B C) : Kc x A C := ⟨Nat.le_trans h.1 k.1, fun i c e f hi ha => k.2 i c e f hi (h.2 i c e f hi ha)⟩
theorem Kc.setCell (x : Nat) (W : World) (v : Value) : Kc x W (W.setCell ⟨x, 0, none⟩ v) := ⟨by simp [World.setCell], fun k c e f hk h => by rw [Below.heap_setCell _ _ _ _ hk]; exact h⟩
theorem Kc.below {x : Nat} {W W' : World} (h : Below W.heap.size W W') : Kc x W W' := ⟨h.size, fun k c e f _ hk => (h.block k (Array.getElem?_eq_some_iff.1 hk).1).trans hk⟩
theorem Kc.fr {x : Nat} {W W' : World} (h : Fr (fun k => k = x) W W') : Kc x W W' := ⟨h.size, fun k c e f hx hk => (h.block k (Array.getElem?_eq_some_iff.1 hk).1 hx).trans hk⟩
theorem Kc.putObj {x : Nat} (W : World) (l : Nat) (o o' : Obj) (h : W.heap[l]? = some o) (hc : o.isCells = false) : Kc x W (W.putObj l o') := by
  refine ⟨by simp [World.putObj], fun k c e f _ hk => ?_⟩
  by_cases hl : k = l
  · subst hl
    rw [h] at hk
    cases hk
    cases hc
  · simp only [World.putObj]
    rw [Array.getElem?_setIfInBounds_ne (by omega)]
    exact hk

theorem Kc.cell {x : Nat} {W W' : World} (h : Kc x W W') {p : Addr} {v : Value} (hp : p.block ≠ x) (hc : W.cell? p = some v) : W'.cell? p = some v := by
  unfold World.cell? at hc ⊢
  cases hb : W.heap[p.block]? with
  | none => rw [hb] at hc; cases hc
  | some o =>
    rw [hb] at hc
    cases o with
    | cells c e f => rw [h.2 _ c e f hp hb]; exact hc
    | _ => cases hc
end Go.Proofs.Ytgdnmmobnfjegaa
