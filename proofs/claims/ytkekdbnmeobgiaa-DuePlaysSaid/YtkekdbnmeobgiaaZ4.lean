import Derived.Test.YtkekdbnmeobgiaaZ3
import Derived.Test.YtkekdbnmeobgiaaZ1
import Derived.ProofKit
import Derived.OpenShut
import Derived.WideKeyArr2
import Derived.Below
/- Layer 3's fixed fact. -/
namespace Go.Proofs.Ytkekdbnmeobgiaa
set_option maxRecDepth 100000
set_option linter.unusedVariables false
set_option linter.unusedSimpArgs false
open Go.RowKit

@[simp high] theorem rowEq_self (m x : Nat) : rowEq m x x = true := decide_eq_true rfl

theorem rowN_nil4 (x : Nat) : (rowN .u64 64 4 x = #[]) = False := by
  apply eq_false
  intro h
  have := congrArg Array.size h
  rw [rowN_size] at this
  simp at this
theorem set_0 : (rowN .u64 64 4 0).setIfInBounds 0 (.int .u64 0) = rowN .u64 64 4 0 := by
  have := set_word 0 0 0 (by omega)
  rw [putw_zero0] at this
  exact this
theorem set_2 : (rowN .u64 64 4 0).setIfInBounds 1 (.int .u64 2) = rowN .u64 64 4 36893488147419103232 := by
  have := set_word 0 1 2 (by omega)
  rw [putw_one _ _ (by omega)] at this
  exact this


end Go.Proofs.Ytkekdbnmeobgiaa

/- An argument that is four words, opened. -/
namespace Go.Proofs.Ytkekdbnmeobgiaa
set_option maxRecDepth 100000
set_option linter.unusedVariables false
set_option linter.unusedSimpArgs false
open Go.RowKit Go.ChangeShapes Go.WideShapes


theorem four_words (cs : List Value) (z0 z1 z2 z3 : Int) (h0 : (cs.drop 0).take 1 = [.int .u64 z0]) (h1 : (cs.drop 1).take 1 = [.int .u64 z1]) (h2 : (cs.drop 2).take 1 = [.int .u64 z2]) (h3 : (cs.drop 3).take 1 = [.int .u64 z3]) (hl : cs.length = 4)
    (b0 : 0 ≤ z0 ∧ z0 < 18446744073709551616) (b1 : 0 ≤ z1 ∧ z1 < 18446744073709551616) (b2 : 0 ≤ z2 ∧ z2 < 18446744073709551616) (b3 : 0 ≤ z3 ∧ z3 < 18446744073709551616) : ∃ x : Nat, x < W256 ∧ cs.toArray = rowN .u64 64 4 x := by
  match cs, hl with
  | [c0, c1, c2, c3], _ =>
    simp at h0 h1 h2 h3
    subst h0 h1 h2 h3
    obtain ⟨x0, rfl⟩ := Int.eq_ofNat_of_zero_le b0.1
    obtain ⟨x1, rfl⟩ := Int.eq_ofNat_of_zero_le b1.1
    obtain ⟨x2, rfl⟩ := Int.eq_ofNat_of_zero_le b2.1
    obtain ⟨x3, rfl⟩ := Int.eq_ofNat_of_zero_le b3.1
    let f : Nat → Nat := fun i => if i = 0 then x0 else if i = 1 then x1 else if i = 2 then x2 else x3
    have hf : ∀ i, i < 4 → f i < 2 ^ 64 := fun i hi => by
      have : i = 0 ∨ i = 1 ∨ i = 2 ∨ i = 3 := by omega
      rcases this with rfl | rfl | rfl | rfl <;> simp [f] <;> omega
    refine ⟨ofDgts 64 f 4, ofDgts_lt 64 f 4 hf, ?_⟩
    have e : rowN .u64 64 4 (ofDgts 64 f 4) = ((List.range 4).map fun i => Value.int .u64 (f i : Nat)).toArray := by
      unfold rowN
      congr 1
      apply List.map_congr_left
      intro i hi
      rw [dgt_ofDgts 64 f 4 hf i (List.mem_range.1 hi)]
    rw [e]
    rfl

set_option maxRecDepth 100000 in
theorem bounds_u64' {a : Int} (h : (Lit.int .u64 a).wf = true) : 0 ≤ a ∧ a < 18446744073709551616 := by
  have := bounds_u64 h
  omega

section
variable {H : Type} {enc : TypeId × Value → H} {W : World} {base : Nat} {sp : Nat → Bool} {held : Bool}


set_option maxRecDepth 100000 in
theorem open_word {r : Reach} {b0 : Nat} {v : Value} {d : DataW H} {ps : List MemPlace} (hd : DataW.Trod enc Try.prog W base sp held 23 v d ps) (hv : Value.okWide Try.prog W r b0 23 v) :
    ∃ x : Nat, x < 2 ^ 64 ∧ v = .int .u64 (x : Int) := by
  obtain ⟨n, rfl⟩ := okWide_int Try.underlying23 hv
  obtain ⟨fuel, hf⟩ := hd
  obtain ⟨z, e, _, wf⟩ := DataW.trod_int Try.underlying23 (by simpa [Value.cells] using hf)
  have hb := bounds_u64' wf
  simp at e
  subst e
  obtain ⟨x, rfl⟩ := Int.eq_ofNat_of_zero_le hb.1
  exact ⟨x, by omega, rfl⟩
end
end Go.Proofs.Ytkekdbnmeobgiaa

/- Arguments that are amounts, bools, integers, opened. -/
namespace Go.Proofs.Ytkekdbnmeobgiaa
set_option maxRecDepth 100000
set_option linter.unusedVariables false
set_option linter.unusedSimpArgs false
open Go.RowKit Go.ChangeShapes Go.WideShapes

section
variable {H : Type} {enc : TypeId × Value → H} {W : World} {base : Nat} {sp : Nat → Bool} {held : Bool}


theorem open_bool {r : Reach} {b0 : Nat} {v : Value} {d : DataW H} {ps : List MemPlace} (hd : DataW.Trod enc Try.prog W base sp held 4 v d ps) (hv : Value.okWide Try.prog W r b0 4 v) :
    ∃ b : Bool, v = .bool b := okWide_bool Try.underlying4 hv
theorem open_int {r : Reach} {b0 : Nat} {v : Value} {d : DataW H} {ps : List MemPlace} (hd : DataW.Trod enc Try.prog W base sp held 3 v d ps) (hv : Value.okWide Try.prog W r b0 3 v) :
    ∃ n : Int, (Lit.int .i64 n).wf = true ∧ v = .int .i64 n := by
  obtain ⟨n, rfl⟩ := okWide_int Try.underlying3 hv
  obtain ⟨fuel, hf⟩ := hd
  obtain ⟨z, e, _, wf⟩ := DataW.trod_int Try.underlying3 (by simpa [Value.cells] using hf)
  simp at e
  subst e
  exact ⟨n, wf, rfl⟩
end
end Go.Proofs.Ytkekdbnmeobgiaa

/- Lengths of the document's numbers; rows and slices that were just made. -/
namespace Go.Proofs.Ytkekdbnmeobgiaa
set_option maxRecDepth 100000
set_option linter.unusedVariables false
set_option linter.unusedSimpArgs false
open Go.RowKit

theorem lg_minp {x n : Nat} (h : x < pw n) : lg x ≤ n := lg_min h
theorem lg_small {z : Nat} (h : z < W256 * W256) : lg z ≤ 10000 := by
  have e16 : W256 = pw 16 := rfl
  rw [e16, ← pw_add] at h
  exact Nat.le_trans (lg_minp h) (by omega)
theorem lg_word {z : Nat} (h : z < W256) : lg z ≤ 16 := lg_minp (show z < pw 16 from h)

theorem set_first (a : Nat) (h : a < 18446744073709551616) : (rowN .u64 64 4 0).setIfInBounds 0 (.int .u64 (a : Int)) = rowN .u64 64 4 a := by
  have := set_word 0 0 a h
  rw [putw_new _ _ _ _ (by simp)] at this
  simpa using this

/-- A slice that was just built. -/
theorem Us.of_list (w : World) (l : List Nat) (t : TypeId) (hl : l.length ≤ 1000) : Us (w.alloc (.cells (l.map U64).toArray t)) (some ⟨w.heap.size, 0, none⟩) l.length l :=
  ⟨by simp, Nat.le_refl _, by unfold maxLen; omega, (fun e => by cases e), fun j u hj => ⟨w.heap.size, 0, rfl, by
    rw [Nat.zero_add, cell_of_row _ _ j _ _ _ (heap_alloc_new w _)]
    simpa using hj⟩⟩
theorem Us.of1 (w : World) (x : Nat) (t : TypeId) : Us (w.alloc (.cells #[.int .u64 (x : Int)] t)) (some ⟨w.heap.size, 0, none⟩) 1 [x] := Us.of_list w [x] t (by simp)
theorem Us.of2 (w : World) (x y : Nat) (t : TypeId) : Us (w.alloc (.cells #[.int .u64 (x : Int), .int .u64 (y : Int)] t)) (some ⟨w.heap.size, 0, none⟩) 2 [x, y] := Us.of_list w [x, y] t (by simp)
theorem Us.of3 (w : World) (x y z : Nat) (t : TypeId) : Us (w.alloc (.cells #[.int .u64 (x : Int), .int .u64 (y : Int), .int .u64 (z : Int)] t)) (some ⟨w.heap.size, 0, none⟩) 3 [x, y, z] := Us.of_list w [x, y, z] t (by simp)
end Go.Proofs.Ytkekdbnmeobgiaa
