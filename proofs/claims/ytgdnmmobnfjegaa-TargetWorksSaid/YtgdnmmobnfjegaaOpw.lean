/- An argument that is four words, opened. -/
import Derived.Test.YtgdnmmobnfjegaaLv3
import Derived.ProofKit
import Derived.OpenShut
import Derived.WideKeyArr2
import Derived.Below
namespace Go.Proofs.Ytgdnmmobnfjegaa
set_option linter.unusedVariables false
set_option linter.unusedSimpArgs false
open Go.RowKit Go.ChangeShapes Go.WideShapes

theorem own : ownKnob Try.prog.godebug = none := by kernel_rfl
theorem laidOut : laidOutB Try.prog = true := by kernel_rfl

theorem four_words (cs : List Value) (z0 z1 z2 z3 : Int) (h0 : (cs.drop 0).take 1 = [.int .u64 z0]) (h1 : (cs.drop 1).take 1 = [.int .u64 z1]) (h2 : (cs.drop 2).take 1 = [.int .u64 z2]) (h3 : (cs.drop 3).take 1 = [.int .u64 z3]) (hl : cs.length = 4)
    (b0 : 0 ≤ z0 ∧ z0 < 18446744073709551616) (b1 : 0 ≤ z1 ∧ z1 < 18446744073709551616) (b2 : 0 ≤ z2 ∧ z2 < 18446744073709551616) (b3 : 0 ≤ z3 ∧ z3 < 18446744073709551616) : ∃ x : Nat, x < W256 ∧ cs.toArray = rowN .u64 64 4 x := by
  match cs, hl with
  | [c0, c1, c2, c3], _ =>
    simp at h0 h1 h2 h3
    subst h0 h1 h2 h3
    obtain ⟨x0, rfl⟩ := Int.eq_ofNat_of_zero_le b0.1
    obtain ⟨x1, rfl⟩ := Int.eq_ofNat_of_zero_le b1.1
    obtain ⟨x2, rfl⟩ := Int.eq_ofNat_of_zero_le b2.1
    obtain ⟨x3, rfl⟩ := Int.eq_ofNat_of_zero_le b3.1
    let f : Nat → Nat := fun i => if i = 0 then x0 else if i = 1 then x1 else if i = 2 then x2 else x3
    have hf : ∀ i, i < 4 → f i < 2 ^ 64 := fun i hi => by
      have : i = 0 ∨ i = 1 ∨ i = 2 ∨ i = 3 := by omega
      rcases this with rfl | rfl | rfl | rfl <;> simp [f] <;> omega
    refine ⟨ofDgts 64 f 4, ofDgts_lt 64 f 4 hf, ?_⟩
    have e : rowN .u64 64 4 (ofDgts 64 f 4) = ((List.range 4).map fun i => Value.int .u64 (f i : Nat)).toArray := by
      unfold rowN
      congr 1
      apply List.map_congr_left
      intro i hi
      rw [dgt_ofDgts 64 f 4 hf i (List.mem_range.1 hi)]
    rw [e]
    rfl

theorem bounds_u64' {a : Int} (h : (Lit.int .u64 a).wf = true) : 0 ≤ a ∧ a < 18446744073709551616 := by
  have := bounds_u64 h
  omega

section
variable {H : Type} {enc : TypeId × Value → H} {W : World} {base : Nat} {sp : Nat → Bool} {held : Bool}

theorem open_wide {r : Reach} {b0 : Nat} {v : Value} {d : DataW H} {ps : List MemPlace} (hd : DataW.Trod enc Try.prog W base sp held 24 v d ps) (hv : Value.okWide Try.prog W r b0 24 v) :
    ∃ x : Nat, x < W256 ∧ v = .agg (rowN .u64 64 4 x) := by
  simp only [Value.okWide, Try.underlying24] at hv
  obtain ⟨cs, rfl, hs, _⟩ := hv
  obtain ⟨fuel, hf⟩ := hd
  cases fuel with
  | zero => simp [DataW.trod] at hf
  | succ m =>
    rw [DataW.trod_step] at hf
    unfold DataW.trodStep at hf
    simp only [Try.underlying24, Value.cells] at hf
    have hc4 : Try.prog.cellsOf 24 = 4 := by kernel_rfl
    have hc1 : Try.prog.cellsOf 22 = 1 := by kernel_rfl
    rw [hc4] at hs
    rw [if_pos (by rw [hc4]; simpa using hs), hc1] at hf
    simp only [Option.map_eq_some_iff] at hf
    obtain ⟨ys, hy, _⟩ := hf
    rw [show List.range 4 = [0, 1, 2, 3] from rfl] at hy
    simp only [List.mapM_cons, List.mapM_nil, bind, Option.bind_eq_some_iff, pure, Option.some.injEq, Nat.mul_one] at hy
    obtain ⟨y0, h0, _, ⟨y1, h1, _, ⟨y2, h2, _, ⟨y3, h3, _⟩, _⟩, _⟩, _⟩ := hy
    obtain ⟨z0, e0, _, w0⟩ := DataW.trod_int Try.underlying22 h0
    obtain ⟨z1, e1, _, w1⟩ := DataW.trod_int Try.underlying22 h1
    obtain ⟨z2, e2, _, w2⟩ := DataW.trod_int Try.underlying22 h2
    obtain ⟨z3, e3, _, w3⟩ := DataW.trod_int Try.underlying22 h3
    obtain ⟨x, hx, ex⟩ := four_words cs.toList z0 z1 z2 z3 e0 e1 e2 e3 (by simpa using hs) (bounds_u64' w0) (bounds_u64' w1) (bounds_u64' w2) (bounds_u64' w3)
    exact ⟨x, hx, by rw [← ex]⟩

theorem open_word {r : Reach} {b0 : Nat} {v : Value} {d : DataW H} {ps : List MemPlace} (hd : DataW.Trod enc Try.prog W base sp held 22 v d ps) (hv : Value.okWide Try.prog W r b0 22 v) :
    ∃ x : Nat, x < 2 ^ 64 ∧ v = .int .u64 (x : Int) := by
  obtain ⟨n, rfl⟩ := okWide_int Try.underlying22 hv
  obtain ⟨fuel, hf⟩ := hd
  obtain ⟨z, e, _, wf⟩ := DataW.trod_int Try.underlying22 (by simpa [Value.cells] using hf)
  have hb := bounds_u64' wf
  simp at e
  subst e
  obtain ⟨x, rfl⟩ := Int.eq_ofNat_of_zero_le hb.1
  exact ⟨x, by omega, rfl⟩
end
end Go.Proofs.Ytgdnmmobnfjegaa
