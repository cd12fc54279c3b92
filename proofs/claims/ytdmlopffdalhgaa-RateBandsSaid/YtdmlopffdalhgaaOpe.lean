/- Arguments that are prices and bands, opened. -/
import Derived.Test.YtdmlopffdalhgaaOpm
namespace Go.Proofs.Ytdmlopffdalhgaa
set_option linter.unusedVariables false
set_option linter.unusedSimpArgs false
open Go.RowKit Go.ChangeShapes Go.WideShapes

section
variable {H : Type} {enc : TypeId × Value → H} {W : World} {base : Nat} {sp : Nat → Bool} {held : Bool}

theorem open_price {r : Reach} {b0 : Nat} {v : Value} {d : DataW H} {ps : List MemPlace} (hd : DataW.Trod enc Try.prog W base sp held 24 v d ps) (hv : Value.okWide Try.prog W r b0 24 v) :
    ∃ x : Nat, x < 18446744073709551616 ∧ v = .int .u64 (x : Int) := by
  obtain ⟨n, rfl⟩ := okWide_int Try.underlying24 hv
  obtain ⟨fuel, hf⟩ := hd
  obtain ⟨z, e, _, wf⟩ := DataW.trod_int Try.underlying24 (by simpa [Value.cells] using hf)
  have hb := bounds_u64' wf
  simp at e
  subst e
  obtain ⟨x, rfl⟩ := Int.eq_ofNat_of_zero_le hb.1
  exact ⟨x, by omega, rfl⟩

theorem three_words (cs : List Value) (z0 z1 z2 : Int) (h0 : (cs.drop 0).take 1 = [.int .u64 z0]) (h1 : (cs.drop 1).take 1 = [.int .u64 z1]) (h2 : (cs.drop 2).take 1 = [.int .u64 z2]) (hl : cs.length = 3)
    (b0 : 0 ≤ z0 ∧ z0 < 18446744073709551616) (b1 : 0 ≤ z1 ∧ z1 < 18446744073709551616) (b2 : 0 ≤ z2 ∧ z2 < 18446744073709551616) :
    ∃ x y z : Nat, (x < 18446744073709551616 ∧ y < 18446744073709551616 ∧ z < 18446744073709551616) ∧ cs.toArray = #[.int .u64 (x : Int), .int .u64 (y : Int), .int .u64 (z : Int)] := by
  match cs, hl with
  | [c0, c1, c2], _ =>
    simp at h0 h1 h2
    subst h0 h1 h2
    obtain ⟨x0, rfl⟩ := Int.eq_ofNat_of_zero_le b0.1
    obtain ⟨x1, rfl⟩ := Int.eq_ofNat_of_zero_le b1.1
    obtain ⟨x2, rfl⟩ := Int.eq_ofNat_of_zero_le b2.1
    exact ⟨x0, x1, x2, by omega, rfl⟩

theorem open_bands {r : Reach} {b0 : Nat} {v : Value} {d : DataW H} {ps : List MemPlace} (hd : DataW.Trod enc Try.prog W base sp held 40 v d ps) (hv : Value.okWide Try.prog W r b0 40 v) :
    ∃ x y z : Nat, (x < 18446744073709551616 ∧ y < 18446744073709551616 ∧ z < 18446744073709551616) ∧ v = .agg #[.int .u64 (x : Int), .int .u64 (y : Int), .int .u64 (z : Int)] := by
  simp only [Value.okWide, Try.underlying40] at hv
  obtain ⟨cs, rfl, hs, _⟩ := hv
  obtain ⟨fuel, hf⟩ := hd
  obtain ⟨xs, n, _, _, hl, hlen, hc⟩ := DataW.trod_struct Try.underlying40 hf
  have hc3 : Try.prog.cellsOf 40 = 3 := by kernel_rfl
  have hc1 : Try.prog.cellsOf 22 = 1 := by kernel_rfl
  match xs, hlen with
  | [y0, y1, y2], _ =>
    have h0 : DataW.trod enc Try.prog W base sp held n 22 ((cs.toList.drop 0).take (Try.prog.cellsOf 22)) = some y0 := hc 0 _ rfl
    have h1 : DataW.trod enc Try.prog W base sp held n 22 ((cs.toList.drop 1).take (Try.prog.cellsOf 22)) = some y1 := hc 1 _ rfl
    have h2 : DataW.trod enc Try.prog W base sp held n 22 ((cs.toList.drop 2).take (Try.prog.cellsOf 22)) = some y2 := hc 2 _ rfl
    rw [hc1] at h0 h1 h2
    obtain ⟨z0, e0, _, w0⟩ := DataW.trod_int Try.underlying22 h0
    obtain ⟨z1, e1, _, w1⟩ := DataW.trod_int Try.underlying22 h1
    obtain ⟨z2, e2, _, w2⟩ := DataW.trod_int Try.underlying22 h2
    obtain ⟨x, y, z, hb, ex⟩ := three_words cs.toList z0 z1 z2 e0 e1 e2 (by rw [← hc3, ← hl]; rfl) (bounds_u64' w0) (bounds_u64' w1) (bounds_u64' w2)
    exact ⟨x, y, z, hb, by rw [← ex]⟩
end
end Go.Proofs.Ytdmlopffdalhgaa
