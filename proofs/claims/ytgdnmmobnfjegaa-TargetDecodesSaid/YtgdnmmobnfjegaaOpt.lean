/- Arguments that are hashes (as numbers) and words of 32 bits, opened. -/
import Derived.Test.YtgdnmmobnfjegaaOpm
namespace Go.Proofs.Ytgdnmmobnfjegaa
set_option linter.unusedVariables false
set_option linter.unusedSimpArgs false
open Go.RowKit Go.ChangeShapes Go.WideShapes

/-- A cell's byte. -/
def cellN : Option Value → Nat
  | some (.int _ z) => z.toNat % 256
  | _ => 0
theorem row8_of (cs : List Value) (n : Nat) (hl : cs.length = n) (h : ∀ i, i < n → ∃ z : Int, (cs.drop i).take 1 = [.int .u8 z] ∧ (Lit.int .u8 z).wf = true) :
    cs.toArray = rowN .u8 8 n (ofDgts 8 (fun i => cellN cs[i]?) n) ∧ ofDgts 8 (fun i => cellN cs[i]?) n < 2 ^ (8 * n) := by
  have hf : ∀ i, i < n → cellN cs[i]? < 2 ^ 8 := fun i hi => by
    unfold cellN
    split <;> omega
  refine ⟨?_, ofDgts_lt 8 _ n hf⟩
  unfold rowN
  congr 1
  apply List.ext_getElem
  · simp [hl]
  · intro i h1 h2
    rw [List.getElem_map, List.getElem_range, dgt_ofDgts 8 _ n hf i (by omega)]
    obtain ⟨z, e, wf⟩ := h i (by omega)
    have hb : 0 ≤ z ∧ z ≤ 255 := bounds_u8 wf
    have e1 : cs[i]? = some (.int .u8 z) := by
      have := congrArg (fun l : List Value => l[0]?) e
      simpa [List.getElem?_take, List.getElem?_drop] using this
    have e2 : cs[i] = .int .u8 z := by
      rw [List.getElem?_eq_getElem h1] at e1
      exact Option.some.inj e1
    rw [e2, e1]
    simp only [cellN]
    congr 1
    omega

section
variable {H : Type} {enc : TypeId × Value → H} {W : World} {base : Nat} {sp : Nat → Bool} {held : Bool}

theorem open_hash32 {r : Reach} {b0 : Nat} {v : Value} {d : DataW H} {ps : List MemPlace} (hd : DataW.Trod enc Try.prog W base sp held 26 v d ps) (hv : Value.okWide Try.prog W r b0 26 v) :
    ∃ x : Nat, x < W256 ∧ v = .agg (rowN .u8 8 32 x) := by
  simp only [Value.okWide, Try.underlying26] at hv
  obtain ⟨cs, rfl, hs, _⟩ := hv
  obtain ⟨fuel, hf⟩ := hd
  obtain ⟨xs, m, rfl, hx, hlen, hn, hel⟩ := DataW.trod_array Try.underlying26 hf
  have hc32 : Try.prog.cellsOf 26 = 32 := by kernel_rfl
  have c1 : Try.prog.cellsOf 5 = 1 := by kernel_rfl
  rw [hc32] at hlen
  obtain ⟨e, hl⟩ := row8_of cs.toList 32 (by simpa [Value.cells] using hlen) (fun i hi => by
    have h := hel i hi
    rw [c1, Nat.mul_one] at h
    rw [List.getElem?_eq_getElem (show i < xs.length by omega)] at h
    obtain ⟨z, e, _, wf⟩ := DataW.trod_int Try.underlying5 h
    exact ⟨z, by simpa [Value.cells] using e, wf⟩)
  exact ⟨_, hl, by rw [← e]⟩

theorem open_u32 {r : Reach} {b0 : Nat} {v : Value} {d : DataW H} {ps : List MemPlace} (hd : DataW.Trod enc Try.prog W base sp held 33 v d ps) (hv : Value.okWide Try.prog W r b0 33 v) :
    ∃ x : Nat, x < 4294967296 ∧ v = .int .u32 (x : Int) := by
  obtain ⟨n, rfl⟩ := okWide_int Try.underlying33 hv
  obtain ⟨fuel, hf⟩ := hd
  obtain ⟨z, e, _, wf⟩ := DataW.trod_int Try.underlying33 (by simpa [Value.cells] using hf)
  have hb := bounds_u32 wf
  simp at e
  subst e
  obtain ⟨x, rfl⟩ := Int.eq_ofNat_of_zero_le hb.1
  exact ⟨x, by omega, rfl⟩
end
end Go.Proofs.Ytgdnmmobnfjegaa
