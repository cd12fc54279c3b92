/- Arguments that are addresses, ints and bytes, opened, where no wide number is in the seat. -/
import Derived.Test.YtigjoepoaahidaaOpen
import Derived.WideKeyArr2
import Derived.Below
namespace Go.Proofs.Ytigjoepoaahidaa
set_option linter.unusedVariables false
set_option linter.unusedSimpArgs false
open Go.RowKit Go.ChangeShapes Go.WideShapes

theorem bytes_of8 (cs : List Value) (n : Nat) (hl : cs.length = n) (h : ∀ i, i < n → ∃ z : Int, (cs.drop i).take 1 = [.int .u8 z] ∧ (Lit.int .u8 z).wf = true) : ∃ l : List UInt8, l.length = n ∧ cs = l.map B8 := by
  induction n generalizing cs with
  | zero => exact ⟨[], rfl, List.eq_nil_of_length_eq_zero hl⟩
  | succ n ih =>
    match cs, hl with
    | c :: cs, hl =>
      obtain ⟨z, e, wf⟩ := h 0 (by omega)
      obtain ⟨l, h1, h2⟩ := ih cs (by simpa using hl) (fun i hi => by simpa using h (i + 1) (by omega))
      simp at e
      have hb : 0 ≤ z ∧ z ≤ 255 := bounds_u8 wf
      refine ⟨UInt8.ofNat z.toNat :: l, by simp [h1], ?_⟩
      rw [List.map_cons, ← h2, e]
      congr 1
      simp only [B8, UInt8.toNat_ofNat']
      congr 1
      omega

section
variable {H : Type} {enc : TypeId × Value → H} {W : World} {base : Nat} {sp : Nat → Bool} {held : Bool}

set_option maxRecDepth 100000 in
theorem open_address {r : Reach} {b0 : Nat} {v : Value} {d : DataW H} {ps : List MemPlace} (hd : DataW.Trod enc Try.prog W base sp held 23 v d ps) (hv : Value.okWide Try.prog W r b0 23 v) :
    ∃ l : List UInt8, l.length = 20 ∧ v = .agg (l.map B8).toArray := by
  simp only [Value.okWide, Try.underlying23] at hv
  obtain ⟨cs, rfl, hs, _⟩ := hv
  obtain ⟨fuel, hf⟩ := hd
  obtain ⟨xs, m, rfl, hx, hlen, hn, hel⟩ := DataW.trod_array Try.underlying23 hf
  have hc20 : Try.prog.cellsOf 23 = 20 := by kernel_rfl
  have c1 : Try.prog.cellsOf 5 = 1 := by kernel_rfl
  rw [hc20] at hlen
  obtain ⟨l, hl, e⟩ := bytes_of8 cs.toList 20 (by simpa [Value.cells] using hlen) (fun i hi => by
    have h := hel i hi
    rw [c1, Nat.mul_one] at h
    rw [List.getElem?_eq_getElem (show i < xs.length by omega)] at h
    obtain ⟨z, e, _, wf⟩ := DataW.trod_int Try.underlying5 h
    exact ⟨z, by simpa [Value.cells] using e, wf⟩)
  exact ⟨l, hl, by rw [← e]⟩
set_option maxRecDepth 100000 in
theorem open_int8 {r : Reach} {b0 : Nat} {v : Value} {d : DataW H} {ps : List MemPlace} (hd : DataW.Trod enc Try.prog W base sp held 3 v d ps) (hv : Value.okWide Try.prog W r b0 3 v) : ∃ x : Int, v = .int .i64 x := okWide_int Try.underlying3 hv
end
end Go.Proofs.Ytigjoepoaahidaa
