/- An argument that is a slice of bytes, opened. -/
import Derived.Test.YtigjoepoaahidaaApp
import Derived.ProofKit
import Derived.Deep.Slices
import Derived.Deep.Fields
import Derived.OpenShut
namespace Go.Proofs.Ytigjoepoaahidaa
set_option linter.unusedVariables false
set_option linter.unusedSimpArgs false
open Go.RowKit Go.ChangeShapes Go.WideShapes Go.Deep

theorem own : ownKnob Try.prog.godebug = none := by kernel_rfl
theorem laidOut : laidOutB Try.prog = true := by kernel_rfl

section
variable {H : Type} {enc : TypeId × Value → H} {w : World} {base : Nat} {spare : Nat → Bool} {held : Bool}

/-- A slice of bytes, as it is read. -/
theorem open_bytes {fuel : Nat} {a : Option Addr} {n c : Nat} {x : DataW H × List MemPlace} (h : DataW.trod enc Try.prog w base spare held fuel 24 [.slice a n c] = some x) :
    ∃ bs : List UInt8, bs.length = n ∧ Bs w a c bs := by
  rcases open_ints Try.underlying24 Try.underlying5 (by kernel_rfl) h with ⟨hcs, _⟩ | ⟨ad, l, cap, zs, hcs, _, hl, hm, hz, _, hcell, hwz⟩
  · simp only [List.cons.injEq, Value.slice.injEq, and_true] at hcs
    obtain ⟨rfl, rfl, rfl⟩ := hcs
    exact ⟨[], rfl, Bs.nothing w⟩
  · simp only [List.cons.injEq, Value.slice.injEq, and_true] at hcs
    obtain ⟨rfl, rfl, rfl⟩ := hcs
    have hzl : n ≤ zs.length := by rw [hz]; split <;> omega
    refine ⟨(zs.take n).map fun z => UInt8.ofNat z.toNat, by simp; omega, by simp, by simp; omega, hm, (fun e => by cases e), fun j u hj => ?_⟩
    simp only [List.map_map, List.getElem?_map, Option.map_eq_some_iff] at hj
    obtain ⟨z, hz1, rfl⟩ := hj
    rw [List.getElem?_take] at hz1
    split at hz1
    · rename_i hjn
      have hc := hcell j (by omega)
      have hzj : zs.getD j 0 = z := by simp [List.getD, hz1]
      rw [hzj] at hc
      have hw := hwz z (List.mem_of_getElem? hz1)
      have hr : 0 ≤ z ∧ z ≤ 255 := bounds_u8 hw
      obtain ⟨b, off, spot⟩ := ad
      have hs : w.cell? ((⟨b, off, spot⟩ : Addr).add j) = some (B8 (UInt8.ofNat z.toNat)) := by
        rw [hc]
        simp only [B8, UInt8.toNat_ofNat']
        congr 2
        omega
      have h0 : 0 < zs.length := by omega
      have hs0 := World.cell?_spot (hcell 0 h0)
      simp only [Addr.add, if_true] at hs0
      subst hs0
      rw [Addr.add_lit] at hs
      exact ⟨b, off, rfl, hs⟩
    · cases hz1
end
end Go.Proofs.Ytigjoepoaahidaa
