/- An argument that is a slice of amounts, opened. -/
import Derived.Test.YtmebilpmhflahaaOpm
import Derived.Test.YtmebilpmhflahaaRa
import Derived.Deep.Slices
import Derived.Deep.Fields
namespace Go.Proofs.Ytmebilpmhflahaa
set_option linter.unusedVariables false
set_option linter.unusedSimpArgs false
open Go.RowKit Go.ChangeShapes Go.WideShapes Go.Deep

section
variable {H : Type} {enc : TypeId × Value → H} {w : World} {base : Nat} {spare : Nat → Bool} {held : Bool}

/-- A slice of amounts, as it is read. -/
theorem open_amts {fuel : Nat} {a : Option Addr} {n c : Nat} {x : DataW H × List MemPlace} (h : DataW.trod enc Try.prog w base spare held fuel 57 [.slice a n c] = some x) :
    ∃ l : List Nat, l.length = n ∧ (∀ y ∈ l, y < 18446744073709551616) ∧ Us w a c l := by
  rcases open_ints Try.underlying57 Try.underlying44 (by kernel_rfl) h with ⟨hcs, _⟩ | ⟨ad, l, cap, zs, hcs, _, hl, hm, hz, _, hcell, hwz⟩
  · simp only [List.cons.injEq, Value.slice.injEq, and_true] at hcs
    obtain ⟨rfl, rfl, rfl⟩ := hcs
    exact ⟨[], rfl, (fun y hy => by cases hy), Sl.nothing w 1⟩
  · simp only [List.cons.injEq, Value.slice.injEq, and_true] at hcs
    obtain ⟨rfl, rfl, rfl⟩ := hcs
    have hzl : n ≤ zs.length := by rw [hz]; split <;> omega
    refine ⟨(zs.take n).map fun z => z.toNat, by simp; omega, ?_, by simp, by simp; omega, hm, (fun e => by cases e), fun j u hj => ?_⟩
    · intro y hy
      simp only [List.mem_map] at hy
      obtain ⟨z, hz1, rfl⟩ := hy
      have hr := bounds_u64' (hwz z (List.mem_of_mem_take hz1))
      omega
    simp only [List.map_map, List.getElem?_map, Option.map_eq_some_iff] at hj
    obtain ⟨z, hz1, rfl⟩ := hj
    rw [List.getElem?_take] at hz1
    split at hz1
    · rename_i hjn
      have hc := hcell j (by omega)
      have hzj : zs.getD j 0 = z := by simp [List.getD, hz1]
      rw [hzj] at hc
      have hr := bounds_u64' (hwz z (List.mem_of_getElem? hz1))
      obtain ⟨b, off, spot⟩ := ad
      have hs : w.cell? ((⟨b, off, spot⟩ : Addr).add j) = some (U64 z.toNat) := by
        rw [hc]
        simp only [U64]
        congr 2
        omega
      have h0 : 0 < zs.length := by omega
      have hs0 := World.cell?_spot (hcell 0 h0)
      simp only [Addr.add, if_true] at hs0
      subst hs0
      rw [Addr.add_lit] at hs
      exact ⟨b, off, rfl, hs⟩
    · cases hz1
end
end Go.Proofs.Ytmebilpmhflahaa
