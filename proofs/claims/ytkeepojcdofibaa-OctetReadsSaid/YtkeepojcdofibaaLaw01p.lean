/- An argument that is a slice of items, or of bytes, opened. -/
import Derived.Test.YtkeepojcdofibaaLaw01a
import Derived.ProofKit
import Derived.Deep.Slices
import Derived.Deep.Fields
import Derived.OpenShut
namespace Go.Proofs.Ytkeepojcdofibaa
set_option linter.unusedVariables false
set_option linter.unusedSimpArgs false
open Go.RowKit Go.ChangeShapes Go.WideShapes Go.Deep

theorem own : ownKnob Try.prog.godebug = none := by kernel_rfl
theorem laidOut : laidOutB Try.prog = true := by kernel_rfl

section
variable {H : Type} {enc : TypeId × Value → H} {w : World} {base : Nat} {spare : Nat → Bool} {held : Bool}

/-- A slice of bytes, as it is read. -/
theorem open_bytes {fuel : Nat} {a : Option Addr} {n c : Nat} {x : DataW H × List MemPlace} (h : DataW.trod enc Try.prog w base spare held fuel 26 [.slice a n c] = some x) :
    ∃ bs : List UInt8, bs.length = n ∧ Bs w a c bs := by
  rcases open_ints Try.underlying26 Try.underlying5 (by kernel_rfl) h with ⟨hcs, _⟩ | ⟨ad, l, cap, zs, hcs, _, hl, hm, hz, _, hcell, hwz⟩
  · simp only [List.cons.injEq, Value.slice.injEq, and_true] at hcs
    obtain ⟨rfl, rfl, rfl⟩ := hcs
    exact ⟨[], rfl, Bs.nothing w⟩
  · simp only [List.cons.injEq, Value.slice.injEq, and_true] at hcs
    obtain ⟨rfl, rfl, rfl⟩ := hcs
    have hzl : n ≤ zs.length := by rw [hz]; split <;> omega
    refine ⟨(zs.take n).map fun z => UInt8.ofNat z.toNat, by simp; omega, by simp, by simp; omega, hm, (fun e => by cases e), fun j u hj => ?_⟩
    simp only [List.map_map, List.getElem?_map, Option.map_eq_some_iff] at hj
    obtain ⟨z, hz1, rfl⟩ := hj
    rw [List.getElem?_take] at hz1
    split at hz1
    · rename_i hjn
      have hc := hcell j (by omega)
      have hzj : zs.getD j 0 = z := by simp [List.getD, hz1]
      rw [hzj] at hc
      have hw := hwz z (List.mem_of_getElem? hz1)
      have hr : 0 ≤ z ∧ z ≤ 255 := bounds_u8 hw
      obtain ⟨b, off, spot⟩ := ad
      have hs : w.cell? ((⟨b, off, spot⟩ : Addr).add j) = some (B8 (UInt8.ofNat z.toNat)) := by
        rw [hc]
        simp only [B8, UInt8.toNat_ofNat']
        congr 2
        omega
      have h0 : 0 < zs.length := by omega
      have hs0 := World.cell?_spot (hcell 0 h0)
      simp only [Addr.add, if_true] at hs0
      subst hs0
      rw [Addr.add_lit] at hs
      exact ⟨b, off, rfl, hs⟩
    · cases hz1

/-- A slice of items, as it is read. -/
theorem open_items {fuel : Nat} {a : Option Addr} {n c : Nat} {x : DataW H × List MemPlace} (h : DataW.trod enc Try.prog w base spare held fuel 22 [.slice a n c] = some x) :
    ∃ l : List It, l.length = n ∧ Its w a c l := by
  rcases open_slice Try.underlying22 h with ⟨hcs, _⟩ | ⟨ad, len, cap, m, k, D, Pl, hcs, _, hl, hm, hmm, _, hi⟩
  · simp only [List.cons.injEq, Value.slice.injEq, and_true] at hcs
    obtain ⟨rfl, rfl, rfl⟩ := hcs
    exact ⟨[], rfl, (fun k h => by simp at h), (fun t ht => by simp at ht), (fun t ht => by simp at ht), by simp⟩
  · simp only [List.cons.injEq, Value.slice.injEq, and_true] at hcs
    obtain ⟨rfl, rfl, rfl⟩ := hcs
    have hnm : n ≤ m := by rw [hmm]; split <;> omega
    have hC : Try.prog.cellsOf 31 = 4 := by kernel_rfl
    -- one item
    have one : ∀ i, i < n → ∃ t : It, t.ok w ∧ (∀ j u, t.cells[j]? = some u → w.cell? ((ad.add (i * 4)).add j) = some u) := by
      intro i hin
      obtain ⟨cs, h1, h2⟩ := hi i (by omega)
      rw [hC] at h1
      obtain ⟨_, hlen, hat⟩ := World.cells?_some h1
      obtain ⟨ys, k', _, _, _, hyl, hf⟩ := DataW.trod_struct Try.underlying31 h2
      match cs, hlen, ys, hyl with
      | [v0, v1, v2, v3], _, [y0, y1, y2, y3], _ =>
        have k3 : Try.prog.cellsOf 3 = 1 := by kernel_rfl
        have k29 : Try.prog.cellsOf 29 = 1 := by kernel_rfl
        have k26 : Try.prog.cellsOf 26 = 1 := by kernel_rfl
        have f0 : DataW.trod enc Try.prog w base spare held k' 3 (([v0, v1, v2, v3].drop 0).take (Try.prog.cellsOf 3)) = some y0 := hf 0 _ rfl
        have f1 : DataW.trod enc Try.prog w base spare held k' 3 (([v0, v1, v2, v3].drop 1).take (Try.prog.cellsOf 3)) = some y1 := hf 1 _ rfl
        have f2 : DataW.trod enc Try.prog w base spare held k' 29 (([v0, v1, v2, v3].drop 2).take (Try.prog.cellsOf 29)) = some y2 := hf 2 _ rfl
        have f3 : DataW.trod enc Try.prog w base spare held k' 26 (([v0, v1, v2, v3].drop 3).take (Try.prog.cellsOf 26)) = some y3 := hf 3 _ rfl
        rw [k3] at f0 f1
        rw [k29] at f2
        rw [k26] at f3
        obtain ⟨kd, e0, _, w0⟩ := DataW.trod_int Try.underlying3 f0
        obtain ⟨sz, e1, _, w1⟩ := DataW.trod_int Try.underlying3 f1
        obtain ⟨x, e2, _, w2⟩ := DataW.trod_int Try.underlying29 f2
        simp only [List.drop_zero, List.drop_succ_cons, List.take_succ_cons, List.take_zero, List.cons.injEq, and_true] at e0 e1 e2
        subst e0 e1 e2
        have hsl : ∃ a' n' c', v3 = .slice a' n' c' := by
          rcases open_ints Try.underlying26 Try.underlying5 (by kernel_rfl) f3 with ⟨hcs, _⟩ | ⟨ad, l, cap, zs, hcs, _⟩
          · simp only [List.drop_succ_cons, List.drop_zero, List.take_succ_cons, List.take_zero, List.cons.injEq, and_true] at hcs
            exact ⟨_, _, _, hcs⟩
          · simp only [List.drop_succ_cons, List.drop_zero, List.take_succ_cons, List.take_zero, List.cons.injEq, and_true] at hcs
            exact ⟨_, _, _, hcs⟩
        obtain ⟨a', n', c', rfl⟩ := hsl
        obtain ⟨bs, rfl, hb⟩ := open_bytes f3
        have r0 : -9223372036854775808 ≤ kd ∧ kd ≤ 9223372036854775807 := bounds_i64 w0
        have r1 : -9223372036854775808 ≤ sz ∧ sz ≤ 9223372036854775807 := bounds_i64 w1
        have r2 : 0 ≤ x ∧ x ≤ 18446744073709551615 := bounds_u64 w2
        refine ⟨⟨kd, sz, x.toNat, a', c', bs⟩, ⟨hb, by show x.toNat < _; omega, r0.1, r0.2, r1.1, r1.2⟩, fun j u hj => ?_⟩
        have hx : ((x.toNat : Nat) : Int) = x := by omega
        simp only [It.cells, hx] at hj
        have hj4 : j < 4 := by
          have := (List.getElem?_eq_some_iff.1 hj).1
          simpa using this
        rw [hat j hj4]
        exact hj
    have : Inhabited It := ⟨⟨0, 0, 0, none, 0, []⟩⟩
    obtain ⟨T, hT⟩ := choose_lt (α := It) (n := n) (p := fun i t => t.ok w ∧ (∀ j u, t.cells[j]? = some u → w.cell? ((ad.add (i * 4)).add j) = some u)) one
    refine ⟨(List.range n).map T, by simp, fun i hin => ?_, fun t ht => ?_, fun t ht hne b hb => ?_, by unfold maxLen at hm; simp; omega⟩
    · simp only [List.length_map, List.length_range] at hin
      have h0 := (hT 0 (by omega)).2 0 _ rfl
      have hs0 := World.cell?_spot h0
      obtain ⟨b, off, spot⟩ := ad
      simp [Addr.add] at hs0
      subst hs0
      simp only [List.getElem_map, List.getElem_range]
      refine ⟨b, off, rfl, ?_, fun j u hj => ?_⟩
      · have := World.block_lt_of_cell? w _ h0
        simpa [Addr.add] using this
      · have := (hT i hin).2 j u hj
        rwa [Addr.add_lit, Addr.add_lit] at this
    · simp only [List.mem_map, List.mem_range] at ht
      obtain ⟨i, hin, rfl⟩ := ht
      exact (hT i hin).1
    · simp only [List.mem_map, List.mem_range] at ht
      obtain ⟨i, hin, rfl⟩ := ht
      obtain ⟨b', off, e, hc⟩ := (hT i hin).1.bytes.at 0 (List.length_pos_iff.2 hne)
      rw [e] at hb
      cases hb
      exact World.block_lt_of_cell? w _ hc
end
end Go.Proofs.Ytkeepojcdofibaa
