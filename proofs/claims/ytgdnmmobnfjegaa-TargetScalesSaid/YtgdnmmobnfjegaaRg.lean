/- The document's answer 03 (wide): what Div's rounds reckon; its row of bits. -/
import Derived.Test.YtgdnmmobnfjegaaRf
namespace Go.Proofs.Ytgdnmmobnfjegaa
set_option linter.unusedVariables false
set_option linter.unusedSimpArgs false
open Go.RowKit

theorem rdiv_step (X y d : Nat) (hy : 0 < y) (hd : d < 2) :
    (y ≤ X % y + X % y + d → (X + X + d) / y = X / y + X / y + 1 ∧ (X + X + d) % y = X % y + X % y + d - y) ∧
    (X % y + X % y + d < y → (X + X + d) / y = X / y + X / y ∧ (X + X + d) % y = X % y + X % y + d) := by
  have h1 := Nat.mod_add_div X y
  have h2 := Nat.mod_lt X hy
  have e : X + X + d = X % y + X % y + d + y * (X / y + X / y) := by rw [Nat.mul_add]; omega
  have h3 : X % y + X % y + d < y + y := by omega
  generalize X % y + X % y + d = t at *
  have e1 : (X + X + d) / y = t / y + (X / y + X / y) := by rw [e, Nat.add_mul_div_left _ _ hy]
  have e2 : (X + X + d) % y = t % y := by rw [e, Nat.add_mul_mod_self_left]
  rw [e1, e2]
  constructor
  · intro h
    obtain ⟨s, rfl⟩ : ∃ s, t = s + y := ⟨t - y, by omega⟩
    have hs : s < y := by omega
    rw [Nat.add_div_right _ hy, Nat.div_eq_of_lt hs, Nat.add_mod_right, Nat.mod_eq_of_lt hs]; omega
  · intro h
    rw [Nat.div_eq_of_lt h, Nat.mod_eq_of_lt h]; omega

/-- A row that holds a number is its bits. -/
theorem Us.of_bits {w : World} {g n V : Nat} {t : TypeId} {f : Nat × Nat} (h : w.heap[g]? = some (.cells (rowN .u64 1 n V) t f)) (hn : n ≤ 1000000) : Us w (some ⟨g, 0, none⟩) n (bs n V) :=
  ⟨by simp, by rw [bs_length]; omega, by unfold maxLen; omega, (fun e => by cases e), fun j u hj => ⟨g, 0, rfl, by
    have hjn : j < n := by have := (List.getElem?_eq_some_iff.1 hj).1; simpa [bs_length] using this
    rw [Nat.zero_add, cell_at, h, cellAt_cells, rowN_get _ _ _ _ _ hjn]
    simpa [bs, hjn, U64] using hj⟩⟩

theorem made_bits (n : Nat) : madeCells (Value.int .u64 0).cells (n * 1) = rowN .u64 1 n 0 := by
  apply Array.toList_inj.1
  rw [show (Value.int .u64 0).cells = #[.int .u64 0] from rfl, toList_madeCells_one, Nat.mul_one]
  unfold rowN
  rw [List.toList_toArray]
  apply List.ext_getElem
  · simp
  · intro i h1 h2
    simp [dgt]

theorem run_make_U (n : Nat) (z : Int) (hz : z = n) (hn : n ≤ 1000000) (w : World) :
    (Instr.makeSlice 37 (.int .i64 z) (.int .i64 z)).run Try.prog w = .ok (.slice (some ⟨w.heap.size, 0, none⟩) n n) (w.alloc (.cells (rowN .u64 1 n 0) 22)) := by
  subst hz
  obtain ⟨i0, hi, hz0, hz1, hz2⟩ := info_parts Try.infoU64
  have := run_make (P := Try.prog) w 37 22 i0 (.int .u64 0) Try.underlying37 hi hz0 .i64 .i64 (n : Int) (n : Int) (by omega) (Int.le_refl _) (by rw [hz2]; omega) (by omega)
  rw [hz1, Int.toNat_natCast, made_bits] at this
  exact this
end Go.Proofs.Ytgdnmmobnfjegaa
