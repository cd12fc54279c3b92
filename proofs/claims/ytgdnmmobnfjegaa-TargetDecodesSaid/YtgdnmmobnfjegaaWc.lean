/- Layer 3 (wide): products; what is turned over; one word, two words. -/
import Derived.Test.YtgdnmmobnfjegaaWb
import Derived.Laws.BitsAllLaws
namespace Go.Proofs.Ytgdnmmobnfjegaa
set_option linter.unusedVariables false
set_option linter.unusedSimpArgs false
open Go.RowKit

theorem mul_part {a b : Nat} (ha : a < 4294967296) (hb : b < 4294967296) : a * b ≤ 18446744065119617025 := by
  have : a * b ≤ 4294967295 * 4294967295 := Nat.mul_le_mul (by omega) (by omega)
  omega

theorem mul_split (x y : Nat) : x * y = x % 4294967296 * (y % 4294967296) + 4294967296 * (x / 4294967296 * (y % 4294967296) + x % 4294967296 * (y / 4294967296)) + 18446744073709551616 * (x / 4294967296 * (y / 4294967296)) := by
  have h1 := Nat.mod_add_div x 4294967296
  have h2 := Nat.mod_add_div y 4294967296
  generalize x % 4294967296 = x0 at *
  generalize x / 4294967296 = x1 at *
  generalize y % 4294967296 = y0 at *
  generalize y / 4294967296 = y1 at *
  subst h1 h2
  have e1 : (x0 + 4294967296 * x1) * (y0 + 4294967296 * y1) = x0 * y0 + x0 * (4294967296 * y1) + (4294967296 * x1 * y0 + 4294967296 * x1 * (4294967296 * y1)) := by rw [Nat.add_mul, Nat.mul_add, Nat.mul_add]
  have e2 : x0 * (4294967296 * y1) = 4294967296 * (x0 * y1) := by rw [Nat.mul_left_comm]
  have e3 : 4294967296 * x1 * y0 = 4294967296 * (x1 * y0) := Nat.mul_assoc _ _ _
  have e4 : 4294967296 * x1 * (4294967296 * y1) = 18446744073709551616 * (x1 * y1) := by
    rw [Nat.mul_assoc, Nat.mul_left_comm x1, ← Nat.mul_assoc]
  rw [e1, e2, e3, e4, Nat.mul_add]
  omega

theorem and_mask (x : Nat) (h : x < 18446744073709551616) : bits BinOp.and IntKind.u64 (x : Int) 4294967295 = ((x % 4294967296 : Nat) : Int) := by
  have h1 := u64_and_nat x 4294967295 h (by decide)
  rw [show ((4294967295 : Nat) : Int) = 4294967295 from rfl] at h1
  rw [h1, show (4294967295 : Nat) = 2 ^ 32 - 1 from rfl, Nat.and_two_pow_sub_one_eq_mod]

theorem not_word (X : Nat) (h : X < 18446744073709551616) : Value.int IntKind.u64 (bits BinOp.xor IntKind.u64 (if IntKind.u64.signed = true then -1 else IntKind.u64.max) (X : Int)) = .int .u64 ((2 ^ 64 - 1 - X : Nat) : Int) := by
  have h1 := u64_xor_nat 18446744073709551615 X (by decide) h
  have h2 : (18446744073709551615 : Nat) ^^^ X = 2 ^ 64 - 1 - X := by
    have e : (BitVec.allOnes 64 ^^^ BitVec.ofNat 64 X).toNat = 18446744073709551615 ^^^ X := by
      rw [BitVec.toNat_xor, BitVec.toNat_allOnes, BitVec.toNat_ofNat, Nat.mod_eq_of_lt (by simpa using h)]
    rw [← e, BitVec.allOnes_xor, BitVec.toNat_not, BitVec.toNat_ofNat, Nat.mod_eq_of_lt (by simpa using h)]
  rw [h2] at h1
  rw [← h1]
  rfl

set_option maxRecDepth 100000 in
set_option maxHeartbeats 2000000 in
theorem Mul64_any (x y : Nat) (hx : x < 18446744073709551616) (hy : y < 18446744073709551616) (w : World) :
    Calls Try.prog 58 #[.int .u64 x, .int .u64 y] w fun e w' => e = .returned (.tuple #[.int .u64 (mulHi x y : Nat), .int .u64 (mulLo x y : Nat)]) ∧ w' = w := by
  have hs := mul_split x y
  have a0 := and_mask x hx
  have a1 := and_mask y hy
  have d0 : (x : Int) / 4294967296 = ((x / 4294967296 : Nat) : Int) := by omega
  have d1 : (y : Int) / 4294967296 = ((y / 4294967296 : Nat) : Int) := by omega
  have b0 : x % 4294967296 < 4294967296 := Nat.mod_lt _ (by decide)
  have b1 : y % 4294967296 < 4294967296 := Nat.mod_lt _ (by decide)
  have b2 : x / 4294967296 < 4294967296 := by omega
  have b3 : y / 4294967296 < 4294967296 := by omega
  generalize x % 4294967296 = x0 at *
  generalize x / 4294967296 = x1 at *
  generalize y % 4294967296 = y0 at *
  generalize y / 4294967296 = y1 at *
  have p0 := mul_part b0 b1
  have p1 := mul_part b2 b1
  have p2 := mul_part b0 b3
  have p3 := mul_part b2 b3
  have m0 : (x0 : Int) * y0 = ((x0 * y0 : Nat) : Int) := (Int.natCast_mul _ _).symm
  have m1 : (x1 : Int) * y0 = ((x1 * y0 : Nat) : Int) := (Int.natCast_mul _ _).symm
  have m2 : (x0 : Int) * y1 = ((x0 * y1 : Nat) : Int) := (Int.natCast_mul _ _).symm
  have m3 : (x1 : Int) * y1 = ((x1 * y1 : Nat) : Int) := (Int.natCast_mul _ _).symm
  have ml : (x : Int) * y = ((x * y : Nat) : Int) := (Int.natCast_mul _ _).symm
  have HR := Lib.hid (show mulHi x y = x * y / 18446744073709551616 ∧ mulLo x y = x * y % 18446744073709551616 from ⟨rfl, rfl⟩)
  generalize x0 * y0 = q0 at *
  generalize x1 * y0 = q1 at *
  generalize x0 * y1 = q2 at *
  generalize x1 * y1 = q3 at *
  generalize x * y = q at *
  have w0 : IntKind.u64.wrap (q0 : Int) = (q0 : Int) := IntWalk.u64_in _ (by omega)
  have w1 : IntKind.u64.wrap (q1 : Int) = (q1 : Int) := IntWalk.u64_in _ (by omega)
  have w2 : IntKind.u64.wrap (q2 : Int) = (q2 : Int) := IntWalk.u64_in _ (by omega)
  have w3 : IntKind.u64.wrap (q3 : Int) = (q3 : Int) := IntWalk.u64_in _ (by omega)
  obtain ⟨t, ht⟩ : ∃ t, t = q1 + q0 / 4294967296 := ⟨_, rfl⟩
  have w4 : IntKind.u64.wrap ((q1 : Int) + (q0 : Int) / 4294967296) = (t : Int) := by rw [IntWalk.u64_in _ (by omega)]; omega
  have a2 := and_mask t (by omega)
  obtain ⟨t0, ht0⟩ : ∃ q, q = t % 4294967296 := ⟨_, rfl⟩
  rw [← ht0] at a2
  obtain ⟨s, hs1⟩ : ∃ s, s = t0 + q2 := ⟨_, rfl⟩
  have w5 : IntKind.u64.wrap ((t0 : Int) + (q2 : Int)) = (s : Int) := by rw [IntWalk.u64_in _ (by omega)]; omega
  obtain ⟨u, hu⟩ : ∃ u, u = q3 + t / 4294967296 := ⟨_, rfl⟩
  have w6 : IntKind.u64.wrap ((q3 : Int) + (t : Int) / 4294967296) = (u : Int) := by rw [IntWalk.u64_in _ (by omega)]; omega
  obtain ⟨v, hv⟩ : ∃ v, v = u + s / 4294967296 := ⟨_, rfl⟩
  have w7 : IntKind.u64.wrap ((u : Int) + (s : Int) / 4294967296) = (v : Int) := by rw [IntWalk.u64_in _ (by omega)]; omega
  have w8 : IntKind.u64.wrap (q : Int) = ((mulLo x y : Nat) : Int) := by rw [HR.out.2, IntKind.wrap_u64]; omega
  have hvv : v = mulHi x y := by rw [HR.out.1]; omega
  have HV := Lib.hid hvv
  clear hvv ht ht0 hs1 hu hv hs p0 p1 p2 p3
  go_enter Try.func58, Try.ntmps58
  go_wp2
  go_ret2
  exact ⟨by rw [← HV.out]; rfl, rfl⟩

set_option maxHeartbeats 2000000 in
theorem wNot_any (a : Nat) (ha : a < W256) (w : World) :
    Calls Try.prog 10 #[.agg (rowN .u64 64 4 a)] w fun e w' => e = .returned (.agg (rowN .u64 64 4 (W256 - 1 - a))) ∧ Fr F0 w w' := by
  have HA := Lib.hid (not_all a ha .u64)
  clear ha
  go_enter Try.func10, Try.ntmps10
  go_wp2
  obtain ⟨W1, hW1⟩ : ∃ W1, W1 = (w.alloc (.cells (rowN .u64 64 4 a) 24)).alloc (.cells (rowN .u64 64 4 0) 24) := ⟨_, rfl⟩
  refine wp_of_world W1 hW1 ?_
  obtain ⟨r0, r1⟩ := heap2 w (.cells (rowN .u64 64 4 a) 24) (.cells (rowN .u64 64 4 0) 24)
  rw [← hW1] at r0 r1
  have f1 : Fr F0 w W1 := by rw [hW1]; exact ((Fr.refl F0 w).alloc _).alloc _
  clear hW1
  generalize hg0 : w.heap.size = g0 at *
  generalize hg1 : g0 + 1 = g1 at *
  have n1 : g1 ≠ g0 := by omega
  have HG := Lib.hid (show w.heap.size ≤ g0 ∧ w.heap.size ≤ g1 by omega)
  clear hg0 hg1
  go_loopw [4] (fun iv wr => ∃ i : Nat, i ≤ 4 ∧ iv = .int .i64 i ∧ wr.heap[g0]? = some (.cells (rowN .u64 64 4 (notU a i)) 24 (0, 0)) ∧ wr.heap[g1]? = some (.cells (rowN .u64 64 4 0) 24 (0, 0)) ∧ Fr F0 w wr) (fun iv _ => 4 - (intOf iv).toNat)
  case atStart => exact ⟨0, by omega, rfl, r0, r1, f1⟩
  case round =>
    clear r0 r1 f1
    obtain ⟨i, hi, rfl, r0, r1, f1⟩ := hrel
    by_cases hi4 : i < 4
    · have li : (i : Int) < 4 := by omega
      have hd : dgt 64 (notU a i) i = dgt 64 a i := by rw [notU_dgt]; simp
      obtain ⟨X, hX⟩ : ∃ X, X = dgt 64 a i := ⟨_, rfl⟩
      rw [← hX] at hd
      have hXl := dgt_lt 64 a i
      rw [← hX] at hXl
      have hD := Lib.hid hX.symm
      clear hX
      go_wp2
      go_roundw
      case rel =>
        refine ⟨i + 1, by omega, by go_num, ?_, ?_, ?_⟩
        · rw [heap_setCell_at, r0, withCell_cells, not_word X (by omega), set_word _ _ _ (by omega), notU, hD.out]
        · rw [heap_setCell_ne' _ _ _ _ _ n1]; exact r1
        · exact f1.setCell (p := ⟨g0, i, none⟩) (fun h => by have := HG.out; simp only at h; omega) _
      case measure => simp [intOf]; omega
    · obtain rfl : i = 4 := by omega
      rw [HA.out] at r0
      go_wp2
      refine bodyPost_ret (results_cell_row rfl _ _ g1 _ _ _ _ rfl (by rw [heap_setRow_at, r1]; rfl) Try.underlying24 rfl (by rw [Try.szWide]; rfl)) rfl ⟨rfl, ?_⟩
      exact f1.setRow (fun h => by have := HG.out; omega) _

set_option maxHeartbeats 2000000 in
theorem wMul_any (a x : Nat) (ha : a < W256) (hx : x < 2 ^ 64) (w : World) :
    Calls Try.prog 54 #[.agg (rowN .u64 64 4 a), .int .u64 x] w fun e w' => e = .returned (.tuple #[.agg (rowN .u64 64 4 (a * x % W256)), .bool (decide (W256 ≤ a * x))]) ∧ Fr F0 w w' := by
  have HA := Lib.hid (mlS_all a x ha)
  have HC := Lib.hid (mlH_all a x ha)
  clear ha
  go_enter Try.func54, Try.ntmps54
  go_wp2
  obtain ⟨W1, hW1⟩ : ∃ W1, W1 = ((w.alloc (.cells (rowN .u64 64 4 a) 24)).alloc (.cells (rowN .u64 64 4 0) 24)).alloc (.cells (rowN .u64 64 4 0) 24) := ⟨_, rfl⟩
  refine wp_of_world W1 hW1 ?_
  have f1 : Fr F0 w W1 := by rw [hW1]; exact (((Fr.refl F0 w).alloc _).alloc _).alloc _
  obtain ⟨r0, r1, r2⟩ := heap3 w (.cells (rowN .u64 64 4 a) 24) (.cells (rowN .u64 64 4 0) 24) (.cells (rowN .u64 64 4 0) 24)
  rw [← hW1] at r0 r1 r2
  clear hW1
  generalize hg0 : w.heap.size = g0 at *
  generalize hg1 : g0 + 1 = g1 at *
  generalize hg2 : g1 + 1 = g2 at *
  have n1 : g1 ≠ g2 := by omega
  have HG := Lib.hid (show w.heap.size ≤ g1 ∧ w.heap.size ≤ g2 by omega)
  clear hg0 hg1 hg2 r0
  go_loopw [7, 15] (fun cv iv wr => ∃ i : Nat, i ≤ 4 ∧ iv = .int .i64 i ∧ cv = .int .u64 (mlH a x i : Nat) ∧ wr.heap[g1]? = some (.cells (rowN .u64 64 4 0) 24 (0, 0)) ∧ wr.heap[g2]? = some (.cells (rowN .u64 64 4 (mlS a x i)) 24 (0, 0)) ∧ Fr F0 w wr) (fun cv iv _ => 4 - (intOf iv).toNat)
  case atStart => exact ⟨0, by omega, rfl, by rw [mlH_zero]; rfl, r1, by rw [mlS_zero]; exact r2, f1⟩
  case round =>
    clear r1 r2 f1
    obtain ⟨i, hi, rfl, rfl, r1, r2, f1⟩ := hrel
    by_cases hi4 : i < 4
    · have li : (i : Int) < 4 := by omega
      have HS := Lib.hid (mlS_succ a x i)
      have HN := Lib.hid (mlH_succ a x i)
      have hl := mlS_lt a x i
      have hh := mlH_lt a x (i + 1) hx
      rw [HN.out] at hh
      have hw : IntKind.u64.wrap ((mulHi (dgt 64 a i) x : Nat) + (addHi (mulLo (dgt 64 a i) x) (mlH a x i) 0 : Nat) : Int) = (mlH a x (i + 1) : Nat) := by
        rw [HN.out, IntWalk.u64_in _ (by omega)]; omega
      have hdl := dgt_lt 64 a i
      go_wp2_with ((with_reducible refine (Mul64_any _ _ (by omega) (by omega) _).mono ?_); rintro e w' ⟨rfl, rfl⟩)
      go_roundw
      case rel =>
        refine ⟨i + 1, by omega, by go_num, rfl, ?_, ?_, ?_⟩
        · rw [heap_setCell_ne' _ _ _ _ _ n1]; exact r1
        · rw [row_put r2 hl (addLo_lt _ _ _), HS.out]
        · exact f1.setCell (p := ⟨g2, i, none⟩) (fun h => by have := HG.out; simp only at h; omega) _
      case measure => simp [intOf]; omega
    · obtain rfl : i = 4 := by omega
      rw [HA.out] at r2
      have hb0 := HC.out
      go_wp2
      refine bodyPost_ret (res_row_tmp rfl _ _ g1 _ _ _ _ rfl (by rw [heap_setRow_at, r1]; rfl) Try.underlying24 rfl (by rw [Try.szWide]; rfl)) rfl ⟨?_, ?_⟩
      · rw [← hb0, ← bne0]; rfl
      · exact f1.setRow (fun h => by have := HG.out; omega) _
end Go.Proofs.Ytgdnmmobnfjegaa
