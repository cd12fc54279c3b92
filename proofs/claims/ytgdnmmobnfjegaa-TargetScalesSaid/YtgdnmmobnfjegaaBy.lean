/- Layer 3 (wide): a number's bytes. -/
import Derived.Test.YtgdnmmobnfjegaaLr
import Derived.Deep.Cut
namespace Go.Proofs.Ytgdnmmobnfjegaa
set_option linter.unusedVariables false
set_option linter.unusedSimpArgs false
open Go.RowKit

theorem dgt_in (b m x q r : Nat) (h : r < m) : dgt b (dgt (b * m) x q) r = dgt b x (m * q + r) := by
  have h1 := dgt_below b (dgt (b * m) x q) (x / 2 ^ (b * m * q)) m r h (by unfold dgt; rw [Nat.mod_mod])
  rw [h1]
  unfold dgt
  rw [Nat.div_div_eq_div_mul, ← Nat.pow_add, Nat.mul_add, Nat.mul_assoc]

theorem byte_of (a i : Nat) : dgt 64 a (i / 8) / 2 ^ (i % 8 * 8) % 256 = dgt 8 a i := by
  have h := dgt_in 8 8 a (i / 8) (i % 8) (Nat.mod_lt _ (by omega))
  rw [Nat.div_add_mod] at h
  have e : dgt 8 (dgt (8 * 8) a (i / 8)) (i % 8) = dgt 64 a (i / 8) / 2 ^ (8 * (i % 8)) % 256 := rfl
  rw [← h, e, Nat.mul_comm 8 (i % 8)]

theorem low_put (b a i : Nat) : putw b (a % 2 ^ (b * i)) i (dgt b a i) = a % 2 ^ (b * (i + 1)) := by
  rw [putw_new _ _ _ _ (Nat.mod_lt _ (Nat.two_pow_pos _)), mod_succ]

theorem rowB_set (z i v : Nat) (hv : v < 2 ^ 8) : (rowN .u8 8 32 z).setIfInBounds i (.int .u8 (v : Int)) = rowN .u8 8 32 (putw 8 z i v) := rowN_set _ _ _ _ _ _ hv

theorem zero32 : (#[.int .u8 0, .int .u8 0, .int .u8 0, .int .u8 0, .int .u8 0, .int .u8 0, .int .u8 0, .int .u8 0, .int .u8 0, .int .u8 0, .int .u8 0, .int .u8 0, .int .u8 0, .int .u8 0, .int .u8 0, .int .u8 0,
    .int .u8 0, .int .u8 0, .int .u8 0, .int .u8 0, .int .u8 0, .int .u8 0, .int .u8 0, .int .u8 0, .int .u8 0, .int .u8 0, .int .u8 0, .int .u8 0, .int .u8 0, .int .u8 0, .int .u8 0, .int .u8 0] : Array Value) = rowN .u8 8 32 0 := by
  simp [rowN, dgt, List.range_succ]

attribute [local go_sem high] zero32

set_option maxRecDepth 100000 in
set_option maxHeartbeats 4000000 in
theorem wBytes_any (a : Nat) (ha : a < W256) (w : World) :
    Calls Try.prog 11 #[.agg (rowN .u64 64 4 a)] w fun e w' => e = .returned (.agg (rowN .u8 8 32 a)) ∧ Fr F0 w w' := by
  have HA := Lib.hid (show a % 2 ^ (8 * 32) = a from Nat.mod_eq_of_lt ha)
  clear ha
  go_enter Try.func11, Try.ntmps11
  go_upto_region 2 with fail
  obtain ⟨W1, hW1⟩ : ∃ W1, W1 = ((w.alloc (.cells (rowN .u64 64 4 a) 24)).alloc (.cells (rowN .u8 8 32 0) 25)).alloc (.cells (rowN .u8 8 32 0) 25) := ⟨_, rfl⟩
  refine wp_of_world W1 hW1 ?_
  have f1 : Fr F0 w W1 := by rw [hW1]; exact (((Fr.refl F0 w).alloc _).alloc _).alloc _
  obtain ⟨r0, r1, r2⟩ := heap3 w (.cells (rowN .u64 64 4 a) 24) (.cells (rowN .u8 8 32 0) 25) (.cells (rowN .u8 8 32 0) 25)
  rw [← hW1] at r0 r1 r2
  clear hW1
  generalize hg0 : w.heap.size = g0 at *
  generalize hg1 : g0 + 1 = g1 at *
  generalize hg2 : g1 + 1 = g2 at *
  have n0 : g0 ≠ g2 := by omega
  have n1 : g1 ≠ g2 := by omega
  have HG := Lib.hid (show w.heap.size ≤ g1 ∧ w.heap.size ≤ g2 by omega)
  clear hg0 hg1 hg2
  go_wp2_with fail
  go_loopw [5] (fun iv wr => ∃ i : Nat, i ≤ 32 ∧ iv = .int .i64 i ∧ wr.heap[g0]? = some (.cells (rowN .u64 64 4 a) 24 (0, 0)) ∧ wr.heap[g1]? = some (.cells (rowN .u8 8 32 0) 25 (0, 0)) ∧ wr.heap[g2]? = some (.cells (rowN .u8 8 32 (a % 2 ^ (8 * i))) 25 (0, 0)) ∧ Fr F0 w wr) (fun iv _ => 32 - (intOf iv).toNat)
  case atStart => exact ⟨0, by omega, rfl, r0, r1, by simpa [Nat.mod_one] using r2, f1⟩
  case round =>
    clear r0 r1 r2 f1
    obtain ⟨i, hi, rfl, r0, r1, r2, f1⟩ := hrel
    by_cases hi32 : i < 32
    · have li : (i : Int) < 32 := by omega
      have hby := byte_of a i
      have hput := low_put 8 a i
      obtain ⟨q, hq⟩ : ∃ q, q = i / 8 := ⟨_, rfl⟩
      obtain ⟨r, hr⟩ : ∃ r, r = i % 8 := ⟨_, rfl⟩
      obtain ⟨s, hs⟩ : ∃ s, s = r * 8 := ⟨_, rfl⟩
      rw [← hq, ← hr, ← hs] at hby
      have eq1 : (i : Int) / 8 = (q : Int) := by omega
      have eq2 : Int.tdiv (i : Int) 8 = (q : Int) := by rw [Int.tdiv_eq_ediv_of_nonneg (by omega)]; omega
      have er1 : (i : Int) % 8 = (r : Int) := by omega
      have er2 : Int.tmod (i : Int) 8 = (r : Int) := by rw [Int.tmod_eq_emod_of_nonneg (by omega)]; omega
      have es : IntKind.i64.wrap ((r : Int) * 8) = (s : Int) := by rw [IntWalk.i64_in _ (by omega)]; omega
      have lq : (q : Int) < 4 := by omega
      have lqn : q < 4 := by omega
      have ls : (s : Int) ≤ 64 := by omega
      have ls0 : ¬ (s : Int) < 0 := by omega
      generalize hz : a % 2 ^ (8 * i) = z at *
      generalize hz2 : a % 2 ^ (8 * (i + 1)) = z2 at *
      have HZ2 := Lib.hid hz2
      have hd8 := dgt_lt 8 a i
      generalize dgt 8 a i = d8 at *
      obtain ⟨D, hD⟩ : ∃ D, D = dgt 64 a q := ⟨_, rfl⟩
      rw [← hD] at hby
      have hDl : D < 2 ^ 64 := by rw [hD]; exact dgt_lt _ _ _
      replace hD := hD.symm
      have HB := Lib.hid (And.intro hby hput)
      clear hq hr hs hz hz2 hby hput
      go_wp2_with fail
      go_roundw
      case rel =>
        have ev : ((D : Int) / 2 ^ s % 256) = (d8 : Int) := by
          rw [← HB.out.1, Int.natCast_emod, Int.natCast_ediv, Int.natCast_pow]
          rfl
        rw [ev]
        refine ⟨i + 1, by omega, by go_num, ?_, ?_, ?_, f1.setCell (p := ⟨g2, i, none⟩) (fun h => by have := HG.out; simp only at h; omega) _⟩
        · rw [heap_setCell_ne' _ _ _ _ _ n0]; exact r0
        · rw [heap_setCell_ne' _ _ _ _ _ n1]; exact r1
        · rw [heap_setCell_at, r2, withCell_cells, rowB_set _ _ _ hd8, HB.out.2, HZ2.out]
      case measure => simp [intOf]; omega
    · obtain rfl : i = 32 := by omega
      rw [HA.out] at r2
      go_wp2
      refine bodyPost_ret (results_cell_row rfl _ _ g1 _ _ _ _ rfl (by rw [heap_setRow_at, r1]; rfl) Try.underlying25 rfl (by rw [Try.szArr32]; rfl)) rfl ⟨rfl, ?_⟩
      exact f1.setRow (fun h => by have := HG.out; omega) _
end Go.Proofs.Ytgdnmmobnfjegaa
