/- Layer 3 (wide): the walk of left. -/
import Derived.Test.YtgdnmmobnfjegaaWf
namespace Go.Proofs.Ytgdnmmobnfjegaa
set_option linter.unusedVariables false
set_option linter.unusedSimpArgs false
open Go.RowKit

theorem or_val (d m r : Nat) (hm : m < 2 ^ 64) : bits BinOp.or IntKind.u64 (IntKind.u64.wrap ((d : Int) * 2 ^ r)) (m : Int) = ((d * 2 ^ r % 2 ^ 64 ||| m : Nat) : Int) := by
  have e : IntKind.u64.wrap ((d : Int) * 2 ^ r) = ((d * 2 ^ r % 2 ^ 64 : Nat) : Int) := by
    rw [IntKind.wrap_u64, Int.natCast_emod, Int.natCast_mul, Int.natCast_pow]
    rfl
  rw [e]
  exact u64_or_nat _ _ (Nat.mod_lt _ (Nat.two_pow_pos _)) hm

set_option maxRecDepth 100000 in
set_option maxHeartbeats 4000000 in
theorem wleft_any (a n : Nat) (ha : a < W256) (hn : n < 256) (w : World) :
    Calls Try.prog 46 #[.agg (rowN .u64 64 4 a), .int .u64 n] w fun e w' => e = .returned (.agg (rowN .u64 64 4 (a * 2 ^ n % W256))) ∧ Fr F0 w w' := by
  obtain ⟨q, hq⟩ : ∃ q, q = n / 64 := ⟨_, rfl⟩
  obtain ⟨r, hr⟩ : ∃ r, r = n % 64 := ⟨_, rfl⟩
  have hd : IntKind.u64.wrap ((n : Int) / 64) = (q : Int) := by rw [IntWalk.u64_in _ (by omega)]; omega
  have hge : decide ((256 : Int) ≤ (n : Int)) = false := decide_eq_false (by omega)
  have HN := Lib.hid (show n = 64 * q + r ∧ q < 4 ∧ r < 64 by omega)
  go_enter Try.func46, Try.ntmps46
  go_wp2_with fail
  obtain ⟨W1, hW1⟩ : ∃ W1, W1 = ((w.alloc (.cells (rowN .u64 64 4 a) 24)).alloc (.cells (rowN .u64 64 4 0) 24)).alloc (.cells (rowN .u64 64 4 0) 24) := ⟨_, rfl⟩
  refine wp_of_world W1 hW1 ?_
  have f1 : Fr F0 w W1 := by rw [hW1]; exact (((Fr.refl F0 w).alloc _).alloc _).alloc _
  obtain ⟨r0, r1, r2⟩ := heap3 w (.cells (rowN .u64 64 4 a) 24) (.cells (rowN .u64 64 4 0) 24) (.cells (rowN .u64 64 4 0) 24)
  rw [← hW1] at r0 r1 r2
  have HR := Lib.hid hr
  clear hW1 hq hr
  generalize hg0 : w.heap.size = g0 at *
  generalize hg1 : g0 + 1 = g1 at *
  generalize hg2 : g1 + 1 = g2 at *
  have n1 : g1 ≠ g2 := by omega
  have HG := Lib.hid (show w.heap.size ≤ g1 ∧ w.heap.size ≤ g2 by omega)
  refine left4 W1 g2 g0 q n a HN.out.2.1 hd (by omega) r2 r0 (Lib.hid ?_)
  clear hg0 hg1 hg2 r0
  rename_i w2
  rintro ⟨hh, hf⟩
  replace r1 : w2.heap[g1]? = some (.cells (rowN .u64 64 4 0) 24 (0, 0)) := by rw [hh, heap_setRow_ne _ _ _ _ n1]; exact r1
  replace r2 : w2.heap[g2]? = some (.cells (rowN .u64 64 4 (a * 2 ^ (64 * q))) 24 (0, 0)) := by rw [hh, heap_setRow_at, r2]; rfl
  have f2 : Fr F0 w w2 := (f1.setRow (fun h => by have := HG.out; omega) _).trans' hf
  have hfin : mlS (a * 2 ^ (64 * q)) (2 ^ r) 4 = a * 2 ^ n % W256 := by
    unfold mlS mlT
    rw [← W256_eq, ← Nat.mod_mul_mod, Nat.mod_mod, Nat.mod_mul_mod, Nat.mul_assoc, ← Nat.pow_add, ← HN.out.1]
  have HF := Lib.hid hfin
  clear hh hf f1 hfin hd
  generalize a * 2 ^ (64 * q) = T at *
  go_wp2_with fail
  go_loopw [7, 21] (fun cv iv wr => ∃ i : Nat, i ≤ 4 ∧ iv = .int .i64 i ∧ cv = .int .u64 (mlH T (2 ^ r) i : Nat) ∧ wr.heap[g1]? = some (.cells (rowN .u64 64 4 0) 24 (0, 0)) ∧ wr.heap[g2]? = some (.cells (rowN .u64 64 4 (shU T (2 ^ r) i)) 24 (0, 0)) ∧ Fr F0 w wr) (fun cv iv _ => 4 - (intOf iv).toNat)
  case atStart => exact ⟨0, by omega, rfl, by rw [mlH_zero]; rfl, r1, r2, f2⟩
  case round =>
    clear r1 r2 f2
    obtain ⟨i, hi, rfl, rfl, r1, r2, f2⟩ := hrel
    by_cases hi4 : i < 4
    · have li : (i : Int) < 4 := by omega
      have hdl := dgt_lt 64 T i
      have hmh := mlH_small T (2 ^ r) i (Nat.two_pow_pos r)
      have HP := Lib.hid (mlH_pow T r i HN.out.2.2)
      have HJ := Lib.hid (shl_join (dgt 64 T i) (mlH T (2 ^ r) i) r HN.out.2.2 hmh)
      have hsd : dgt 64 (shU T (2 ^ r) i) i = dgt 64 T i := by rw [shU_dgt, if_neg (by omega)]
      go_wp2_with fail
      go_roundw
      case rel =>
        rw [← HR.out, or_val _ _ _ (by have := Nat.pow_lt_pow_right (a := 2) (by omega) HN.out.2.2; omega), HJ.out]
        refine ⟨i + 1, by omega, by go_num, ?_, ?_, ?_, ?_⟩
        · rw [HP.out]
          congr 1
        · rw [heap_setCell_ne' _ _ _ _ _ n1]; exact r1
        · rw [heap_setCell_at, r2, withCell_cells, set_word _ _ _ (addLo_lt _ _ _)]; rfl
        · exact f2.setCell (p := ⟨g2, i, none⟩) (fun h => by have := HG.out; simp only at h; omega) _
      case measure => simp [intOf]; omega
    · obtain rfl : i = 4 := by omega
      rw [shU_all, HF.out] at r2
      go_wp2
      refine bodyPost_ret (results_cell_row rfl _ _ g1 _ _ _ _ rfl (by rw [heap_setRow_at, r1]; rfl) Try.underlying24 rfl (by rw [Try.szWide]; rfl)) rfl ⟨rfl, ?_⟩
      exact f2.setRow (fun h => by have := HG.out; omega) _

set_option maxRecDepth 100000 in
set_option maxHeartbeats 1000000 in
theorem wleft_out (a n : Nat) (hn : 256 ≤ n) (w : World) :
    Calls Try.prog 46 #[.agg (rowN .u64 64 4 a), .int .u64 n] w fun e w' => e = .returned (.agg (rowN .u64 64 4 0)) ∧ Fr F0 w w' := by
  have hge : decide ((256 : Int) ≤ (n : Int)) = true := decide_eq_true (by omega)
  go_enter Try.func46, Try.ntmps46
  go_wp2
  refine bodyPost_ret (results_cell_row rfl _ _ (w.heap.size + 1) _ _ _ _ rfl (by rw [heap_setRow_at, heap_alloc2_new]; rfl) Try.underlying24 rfl (by rw [Try.szWide]; rfl)) rfl ⟨rfl, ?_⟩
  exact (((Fr.refl F0 w).alloc _).alloc _).setRow (fun h => by omega) _
end Go.Proofs.Ytgdnmmobnfjegaa
