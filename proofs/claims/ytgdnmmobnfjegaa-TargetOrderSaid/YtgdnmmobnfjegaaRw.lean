/- The document's answer 03 (wide): the walk of Words. -/
import Derived.Test.YtgdnmmobnfjegaaRd
namespace Go.Proofs.Ytgdnmmobnfjegaa
set_option linter.unusedVariables false
set_option linter.unusedSimpArgs false
open Go.RowKit

theorem words_put (V d k m : Nat) (hm : m < 4) (hV : V < pw (4 * k + m)) (hd : d < 65536) :
    dgt 64 V k + d * 2 ^ (16 * m) < 2 ^ 64 ∧ putw 64 V k (dgt 64 V k + d * 2 ^ (16 * m)) = V + pw (4 * k + m) * d := by
  have e1 : pw (4 * k + m) = 2 ^ (64 * k) * 2 ^ (16 * m) := by unfold pw; rw [← Nat.pow_add]; congr 1; omega
  have hP := Nat.two_pow_pos (64 * k)
  have hM := Nat.two_pow_pos (16 * m)
  have hM2 : 2 ^ (16 * m) * 65536 ≤ 2 ^ 64 := by
    rw [show (65536 : Nat) = 2 ^ 16 from rfl, ← Nat.pow_add]
    exact Nat.pow_le_pow_right (by omega) (by omega)
  rw [e1] at hV ⊢
  have hq : V / 2 ^ (64 * k) < 2 ^ (16 * m) := by rw [Nat.div_lt_iff_lt_mul hP, Nat.mul_comm]; exact hV
  have hdg : dgt 64 V k = V / 2 ^ (64 * k) := by
    unfold dgt
    exact Nat.mod_eq_of_lt (by omega)
  have hdm : (d + 1) * 2 ^ (16 * m) ≤ 65536 * 2 ^ (16 * m) := Nat.mul_le_mul_right _ hd
  rw [Nat.add_mul] at hdm
  have h0 : V / 2 ^ (64 * (k + 1)) = 0 := by
    refine Nat.div_eq_of_lt ?_
    have e2 : 2 ^ (64 * (k + 1)) = 2 ^ (64 * k) * 2 ^ 64 := by rw [← Nat.pow_add]; congr 1
    rw [e2]
    exact Nat.lt_of_lt_of_le hV (Nat.mul_le_mul_left _ (by omega))
  constructor
  · rw [hdg]; omega
  · unfold putw
    rw [hdg, h0, Nat.mul_zero, Nat.add_zero, Nat.mul_add]
    have h1 := Nat.mod_add_div V (2 ^ (64 * k))
    have h2 : 2 ^ (64 * k) * (d * 2 ^ (16 * m)) = 2 ^ (64 * k) * 2 ^ (16 * m) * d := by ac_rfl
    omega

set_option maxRecDepth 100000 in
set_option maxHeartbeats 8000000 in
theorem r3Words_any (x : Nat) (a : Option Addr) (c : Nat) (hlx : lg x ≤ 10000) (w : World) (hx : Ns w a c x) :
    Calls Try.prog 34 #[.slice a (lg x) c] w fun e w' => e = .returned (.tuple #[.agg (rowN .u64 64 4 (x % W256)), .bool (decide (W256 ≤ x))]) ∧ Fr F0 w w' := by
  have HX := Lib.hid hx
  have HLX := Lib.hid (show x < pw (lg x) from lg_lt x)
  clear hx
  generalize hnx : lg x = nx at *
  have HNX := Lib.hid hnx
  clear hnx
  go_enter Try.func34, Try.ntmps34
  go_wp2_with fail
  obtain ⟨W1, hW1⟩ : ∃ W1, W1 = (((w.alloc (.cells (rowN .u64 64 4 0) 23)).alloc (.cells (rowN .u64 64 4 0) 23)).setRow (w.heap.size + 1) (rowN .u64 64 4 0)) := ⟨_, rfl⟩
  refine wp_of_world W1 hW1 ?_
  have r0 : W1.heap[w.heap.size]? = some (.cells (rowN .u64 64 4 0) 23 (0, 0)) := by rw [hW1]; exact keep_row (by omega) (heap_alloc2_old _ _ _)
  have r1 : W1.heap[w.heap.size + 1]? = some (.cells (rowN .u64 64 4 0) 23 (0, 0)) := by rw [hW1]; exact new_row (heap_alloc2_new _ _ _)
  have f1 : Fr F0 w W1 := by rw [hW1]; exact (((Fr.refl F0 w).alloc _).alloc _).setRow (fun h => by omega) _
  clear hW1
  have hne : w.heap.size ≠ w.heap.size + 1 := by omega
  generalize hg : w.heap.size + 1 = g at *
  generalize hg0 : w.heap.size = g0 at *
  have HG := Lib.hid (And.intro hg hg0)
  clear hg hg0
  go_loopw [5] (fun iv wr => ∃ i : Nat, i ≤ 16 ∧ i ≤ nx ∧ iv = .int .i64 i ∧ wr.heap[g0]? = some (.cells (rowN .u64 64 4 0) 23 (0, 0)) ∧ wr.heap[g]? = some (.cells (rowN .u64 64 4 (x % pw i)) 23 (0, 0)) ∧ Fr F0 w wr) (fun iv _ => 16 - (intOf iv).toNat)
  case atStart => exact ⟨0, by omega, by omega, rfl, r0, by rw [pw_zero, Nat.mod_one]; exact r1, f1⟩
  case round =>
    clear r0 r1 f1
    obtain ⟨i, hi, hin, rfl, r0, r1, hf⟩ := hrel
    by_cases h1 : i < 16
    · by_cases h2 : i < nx
      · have l1 : (i : Int) < 16 := by omega
        have l2 : (i : Int) < (nx : Int) := by omega
        obtain ⟨b, off, ea, hc⟩ := (HX.out.fr hf).get i (by rw [dg_length, HNX.out]; exact h2)
        rw [dg_getD] at hc
        subst ea
        obtain ⟨k, hk⟩ : ∃ k, i / 4 = k := ⟨_, rfl⟩
        obtain ⟨m, hm⟩ : ∃ m, i % 4 = m := ⟨_, rfl⟩
        have hik : 4 * k + m = i := by omega
        have hp := words_put (x % pw i) (dgt 16 x i) k m (by omega) (by rw [hik]; exact Nat.mod_lt _ (pw_pos i)) (d16_lt x i)
        rw [hik, ← md_succ] at hp
        have mk : (i : Int) / 4 = (k : Int) := by omega
        have mm : (i : Int) % 4 = (m : Int) := by omega
        have lk : (k : Int) < 4 := by omega
        have lk4 : k < 4 := by omega
        have lm : (m : Int) < 4 := by omega
        have HI := Lib.hid (And.intro hi (And.intro hin (And.intro h1 h2)))
        have HF := Lib.hid hf
        have hd16 := d16_lt x i
        have hVw := dgt_lt 64 (x % pw i) k
        generalize x % pw i = V at *
        generalize dgt 16 x i = d at *
        clear hi hin h1 h2 hf hik hk hm
        obtain ⟨hp1, hp2⟩ := hp
        obtain ⟨dm, hdm⟩ : ∃ dm, d * 2 ^ (16 * m) = dm := ⟨_, rfl⟩
        obtain ⟨sm, hsm⟩ : ∃ sm, dgt 64 V k + dm = sm := ⟨_, rfl⟩
        rw [hdm] at hp1 hp2
        rw [hsm] at hp1 hp2
        have hdm2 : (d : Int) * 2 ^ (16 * m) = (dm : Int) := by rw [← hdm]; simp
        have m1 : IntKind.u64.wrap ((d : Int) * 2 ^ (16 * m)) = (dm : Int) := by rw [hdm2]; exact IntWalk.u64_in _ (by omega)
        have m2 : IntKind.u64.wrap (((dgt 64 V k : Nat) : Int) + dm) = (sm : Int) := by rw [IntWalk.u64_in _ (by omega)]; omega
        have HP1 := Lib.hid hp1
        have HP2 := Lib.hid hp2
        have HN := Lib.hid hne
        clear hp1 hp2 hdm hsm hdm2 hVw hd16 hne
        go_wp2_with fail
        go_region
        go_wp2
        go_roundw
        case rel =>
          obtain ⟨q1, q2, q3, q4⟩ := HI.out
          obtain ⟨hg, hg0⟩ := HG.out
          refine ⟨i + 1, by omega, by omega, by go_num, ?_, ?_, ?_⟩
          · rw [heap_drew', Below.heap_setCell _ _ _ _ HN.out]; exact r0
          · rw [heap_drew', heap_setCell_at, r1, withCell_cells, set_word _ _ _ HP1.out, HP2.out]
          · exact (HF.out.setCell (p := ⟨g, k, none⟩) (fun h => by simp at h; omega) _).drew
        case measure =>
          obtain ⟨q1, q2, q3, q4⟩ := HI.out
          simp [intOf]; omega
      · have l1 : (i : Int) < 16 := by omega
        have l2 : ¬ (i : Int) < (nx : Int) := by omega
        have HT := Lib.hid (show decide ((16 : Int) < (nx : Int)) = decide (W256 ≤ x) ∧ x % pw i = x % W256 by
          obtain rfl : i = nx := by omega
          have hxp := HLX.out
          have h3 : x < W256 := Nat.lt_of_lt_of_le hxp (pw_le (show i ≤ 16 by omega))
          exact ⟨by rw [decide_eq_false (by omega), decide_eq_false (by omega)], by rw [Nat.mod_eq_of_lt hxp, Nat.mod_eq_of_lt h3]⟩)
        go_wp2_with fail
        refine bodyPost_ret (res_row_tmp rfl _ _ g0 _ _ _ _ rfl (new_row r0) Try.underlying23 rfl (by rw [Try.szArr4, rowN_size])) rfl ⟨?_, ?_⟩
        · rw [HT.out.2]; simp only [Array.getD]; rw [← HT.out.1]; rfl
        · obtain ⟨hg, hg0⟩ := HG.out
          exact hf.setRow (fun h => by omega) _
    · obtain rfl : i = 16 := by omega
      have l1 : ¬ ((16 : Nat) : Int) < 16 := by omega
      have HT := Lib.hid (show decide ((16 : Int) < (nx : Int)) = decide (W256 ≤ x) from by
        by_cases h : nx = 16
        · have h3 : x < W256 := by have := HLX.out; rw [h] at this; exact this
          rw [decide_eq_false (by omega), decide_eq_false (by omega)]
        · have h4 := lg_le (x := x) (by rw [HNX.out]; omega)
          rw [HNX.out] at h4
          have h5 : W256 ≤ x := Nat.le_trans (pw_le (show 16 ≤ nx - 1 by omega)) h4
          rw [decide_eq_true (by omega), decide_eq_true h5])
      go_wp2_with fail
      refine bodyPost_ret (res_row_tmp rfl _ _ g0 _ _ _ _ rfl (new_row r0) Try.underlying23 rfl (by rw [Try.szArr4, rowN_size])) rfl ⟨?_, ?_⟩
      · simp only [Array.getD]; rw [← HT.out]; rfl
      · obtain ⟨hg, hg0⟩ := HG.out
        exact hf.setRow (fun h => by omega) _
end Go.Proofs.Ytgdnmmobnfjegaa
