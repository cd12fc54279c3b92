/- Layer 6 (target): the document's Decode and Encode. -/
import Derived.Test.YtgdnmmobnfjegaaPa
namespace Go.Proofs.Ytgdnmmobnfjegaa
set_option linter.unusedVariables false
set_option linter.unusedSimpArgs false
open Go.RowKit

/-- Bits, in their parts. -/
def btE (b : Nat) : Nat := b / 16777216
def btM (b : Nat) : Nat := b % 8388608
def btS (b : Nat) : Nat := b / 8388608 % 2
/-- The target that bits tell, and whether they can be. -/
def btT (b : Nat) : Nat := tgt (btE b) (btM b)
def btP (b : Nat) : Prop := ¬ (btS b = 1 ∧ 0 < btM b) ∧ 0 < btT b ∧ btT b < W256
instance (b : Nat) : Decidable (btP b) := by unfold btP; infer_instance

theorem lg_by2 {m k : Nat} (hm : m < 8388608) (hk : k ≤ 300) : lg (m * by2 k) ≤ 5000 := by
  have h : m * by2 k < pw (2 + k) := by
    rw [pw_add, by2_two]
    refine Nat.mul_lt_mul_of_lt_of_le (show m < pw 2 from Nat.lt_of_lt_of_le hm (show 8388608 ≤ 2 ^ (16 * 2) by omega)) ?_ (pw_pos _)
    exact Nat.pow_le_pow_right (by omega) (by omega)
  exact Nat.le_trans (lg_minp h) (by omega)
theorem lg_le_of {x y : Nat} {n : Nat} (h : x ≤ y) (hy : lg y ≤ n) : lg x ≤ n := Nat.le_trans (lg_minp (Nat.lt_of_le_of_lt h (lg_lt y))) hy
theorem lg_16 (x : Nat) : lg x ≤ 16 ↔ x < W256 := ⟨fun h => Nat.lt_of_lt_of_le (lg_lt x) (Nat.pow_le_pow_right (n := 2) (by omega) (by omega)), fun h => lg_word h⟩

set_option maxRecDepth 100000 in
set_option maxHeartbeats 8000000 in
theorem r6Decode_any (b : Nat) (hb : b < 4294967296) (o : Bool) (ho : decide (btP b) = o) (w : World) :
    Calls Try.prog 13 #[.int .u32 (b : Int)] w fun e w' => ∃ a c, e = .returned (.tuple #[.slice a (lg (btT b)) c, .bool o]) ∧ Ns w' a c (btT b) ∧ Fr F0 w w' := by
  have HO := Lib.hid (fun w => show Calls Try.prog 32 #[.int .u64 256] w fun e w' => NN 256 w e w' from r6one_any 256 (by omega) w)
  obtain ⟨E, hE⟩ : ∃ E, btE b = E := ⟨_, rfl⟩
  obtain ⟨m, hm⟩ : ∃ m, btM b = m := ⟨_, rfl⟩
  obtain ⟨s, hs⟩ : ∃ s, btS b = s := ⟨_, rfl⟩
  obtain ⟨T, hT⟩ : ∃ T, btT b = T := ⟨_, rfl⟩
  have hTE : T = tgt E m := by rw [← hT, ← hE, ← hm]; rfl
  have hE2 : E ≤ 255 := by rw [← hE]; unfold btE; omega
  have hm2 : m < 8388608 := by rw [← hm]; unfold btM; omega
  have hs2 : s = 0 ∨ s = 1 := by rw [← hs]; unfold btS; omega
  have q1 : (b : Int) / 16777216 = (E : Int) := by rw [← hE]; unfold btE; omega
  have q2 : (b : Int) % 8388608 = (m : Int) := by rw [← hm]; unfold btM; omega
  have q3 : (b : Int) / 8388608 % 2 = (s : Int) := by rw [← hs]; unfold btS; omega
  have c1 : IntKind.i64.wrap (E : Int) = (E : Int) := IntWalk.i64_in _ (by omega)
  have c2 : IntKind.u64.wrap (m : Int) = (m : Int) := IntWalk.u64_in _ (by omega)
  have hoc : (s = 1 ∧ 0 < m ∧ o = false) ∨ (¬ (s = 1 ∧ 0 < m) ∧ lg T = 0 ∧ o = false) ∨ (¬ (s = 1 ∧ 0 < m) ∧ 0 < lg T ∧ ¬ lg T ≤ 16 ∧ o = false) ∨ (¬ (s = 1 ∧ 0 < m) ∧ 0 < lg T ∧ lg T ≤ 16 ∧ o = true) := by
    have hP : btP b ↔ (¬ (s = 1 ∧ 0 < m) ∧ 0 < T ∧ T < W256) := by unfold btP; rw [hs, hm, hT]
    rw [← ho, decide_eq_decide.2 hP, decide_eq_false_iff_not, decide_eq_true_iff, lg_16]
    by_cases h1 : s = 1 ∧ 0 < m
    · exact .inl ⟨h1.1, h1.2, fun e => e.1 h1⟩
    · right
      by_cases h2 : T = 0
      · exact .inl ⟨h1, by rw [h2]; rfl, fun e => by omega⟩
      · right
        have := lg_pos h2
        by_cases h3 : T < W256
        · exact .inr ⟨h1, this, h3, h1, by omega, h3⟩
        · exact .inl ⟨h1, this, h3, fun e => h3 e.2.2⟩
  have HOm := Lib.hid (r6one_any m (by omega))
  have HM := Lib.hid (fun k (hk : k ≤ 300) a c p2 c2 w h1 h2 => r3Mul_any (m * by2 k) 256 a c p2 c2 (Nat.le_trans (lg_by2 hm2 hk) (by omega)) (lg_w10 (word_w (by omega))) w h1 h2)
  have HLT : ∀ x, x ≤ m * by2 300 → lg x ≤ 5000 := fun x h => lg_le_of h (lg_by2 hm2 (by omega))
  have HD := Lib.hid (fun x (hx : x ≤ m * by2 300) a c p2 c2 w h1 h2 => r3Div_any x 256 a c p2 c2 (by omega) (HLT x hx) (fun z hz => Nat.le_trans (lg_word (word_w (x := z) (by omega))) (by omega)) w h1 h2)
  clear ho hE hm hs HLT
  have HQ3 := Lib.hid q3
  clear q3
  have HC := Lib.hid hoc
  clear hoc
  rw [hT]
  have HTE := Lib.hid hTE
  clear hTE hT
  go_enter Try.func13, Try.ntmps13
  go_wp2_with fail
  (with_reducible refine (HOm.out _).mono ?_); rintro e w1 ⟨p1, k1, rfl, n1, f1⟩
  go_wp2_with fail
  go_loopw [4, 6] (fun iv ov wr => ∃ j k : Nat, j + k = E ∧ (3 ≤ j ∨ k = 0) ∧ iv = .int .i64 j ∧ (∃ a' c', ov = .slice a' (lg (m * by2 k)) c' ∧ Ns wr a' c' (m * by2 k)) ∧ Fr F0 w wr) (fun iv _ _ => (intOf iv).toNat)
  case atStart => exact ⟨E, 0, rfl, .inr rfl, rfl, ⟨p1, k1, by rw [show by2 0 = 1 from rfl, Nat.mul_one], by rw [show by2 0 = 1 from rfl, Nat.mul_one]; exact n1⟩, f1⟩
  case round =>
    clear n1 f1
    obtain ⟨j, k, hjk, hj3, rfl, ⟨p2, k2, rfl, n2⟩, hf⟩ := hrel
    by_cases h1 : 3 < j
    · have l1 : (3 : Int) < (j : Int) := by omega
      have m1 : IntKind.i64.wrap ((j : Int) - 1) = ((j - 1 : Nat) : Int) := by rw [IntWalk.i64_in _ (by omega)]; omega
      have HMk := Lib.hid (HM.out k (by omega))
      rw [Nat.mul_assoc, ← by2_1, ← by2_add] at HMk
      rw [by2_1] at HMk
      have HJ := Lib.hid (show j - 1 + (k + 1) = E ∧ 3 ≤ j - 1 ∧ j - 1 < j by omega)
      generalize hv : m * by2 (k + 1) = v at *
      have HV := Lib.hid hv
      generalize m * by2 k = u at *
      generalize j - 1 = j' at *
      clear h1 hjk hj3 hv
      go_wp2_with fail
      (with_reducible refine (HO.out _).mono ?_); rintro e w3 ⟨p3, k3, rfl, n3, f3⟩
      replace hf := hf.trans' f3
      replace n2 := Us.fr n2 f3
      clear f3
      go_wp2_with fail
      (with_reducible refine (HMk.out _ _ _ _ _ n2 n3).mono ?_); rintro e w4 ⟨p4, k4, rfl, n4, f4⟩
      replace hf := hf.trans' f4
      clear f4 n2 n3
      go_wp2_with fail
      go_roundw
      case rel => exact ⟨j', k + 1, HJ.out.1, .inl HJ.out.2.1, rfl, ⟨p4, k4, by rw [HV.out], by rw [HV.out]; exact n4⟩, hf⟩
      case measure => have := HJ.out.2.2; simp [intOf]; omega
    · have l1 : ¬ (3 : Int) < (j : Int) := by omega
      have hj : j ≤ 3 := by omega
      have hjT : T = m * by2 k / by2 (3 - j) := by
        rw [HTE.out]
        unfold tgt
        by_cases h3 : 3 ≤ E
        · obtain rfl : j = 3 := by omega
          rw [if_pos h3, show E - 3 = k by omega]
          simp [by2]
        · obtain rfl : k = 0 := by omega
          rw [if_neg h3, show E = j by omega]
          simp [by2]
      have hb300 : m * by2 k ≤ m * by2 300 := Nat.mul_le_mul_left _ (by2_le (by omega))
      have HJT := Lib.hid hjT
      clear hjT hjk h1 HM hj3
      generalize hu : m * by2 k = u at *
      clear hu
      go_wp2_with fail
      go_loopw [4, 6] (fun iv ov wr => ∃ i d : Nat, i = j + d ∧ i ≤ 3 ∧ iv = .int .i64 i ∧ (∃ a' c', ov = .slice a' (lg (u / by2 d)) c' ∧ Ns wr a' c' (u / by2 d)) ∧ Fr F0 w wr) (fun iv _ _ => 3 - (intOf iv).toNat)
      case atStart => exact ⟨j, 0, rfl, hj, rfl, ⟨p2, k2, by rw [show by2 0 = 1 from rfl, Nat.div_one], by rw [show by2 0 = 1 from rfl, Nat.div_one]; exact n2⟩, hf⟩
      case round =>
        clear n2 hf
        obtain ⟨i, d, hid, hi3, rfl, ⟨p3, k3, rfl, n3⟩, hf⟩ := hrel
        by_cases h1 : i < 3
        · have l1 : (i : Int) < 3 := by omega
          have HDk := Lib.hid (HD.out (u / by2 d) (Nat.le_trans (Nat.div_le_self _ _) hb300))
          rw [Nat.div_div_eq_div_mul, ← by2_1, ← by2_add] at HDk
          rw [by2_1] at HDk
          have HJ := Lib.hid (show i + 1 = j + (d + 1) ∧ i + 1 ≤ 3 ∧ i < i + 1 by omega)
          generalize hv : u / by2 (d + 1) = v at *
          have HV := Lib.hid hv
          generalize u / by2 d % 256 = r at *
          generalize u / by2 d = y at *
          clear h1 hid hi3 hv hj
          go_wp2_with fail
          (with_reducible refine (HO.out _).mono ?_); rintro e w4 ⟨p4, k4, rfl, n4, f4⟩
          replace hf := hf.trans' f4
          replace n3 := Us.fr n3 f4
          clear f4
          go_wp2_with fail
          (with_reducible refine (HDk.out _ _ _ _ _ n3 n4).mono ?_); rintro e w5 ⟨p5, k5, p6, k6, rfl, n5, n6, f5⟩
          replace hf := hf.trans' f5
          clear f5 n3 n4 n6
          go_wp2_with fail
          go_roundw
          case rel => exact ⟨i + 1, d + 1, HJ.out.1, HJ.out.2.1, by go_num, ⟨p5, k5, by rw [HV.out], by rw [HV.out]; exact n5⟩, hf⟩
          case measure => have := HJ.out.2; simp [intOf]; omega
        · have l1 : ¬ (i : Int) < 3 := by omega
          have e : u / by2 d = T := by rw [HJT.out]; congr 2; omega
          rw [e] at n3
          rw [e]
          clear e h1 hid hi3 hj HJT HD
          generalize hl : lg T = lt at *
          have HL := Lib.hid hl
          clear hl
          have q3 := HQ3.out
          rcases HC.out with ⟨rfl, hm0, rfl⟩ | hoc
          · have l2 : (0 : Int) < (m : Int) := by omega
            replace q3 : (b : Int) / 8388608 % 2 = 1 := q3
            clear HC
            go_wp2_with fail
            go_ret2
            exact ⟨_, _, by rw [HL.out]; rfl, n3, hf⟩
          · have hns : (s = 0 ∨ ¬ (0 : Int) < (m : Int)) ∧ ((lt = 0 ∧ o = false) ∨ ((0 : Int) < (lt : Int) ∧ 0 < lt ∧ ¬ (lt : Int) ≤ 16 ∧ o = false) ∨ ((0 : Int) < (lt : Int) ∧ 0 < lt ∧ (lt : Int) ≤ 16 ∧ o = true)) := by
              have hl := HL.out
              rcases hoc with ⟨h1, h2, h3⟩ | ⟨h1, h2, h3, h4⟩ | ⟨h1, h2, h3, h4⟩
              · exact ⟨by omega, .inl ⟨by omega, h3⟩⟩
              · exact ⟨by omega, .inr (.inl ⟨by omega, by omega, by omega, h4⟩)⟩
              · exact ⟨by omega, .inr (.inr ⟨by omega, by omega, by omega, h4⟩)⟩
            clear hoc HC
            obtain ⟨hns, hlt⟩ := hns
            rcases hs2 with rfl | rfl
            · clear hns
              replace q3 : (b : Int) / 8388608 % 2 = 0 := q3
              rcases hlt with ⟨rfl, rfl⟩ | ⟨l4, l6, l5, rfl⟩ | ⟨l4, l6, l5, rfl⟩
              · go_wp2_with fail
                go_ret2
                exact ⟨_, _, by rw [HL.out]; rfl, n3, hf⟩
              · go_wp2_with fail
                go_ret2
                exact ⟨_, _, by rw [HL.out]; rfl, n3, hf⟩
              · go_wp2_with fail
                go_ret2
                exact ⟨_, _, by rw [HL.out]; rfl, n3, hf⟩
            · obtain rfl : m = 0 := by omega
              replace q3 : (b : Int) / 8388608 % 2 = 1 := q3
              clear hns
              rcases hlt with ⟨rfl, rfl⟩ | ⟨l4, l6, l5, rfl⟩ | ⟨l4, l6, l5, rfl⟩
              · go_wp2_with fail
                go_ret2
                exact ⟨_, _, by rw [HL.out]; rfl, n3, hf⟩
              · go_wp2_with fail
                go_ret2
                exact ⟨_, _, by rw [HL.out]; rfl, n3, hf⟩
              · go_wp2_with fail
                go_ret2
                exact ⟨_, _, by rw [HL.out]; rfl, n3, hf⟩
end Go.Proofs.Ytgdnmmobnfjegaa
