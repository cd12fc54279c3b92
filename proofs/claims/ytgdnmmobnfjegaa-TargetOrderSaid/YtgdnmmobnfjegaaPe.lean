/- Layer 6 (target): the document's Encode. -/
import Derived.Test.YtgdnmmobnfjegaaPc
namespace Go.Proofs.Ytgdnmmobnfjegaa
set_option linter.unusedVariables false
set_option linter.unusedSimpArgs false
open Go.RowKit

/-- The bits of a target. -/
def enB (t : Nat) : Nat := enM t + enE t * 16777216

theorem nby_32 {t : Nat} (h : t < W256) : nby t ≤ 32 := by
  rw [nby_le, by2_two]
  exact h
theorem enE_33 {t : Nat} (h : t < W256) : enE t ≤ 33 := by
  have := nby_32 h
  unfold enE
  split <;> omega
theorem top3_lt (t : Nat) : top3 t < 16777216 := by
  by_cases h : 0 < t
  · exact (top3_range h).2
  · obtain rfl : t = 0 := by omega
    unfold top3
    rw [show nby 0 = 0 from rfl]
    decide

set_option maxRecDepth 100000 in
set_option maxHeartbeats 8000000 in
theorem r6Encode_any (t : Nat) (a : Option Addr) (c : Nat) (ht : t < W256) (w : World) (h : Ns w a c t) :
    Calls Try.prog 16 #[.slice a (lg t) c] w fun e w' => e = .returned (.int .u32 (enB t : Nat)) ∧ Fr F0 w w' := by
  have HX := Lib.hid h
  have HB := Lib.hid (r3Bits_any t a c (lg_w10 ht) w h)
  have HO := Lib.hid (fun w => show Calls Try.prog 32 #[.int .u64 256] w fun e w' => NN 256 w e w' from r6one_any 256 (by omega) w)
  have hn1 := nby_32 ht
  have hn2 : ∀ i, nby t ≤ i ↔ nbits t ≤ 8 * i := fun i => by unfold nby; omega
  have htop := top3_lt t
  have HT := Lib.hid (show top3 t = if 3 ≤ nby t then t / by2 (nby t - 3) else t * by2 (3 - nby t) from rfl)
  have hLT : ∀ x, x ≤ t → lg x ≤ 5000 := fun x hx => lg_w (Nat.lt_of_le_of_lt hx ht)
  have HD := Lib.hid (fun x (hx : x ≤ t) a c p2 c2 w h1 h2 => r3Div_any x 256 a c p2 c2 (by omega) (hLT x hx) (fun z hz => Nat.le_trans (lg_word (word_w (x := z) (by omega))) (by omega)) w h1 h2)
  have HM := Lib.hid (fun x (hx : lg x ≤ 10000) a c p2 c2 w h1 h2 => r3Mul_any x 256 a c p2 c2 hx (lg_w10 (word_w (by omega))) w h1 h2)
  have HW := Lib.hid (fun a c w h => r3Words_any (top3 t) a c (lg_w10 (word_w (by omega))) w h)
  rw [Nat.mod_eq_of_lt (word_w (by omega)), decide_eq_false (Nat.not_le.2 (word_w (by omega)))] at HW
  have hd0 : dgt 64 (top3 t) 0 = top3 t := by
    unfold dgt
    rw [Nat.mul_zero, Nat.pow_zero, Nat.div_one]
    exact Nat.mod_eq_of_lt (by omega)
  have hE : (8388608 ≤ top3 t ∧ enB t = top3 t / 256 + (nby t + 1) * 16777216) ∨ (¬ 8388608 ≤ top3 t ∧ enB t = top3 t + nby t * 16777216) := by
    unfold enB enM enE
    by_cases h : 8388608 ≤ top3 t
    · exact .inl ⟨h, by rw [if_pos h, if_pos h]⟩
    · exact .inr ⟨h, by rw [if_neg h, if_neg h]⟩
  have HLM := Lib.hid (fun d (hd : d ≤ 3) u (hu : u ≤ t) => (lg_ww (x := u) (y := by2 d) (Nat.lt_of_le_of_lt hu ht) (Nat.lt_of_le_of_lt (by2_le hd) (word_w (x := by2 3) (by rw [by2_3]; omega)))))
  have hnb : nbits t ≤ 256 := (nbits_le t 256).2 ht
  clear h hLT ht
  generalize enB t = B at *
  generalize nby t = n at *
  generalize nbits t = nb at *
  generalize top3 t = T at *
  go_enter Try.func16, Try.ntmps16
  go_wp2_with fail
  (with_reducible refine (HB.out).mono ?_); rintro e w1 ⟨p1, k1, rfl, n1, f1⟩
  clear n1
  go_wp2_with fail
  go_loopw [4] (fun iv wr => wr = w1 ∧ ∃ i : Nat, i ≤ n ∧ iv = .int .i64 i) (fun iv _ => n - (intOf iv).toNat)
  case atStart => exact ⟨rfl, 0, by omega, rfl⟩
  case round =>
    obtain ⟨rfl, i, hi, rfl⟩ := hrel
    have m0 : IntKind.i64.wrap (8 * (i : Int)) = ((8 * i : Nat) : Int) := by rw [IntWalk.i64_in _ (by omega)]; omega
    have hni := hn2 i
    by_cases h1 : 8 * i < nb
    · have l1 : ((8 * i : Nat) : Int) < (nb : Int) := by omega
      have l2 : 8 * i < nb := h1
      have HJ := Lib.hid (show i + 1 ≤ n ∧ i < i + 1 ∧ i < n by omega)
      generalize 8 * i = i8 at *
      clear h1 hni
      go_wp2_with fail
      go_roundw
      case rel => exact ⟨trivial, i + 1, HJ.out.1, by go_num⟩
      case measure => have := HJ.out; simp [intOf]; omega
    · have l1 : ¬ ((8 * i : Nat) : Int) < (nb : Int) := by omega
      have l2 : ¬ 8 * i < nb := h1
      obtain rfl : i = n := by omega
      generalize 8 * i = i8 at *
      clear h1 hni hn2
      go_wp2_with fail
      clear l1 l2 m0 hi HB
      go_loopw [5, 6] (fun ov iv wz => ∃ j k : Nat, j + k = i ∧ (3 ≤ j ∨ k = 0) ∧ iv = .int .i64 j ∧ (∃ a' c', ov = .slice a' (lg (t / by2 k)) c' ∧ Ns wz a' c' (t / by2 k)) ∧ Fr F0 w wz) (fun _ iv _ => (intOf iv).toNat)
      case atStart => exact ⟨i, 0, rfl, .inr rfl, rfl, ⟨a, c, by rw [show by2 0 = 1 from rfl, Nat.div_one], by rw [show by2 0 = 1 from rfl, Nat.div_one]; exact Us.fr HX.out f1⟩, f1⟩
      case round =>
        clear f1
        obtain ⟨j, k, hjk, hj3, rfl, ⟨p2, k2, rfl, n2⟩, hf⟩ := hrel
        by_cases h1 : 3 < j
        · have l1 : (3 : Int) < (j : Int) := by omega
          have m1 : IntKind.i64.wrap ((j : Int) - 1) = ((j - 1 : Nat) : Int) := by rw [IntWalk.i64_in _ (by omega)]; omega
          have HDk := Lib.hid (HD.out (t / by2 k) (Nat.div_le_self _ _))
          rw [Nat.div_div_eq_div_mul, ← by2_1, ← by2_add] at HDk
          rw [by2_1] at HDk
          have HJ := Lib.hid (show j - 1 + (k + 1) = i ∧ 3 ≤ j - 1 ∧ j - 1 < j by omega)
          generalize hv : t / by2 (k + 1) = v at *
          have HV := Lib.hid hv
          generalize t / by2 k % 256 = r at *
          generalize t / by2 k = u at *
          generalize j - 1 = j' at *
          clear h1 hjk hj3 hv
          go_wp2_with fail
          (with_reducible refine (HO.out _).mono ?_); rintro e w3 ⟨p3, k3, rfl, n3, f3⟩
          replace hf := hf.trans' f3
          replace n2 := Us.fr n2 f3
          clear f3
          go_wp2_with fail
          (with_reducible refine (HDk.out _ _ _ _ _ n2 n3).mono ?_); rintro e w4 ⟨p4, k4, p5, k5, rfl, n4, n5, f4⟩
          replace hf := hf.trans' f4
          clear f4 n2 n3 n5
          go_wp2_with fail
          go_roundw
          case rel => exact ⟨j', k + 1, HJ.out.1, .inl HJ.out.2.1, rfl, ⟨p4, k4, by rw [HV.out], by rw [HV.out]; exact n4⟩, hf⟩
          case measure => have := HJ.out.2.2; simp [intOf]; omega
        · have l1 : ¬ (3 : Int) < (j : Int) := by omega
          have hu : ∃ u, t / by2 k = u ∧ u ≤ t ∧ (3 ≤ i → u = T) ∧ (¬ 3 ≤ i → u * by2 (3 - i) = T) := by
            refine ⟨_, rfl, Nat.div_le_self _ _, fun h3 => ?_, fun h3 => ?_⟩
            · rw [HT.out, if_pos h3, show i - 3 = k by omega]
            · rw [HT.out, if_neg h3]
              obtain rfl : k = 0 := by omega
              rw [show by2 0 = 1 from rfl, Nat.div_one]
          obtain ⟨u, hu, hut, hu1, hu2⟩ := hu
          rw [hu] at n2
          rw [hu]
          clear hu h1 hjk hj3 HD HT
          have HU := Lib.hid (And.intro hut (And.intro hu1 hu2))
          clear hut hu1 hu2
          go_wp2_with fail
          clear l1
          go_loopw [5, 7] (fun ov iv wz => ∃ j d : Nat, j = i + d ∧ (j ≤ 3 ∨ d = 0) ∧ iv = .int .i64 j ∧ (∃ a' c', ov = .slice a' (lg (u * by2 d)) c' ∧ Ns wz a' c' (u * by2 d)) ∧ Fr F0 w wz) (fun _ iv _ => 3 - (intOf iv).toNat)
          case atStart => exact ⟨i, 0, rfl, .inr rfl, rfl, ⟨p2, k2, by rw [show by2 0 = 1 from rfl, Nat.mul_one], by rw [show by2 0 = 1 from rfl, Nat.mul_one]; exact n2⟩, hf⟩
          case round =>
            clear n2 hf
            obtain ⟨q, d, hqd, hq3, rfl, ⟨p3, k3, rfl, n3⟩, hf⟩ := hrel
            by_cases h1 : q < 3
            · have l1 : (q : Int) < 3 := by omega
              have HMk := Lib.hid (HM.out (u * by2 d) (Nat.le_trans (HLM.out d (by omega) u HU.out.1) (by omega)))
              rw [Nat.mul_assoc, ← by2_1, ← by2_add] at HMk
              rw [by2_1] at HMk
              have HJ := Lib.hid (show q + 1 = i + (d + 1) ∧ q + 1 ≤ 3 ∧ q < q + 1 by omega)
              generalize hv : u * by2 (d + 1) = v at *
              have HV := Lib.hid hv
              generalize u * by2 d = y at *
              clear h1 hqd hq3 hv
              go_wp2_with fail
              (with_reducible refine (HO.out _).mono ?_); rintro e w4 ⟨p4, k4, rfl, n4, f4⟩
              replace hf := hf.trans' f4
              replace n3 := Us.fr n3 f4
              clear f4
              go_wp2_with fail
              (with_reducible refine (HMk.out _ _ _ _ _ n3 n4).mono ?_); rintro e w5 ⟨p5, k5, rfl, n5, f5⟩
              replace hf := hf.trans' f5
              clear f5 n3 n4
              go_wp2_with fail
              go_roundw
              case rel => exact ⟨q + 1, d + 1, HJ.out.1, .inl HJ.out.2.1, by go_num, ⟨p5, k5, by rw [HV.out], by rw [HV.out]; exact n5⟩, hf⟩
              case measure => have := HJ.out.2; simp [intOf]; omega
            · have l1 : ¬ (q : Int) < 3 := by omega
              have e : u * by2 d = T := by
                by_cases h3 : 3 ≤ i
                · obtain rfl : d = 0 := by omega
                  rw [show by2 0 = 1 from rfl, Nat.mul_one]; exact HU.out.2.1 h3
                · rw [show d = 3 - i by omega]; exact HU.out.2.2 h3
              rw [e] at n3
              rw [e]
              clear e h1 hqd hq3 HU HM HLM
              go_wp2_with fail
              (with_reducible refine (HW.out _ _ _ n3).mono ?_); rintro e w6 ⟨rfl, f6⟩
              replace hf := hf.trans' f6
              clear f6 n3
              rcases hE with ⟨hh, hB⟩ | ⟨hh, hB⟩
              · have l2 : (8388608 : Int) ≤ (T : Int) := by omega
                obtain ⟨v, hv⟩ : ∃ v, T / 256 = v := ⟨_, rfl⟩
                obtain ⟨i1, hi1⟩ : ∃ i1, i + 1 = i1 := ⟨_, rfl⟩
                rw [hv, hi1] at hB
                have m0 : (T : Int) / 256 = (v : Int) := by omega
                have m1 : IntKind.i64.wrap ((i : Int) + 1) = (i1 : Int) := by rw [IntWalk.i64_in _ (by omega)]; omega
                have m2 : IntKind.u32.wrap (v : Int) = (v : Int) := IntWalk.u32_in _ (by omega)
                have m6 : IntKind.u64.wrap (v : Int) = (v : Int) := IntWalk.u64_in _ (by omega)
                have m3 : IntKind.u32.wrap (i1 : Int) = (i1 : Int) := IntWalk.u32_in _ (by omega)
                have m4 : IntKind.u32.wrap ((i1 : Int) * 16777216) = ((i1 * 16777216 : Nat) : Int) := by rw [IntWalk.u32_in _ (by omega)]; omega
                have m5 : IntKind.u32.wrap ((v : Int) + ((i1 * 16777216 : Nat) : Int)) = (B : Int) := by rw [IntWalk.u32_in _ (by omega)]; omega
                generalize i1 * 16777216 = x at *
                clear hh hB hv hi1 htop
                go_wp2_with fail
                go_ret
                exact ⟨rfl, (hf.alloc _).setRow (fun h => by have := hf.size; omega) _⟩
              · have l2 : decide ((8388608 : Int) ≤ (T : Int)) = false := decide_eq_false (by omega)
                have m2 : IntKind.u32.wrap (T : Int) = (T : Int) := IntWalk.u32_in _ (by omega)
                have m3 : IntKind.u32.wrap (i : Int) = (i : Int) := IntWalk.u32_in _ (by omega)
                have m4 : IntKind.u32.wrap ((i : Int) * 16777216) = ((i * 16777216 : Nat) : Int) := by rw [IntWalk.u32_in _ (by omega)]; omega
                have m5 : IntKind.u32.wrap ((T : Int) + ((i * 16777216 : Nat) : Int)) = (B : Int) := by rw [IntWalk.u32_in _ (by omega)]; omega
                generalize i * 16777216 = x at *
                clear hh hB htop
                go_wp2_with fail
                go_ret
                exact ⟨rfl, (hf.alloc _).setRow (fun h => by have := hf.size; omega) _⟩
end Go.Proofs.Ytgdnmmobnfjegaa
