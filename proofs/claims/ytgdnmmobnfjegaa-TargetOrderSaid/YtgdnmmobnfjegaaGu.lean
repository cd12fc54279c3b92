/- Layer 3 (wide): the guess of a quotient's word. -/
import Derived.Test.YtgdnmmobnfjegaaLr
import Derived.Test.YtgdnmmobnfjegaaDv
namespace Go.Proofs.Ytgdnmmobnfjegaa
set_option linter.unusedVariables false
set_option linter.unusedSimpArgs false
open Go.RowKit

theorem Div64_any (hi lo y : Nat) (hlt : hi < y) (hlo : lo < 18446744073709551616) (hy : y < 18446744073709551616) (w : World) :
    Calls Try.prog 59 #[.int .u64 hi, .int .u64 lo, .int .u64 y] w fun e w' => e = .returned (.tuple #[.int .u64 (((hi * 18446744073709551616 + lo) / y : Nat) : Int), .int .u64 (((hi * 18446744073709551616 + lo) % y : Nat) : Int)]) ∧ Fr F0 w w' := by
  by_cases h : hi = 0
  · subst h
    have := Div64_low lo y hlt hlo w
    simpa using this
  · exact Div64_high hi lo y (by omega) hlt hlo hy w

theorem upBy_down (x k : Nat) (hx : x < W256) (hk : k < 256) : upBy x (-(k : Int)) = x / 2 ^ k := by
  unfold upBy
  by_cases h : k = 0
  · subst h; simp [Nat.mod_eq_of_lt hx]
  · rw [if_pos (by omega), if_pos (by omega), Int.neg_neg, Int.toNat_natCast]
theorem upBy_up (x k : Nat) (hk : k < 256) : upBy x (k : Int) = x * 2 ^ k % W256 := by
  unfold upBy
  rw [if_neg (by omega), if_pos (by omega), Int.toNat_natCast]

theorem nbits_pos {b : Nat} (h : 0 < b) : 0 < nbits b := Nat.pos_of_ne_zero fun e => by have := (nbits_le b 0).1 (by omega); omega
theorem nbits_low {b : Nat} (h : 0 < b) : 2 ^ (nbits b - 1) ≤ b := Nat.le_of_not_lt fun hl => by have := (nbits_le b (nbits b - 1)).2 hl; have := nbits_pos h; omega
theorem nbits_high (b : Nat) : b < 2 ^ nbits b := (nbits_le b (nbits b)).1 (Nat.le_refl _)

theorem guess_fact (a b : Nat) (ha : a < W256) (hb : b < W256) (hb0 : 0 < b) (hab : a < 2 ^ 64 * b) :
    let l : Int := (nbits b : Int) - 64
    2 ^ 63 ≤ upBy b (-l) ∧ upBy b (-l) < 2 ^ 64 ∧ upBy a (-l) < 2 ^ 128 ∧ a / b ≤ upBy a (-l) / upBy b (-l) := by
  intro l
  have hn := nbits_pos hb0
  have hlo := nbits_low hb0
  have hhi := nbits_high b
  have h256 := (nbits_le b 256).2 hb
  by_cases h : 64 ≤ nbits b
  · obtain ⟨k, hk⟩ : ∃ k, nbits b = 64 + k := ⟨nbits b - 64, by omega⟩
    have hl : l = (k : Int) := by omega
    rw [hl, upBy_down b k hb (by omega), upBy_down a k ha (by omega)]
    rw [hk] at hlo hhi
    have hp := Nat.two_pow_pos k
    have e1 : (2 : Nat) ^ (64 + k) = 2 ^ 64 * 2 ^ k := Nat.pow_add _ _ _
    have e2 : (2 : Nat) ^ (64 + k - 1) = 2 ^ 63 * 2 ^ k := by rw [← Nat.pow_add]; congr 1; omega
    have t1 : 2 ^ 63 ≤ b / 2 ^ k := by rw [Nat.le_div_iff_mul_le hp, ← e2]; exact hlo
    have t2 : b / 2 ^ k < 2 ^ 64 := by rw [Nat.div_lt_iff_lt_mul hp, ← e1]; exact hhi
    refine ⟨t1, t2, ?_, ?_⟩
    · rw [Nat.div_lt_iff_lt_mul hp]
      have : 2 ^ 64 * b < 2 ^ 64 * (2 ^ 64 * 2 ^ k) := by rw [← e1]; exact Nat.mul_lt_mul_of_pos_left hhi (Nat.two_pow_pos 64)
      rw [← Nat.mul_assoc] at this
      exact Nat.lt_trans hab this
    · rw [Nat.le_div_iff_mul_le (by omega), Nat.le_div_iff_mul_le hp]
      calc a / b * (b / 2 ^ k) * 2 ^ k = a / b * (b / 2 ^ k * 2 ^ k) := Nat.mul_assoc _ _ _
        _ ≤ a / b * b := Nat.mul_le_mul_left _ (Nat.div_mul_le_self _ _)
        _ ≤ a := Nat.div_mul_le_self _ _
  · obtain ⟨k, hk⟩ : ∃ k, nbits b + k = 64 := ⟨64 - nbits b, by omega⟩
    have hl : -l = (k : Int) := by omega
    have hp := Nat.two_pow_pos k
    have e1 : (2 : Nat) ^ 64 = 2 ^ nbits b * 2 ^ k := by rw [← Nat.pow_add, hk]
    have e2 : (2 : Nat) ^ 63 = 2 ^ (nbits b - 1) * 2 ^ k := by rw [← Nat.pow_add]; congr 1; omega
    have t2 : b * 2 ^ k < 2 ^ 64 := by rw [e1]; exact Nat.mul_lt_mul_of_pos_right hhi hp
    have t3 : a * 2 ^ k < 2 ^ 128 := by
      have h1 : a * 2 ^ k < 2 ^ 64 * b * 2 ^ k := Nat.mul_lt_mul_of_pos_right hab hp
      rw [Nat.mul_assoc] at h1
      have h2 : 2 ^ 64 * (b * 2 ^ k) ≤ 2 ^ 64 * 2 ^ 64 := Nat.mul_le_mul_left _ (by omega)
      exact Nat.lt_of_lt_of_le h1 h2
    have w1 : (2 : Nat) ^ 64 ≤ W256 := Nat.pow_le_pow_right (by omega) (by omega)
    have w2 : (2 : Nat) ^ 128 ≤ W256 := Nat.pow_le_pow_right (by omega) (by omega)
    rw [hl, upBy_up b k (by omega), upBy_up a k (by omega), Nat.mod_eq_of_lt (Nat.lt_of_lt_of_le t2 w1), Nat.mod_eq_of_lt (Nat.lt_of_lt_of_le t3 w2)]
    refine ⟨by rw [e2]; exact Nat.mul_le_mul_right _ hlo, t2, t3, ?_⟩
    rw [Nat.mul_div_mul_right _ _ hp]
    exact Nat.le_refl _

def GuessOk (a b : Nat) (w : World) (e : Ending) (w' : World) : Prop := ∃ g : Nat, e = .returned (.int .u64 (g : Int)) ∧ a / b ≤ g ∧ g < 2 ^ 64 ∧ Fr F0 w w'

theorem dgt_zero (x : Nat) (h : x < 2 ^ 64) : dgt 64 x 0 = x := by
  rw [dgt, Nat.mul_zero, Nat.pow_zero, Nat.div_one, Nat.mod_eq_of_lt h]
theorem two_words (x : Nat) (h : x < 2 ^ 128) : dgt 64 x 1 * 2 ^ 64 + dgt 64 x 0 = x := by
  have h1 : x / 2 ^ 64 < 2 ^ 64 := by rw [Nat.div_lt_iff_lt_mul (Nat.two_pow_pos _)]; exact h
  simp only [dgt, Nat.mul_one, Nat.mul_zero, Nat.pow_zero, Nat.div_one]
  rw [Nat.mod_eq_of_lt h1]
  have := Nat.mod_add_div x (2 ^ 64)
  omega

set_option maxRecDepth 200000 in
set_option maxHeartbeats 2000000 in
theorem wguess_any (a b : Nat) (ha : a < W256) (hb : b < W256) (hb0 : 0 < b) (hab : a < 2 ^ 64 * b) (w : World) :
    Calls Try.prog 56 #[.agg (rowN .u64 64 4 a), .agg (rowN .u64 64 4 b)] w (GuessOk a b w) := by
  obtain ⟨t1, t2, t3, t4⟩ := guess_fact a b ha hb hb0 hab
  have h256 := (nbits_le b 256).2 hb
  obtain ⟨l, hl⟩ : ∃ l : Int, l = (nbits b : Int) - 64 := ⟨_, rfl⟩
  rw [← hl] at t1 t2 t3 t4
  have HB := Lib.hid (wBits_any b hb)
  have HR1 := Lib.hid (wRight_any b l hb (by omega) (by omega))
  have HR2 := Lib.hid (wRight_any a l ha (by omega) (by omega))
  have x1 : IntKind.i64.wrap ((nbits b : Int) - 64) = l := by rw [IntWalk.i64_in _ (by omega)]; omega
  have x1' : (nbits b : Int) - 64 = l := hl.symm
  generalize nbits b = nb at *
  generalize upBy b (-l) = top at *
  generalize upBy a (-l) = part at *
  have d0 : dgt 64 top 0 = top := dgt_zero top t2
  have HW := Lib.hid (two_words part t3)
  have p1 := dgt_lt 64 part 1
  have p0 := dgt_lt 64 part 0
  obtain ⟨ph, hph⟩ : ∃ p, p = dgt 64 part 1 := ⟨_, rfl⟩
  obtain ⟨pl, hpl⟩ : ∃ p, p = dgt 64 part 0 := ⟨_, rfl⟩
  rw [← hph] at p1 HW
  rw [← hpl] at p0 HW
  have d1 : dgt 64 part 1 = ph := hph.symm
  have d2 : dgt 64 part 0 = pl := hpl.symm
  have HF := Lib.hid (And.intro t1 (And.intro t2 (And.intro t3 (And.intro t4 (And.intro p1 p0)))))
  have HAB := Lib.hid hab
  have HB0 := Lib.hid hb0
  clear t1 t2 t3 t4 p1 p0 hph hpl hl h256 ha hb hab hb0 x1'
  go_enter Try.func56, Try.ntmps56
  go_wp2_with fail
  obtain ⟨r0, r1⟩ := heap2 w (.cells (rowN .u64 64 4 a) 24) (.cells (rowN .u64 64 4 b) 24)
  refine (HB.out _).mono ?_
  rintro e w1 ⟨rfl, f1⟩
  replace r0 := f1.keeps (fun f => f) r0
  replace r1 := f1.keeps (fun f => f) r1
  have F1 : Fr F0 w w1 := (((Fr.refl F0 w).alloc _).alloc _).trans' f1
  clear f1
  generalize w.heap.size = g0 at *
  generalize g0 + 1 = g1 at *
  go_wp2_with fail
  refine (HR1.out _).mono ?_
  rintro e w2 ⟨rfl, f2⟩
  replace r0 := f2.keeps (fun f => f) r0
  have F2 : Fr F0 w w2 := F1.trans' f2
  clear f2 F1 r1
  go_wp2_with fail
  refine (HR2.out _).mono ?_
  rintro e w3 ⟨rfl, f3⟩
  have F3 : Fr F0 w w3 := F2.trans' f3
  clear f3 F2 r0
  by_cases hbig : top ≤ ph
  · have hc : decide (top ≤ ph) = true := decide_eq_true hbig
    go_wp2_with fail
    go_ret
    obtain ⟨t1, t2, t3, t4, p1, p0⟩ := HF.out
    have hq : a / b < 2 ^ 64 := by rw [Nat.div_lt_iff_lt_mul HB0.out]; exact HAB.out
    refine ⟨18446744073709551615, rfl, by omega, by omega, ?_⟩
    exact (F3.alloc _).setRow (fun h => by have := F3.size; omega) _
  · have hc : decide (top ≤ ph) = false := decide_eq_false hbig
    obtain ⟨t1, t2, t3, t4, p1, p0⟩ := HF.out
    have HD := Lib.hid (Div64_any ph pl top (by omega) (by omega) (by omega))
    have hpp : (ph * 18446744073709551616 + pl) / top = part / top := by rw [← HW.out]
    have hqb : part / top < 2 ^ 64 := by
      rw [Nat.div_lt_iff_lt_mul (by omega), ← HW.out]
      have : (ph + 1) * 2 ^ 64 ≤ top * 2 ^ 64 := Nat.mul_le_mul_right _ (by omega)
      omega
    rw [hpp] at HD
    generalize (ph * 18446744073709551616 + pl) % top = rr at *
    generalize part / top = qq at *
    have HQ := Lib.hid (And.intro t4 hqb)
    clear t1 t2 t3 t4 p1 p0 hpp hqb hbig
    go_wp2_with fail
    refine (HD.out _).mono ?_
    rintro e w4 ⟨rfl, f4⟩
    go_wp2_with fail
    go_ret
    exact ⟨qq, rfl, HQ.out.1, HQ.out.2, ((F3.alloc _).setRow (fun h => by have := F3.size; omega) _).trans' f4⟩
end Go.Proofs.Ytgdnmmobnfjegaa
