/- The document's answer 03 (wide): the walk of Cmp. -/
import Derived.Test.YtgdnmmobnfjegaaRb
namespace Go.Proofs.Ytgdnmmobnfjegaa
set_option linter.unusedVariables false
set_option linter.unusedSimpArgs false
open Go.RowKit

theorem lt_of_dv {x y k : Nat} (h : x / pw k < y / pw k) : x < y := by
  refine Nat.lt_of_not_le fun hl => ?_
  have := Nat.div_le_div_right (c := pw k) hl
  omega

/-- What Cmp answers. -/
def cmpZ (x y : Nat) : Int := if x < y then -1 else if y < x then 1 else 0

set_option maxRecDepth 100000 in
set_option maxHeartbeats 8000000 in
theorem r3Cmp_any (x y : Nat) (a1 : Option Addr) (c1 : Nat) (a2 : Option Addr) (c2 : Nat) (hlx : lg x ≤ 10000) (hly : lg y ≤ 10000) (w : World) (hx : Ns w a1 c1 x) (hy : Ns w a2 c2 y) :
    Calls Try.prog 22 #[.slice a1 (lg x) c1, .slice a2 (lg y) c2] w fun e w' => e = .returned (.int .i64 (cmpZ x y)) ∧ w' = w := by
  have HX := Lib.hid hx
  have HY := Lib.hid hy
  have HLX := Lib.hid (show x < pw (lg x) from lg_lt x)
  have HLY := Lib.hid (show y < pw (lg y) from lg_lt y)
  clear hx hy
  generalize hnx : lg x = nx at *
  generalize hny : lg y = ny at *
  have HNX := Lib.hid hnx
  have HNY := Lib.hid hny
  clear hnx hny
  go_enter Try.func22, Try.ntmps22
  go_wp2_with fail
  all_goals
    go_loopw [5] (fun iv wr => wr = w ∧ ∃ k : Nat, k ≤ 10000 ∧ iv = .int .i64 ((k : Int) - 1) ∧ x / pw k = y / pw k) (fun iv _ => (intOf iv + 1).toNat)
    case atStart =>
      refine ⟨rfl, max nx ny, by omega, by congr 1; omega, ?_⟩
      rw [Nat.div_eq_of_lt (Nat.lt_of_lt_of_le HLX.out (pw_le (by omega))), Nat.div_eq_of_lt (Nat.lt_of_lt_of_le HLY.out (pw_le (by omega)))]
    case round =>
      obtain ⟨rfl, k, hk, rfl, he⟩ := hrel
      cases k with
      | zero =>
        have hxy : x = y := by simpa [pw_zero] using he
        have HC := Lib.hid (show cmpZ x y = 0 by subst hxy; simp [cmpZ])
        clear he hxy
        go_wp2_with fail
        go_ret
        exact ⟨by rw [HC.out]; rfl, rfl⟩
      | succ j =>
        have dx := d16_lt x j
        have dy := d16_lt y j
        have ex := dv_succ x j
        have ey := dv_succ y j
        rw [← he] at ey
        have hC1 : dgt 16 x j < dgt 16 y j → cmpZ x y = -1 := fun h => by
          have := lt_of_dv (x := x) (y := y) (k := j) (by omega)
          unfold cmpZ; rw [if_pos this]
        have hC2 : dgt 16 y j < dgt 16 x j → cmpZ x y = 1 := fun h => by
          have := lt_of_dv (x := y) (y := x) (k := j) (by omega)
          unfold cmpZ; rw [if_neg (by omega), if_pos this]
        have hC3 : dgt 16 x j = dgt 16 y j → x / pw j = y / pw j := fun h => by omega
        clear ex ey he
        have q1 := digitN a1 nx c1 x j HNX.out.symm wr HX.out
        have q2 := digitN a2 ny c2 y j HNY.out.symm wr HY.out
        generalize dgt 16 x j = d1 at *
        generalize dgt 16 y j = d2 at *
        have HQ1 := Lib.hid q1
        have HQ2 := Lib.hid q2
        have H1 := Lib.hid hC1
        have H2 := Lib.hid hC2
        have H3 := Lib.hid hC3
        have hj : j ≤ 10000 := by omega
        clear q1 q2 hC1 hC2 hC3 hk
        rw [show ((j + 1 : Nat) : Int) - 1 = (j : Int) by omega]
        rcases Nat.lt_trichotomy d1 d2 with h | h | h
        · have l1 : (d1 : Int) < (d2 : Int) := by omega
          go_wp2_with (first | ((with_reducible refine HQ1.out.mono ?_); rintro e w' ⟨rfl, hw⟩; have hw := hw.symm; subst hw) | ((with_reducible refine HQ2.out.mono ?_); rintro e w' ⟨rfl, hw⟩; have hw := hw.symm; subst hw) | fail)
          go_ret
          exact ⟨by rw [H1.out h]; rfl, rfl⟩
        · subst h
          go_wp2_with (first | ((with_reducible refine HQ1.out.mono ?_); rintro e w' ⟨rfl, hw⟩; have hw := hw.symm; subst hw) | ((with_reducible refine HQ2.out.mono ?_); rintro e w' ⟨rfl, hw⟩; have hw := hw.symm; subst hw) | fail)
          go_roundw
          case rel => exact ⟨trivial, j, hj, rfl, H3.out trivial⟩
          case measure => simp [intOf]
        · have l1 : ¬ (d1 : Int) < (d2 : Int) := by omega
          have l2 : (d2 : Int) < (d1 : Int) := by omega
          go_wp2_with (first | ((with_reducible refine HQ1.out.mono ?_); rintro e w' ⟨rfl, hw⟩; have hw := hw.symm; subst hw) | ((with_reducible refine HQ2.out.mono ?_); rintro e w' ⟨rfl, hw⟩; have hw := hw.symm; subst hw) | fail)
          go_ret
          exact ⟨by rw [H2.out h]; rfl, rfl⟩
end Go.Proofs.Ytgdnmmobnfjegaa
