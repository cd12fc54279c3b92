/- Layer 4's law MoneyRounds, walked. -/
import Derived.Test.YtmebilpmhflahaaMc
namespace Go.Proofs.Ytmebilpmhflahaa
set_option linter.unusedVariables false
set_option linter.unusedSimpArgs false
open Go.RowKit

theorem ptQ_up (a up by' : Nat) : ptQ a up by' true = ptQ a up by' false ∨ ptQ a up by' true = ptQ a up by' false + 1 := by
  unfold ptQ
  rw [if_neg (show ¬ (false = true ∧ a * up % by' ≠ 0) from fun h => by cases h.1)]
  split
  · exact .inr rfl
  · exact .inl rfl
theorem ptQ_mono (a b up by' : Nat) (h : a ≤ b) : ptQ a up by' false ≤ ptQ b up by' false := by
  unfold ptQ
  rw [if_neg (show ¬ (false = true ∧ a * up % by' ≠ 0) from fun h => by cases h.1), if_neg (show ¬ (false = true ∧ b * up % by' ≠ 0) from fun h => by cases h.1)]
  exact Nat.div_le_div_right (Nat.mul_le_mul_right _ h)

theorem rounds (a b up by' : Nat) (low high c : Nat) (e f g : Int) (hl : low = paV a up by' false) (hh : high = paV a up by' true) (hc : c = paV b up by' false) (he : e = paE a up by' false) (hf : f = paE a up by' true) (hg : g = paE b up by' false) :
    low ≤ 4611686018427387904 ∧ (e = 0 → f = 0 → high = low ∨ high = low + 1) ∧ (f = 0 → e = 0) ∧ (e ≠ f → f = 4) ∧ (e = 0 → g = 0 → a ≤ b → low ≤ c) := by
  subst hl hh hc he hf hg
  have h1 := ptQ_up a up by'
  have h2 := ptQ_mono a b up by'
  unfold paV paE ptV ptE
  generalize ptQ a up by' false = q at *
  generalize ptQ a up by' true = r at *
  generalize ptQ b up by' false = s at *
  by_cases c1 : a ≤ 4611686018427387904 <;> by_cases c2 : b ≤ 4611686018427387904 <;> by_cases c3 : 0 < by' <;> by_cases c4 : q ≤ 4611686018427387904 <;> by_cases c5 : r ≤ 4611686018427387904 <;> by_cases c6 : s ≤ 4611686018427387904 <;> simp [c1, c2, c3, c4, c5, c6] <;> omega

set_option maxRecDepth 100000 in
set_option maxHeartbeats 16000000 in
theorem moneyRounds_any (a b up by' : Nat) (ha : a < 18446744073709551616) (hb : b < 18446744073709551616) (hup : up < 18446744073709551616) (hby : by' < 18446744073709551616) (w : World) :
    Calls Try.prog 4 #[.int .u64 (a : Int), .int .u64 (b : Int), .int .u64 (up : Int), .int .u64 (by' : Int)] w fun e w' => e = .returned (.bool true) ∧ Fr F0 w w' := by
  have HL := Lib.hid lives04_any
  have H1 := Lib.hid (aPart_any a up by' false hup hby)
  have H2 := Lib.hid (aPart_any a up by' true hup hby)
  have H3 := Lib.hid (aPart_any b up by' false hup hby)
  have HR := rounds a b up by' _ _ _ _ _ _ rfl rfl rfl rfl rfl rfl
  generalize paV a up by' false = low at *
  generalize paV a up by' true = high at *
  generalize paV b up by' false = c at *
  generalize paE a up by' false = e at *
  generalize paE a up by' true = f at *
  generalize paE b up by' false = g at *
  obtain ⟨hlow, hA, hB, hC, hD⟩ := HR
  have hw : IntKind.u64.wrap ((low : Int) + 1) = ((low + 1 : Nat) : Int) := by rw [IntWalk.u64_in _ (by omega)]; omega
  have hcase : ((e = 0 ∧ ((f = 0 ∧ (high = low ∨ (high = low + 1 ∧ ¬ ((low + 1 : Nat) : Int) = (low : Int)))) ∨ (f = 4))) ∧ ((¬ g = 0) ∨ (g = 0 ∧ (b : Int) < (a : Int)) ∨ (g = 0 ∧ ¬ (b : Int) < (a : Int) ∧ (low : Int) ≤ (c : Int)))) ∨ (¬ e = 0 ∧ ¬ f = 0 ∧ (f = e ∨ (f = 4 ∧ ¬ e = 4))) := by
    by_cases he : e = 0
    · refine .inl ⟨⟨he, ?_⟩, ?_⟩
      · by_cases hf : f = 0
        · refine .inl ⟨hf, ?_⟩
          rcases hA he hf with h | h
          · exact .inl h
          · exact .inr ⟨h, by omega⟩
        · exact .inr (hC (by omega))
      · by_cases hg : g = 0
        · by_cases hab : a ≤ b
          · exact .inr (.inr ⟨hg, by omega, by have := hD he hg hab; omega⟩)
          · exact .inr (.inl ⟨hg, by omega⟩)
        · exact .inl hg
    · refine .inr ⟨he, fun h => he (hB h), ?_⟩
      by_cases hf : f = e
      · exact .inl hf
      · have := hC (fun h => hf h.symm)
        exact .inr ⟨this, by omega⟩
  clear hA hB hC hD hlow ha hb hup hby
  go_enter Try.func4, Try.ntmps4
  go_wp2_with fail
  (with_reducible refine (HL.out _).mono ?_); rintro e1 w1 ⟨rfl, f1⟩
  go_wp2_with fail
  (with_reducible refine (H1.out _).mono ?_); rintro e1 w2 ⟨rfl, f2⟩
  go_wp2_with fail
  (with_reducible refine (H2.out _).mono ?_); rintro e1 w3 ⟨rfl, f3⟩
  have F := (f1.trans' f2).trans' f3
  clear f1 f2 f3 H1 H2 HL
  rcases hcase with ⟨⟨rfl, ⟨rfl, rfl | ⟨rfl, hn⟩⟩ | rfl⟩, hg | ⟨rfl, hg⟩ | ⟨rfl, hg, hg2⟩⟩ | ⟨he, hf, rfl | ⟨rfl, hn⟩⟩
  all_goals
    go_wp2_with fail
    (with_reducible refine (H3.out _).mono ?_); rintro e1 w4 ⟨rfl, f4⟩
    replace F := F.trans' f4
    clear f4 H3
    go_wp2_with fail
    go_ret
    exact ⟨rfl, F⟩
end Go.Proofs.Ytmebilpmhflahaa
