/- math/bits' Div64. -/
import Derived.Test.YtgdnmmobnfjegaaWk
import Derived.Test.YtgdnmmobnfjegaaDvm
import Derived.Deep.CutBlock
import Derived.Deep.DeepCutAuto
namespace Go.Proofs.Ytgdnmmobnfjegaa
set_option linter.unusedVariables false
set_option linter.unusedSimpArgs false
open Go.RowKit

set_option maxRecDepth 200000 in
set_option maxHeartbeats 2000000 in
theorem Div64_low (lo y : Nat) (hy : 0 < y) (hlo : lo < 18446744073709551616) (w : World) :
    Calls Try.prog 59 #[.int .u64 0, .int .u64 lo, .int .u64 y] w fun e w' => e = .returned (.tuple #[.int .u64 ((lo / y : Nat) : Int), .int .u64 ((lo % y : Nat) : Int)]) ∧ Fr F0 w w' := by
  have z0 : ((y : Int) == 0) = false := by simp; omega
  have z1 : ¬ (y : Int) = 0 := by omega
  have z4 : ¬ y = 0 := by omega
  have z5 : IntKind.u64.wrap ((lo : Int) / (y : Int)) = ((lo / y : Nat) : Int) := by
    have := Nat.div_le_self lo y
    rw [← Int.natCast_ediv]
    generalize lo / y = z at *
    exact IntWalk.u64_in _ (by omega)
  clear hlo
  have z2 : decide ((y : Int) ≤ 0) = false := decide_eq_false (by omega)
  go_enter Try.func59, Try.ntmps59
  go_wp2_with fail
  go_region
  all_goals go_wp2
  all_goals go_ret2
  all_goals refine ⟨?_, (Fr.refl F0 w).drew⟩
  all_goals (rw [Int.natCast_emod]; rfl)

theorem wrap_mod (x : Int) : IntKind.u64.wrap x = x % 18446744073709551616 := IntKind.wrap_u64 x

set_option maxRecDepth 200000 in
set_option maxHeartbeats 4000000 in
theorem Div64_high (hi lo y : Nat) (hh : 0 < hi) (hlt : hi < y) (hlo : lo < 18446744073709551616) (hy : y < 18446744073709551616) (w : World) :
    Calls Try.prog 59 #[.int .u64 hi, .int .u64 lo, .int .u64 y] w fun e w' => e = .returned (.tuple #[.int .u64 (((hi * 18446744073709551616 + lo) / y : Nat) : Int), .int .u64 (((hi * 18446744073709551616 + lo) % y : Nat) : Int)]) ∧ Fr F0 w w' := by
  have z0 : ((y : Int) == 0) = false := by simp; omega
  have z2 : decide (y ≤ hi) = false := decide_eq_false (by omega)
  have z3 : ((hi : Int) == 0) = false := by simp; omega
  have HLZ := Lib.hid (LeadingZeros64_any y hy)
  obtain ⟨s, hs⟩ : ∃ s, s = 64 - nbits y := ⟨_, rfl⟩
  rw [← hs] at HLZ
  have hnb : 0 < nbits y := Nat.pos_of_ne_zero fun e => by have := (nbits_le y 0).1 (by omega); omega
  have hnb2 := (nbits_le y 64).2 hy
  have hs64 : (s : Int) < 64 := by omega
  obtain ⟨Y, hY⟩ : ∃ Y, Y = y * 2 ^ s := ⟨_, rfl⟩
  obtain ⟨U, hU⟩ : ∃ U, U = hi * 2 ^ s + lo / 2 ^ (64 - s) := ⟨_, rfl⟩
  obtain ⟨V, hV⟩ : ∃ V, V = lo * 2 ^ s % 2 ^ 64 := ⟨_, rfl⟩
  obtain ⟨nUY, nE, nL⟩ := norm_div hlt (by omega) hY hU hV hlo
  have hYb : 2 ^ 63 ≤ Y ∧ Y < 2 ^ 64 := by
    have h1 := (nbits_le y (nbits y)).1 (Nat.le_refl _)
    have h2 : 2 ^ (nbits y - 1) ≤ y := Nat.le_of_not_lt fun h => by have := (nbits_le y (nbits y - 1)).2 h; omega
    have e1 : (2 : Nat) ^ 64 = 2 ^ nbits y * 2 ^ s := by rw [← Nat.pow_add]; congr 1; omega
    have e2 : (2 : Nat) ^ 63 = 2 ^ (nbits y - 1) * 2 ^ s := by rw [← Nat.pow_add]; congr 1; omega
    rw [hY, e1, e2]
    exact ⟨Nat.mul_le_mul_right _ h2, Nat.mul_lt_mul_of_pos_right h1 (Nat.two_pow_pos s)⟩
  have hres : (hi * 18446744073709551616 + lo) / y = (U * 18446744073709551616 + V) / Y ∧ (hi * 18446744073709551616 + lo) % y = (U * 18446744073709551616 + V) % Y / 2 ^ s := by
    rw [← nE, hY]
    exact ⟨(shifted_div _ _ _).1.symm, (shifted_div _ _ _).2.symm⟩
  have hVl : V < 2 ^ 64 := by rw [hV]; exact Nat.mod_lt _ (Nat.two_pow_pos _)
  -- what the walk reckons
  have x1 : IntKind.u64.wrap ((y : Int) * 2 ^ s) = (Y : Int) := by
    have e : (y : Int) * 2 ^ s = ((y * 2 ^ s : Nat) : Int) := by rw [Int.natCast_mul, Int.natCast_pow]; rfl
    rw [e, ← hY, IntWalk.u64_in _ (by omega)]
  have x2 : bits BinOp.or IntKind.u64 (IntKind.u64.wrap ((hi : Int) * 2 ^ s)) ((lo : Int) / 2 ^ (64 - s)) = (U : Int) := by
    have e2 : (lo : Int) / 2 ^ (64 - s) = ((lo / 2 ^ (64 - s) : Nat) : Int) := by rw [Int.natCast_ediv, Int.natCast_pow]; rfl
    have hp := Nat.two_pow_pos s
    have hps : 2 ^ s ≤ 2 ^ 64 := Nat.pow_le_pow_right (by omega) (by omega)
    rw [e2, or_val hi (lo / 2 ^ (64 - s)) s (by omega)]
    have h4 : hi * 2 ^ s ≤ U := by rw [hU]; exact Nat.le_add_right _ _
    have h3 : hi * 2 ^ s < 2 ^ 64 := by omega
    rw [Nat.mod_eq_of_lt h3, Nat.mul_comm, ← Nat.two_pow_add_eq_or_of_lt nL, Nat.mul_comm, ← hU]
  have x3 : IntKind.u64.wrap ((lo : Int) * 2 ^ s) = (V : Int) := by rw [shl_val, ← hV]
  obtain ⟨y1, hy1⟩ : ∃ q, q = Y / 4294967296 := ⟨_, rfl⟩
  obtain ⟨y0, hy0⟩ : ∃ q, q = Y % 4294967296 := ⟨_, rfl⟩
  obtain ⟨v1, hv1⟩ : ∃ q, q = V / 4294967296 := ⟨_, rfl⟩
  obtain ⟨v0, hv0⟩ : ∃ q, q = V % 4294967296 := ⟨_, rfl⟩
  have x4 : (Y : Int) / 4294967296 = (y1 : Int) := by omega
  have x5 : bits BinOp.and IntKind.u64 (Y : Int) 4294967295 = (y0 : Int) := by rw [and_mask _ (by omega), ← hy0]
  have x6 : (V : Int) / 4294967296 = (v1 : Int) := by omega
  have x7 : bits BinOp.and IntKind.u64 (V : Int) 4294967295 = (v0 : Int) := by rw [and_mask _ (by omega), ← hv0]
  have hYe : Y = y1 * 4294967296 + y0 := by omega
  have hVe : V = v1 * 4294967296 + v0 := by omega
  have B0 : y0 < 4294967296 ∧ v0 < 4294967296 ∧ v1 < 4294967296 ∧ 2147483648 ≤ y1 ∧ y1 < 4294967296 := by omega
  have hz1 : (y1 : Int) ≠ 0 := by omega
  have g0 := guess_first (y1 := y1) (y0 := y0) (u := U) (d := v1) (by omega) B0.1 B0.2.2.1
  have s0 := guess_small (u := U) B0.2.2.2.1 B0.1 (by omega)
  have r0 := Nat.mod_lt U (show 0 < y1 by omega)
  obtain ⟨q0, hq0⟩ : ∃ q, q = U / y1 := ⟨_, rfl⟩
  obtain ⟨t0, ht0⟩ : ∃ q, q = U % y1 := ⟨_, rfl⟩
  have x8 : (U : Int) / (y1 : Int) = (q0 : Int) := by rw [hq0, Int.natCast_ediv]
  rw [← hq0] at g0 s0
  rw [← ht0] at g0 r0
  have xq : IntKind.u64.wrap (q0 : Int) = (q0 : Int) := IntWalk.u64_in _ (by omega)
  have e9 : (q0 : Int) * (y1 : Int) = ((q0 * y1 : Nat) : Int) := (Int.natCast_mul _ _).symm
  have x9 : IntKind.u64.wrap ((U : Int) - IntKind.u64.wrap ((q0 : Int) * (y1 : Int))) = (t0 : Int) := by
    have := g0.eq
    rw [e9, IntWalk.u64_in ((q0 * y1 : Nat) : Int) (by omega), IntWalk.u64_in _ (by omega)]
    omega
  have HF := Lib.hid (And.intro hres (And.intro hYe (And.intro hVe (And.intro B0 (And.intro g0 (And.intro s0 (And.intro r0 (And.intro nUY hYb))))))))
  clear hres hYe hVe B0 g0 s0 r0 nUY hYb e9 hq0 ht0 hy1 hy0 hv1 hv0 hVl hnb hnb2 nE nL hV hU hY hs hlt hlo hy hh
  go_enter Try.func59, Try.ntmps59
  go_upto_block 0 with ((with_reducible refine (HLZ.out _).mono ?_); rintro e w' ⟨rfl, rfl⟩)
  go_cut [15, 16] (fun qv rv w'' => qv = .int .u64 (((U * 4294967296 + v1) / Y : Nat) : Int) ∧ w'' = w')
  case first =>
    go_wp2_with fail
    go_loopw [15, 16] (fun qv rv wr => ∃ q r : Nat, qv = .int .u64 (q : Int) ∧ rv = .int .u64 (r : Int) ∧ Guess y1 y0 U v1 q r ∧ q ≤ 4294967297 ∧ r < 4294967296 ∧ wr = w') (fun qv _ _ => (intOf qv).toNat)
    case atStart => 
      obtain ⟨_, _, _, B0, g0, s0, r0, _⟩ := HF.out
      exact ⟨q0, t0, rfl, rfl, g0, s0, by omega, rfl⟩
    case round =>
      obtain ⟨q, r, rfl, rfl, g, hq, hr, rfl⟩ := hrel
      obtain ⟨_, hYe, _, B0, _, _, _, nUY, hYb⟩ := HF.out
      have hYp : 0 < y1 * 4294967296 + y0 := by omega
      have hm1 : q * y0 ≤ 4294967297 * 4294967295 := Nat.mul_le_mul hq (by omega)
      have w3 : IntKind.u64.wrap ((q : Int) * (y0 : Int)) = ((q * y0 : Nat) : Int) := by rw [← Int.natCast_mul, IntWalk.u64_in _ (by omega)]
      have w4 : IntKind.u64.wrap (4294967296 * (r : Int)) = ((4294967296 * r : Nat) : Int) := by rw [IntWalk.u64_in _ (by omega)]; omega
      have w5 : IntKind.u64.wrap (((4294967296 * r : Nat) : Int) + (v1 : Int)) = ((4294967296 * r + v1 : Nat) : Int) := by rw [IntWalk.u64_in _ (by omega)]; omega
      have ht := guess_test g
      have HQ := Lib.hid (show q * y0 > r * 4294967296 + v1 ↔ 4294967296 * r + v1 < q * y0 by omega)
      obtain ⟨m, hm⟩ : ∃ m, m = q * y0 := ⟨_, rfl⟩
      obtain ⟨n1, hn1⟩ : ∃ m, m = 4294967296 * r := ⟨_, rfl⟩
      obtain ⟨n2, hn2⟩ : ∃ m, m = n1 + v1 := ⟨_, rfl⟩
      rw [← hm] at w3
      rw [← hn1] at w4 w5
      rw [← hn2] at w5
      have hdo : ∀ (hG : 0 < q ∧ Guess y1 y0 U v1 (q - 1) (r + y1)), IntKind.u64.wrap ((q : Int) - 1) = ((q - 1 : Nat) : Int) := fun hG => by rw [IntWalk.u64_in _ (by omega)]; omega
      have w2 : IntKind.u64.wrap ((r : Int) + (y1 : Int)) = ((r + y1 : Nat) : Int) := by rw [IntWalk.u64_in _ (by omega)]; omega
      obtain ⟨r', hr'⟩ : ∃ q, q = r + y1 := ⟨_, rfl⟩
      rw [← hr'] at w2
      have T3 : (4294967296 ≤ r' ∧ decide ((4294967296 : Int) ≤ (r' : Int)) = true) ∨ (r' < 4294967296 ∧ decide ((4294967296 : Int) ≤ (r' : Int)) = false) := by
        by_cases h : 4294967296 ≤ r'
        · exact .inl ⟨h, decide_eq_true (by omega)⟩
        · exact .inr ⟨by omega, decide_eq_false (by omega)⟩
      have T1 : (∃ hG : 0 < q ∧ Guess y1 y0 U v1 (q - 1) (r + y1), (decide ((4294967296 : Int) ≤ (q : Int)) = true) ∨ (decide ((4294967296 : Int) ≤ (q : Int)) = false ∧ decide (n2 < m) = true)) ∨ (q = (U * 4294967296 + v1) / Y ∧ decide ((4294967296 : Int) ≤ (q : Int)) = false ∧ decide (n2 < m) = false) := by
        by_cases hb : 4294967296 ≤ q
        · exact .inl ⟨guess_big hYp (by omega) (by omega) g hb, .inl (decide_eq_true (by omega))⟩
        · by_cases hc : q * y0 > r * 4294967296 + v1
          · exact .inl ⟨guess_less hYp g (ht.1 hc), .inr ⟨decide_eq_false (by omega), decide_eq_true (by have := HQ.out.1 hc; omega)⟩⟩
          · refine .inr ⟨?_, decide_eq_false (by omega), decide_eq_false (by have := HQ.out; omega)⟩
            rw [hYe]
            exact guess_end hYp g fun h => hc (ht.2 h)
      have HB := Lib.hid (And.intro hYp (And.intro B0.1 (And.intro hq (And.intro hYe hr'))))
      have HT3 := Lib.hid T3
      have HT1 := Lib.hid T1
      have HD := Lib.hid hdo
      clear hYe B0 nUY hYb hYp hm1 ht hm hn1 hn2 T3 T1 hdo hr' g hr hq HQ
      rcases HT1.out with ⟨hG, hA⟩ | ⟨hR, hA, hA2⟩
      · have w1 := HD.out hG
        have HG := Lib.hid hG
        obtain ⟨q', hq'⟩ : ∃ p, p = q - 1 := ⟨_, rfl⟩
        rw [← hq'] at w1 HG
        have HQ' := Lib.hid hq'
        clear hG hq'
        rcases HT3.out with ⟨h3, hB3⟩ | ⟨h3, hB3⟩
        · have H3 := Lib.hid h3
          clear h3
          rcases hA with hA | ⟨hA, hA2⟩
          all_goals
            go_wp2
            go_meet
            case rel =>
              refine ⟨?_, rfl⟩
              obtain ⟨b1, b2, b3, b4, b5⟩ := HB.out
              rw [b4, ← guess_rest b1 b2 (by have := HQ'.out; omega) HG.out.2 (by have := H3.out; omega)]
        · have H3 := Lib.hid h3
          clear h3
          rcases hA with hA | ⟨hA, hA2⟩
          all_goals
            go_wp2
            go_roundw
            case rel =>
              obtain ⟨b1, b2, b3, b4, b5⟩ := HB.out
              refine ⟨q', r', rfl, rfl, by rw [b5]; exact HG.out.2, by have := HQ'.out; omega, H3.out, by first | rfl | trivial⟩
            case measure =>
              have h1 := HG.out.1
              have h2 := HQ'.out
              simp [intOf]
              omega
      · have HR := Lib.hid hR
        clear hR
        go_wp2
        go_meet
        case rel => exact ⟨by rw [← HR.out], rfl⟩
  case rest =>
    obtain ⟨rfl, hw⟩ := hcut
    rw [hw]
    clear hw
    obtain ⟨hres, hYe, hVe, B0, _, _, _, nUY, hYb⟩ := HF.out
    have hlt1 := Nat.mod_lt (U * 4294967296 + v1) (show 0 < Y by omega)
    obtain ⟨Q1, hQ1⟩ : ∃ q, q = (U * 4294967296 + v1) / Y := ⟨_, rfl⟩
    rw [← hQ1]
    obtain ⟨R1, hR1⟩ : ∃ q, q = (U * 4294967296 + v1) % Y := ⟨_, rfl⟩
    have hd1 := dig_rest (u := U) (d := v1) (y := Y) (q := Q1) (by omega) (by omega) (by omega) hQ1
    rw [← hR1] at hd1 hlt1
    have hq1 : Q1 < 4294967296 := by rw [hQ1]; exact dig_lt (by omega) (by omega) (by omega)
    obtain ⟨A1, hA1⟩ : ∃ z : Int, z = (U : Int) * 4294967296 % 18446744073709551616 := ⟨_, rfl⟩
    have a1 : IntKind.u64.wrap ((U : Int) * 4294967296) = A1 := by rw [wrap_mod, hA1]
    rw [← hA1] at hd1
    obtain ⟨B1, hB1⟩ : ∃ z : Int, z = (A1 + (v1 : Int)) % 18446744073709551616 := ⟨_, rfl⟩
    have b1 : IntKind.u64.wrap (A1 + (v1 : Int)) = B1 := by rw [wrap_mod, hB1]
    rw [← hB1] at hd1
    obtain ⟨C1, hC1⟩ : ∃ z : Int, z = (Q1 : Int) * (Y : Int) % 18446744073709551616 := ⟨_, rfl⟩
    have c1 : IntKind.u64.wrap ((Q1 : Int) * (Y : Int)) = C1 := by rw [wrap_mod, hC1]
    rw [← hC1] at hd1
    have d1 : IntKind.u64.wrap (B1 - C1) = (R1 : Int) := by rw [wrap_mod, hd1]
    have g2 := guess_first (y1 := y1) (y0 := y0) (u := R1) (d := v0) (by omega) B0.1 B0.2.1
    have s2 := guess_small (u := R1) B0.2.2.2.1 B0.1 (by omega)
    have r2 := Nat.mod_lt R1 (show 0 < y1 by omega)
    obtain ⟨q2, hq2⟩ : ∃ q, q = R1 / y1 := ⟨_, rfl⟩
    obtain ⟨t2, ht2⟩ : ∃ q, q = R1 % y1 := ⟨_, rfl⟩
    have x8' : (R1 : Int) / (y1 : Int) = (q2 : Int) := by rw [hq2, Int.natCast_ediv]
    rw [← hq2] at g2 s2
    rw [← ht2] at g2 r2
    have xq' : IntKind.u64.wrap (q2 : Int) = (q2 : Int) := IntWalk.u64_in _ (by omega)
    have e9' : (q2 : Int) * (y1 : Int) = ((q2 * y1 : Nat) : Int) := (Int.natCast_mul _ _).symm
    have x9' : IntKind.u64.wrap ((R1 : Int) - IntKind.u64.wrap ((q2 : Int) * (y1 : Int))) = (t2 : Int) := by
      have := g2.eq
      rw [e9', IntWalk.u64_in ((q2 * y1 : Nat) : Int) (by omega), IntWalk.u64_in _ (by omega)]
      omega
    have H12 := two_digits U v1 v0 Y (by omega)
    rw [← hVe, ← hR1, ← hQ1] at H12
    have HH2 := Lib.hid (And.intro hres H12)
    have HF2 := Lib.hid (And.intro hq1 (And.intro hYe (And.intro hVe (And.intro B0 (And.intro g2 (And.intro s2 (And.intro r2 (And.intro hlt1 hYb))))))))
    clear hres hYe hVe B0 g2 s2 r2 nUY hYb e9' hq2 ht2 hlt1 hQ1 hR1 hd1 hq1 hA1 hB1 hC1 H12
    go_upto_block 2 with fail
    go_cut [18, 16] (fun qv rv w2 => qv = .int .u64 (((R1 * 4294967296 + v0) / Y : Nat) : Int) ∧ w2 = w')
    case first =>
      go_wp2_with fail
      go_loopw [18, 16] (fun qv rv wr => ∃ q r : Nat, qv = .int .u64 (q : Int) ∧ rv = .int .u64 (r : Int) ∧ Guess y1 y0 R1 v0 q r ∧ q ≤ 4294967297 ∧ r < 4294967296 ∧ wr = w') (fun qv _ _ => (intOf qv).toNat)
      case atStart =>
        obtain ⟨_, _, _, B0, g0, s0, r0, _⟩ := HF2.out
        exact ⟨q2, t2, rfl, rfl, g0, s0, by omega, rfl⟩
      case round =>
        obtain ⟨q, r, rfl, rfl, g, hq, hr, rfl⟩ := hrel
        obtain ⟨_, hYe, _, B0, _, _, _, nUY, hYb⟩ := HF2.out
        have hYp : 0 < y1 * 4294967296 + y0 := by omega
        have hm1 : q * y0 ≤ 4294967297 * 4294967295 := Nat.mul_le_mul hq (by omega)
        have w3 : IntKind.u64.wrap ((q : Int) * (y0 : Int)) = ((q * y0 : Nat) : Int) := by rw [← Int.natCast_mul, IntWalk.u64_in _ (by omega)]
        have w4 : IntKind.u64.wrap (4294967296 * (r : Int)) = ((4294967296 * r : Nat) : Int) := by rw [IntWalk.u64_in _ (by omega)]; omega
        have w5 : IntKind.u64.wrap (((4294967296 * r : Nat) : Int) + (v0 : Int)) = ((4294967296 * r + v0 : Nat) : Int) := by rw [IntWalk.u64_in _ (by omega)]; omega
        have ht := guess_test g
        have HQ := Lib.hid (show q * y0 > r * 4294967296 + v0 ↔ 4294967296 * r + v0 < q * y0 by omega)
        obtain ⟨m, hm⟩ : ∃ m, m = q * y0 := ⟨_, rfl⟩
        obtain ⟨n1, hn1⟩ : ∃ m, m = 4294967296 * r := ⟨_, rfl⟩
        obtain ⟨n2, hn2⟩ : ∃ m, m = n1 + v0 := ⟨_, rfl⟩
        rw [← hm] at w3
        rw [← hn1] at w4 w5
        rw [← hn2] at w5
        have hdo : ∀ (hG : 0 < q ∧ Guess y1 y0 R1 v0 (q - 1) (r + y1)), IntKind.u64.wrap ((q : Int) - 1) = ((q - 1 : Nat) : Int) := fun hG => by rw [IntWalk.u64_in _ (by omega)]; omega
        have w2 : IntKind.u64.wrap ((r : Int) + (y1 : Int)) = ((r + y1 : Nat) : Int) := by rw [IntWalk.u64_in _ (by omega)]; omega
        obtain ⟨r', hr'⟩ : ∃ q, q = r + y1 := ⟨_, rfl⟩
        rw [← hr'] at w2
        have T3 : (4294967296 ≤ r' ∧ decide ((4294967296 : Int) ≤ (r' : Int)) = true) ∨ (r' < 4294967296 ∧ decide ((4294967296 : Int) ≤ (r' : Int)) = false) := by
          by_cases h : 4294967296 ≤ r'
          · exact .inl ⟨h, decide_eq_true (by omega)⟩
          · exact .inr ⟨by omega, decide_eq_false (by omega)⟩
        have T1 : (∃ hG : 0 < q ∧ Guess y1 y0 R1 v0 (q - 1) (r + y1), (decide ((4294967296 : Int) ≤ (q : Int)) = true) ∨ (decide ((4294967296 : Int) ≤ (q : Int)) = false ∧ decide (n2 < m) = true)) ∨ (q = (R1 * 4294967296 + v0) / Y ∧ decide ((4294967296 : Int) ≤ (q : Int)) = false ∧ decide (n2 < m) = false) := by
          by_cases hb : 4294967296 ≤ q
          · exact .inl ⟨guess_big hYp (by omega) (by omega) g hb, .inl (decide_eq_true (by omega))⟩
          · by_cases hc : q * y0 > r * 4294967296 + v0
            · exact .inl ⟨guess_less hYp g (ht.1 hc), .inr ⟨decide_eq_false (by omega), decide_eq_true (by have := HQ.out.1 hc; omega)⟩⟩
            · refine .inr ⟨?_, decide_eq_false (by omega), decide_eq_false (by have := HQ.out; omega)⟩
              rw [hYe]
              exact guess_end hYp g fun h => hc (ht.2 h)
        have HB := Lib.hid (And.intro hYp (And.intro B0.1 (And.intro hq (And.intro hYe hr'))))
        have HT3 := Lib.hid T3
        have HT1 := Lib.hid T1
        have HD := Lib.hid hdo
        clear hYe B0 nUY hYb hYp hm1 ht hm hn1 hn2 T3 T1 hdo hr' g hr hq HQ
        rcases HT1.out with ⟨hG, hA⟩ | ⟨hR, hA, hA2⟩
        · have w1 := HD.out hG
          have HG := Lib.hid hG
          obtain ⟨q', hq'⟩ : ∃ p, p = q - 1 := ⟨_, rfl⟩
          rw [← hq'] at w1 HG
          have HQ' := Lib.hid hq'
          clear hG hq'
          rcases HT3.out with ⟨h3, hB3⟩ | ⟨h3, hB3⟩
          · have H3 := Lib.hid h3
            clear h3
            rcases hA with hA | ⟨hA, hA2⟩
            all_goals
              go_wp2
              go_meet
              case rel =>
                refine ⟨?_, rfl⟩
                obtain ⟨b1, b2, b3, b4, b5⟩ := HB.out
                rw [b4, ← guess_rest b1 b2 (by have := HQ'.out; omega) HG.out.2 (by have := H3.out; omega)]
          · have H3 := Lib.hid h3
            clear h3
            rcases hA with hA | ⟨hA, hA2⟩
            all_goals
              go_wp2
              go_roundw
              case rel =>
                obtain ⟨b1, b2, b3, b4, b5⟩ := HB.out
                refine ⟨q', r', rfl, rfl, by rw [b5]; exact HG.out.2, by have := HQ'.out; omega, H3.out, by first | rfl | trivial⟩
              case measure =>
                have h1 := HG.out.1
                have h2 := HQ'.out
                simp [intOf]
                omega
        · have HR := Lib.hid hR
          clear hR
          go_wp2
          go_meet
          case rel => exact ⟨by rw [← HR.out], rfl⟩
    case rest =>
      obtain ⟨rfl, hw⟩ := hcut
      rw [hw]
      clear hw
      obtain ⟨hq1, hYe, hVe, B0, _, _, _, nUY, hYb⟩ := HF2.out
      have hlt2 := Nat.mod_lt (R1 * 4294967296 + v0) (show 0 < Y by omega)
      obtain ⟨Q2, hQ2⟩ : ∃ q, q = (R1 * 4294967296 + v0) / Y := ⟨_, rfl⟩
      rw [← hQ2]
      obtain ⟨R2, hR2⟩ : ∃ q, q = (R1 * 4294967296 + v0) % Y := ⟨_, rfl⟩
      have hd2 := dig_rest (u := R1) (d := v0) (y := Y) (q := Q2) (by omega) (by omega) (by omega) hQ2
      rw [← hR2] at hd2 hlt2
      have hq2 : Q2 < 4294967296 := by rw [hQ2]; exact dig_lt (by omega) (by omega) (by omega)
      obtain ⟨A2, hA2⟩ : ∃ z : Int, z = (R1 : Int) * 4294967296 % 18446744073709551616 := ⟨_, rfl⟩
      have a2 : IntKind.u64.wrap ((R1 : Int) * 4294967296) = A2 := by rw [wrap_mod, hA2]
      rw [← hA2] at hd2
      obtain ⟨B2, hB2⟩ : ∃ z : Int, z = (A2 + (v0 : Int)) % 18446744073709551616 := ⟨_, rfl⟩
      have b2 : IntKind.u64.wrap (A2 + (v0 : Int)) = B2 := by rw [wrap_mod, hB2]
      rw [← hB2] at hd2
      obtain ⟨C2, hC2⟩ : ∃ z : Int, z = (Q2 : Int) * (Y : Int) % 18446744073709551616 := ⟨_, rfl⟩
      have c2 : IntKind.u64.wrap ((Q2 : Int) * (Y : Int)) = C2 := by rw [wrap_mod, hC2]
      rw [← hC2] at hd2
      have d2 : IntKind.u64.wrap (B2 - C2) = (R2 : Int) := by rw [wrap_mod, hd2]
      have k1 : IntKind.u64.wrap ((Q1 : Int) * 4294967296) = ((Q1 * 4294967296 : Nat) : Int) := by rw [IntWalk.u64_in _ (by omega)]; omega
      have k2 : IntKind.u64.wrap (((Q1 * 4294967296 : Nat) : Int) + (Q2 : Int)) = ((Q1 * 4294967296 + Q2 : Nat) : Int) := by rw [IntWalk.u64_in _ (by omega)]; omega
      have hfin : Q1 * 4294967296 + Q2 = (hi * 18446744073709551616 + lo) / y ∧ R2 / 2 ^ s = (hi * 18446744073709551616 + lo) % y := by
        obtain ⟨⟨f1, f2⟩, f3, f4⟩ := HH2.out
        rw [f1, f2, f3, f4, ← hQ2, ← hR2]
        exact ⟨rfl, rfl⟩
      obtain ⟨N1, hN1⟩ : ∃ z, z = Q1 * 4294967296 := ⟨_, rfl⟩
      obtain ⟨N2, hN2⟩ : ∃ z, z = N1 + Q2 := ⟨_, rfl⟩
      rw [← hN1] at k1 k2 hfin
      rw [← hN2] at k2 hfin
      have HFIN := Lib.hid hfin
      clear hfin hN1 hN2 hq1 hYe hVe B0 nUY hYb hlt2 hQ2 hR2 hd2 hq2 hA2 hB2 hC2
      go_wp2
      go_ret2
      refine ⟨congrArg Ending.returned (congrArg Value.tuple ?_), Fr.refl _ _⟩
      rw [← HFIN.out.1, ← HFIN.out.2]
      rfl
end Go.Proofs.Ytgdnmmobnfjegaa
