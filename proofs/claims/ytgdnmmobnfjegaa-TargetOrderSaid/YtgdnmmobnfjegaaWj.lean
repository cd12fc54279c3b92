/- Layer 3 (wide): how many bits a word needs, and a number. -/
import Derived.Test.YtgdnmmobnfjegaaWi
import Derived.Lib.Tables
import Derived.Lib.BitFns
namespace Go.Proofs.Ytgdnmmobnfjegaa
set_option linter.unusedVariables false
set_option linter.unusedSimpArgs false
open Go.RowKit Go.Shelf

set_option maxRecDepth 200000 in
set_option maxHeartbeats 4000000 in
theorem Len64_any (x : Nat) (hx : x < 18446744073709551616) (w : World) :
    Calls Try.prog 49 #[.int .u64 x] w fun e w' => e = .returned (.int .i64 (Lib.bitLen x : Nat)) ∧ w' = w := by
  by_cases c0 : 4294967296 ≤ x
  · obtain ⟨x1, d0⟩ : ∃ q, q = x / 4294967296 := ⟨_, rfl⟩
    have e0 : (x : Int) / 4294967296 = (x1 : Int) := by omega
    have f0 : (4294967296 : Int) ≤ (x : Int) := by omega
    have g0 : x1 < 4294967296 := by omega
    have D0 := Lib.hid d0
    clear d0
    by_cases c1 : 65536 ≤ x1
    · obtain ⟨x2, d1⟩ : ∃ q, q = x1 / 65536 := ⟨_, rfl⟩
      have e1 : (x1 : Int) / 65536 = (x2 : Int) := by omega
      have f1 : (65536 : Int) ≤ (x1 : Int) := by omega
      have g1 : x2 < 65536 := by omega
      have D1 := Lib.hid d1
      clear d1
      by_cases c2 : 256 ≤ x2
      · obtain ⟨x3, d2⟩ : ∃ q, q = x2 / 256 := ⟨_, rfl⟩
        have e2 : (x2 : Int) / 256 = (x3 : Int) := by omega
        have f2 : (256 : Int) ≤ (x2 : Int) := by omega
        have g2 : x3 < 256 := by omega
        have D2 := Lib.hid d2
        clear d2
        have hl := Lib.len8_of (x3 : Int) (by omega) (by omega)
        have hl8 := Lib.bitLen_le8' (x3 : Int) (by omega) (by omega)
        rw [Int.toNat_natCast] at hl hl8
        have hc : (x3 : Int) ≤ 255 := by omega
        have q0 := D0.out
        have q1 := D1.out
        have q2 := D2.out
        have HS := Lib.hid (show Lib.bitLen x = 56 + Lib.bitLen x3 by have := Lib.bitLen_shift 56 x (by omega) (by omega); rw [show x / 2 ^ 56 = x3 by omega] at this; exact this)
        clear q0 q1 q2
        obtain ⟨B, hB⟩ : ∃ B, B = Lib.bitLen x3 := ⟨_, rfl⟩
        rw [← hB] at hl hl8
        have HB := Lib.hid hB
        clear hB
        clear c0 c1 c2
        try clear g0
        try clear g1
        try clear g2
        have z0 : (0 : Int) ≤ x := by omega
        have z0u : (x : Int) < 18446744073709551616 := by omega
        try (have z1 : (0 : Int) ≤ x1 := by omega)
        try (have z2 : (0 : Int) ≤ x2 := by omega)
        try (have z3 : (0 : Int) ≤ x3 := by omega)
        clear hx
        generalize (x : Int) = X at *
        try generalize (x1 : Int) = X1 at *
        try generalize (x2 : Int) = X2 at *
        try generalize (x3 : Int) = X3 at *
        go_enter Try.func49, Try.ntmps49
        go_wp2
        go_ret
        refine ⟨congrArg Ending.returned (congrArg (Value.int IntKind.i64) ?_), rfl⟩
        rw [HS.out, ← HB.out]
        omega
      · have f2 : (x2 : Int) < 256 := by omega
        have hl := Lib.len8_of (x2 : Int) (by omega) (by omega)
        have hl8 := Lib.bitLen_le8' (x2 : Int) (by omega) (by omega)
        rw [Int.toNat_natCast] at hl hl8
        have hc : (x2 : Int) ≤ 255 := by omega
        have q0 := D0.out
        have q1 := D1.out
        have HS := Lib.hid (show Lib.bitLen x = 48 + Lib.bitLen x2 by have := Lib.bitLen_shift 48 x (by omega) (by omega); rw [show x / 2 ^ 48 = x2 by omega] at this; exact this)
        clear q0 q1
        obtain ⟨B, hB⟩ : ∃ B, B = Lib.bitLen x2 := ⟨_, rfl⟩
        rw [← hB] at hl hl8
        have HB := Lib.hid hB
        clear hB
        clear c0 c1 c2
        try clear g0
        try clear g1
        try clear g2
        have z0 : (0 : Int) ≤ x := by omega
        have z0u : (x : Int) < 18446744073709551616 := by omega
        try (have z1 : (0 : Int) ≤ x1 := by omega)
        try (have z2 : (0 : Int) ≤ x2 := by omega)
        try (have z3 : (0 : Int) ≤ x3 := by omega)
        clear hx
        generalize (x : Int) = X at *
        try generalize (x1 : Int) = X1 at *
        try generalize (x2 : Int) = X2 at *
        try generalize (x3 : Int) = X3 at *
        go_enter Try.func49, Try.ntmps49
        go_wp2
        go_ret
        refine ⟨congrArg Ending.returned (congrArg (Value.int IntKind.i64) ?_), rfl⟩
        rw [HS.out, ← HB.out]
        omega
    · have f1 : (x1 : Int) < 65536 := by omega
      by_cases c2 : 256 ≤ x1
      · obtain ⟨x3, d2⟩ : ∃ q, q = x1 / 256 := ⟨_, rfl⟩
        have e2 : (x1 : Int) / 256 = (x3 : Int) := by omega
        have f2 : (256 : Int) ≤ (x1 : Int) := by omega
        have g2 : x3 < 256 := by omega
        have D2 := Lib.hid d2
        clear d2
        have hl := Lib.len8_of (x3 : Int) (by omega) (by omega)
        have hl8 := Lib.bitLen_le8' (x3 : Int) (by omega) (by omega)
        rw [Int.toNat_natCast] at hl hl8
        have hc : (x3 : Int) ≤ 255 := by omega
        have q0 := D0.out
        have q2 := D2.out
        have HS := Lib.hid (show Lib.bitLen x = 40 + Lib.bitLen x3 by have := Lib.bitLen_shift 40 x (by omega) (by omega); rw [show x / 2 ^ 40 = x3 by omega] at this; exact this)
        clear q0 q2
        obtain ⟨B, hB⟩ : ∃ B, B = Lib.bitLen x3 := ⟨_, rfl⟩
        rw [← hB] at hl hl8
        have HB := Lib.hid hB
        clear hB
        clear c0 c1 c2
        try clear g0
        try clear g1
        try clear g2
        have z0 : (0 : Int) ≤ x := by omega
        have z0u : (x : Int) < 18446744073709551616 := by omega
        try (have z1 : (0 : Int) ≤ x1 := by omega)
        try (have z2 : (0 : Int) ≤ x2 := by omega)
        try (have z3 : (0 : Int) ≤ x3 := by omega)
        clear hx
        generalize (x : Int) = X at *
        try generalize (x1 : Int) = X1 at *
        try generalize (x2 : Int) = X2 at *
        try generalize (x3 : Int) = X3 at *
        go_enter Try.func49, Try.ntmps49
        go_wp2
        go_ret
        refine ⟨congrArg Ending.returned (congrArg (Value.int IntKind.i64) ?_), rfl⟩
        rw [HS.out, ← HB.out]
        omega
      · have f2 : (x1 : Int) < 256 := by omega
        have hl := Lib.len8_of (x1 : Int) (by omega) (by omega)
        have hl8 := Lib.bitLen_le8' (x1 : Int) (by omega) (by omega)
        rw [Int.toNat_natCast] at hl hl8
        have hc : (x1 : Int) ≤ 255 := by omega
        have q0 := D0.out
        have HS := Lib.hid (show Lib.bitLen x = 32 + Lib.bitLen x1 by have := Lib.bitLen_shift 32 x (by omega) (by omega); rw [show x / 2 ^ 32 = x1 by omega] at this; exact this)
        clear q0
        obtain ⟨B, hB⟩ : ∃ B, B = Lib.bitLen x1 := ⟨_, rfl⟩
        rw [← hB] at hl hl8
        have HB := Lib.hid hB
        clear hB
        clear c0 c1 c2
        try clear g0
        try clear g1
        try clear g2
        have z0 : (0 : Int) ≤ x := by omega
        have z0u : (x : Int) < 18446744073709551616 := by omega
        try (have z1 : (0 : Int) ≤ x1 := by omega)
        try (have z2 : (0 : Int) ≤ x2 := by omega)
        try (have z3 : (0 : Int) ≤ x3 := by omega)
        clear hx
        generalize (x : Int) = X at *
        try generalize (x1 : Int) = X1 at *
        try generalize (x2 : Int) = X2 at *
        try generalize (x3 : Int) = X3 at *
        go_enter Try.func49, Try.ntmps49
        go_wp2
        go_ret
        refine ⟨congrArg Ending.returned (congrArg (Value.int IntKind.i64) ?_), rfl⟩
        rw [HS.out, ← HB.out]
        omega
  · have f0 : (x : Int) < 4294967296 := by omega
    by_cases c1 : 65536 ≤ x
    · obtain ⟨x2, d1⟩ : ∃ q, q = x / 65536 := ⟨_, rfl⟩
      have e1 : (x : Int) / 65536 = (x2 : Int) := by omega
      have f1 : (65536 : Int) ≤ (x : Int) := by omega
      have g1 : x2 < 65536 := by omega
      have D1 := Lib.hid d1
      clear d1
      by_cases c2 : 256 ≤ x2
      · obtain ⟨x3, d2⟩ : ∃ q, q = x2 / 256 := ⟨_, rfl⟩
        have e2 : (x2 : Int) / 256 = (x3 : Int) := by omega
        have f2 : (256 : Int) ≤ (x2 : Int) := by omega
        have g2 : x3 < 256 := by omega
        have D2 := Lib.hid d2
        clear d2
        have hl := Lib.len8_of (x3 : Int) (by omega) (by omega)
        have hl8 := Lib.bitLen_le8' (x3 : Int) (by omega) (by omega)
        rw [Int.toNat_natCast] at hl hl8
        have hc : (x3 : Int) ≤ 255 := by omega
        have q1 := D1.out
        have q2 := D2.out
        have HS := Lib.hid (show Lib.bitLen x = 24 + Lib.bitLen x3 by have := Lib.bitLen_shift 24 x (by omega) (by omega); rw [show x / 2 ^ 24 = x3 by omega] at this; exact this)
        clear q1 q2
        obtain ⟨B, hB⟩ : ∃ B, B = Lib.bitLen x3 := ⟨_, rfl⟩
        rw [← hB] at hl hl8
        have HB := Lib.hid hB
        clear hB
        clear c0 c1 c2
        try clear g0
        try clear g1
        try clear g2
        have z0 : (0 : Int) ≤ x := by omega
        have z0u : (x : Int) < 18446744073709551616 := by omega
        try (have z1 : (0 : Int) ≤ x1 := by omega)
        try (have z2 : (0 : Int) ≤ x2 := by omega)
        try (have z3 : (0 : Int) ≤ x3 := by omega)
        clear hx
        generalize (x : Int) = X at *
        try generalize (x1 : Int) = X1 at *
        try generalize (x2 : Int) = X2 at *
        try generalize (x3 : Int) = X3 at *
        go_enter Try.func49, Try.ntmps49
        go_wp2
        go_ret
        refine ⟨congrArg Ending.returned (congrArg (Value.int IntKind.i64) ?_), rfl⟩
        rw [HS.out, ← HB.out]
        omega
      · have f2 : (x2 : Int) < 256 := by omega
        have hl := Lib.len8_of (x2 : Int) (by omega) (by omega)
        have hl8 := Lib.bitLen_le8' (x2 : Int) (by omega) (by omega)
        rw [Int.toNat_natCast] at hl hl8
        have hc : (x2 : Int) ≤ 255 := by omega
        have q1 := D1.out
        have HS := Lib.hid (show Lib.bitLen x = 16 + Lib.bitLen x2 by have := Lib.bitLen_shift 16 x (by omega) (by omega); rw [show x / 2 ^ 16 = x2 by omega] at this; exact this)
        clear q1
        obtain ⟨B, hB⟩ : ∃ B, B = Lib.bitLen x2 := ⟨_, rfl⟩
        rw [← hB] at hl hl8
        have HB := Lib.hid hB
        clear hB
        clear c0 c1 c2
        try clear g0
        try clear g1
        try clear g2
        have z0 : (0 : Int) ≤ x := by omega
        have z0u : (x : Int) < 18446744073709551616 := by omega
        try (have z1 : (0 : Int) ≤ x1 := by omega)
        try (have z2 : (0 : Int) ≤ x2 := by omega)
        try (have z3 : (0 : Int) ≤ x3 := by omega)
        clear hx
        generalize (x : Int) = X at *
        try generalize (x1 : Int) = X1 at *
        try generalize (x2 : Int) = X2 at *
        try generalize (x3 : Int) = X3 at *
        go_enter Try.func49, Try.ntmps49
        go_wp2
        go_ret
        refine ⟨congrArg Ending.returned (congrArg (Value.int IntKind.i64) ?_), rfl⟩
        rw [HS.out, ← HB.out]
        omega
    · have f1 : (x : Int) < 65536 := by omega
      by_cases c2 : 256 ≤ x
      · obtain ⟨x3, d2⟩ : ∃ q, q = x / 256 := ⟨_, rfl⟩
        have e2 : (x : Int) / 256 = (x3 : Int) := by omega
        have f2 : (256 : Int) ≤ (x : Int) := by omega
        have g2 : x3 < 256 := by omega
        have D2 := Lib.hid d2
        clear d2
        have hl := Lib.len8_of (x3 : Int) (by omega) (by omega)
        have hl8 := Lib.bitLen_le8' (x3 : Int) (by omega) (by omega)
        rw [Int.toNat_natCast] at hl hl8
        have hc : (x3 : Int) ≤ 255 := by omega
        have q2 := D2.out
        have HS := Lib.hid (show Lib.bitLen x = 8 + Lib.bitLen x3 by have := Lib.bitLen_shift 8 x (by omega) (by omega); rw [show x / 2 ^ 8 = x3 by omega] at this; exact this)
        clear q2
        obtain ⟨B, hB⟩ : ∃ B, B = Lib.bitLen x3 := ⟨_, rfl⟩
        rw [← hB] at hl hl8
        have HB := Lib.hid hB
        clear hB
        clear c0 c1 c2
        try clear g0
        try clear g1
        try clear g2
        have z0 : (0 : Int) ≤ x := by omega
        have z0u : (x : Int) < 18446744073709551616 := by omega
        try (have z1 : (0 : Int) ≤ x1 := by omega)
        try (have z2 : (0 : Int) ≤ x2 := by omega)
        try (have z3 : (0 : Int) ≤ x3 := by omega)
        clear hx
        generalize (x : Int) = X at *
        try generalize (x1 : Int) = X1 at *
        try generalize (x2 : Int) = X2 at *
        try generalize (x3 : Int) = X3 at *
        go_enter Try.func49, Try.ntmps49
        go_wp2
        go_ret
        refine ⟨congrArg Ending.returned (congrArg (Value.int IntKind.i64) ?_), rfl⟩
        rw [HS.out, ← HB.out]
        omega
      · have f2 : (x : Int) < 256 := by omega
        have hl := Lib.len8_of (x : Int) (by omega) (by omega)
        have hl8 := Lib.bitLen_le8' (x : Int) (by omega) (by omega)
        rw [Int.toNat_natCast] at hl hl8
        have hc : (x : Int) ≤ 255 := by omega
        have HS := Lib.hid (show Lib.bitLen x = 0 + Lib.bitLen x by rw [Nat.zero_add])
        obtain ⟨B, hB⟩ : ∃ B, B = Lib.bitLen x := ⟨_, rfl⟩
        rw [← hB] at hl hl8
        have HB := Lib.hid hB
        clear hB
        clear c0 c1 c2
        try clear g0
        try clear g1
        try clear g2
        have z0 : (0 : Int) ≤ x := by omega
        have z0u : (x : Int) < 18446744073709551616 := by omega
        try (have z1 : (0 : Int) ≤ x1 := by omega)
        try (have z2 : (0 : Int) ≤ x2 := by omega)
        try (have z3 : (0 : Int) ≤ x3 := by omega)
        clear hx
        generalize (x : Int) = X at *
        try generalize (x1 : Int) = X1 at *
        try generalize (x2 : Int) = X2 at *
        try generalize (x3 : Int) = X3 at *
        go_enter Try.func49, Try.ntmps49
        go_wp2
        go_ret
        refine ⟨congrArg Ending.returned (congrArg (Value.int IntKind.i64) ?_), rfl⟩
        rw [HS.out, ← HB.out]
        omega
end Go.Proofs.Ytgdnmmobnfjegaa
