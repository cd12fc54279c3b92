import Derived.Test.YtjkeoameebdefaaZ11
import Derived.Test.YtjkeoameebdefaaZ3
import Derived.Test.YtjkeoameebdefaaZ4
import Derived.Test.YtjkeoameebdefaaZ1
import Derived.Deep.MidRow
/- Layer 16 (purse): the model's amounts, all at once. -/
namespace Go.Proofs.Ytjkeoameebdefaa
set_option maxRecDepth 100000
set_option linter.unusedVariables false
set_option linter.unusedSimpArgs false
open Go.RowKit
attribute [-go_sem] cell_at

theorem Try.szAmts256 : (Try.prog.info? 30).map (·.size) = some 256 := by kernel_rfl
@[go_sem ↓ high] theorem load_amts256 (p : Value) : Instr.loadAt 30 p = loadRowAt 30 p := rfl
/-- What each has, as a row. -/
def frC (f : Nat → Nat) : List Value := (List.range 256).map fun k => .int .u64 (f k : Nat)
theorem frC_len (f : Nat → Nat) : (frC f).length = 256 := by simp [frC]
theorem frC_get (f : Nat → Nat) {k : Nat} (h : k < 256) : (frC f)[k]? = some (.int .u64 (f k : Nat)) := by simp [frC, h]
theorem MD.load {w : World} {m h i o : Nat} {f : Nat → Nat} (d : MD w m f h i o) : (loadRowAt 30 (.pointer (some ⟨m, 0, none⟩))).run Try.prog w = .ok (.agg (frC f).toArray) w :=
  run_loadAt_mid (P := Try.prog) w m 0 30 (frC f) _ (fun j u hj => by
    have hl : j < 256 := by have := (List.getElem?_eq_some_iff.1 hj).1; rwa [frC_len] at this
    rw [frC_get f hl] at hj
    cases hj
    rw [Nat.zero_add]
    exact d.cell hl) Try.underlying30 rfl (by rw [Try.szAmts256, frC_len])
theorem run_index_frC (w : World) (f : Nat → Nat) {i : Nat} (h : i < 256) : (Instr.index 30 (.agg (frC f).toArray) (.int .i64 (i : Int))).run Try.prog w = .ok (.int .u64 (f i : Nat)) w :=
  run_index_row w 30 25 256 _ _ _ _ Try.underlying30 Try.underlying25 rfl (by kernel_rfl) _ h (by rw [List.getElem?_toArray]; exact frC_get f h)

set_option maxRecDepth 100000 in
set_option maxHeartbeats 16000000 in
/-- The law's is, of any purse that answers as the model does. -/
theorem is16_of {w : World} {p m h i o T : Nat} {f : Nat → Nat} (d : MD w m f h i o) (hs : sumN f 256 = T)
    (HP : RowKit.Hid (∀ W, Fr F0 w W → Calls Try.prog 13 #[.pointer (some ⟨p, 0, none⟩)] W fun e w' => e = .returned (.tuple #[.int .u64 (i : Nat), .int .u64 (o : Nat)]) ∧ Fr F0 W w'))
    (HA : RowKit.Hid (∀ W, Fr F0 w W → Calls Try.prog 15 #[.pointer (some ⟨p, 0, none⟩)] W fun e w' => ∃ v, e = .returned v ∧ Fr F0 W w' ∧ Calls Try.prog 14 #[v] w' fun e w'' => e = .returned (.tuple #[.int .i64 (cntN f 256 : Nat), .int .u64 (T : Nat), .bool true]) ∧ Fr F0 w' w''))
    (HO : RowKit.Hid (∀ W, Fr F0 w W → ∀ a : Nat, a < 256 → Calls Try.prog 18 #[.pointer (some ⟨p, 0, none⟩), .int .u8 (a : Int)] W fun e w' => e = .returned (.int .u64 (f a : Nat)) ∧ Fr F0 W w'))
    (HH : RowKit.Hid (∀ W, Fr F0 w W → Calls Try.prog 19 #[.pointer (some ⟨p, 0, none⟩)] W fun e w' => e = .returned (.int .u64 (h : Nat)) ∧ Fr F0 W w'))
    (he : T + h = i - o) (ho : o ≤ i) (hi : i ≤ 4611686018427387904) :
    Calls Try.prog 11 #[.pointer (some ⟨p, 0, none⟩), .pointer (some ⟨m, 0, none⟩)] w fun e w' => e = .returned (.bool true) ∧ Fr F0 w w' := by
  have HD := Lib.hid (fun W (F : Fr F0 w W) => d.fr F fun x => x)
  have HN := Lib.hid (And.intro hs (And.intro he (And.intro ho hi)))
  clear d hs he ho hi
  go_enter Try.func11, Try.ntmps11
  go_wp2_with fail
  (with_reducible refine (HP.out w (Fr.refl _ _)).mono ?_); rintro e w1 ⟨rfl, f1⟩
  have F1 := Lib.hid f1
  clear f1
  go_wp2_with fail
  (with_reducible refine (HA.out w1 F1.out).mono ?_); rintro e w2 ⟨v, rfl, f2, hc⟩
  have F2 := Lib.hid (F1.out.trans' f2)
  replace hc := Lib.hid hc
  clear f2
  go_wp2_with fail
  (with_reducible refine hc.out.mono ?_); rintro e w3 ⟨rfl, f3⟩
  have F3 := Lib.hid (F2.out.trans' f3)
  have ld := (HD.out w3 F3.out).load
  have hf : (fun k => f k) = f := rfl
  clear f3 hc hf
  obtain ⟨c0, hc0⟩ : ∃ z, cntN f 256 = z := ⟨_, rfl⟩
  have HC0 := Lib.hid hc0
  obtain ⟨X, hX⟩ : ∃ X, (frC f).toArray = X := ⟨_, rfl⟩
  rw [hX] at ld
  replace hX := Lib.hid hX
  go_upto_region 5 with fail
  go_loopw [10, 31] (fun cv iv wr => ∃ k : Nat, iv = .int .i64 (k : Int) ∧ k ≤ 256 ∧ cv = .int .i64 (cntN f k : Nat) ∧ Fr F0 w wr) (fun _ iv _ => 256 - (intOf iv).toNat)
  case atStart => exact ⟨0, rfl, by omega, rfl, F3.out⟩
  case round =>
    clear ld F1 F2 F3
    obtain ⟨k, rfl, hk, rfl, hF⟩ := hrel
    have F4 := Lib.hid hF
    clear hF
    by_cases h1 : k < 256
    · have l1 : (k : Int) < 256 := by omega
      have m0 : IntKind.u8.wrap (k : Int) = (k : Int) := IntWalk.u8_in _ (by omega)
      have m1 : IntKind.i64.wrap ((k : Int) + 1) = ((k + 1 : Nat) : Int) := w64n (by omega) (by omega)
      have hix := run_index_frC wr f h1
      rw [hX.out] at hix
      have HOi := Lib.hid (HO.out wr F4.out k h1)
      have hcl := cntN_le f k
      have m2 : IntKind.i64.wrap ((cntN f k : Int) + 1) = ((cntN f k + 1 : Nat) : Int) := w64n (by omega) (by omega)
      have HE := Lib.hid (show cntN f (k + 1) = cntN f k + (if f k = 0 then 0 else 1) from rfl)
      have HK := Lib.hid h1
      obtain ⟨c1, hc1⟩ : ∃ z, cntN f k = z := ⟨_, rfl⟩
      rw [hc1] at m2 HE ⊢
      obtain ⟨fk, hfk⟩ : ∃ z, f k = z := ⟨_, rfl⟩
      rw [hfk] at hix HOi HE
      by_cases h0 : fk = 0
      · subst h0
        clear h1 hk hcl m2 hc1 hfk hc0
        go_wp2_with fail
        (with_reducible refine HOi.out.mono ?_); rintro e w4 ⟨rfl, f4⟩
        have F5 := Lib.hid (F4.out.trans' f4)
        clear f4
        go_wp2_with fail
        go_roundw
        case rel => exact ⟨k + 1, rfl, HK.out, by rw [HE.out]; rfl, F5.out⟩
        case measure => have := HK.out; simp [intOf]; omega
      · have q0 : ¬ fk ≤ 0 := by omega
        have q1 : (0 : Int) < (fk : Int) := by omega
        have HE0 := Lib.hid h0
        clear h1 hk hcl hc1 hfk hc0 h0 q0
        go_wp2_with fail
        (with_reducible refine HOi.out.mono ?_); rintro e w4 ⟨rfl, f4⟩
        have F5 := Lib.hid (F4.out.trans' f4)
        clear f4
        go_wp2_with fail
        go_roundw
        case rel => exact ⟨k + 1, rfl, HK.out, by rw [HE.out, if_neg HE0.out]; rfl, F5.out⟩
        case measure => have := HK.out; simp [intOf]; omega
    · have hk2 : k = 256 := by omega
      subst hk2
      have hN := HN.out
      have bT : T < 18446744073709551616 := by omega
      have bh : h < 18446744073709551616 := by omega
      have bi : i < 18446744073709551616 := by omega
      have bo : o < 18446744073709551616 := by omega
      have hbn := rowN_nil4 0
      have sT := set_first T bT
      have sh := set_first h bh
      have si := set_first i bi
      have so := set_first o bo
      have R1 := Lib.hid (r3Of_any T (word_wide T bT))
      have R2 := Lib.hid (r3Of_any h (word_wide h bh))
      have R3 := Lib.hid (r3Of_any i (word_wide i bi))
      have R4 := Lib.hid (r3Of_any o (word_wide o bo))
      have wT := Nat.le_trans (lg_word (word_wide T bT)) (show 16 ≤ 10000 by omega)
      have wh := Nat.le_trans (lg_word (word_wide h bh)) (show 16 ≤ 10000 by omega)
      have wi := Nat.le_trans (lg_word (word_wide i bi)) (show 16 ≤ 10000 by omega)
      have wd := Nat.le_trans (lg_word (word_wide (i - o) (by omega))) (show 16 ≤ 10000 by omega)
      have R5 := Lib.hid (fun p1 c1 p2 c2 W h1 h2 => r3Add_any T h p1 c1 p2 c2 wT wh W h1 h2)
      rw [hN.2.1] at R5
      have R6 := Lib.hid (fun p1 c1 p2 c2 W h1 h2 => r3Sub_any i o p1 c1 p2 c2 wi hN.2.2.1 W h1 h2)
      have R7 := Lib.hid (fun p1 c1 p2 c2 W h1 h2 => r3Cmp_any (i - o) (i - o) p1 c1 p2 c2 wd wd W h1 h2)
      rw [show cmpZ (i - o) (i - o) = 0 from by unfold cmpZ; simp] at R7
      obtain ⟨d, hd⟩ : ∃ d, i - o = d := ⟨_, rfl⟩
      rw [hd] at R5 R6 R7
      have l1 : ¬ ((256 : Nat) : Int) < 256 := by omega
      rw [HC0.out]
      clear hk h1 hN bT bh bi bo wT wh wi wd hd hc0 HA
      go_wp2_with fail
      (with_reducible refine (R1.out _).mono ?_); rintro e w5 ⟨p1, c1, rfl, n1, g1⟩
      have F5 := Lib.hid (F4.out.trans' g1)
      replace n1 := Lib.hid n1
      clear g1 sT
      go_wp2_with fail
      (with_reducible refine (HH.out w5 F5.out).mono ?_); rintro e w6 ⟨rfl, g1⟩
      have F6 := Lib.hid (And.intro (F5.out.trans' g1) g1)
      clear g1
      go_wp2_with fail
      (with_reducible refine (R2.out _).mono ?_); rintro e w7 ⟨p2, c2, rfl, n2, g1⟩
      have F7 := Lib.hid (And.intro (F6.out.1.trans' g1) (F6.out.2.trans' g1))
      replace n2 := Lib.hid n2
      clear g1 sh
      go_wp2_with fail
      (with_reducible refine (R5.out p1 c1 p2 c2 w7 (n1.out.fr F7.out.2) n2.out).mono ?_); rintro e w8 ⟨p3, c3, rfl, n3, g1⟩
      have F8 := Lib.hid (F7.out.1.trans' g1)
      replace n3 := Lib.hid n3
      clear g1 n1 n2 F5 F6 F7
      go_wp2_with fail
      (with_reducible refine (R3.out _).mono ?_); rintro e w9 ⟨p4, c4, rfl, n4, g1⟩
      have F9 := Lib.hid (And.intro (F8.out.trans' g1) g1)
      replace n4 := Lib.hid n4
      clear g1 si
      go_wp2_with fail
      (with_reducible refine (R4.out _).mono ?_); rintro e w10 ⟨p5, c5, rfl, n5, g1⟩
      have F10 := Lib.hid (And.intro (F9.out.1.trans' g1) (And.intro (F9.out.2.trans' g1) g1))
      replace n5 := Lib.hid n5
      clear g1 so
      go_wp2_with fail
      (with_reducible refine (R6.out p4 c4 p5 c5 w10 (n4.out.fr F10.out.2.2) n5.out).mono ?_); rintro e w11 ⟨p6, c6, rfl, n6, g1⟩
      have n3' := n3.out.fr (F10.out.2.1.trans' g1)
      have FF := F10.out.1.trans' g1
      have D11 := HD.out w11 FF
      have q6 := D11.held
      have q7 := D11.inn
      have q8 := D11.out
      have HR := Lib.hid (fun (W : World) (F : Fr F0 w11 W) => R7.out p3 c3 p6 c6 W (n3'.fr F) (n6.fr F))
      have HL := Lib.hid (fun (W : World) (F : Fr F0 w11 W) => HH.out W (FF.trans' F))
      have HF := Lib.hid FF
      have Fz := Fr.refl F0 w11
      clear g1 n3 n4 n5 n3' n6 FF D11 F8 F9 F10 R1 R2 R3 R4 R5 R6 R7 HN
      go_upto_region 14 with fail
      refine rbegin (S := (fun w' => (w'.cell? ⟨m, 256, none⟩ = some (.int .u64 (h : Nat)) ∧ w'.cell? ⟨m, 257, none⟩ = some (.int .u64 (i : Nat)) ∧ w'.cell? ⟨m, 258, none⟩ = some (.int .u64 (o : Nat))) ∧ Fr F0 w11 w')) ?_ fun hHeld => ?_
      · ((try dsimp only) <;> (exact ⟨⟨q6, q7, q8⟩, Fz.drew⟩))
      refine rtake 0 ?_
      refine rtake 1 ?_
      refine rtake 2 ?_
      refine rtake 3 ?_
      refine rtake 4 ?_
      refine rtake 5 ?_
      refine rtake 6 ?_
      refine rtake 7 ?_
      refine rtake 8 ?_
      refine rtake 9 ?_
      refine rtake 10 ?_
      refine rtake 11 ?_
      refine rtake 12 ?_
      refine rtake 13 ?_
      refine rtake 14 ?_
      refine rtake 15 ?_
      refine rtake 16 ?_
      refine rtake 17 ?_
      refine rtake 18 ?_
      refine rtake 19 ?_
      refine rtake 20 ?_
      refine rtake 21 ?_
      refine rtake 22 ?_
      refine rtake 23 ?_
      refine rtake 25 ?_
      refine rtake 26 ?_
      refine rtake 27 ?_
      refine rtake 28 ?_
      refine rone 24 fun K hK => ?_
      go_simp
      ((with_reducible refine (HL.out _ hHeld.2).mono ?_); rintro e w12 ⟨rfl, f5⟩)
      refine hK.out _ _ ?_ (fun hHeld => ?_)
      · ((try dsimp only) <;> (first | exact hHeld | exact ⟨⟨f5.cell (fun e => e) hHeld.1.1, f5.cell (fun e => e) hHeld.1.2.1, f5.cell (fun e => e) hHeld.1.2.2⟩, hHeld.2.trans' f5⟩))
      clear hK K
      try (simp only [Act.put, aST]; dsimp only [aS0, aS1])
      refine rtake 29 ?_
      refine rtake 30 ?_
      refine rtake 31 ?_
      refine rtake 32 ?_
      refine rtake 33 ?_
      refine rone 34 fun K hK => ?_
      go_simp
      ((with_reducible refine (HR.out _ hHeld.2).mono ?_); rintro e w13 ⟨rfl, hw⟩; replace hw := hw.symm; subst hw)
      refine hK.out _ _ ?_ (fun hHeld => ?_)
      · ((try dsimp only) <;> (first | exact hHeld | exact ⟨⟨f5.cell (fun e => e) hHeld.1.1, f5.cell (fun e => e) hHeld.1.2.1, f5.cell (fun e => e) hHeld.1.2.2⟩, hHeld.2.trans' f5⟩))
      clear hK K
      try (simp only [Act.put, aST]; dsimp only [aS0, aS1])
      refine rtake 35 ?_
      refine rtake 36 ?_
      refine rtake 37 ?_
      refine rdone ?_
      all_goals
        go_wp2_with fail
        go_ret
        exact ⟨rfl, HF.out.trans' hHeld.2⟩
end Go.Proofs.Ytjkeoameebdefaa
