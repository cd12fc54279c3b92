/- Layer 4's law MoneyParts, walked. -/
import Derived.Test.YtmebilpmhflahaaMc
import Derived.Test.YtmebilpmhflahaaRv
import Derived.Test.YtmebilpmhflahaaRi
import Derived.Test.YtmebilpmhflahaaRd
namespace Go.Proofs.Ytmebilpmhflahaa
set_option linter.unusedVariables false
set_option linter.unusedSimpArgs false
open Go.RowKit

theorem lg_minp {x n : Nat} (h : x < pw n) : lg x ≤ n := lg_min h
theorem lg_small {z : Nat} (h : z < W256 * W256) : lg z ≤ 10000 := by
  have e16 : W256 = pw 16 := rfl
  rw [e16, ← pw_add] at h
  exact Nat.le_trans (lg_minp h) (by omega)
theorem lg_word {z : Nat} (h : z < W256) : lg z ≤ 16 := lg_minp (show z < pw 16 from h)

theorem set_first (a : Nat) (h : a < 18446744073709551616) : (rowN .u64 64 4 0).setIfInBounds 0 (.int .u64 (a : Int)) = rowN .u64 64 4 a := by
  have := set_word 0 0 a h
  rw [putw_new _ _ _ _ (by simp)] at this
  simpa using this

set_option maxRecDepth 100000 in
set_option maxHeartbeats 8000000 in
theorem moneyParts_arg (a up by' : Nat) (more : Bool) (ha : ¬ a ≤ 4611686018427387904) (hup : up < 18446744073709551616) (hby : by' < 18446744073709551616) (w : World) :
    Calls Try.prog 6 #[.int .u64 (a : Int), .int .u64 (up : Int), .int .u64 (by' : Int), .bool more] w fun e w' => e = .returned (.bool true) ∧ Fr F0 w w' := by
  have HL := Lib.hid lives04_any
  have H1 := Lib.hid (aPart_arg a up by' more ha)
  have l1 : (4611686018427387904 : Int) < (a : Int) := by omega
  clear ha hup hby
  go_enter Try.func6, Try.ntmps6
  go_wp2_with fail
  (with_reducible refine (HL.out _).mono ?_); rintro e1 w1 ⟨rfl, f1⟩
  go_wp2_with fail
  (with_reducible refine (H1.out _).mono ?_); rintro e1 w2 ⟨rfl, f2⟩
  go_wp2_with fail
  go_ret
  exact ⟨rfl, f1.trans' f2⟩

set_option maxRecDepth 100000 in
set_option maxHeartbeats 8000000 in
theorem moneyParts_zero (a up by' : Nat) (more : Bool) (ha : a ≤ 4611686018427387904) (hup : up < 18446744073709551616) (hby : by' = 0) (w : World) :
    Calls Try.prog 6 #[.int .u64 (a : Int), .int .u64 (up : Int), .int .u64 (by' : Int), .bool more] w fun e w' => e = .returned (.bool true) ∧ Fr F0 w w' := by
  have HL := Lib.hid lives04_any
  have H1 := Lib.hid (aPart_zero a up by' more ha hup hby)
  have l1 : ¬ (4611686018427387904 : Int) < (a : Int) := by omega
  have l2 : (by' : Int) = 0 := by omega
  clear ha hup hby
  generalize (by' : Int) = z at *
  subst l2
  go_enter Try.func6, Try.ntmps6
  go_wp2_with fail
  (with_reducible refine (HL.out _).mono ?_); rintro e1 w1 ⟨rfl, f1⟩
  go_wp2_with fail
  (with_reducible refine (H1.out _).mono ?_); rintro e1 w2 ⟨rfl, f2⟩
  go_wp2_with fail
  go_ret
  exact ⟨rfl, f1.trans' f2⟩

set_option maxRecDepth 100000 in
set_option maxHeartbeats 16000000 in
theorem moneyParts_val (a up by' : Nat) (more : Bool) (ha : a ≤ 4611686018427387904) (hup : up < 18446744073709551616) (hby : by' < 18446744073709551616) (hb : 0 < by') (w : World) :
    Calls Try.prog 6 #[.int .u64 (a : Int), .int .u64 (up : Int), .int .u64 (by' : Int), .bool more] w fun e w' => e = .returned (.bool true) ∧ Fr F0 w w' := by
  have HL := Lib.hid lives04_any
  have H1 := Lib.hid (aPart_val a up by' more ha hup hby hb)
  have l1 : ¬ (4611686018427387904 : Int) < (a : Int) := by omega
  have l2 : ¬ (by' : Int) = 0 := by omega
  have hx := prod_wide a up (by omega) (by omega)
  have hx1 := prod_room a up (by omega) (by omega)
  have haw := word_wide a (by omega)
  have huw := word_wide up (by omega)
  have hbw := word_wide by' (by omega)
  have hQ : a * up / by' + 1 < W256 := Nat.lt_of_le_of_lt (Nat.add_le_add_right (Nat.div_le_self _ _) 1) hx1
  have hR : a * up % by' < W256 := Nat.lt_of_lt_of_le (Nat.mod_lt _ hb) (Nat.le_of_lt hbw)
  have hq : ptQ a up by' more < W256 := by unfold ptQ; split <;> omega
  have hMw : 4611686018427387904 < W256 := word_wide _ (by omega)
  have HOa := Lib.hid (r3Of_any a haw)
  have HOu := Lib.hid (r3Of_any up huw)
  have HOb := Lib.hid (r3Of_any by' hbw)
  have HOm := Lib.hid (fun w => show Calls Try.prog 10 #[.agg (rowN .u64 64 4 4611686018427387904)] w fun e w' => NN 4611686018427387904 w e w' from r3Of_any 4611686018427387904 hMw w)
  have HMu := Lib.hid (fun p1 c1 p2 c2 w h1 h2 => r3Mul_any a up p1 c1 p2 c2 (Nat.le_trans (lg_word haw) (by omega)) (Nat.le_trans (lg_word huw) (by omega)) w h1 h2)
  have HDv := Lib.hid (fun p1 c1 p2 c2 w h1 h2 => r3Div_any (a * up) by' p1 c1 p2 c2 hb (Nat.le_trans (lg_word hx) (by omega)) (fun z hz => lg_small (z := z) (by
    have h2 : W256 * 2 ≤ W256 * W256 := Nat.mul_le_mul_left _ (show 2 ≤ 2 ^ 256 from Nat.pow_le_pow_right (n := 2) (i := 1) (by omega) (by omega))
    omega)) w h1 h2)
  have HAd := Lib.hid (fun p1 c1 p2 c2 w h1 h2 => r3Add_one (a * up / by') p1 c1 p2 c2 (Nat.le_trans (lg_word (z := a * up / by') (by omega)) (by omega)) w h1 h2)
  have HCm := Lib.hid (fun p1 c1 p2 c2 w h1 h2 => r3Cmp_any (ptQ a up by' more) 4611686018427387904 p1 c1 p2 c2 (Nat.le_trans (lg_word hq) (by omega)) (Nat.le_trans (lg_word hMw) (by omega)) w h1 h2)
  have HWo := Lib.hid (fun p1 c1 w h1 => r3Words_any (ptQ a up by' more) p1 c1 (Nat.le_trans (lg_word hq) (by omega)) w h1)
  rw [Nat.mod_eq_of_lt hq, decide_eq_false (Nat.not_le.2 hq)] at HWo
  have hbn := rowN_nil4 0
  have hsa := set_first a (by omega)
  have hsu := set_first up hup
  have hsb := set_first by' hby
  have hsm : (rowN .u64 64 4 0).setIfInBounds 0 (.int .u64 4611686018427387904) = rowN .u64 64 4 4611686018427387904 := set_first 4611686018427387904 (by omega)
  have hlR : (0 < lg (a * up % by')) ∨ a * up % by' = 0 := by
    by_cases h : a * up % by' = 0
    · exact .inr h
    · exact .inl (lg_pos h)
  have HQ := Lib.hid (show ptQ a up by' more = if more = true ∧ a * up % by' ≠ 0 then a * up / by' + 1 else a * up / by' from rfl)
  have HV := Lib.hid (show ptV a up by' more = if ptQ a up by' more ≤ 4611686018427387904 then ptQ a up by' more else 0 from rfl)
  have HE := Lib.hid (show ptE a up by' more = if ptQ a up by' more ≤ 4611686018427387904 then 0 else 4 from rfl)
  clear hx hx1 haw huw hbw hQ hR hq hMw ha hup hby hb
  generalize ptV a up by' more = V at *
  generalize ptE a up by' more = E at *
  generalize ptQ a up by' more = q at *
  generalize a * up % by' = R at *
  generalize a * up / by' = Q at *
  generalize a * up = x at *
  generalize hlr : lg R = lr at *
  have HLR := Lib.hid hlr
  clear hlr
  go_enter Try.func6, Try.ntmps6
  go_wp2_with fail
  (with_reducible refine (HL.out _).mono ?_); rintro e1 w1 ⟨rfl, f1⟩
  go_wp2_with fail
  (with_reducible refine (H1.out _).mono ?_); rintro e1 w2 ⟨rfl, f2⟩
  have F := f1.trans' f2
  clear f1 f2 HL H1
  go_wp2_with fail
  (with_reducible refine (HOa.out _).mono ?_); rintro e1 w3 ⟨p3, c3, rfl, n3, f⟩
  replace F := F.trans' f; clear f
  go_wp2_with fail
  (with_reducible refine (HOu.out _).mono ?_); rintro e1 w4 ⟨p4, c4, rfl, n4, f⟩
  replace F := F.trans' f; replace n3 := Us.fr n3 f; clear f
  go_wp2_with fail
  (with_reducible refine (HMu.out _ _ _ _ _ n3 n4).mono ?_); rintro e1 w5 ⟨p5, c5, rfl, n5, f⟩
  replace F := F.trans' f; clear f n3 n4
  go_wp2_with fail
  (with_reducible refine (HOb.out _).mono ?_); rintro e1 w6 ⟨p6, c6, rfl, n6, f⟩
  replace F := F.trans' f; replace n5 := Us.fr n5 f; clear f
  go_wp2_with fail
  (with_reducible refine (HDv.out _ _ _ _ _ n5 n6).mono ?_); rintro e1 w7 ⟨p7, c7, p8, c8, rfl, n7, n8, f⟩
  replace F := F.trans' f; clear f n5 n6
  have hcase : (more = false ∧ q = Q) ∨ (more = true ∧ lr = 0 ∧ q = Q) ∨ (more = true ∧ 0 < lr ∧ q = Q + 1) := by
    cases more
    · exact .inl ⟨rfl, by rw [HQ.out]; exact if_neg fun h => by cases h.1⟩
    · rcases hlR with h | h
      · have hne : R ≠ 0 := fun e => by
          rw [← HLR.out, e, lg_zero] at h
          omega
        exact .inr (.inr ⟨rfl, h, by rw [HQ.out]; exact if_pos ⟨rfl, hne⟩⟩)
      · refine .inr (.inl ⟨rfl, by rw [← HLR.out, h]; rfl, by rw [HQ.out]; exact if_neg fun e => e.2 h⟩)
  have hz : (q ≤ 4611686018427387904 ∧ V = q ∧ E = 0 ∧ ¬ (0 : Int) < cmpZ q 4611686018427387904) ∨ (V = 0 ∧ E = 4 ∧ (0 : Int) < cmpZ q 4611686018427387904) := by
    unfold cmpZ
    rw [HV.out, HE.out]
    by_cases h : q ≤ 4611686018427387904
    · refine .inl ⟨h, if_pos h, if_pos h, ?_⟩
      split
      · omega
      · rw [if_neg (by omega)]; omega
    · refine .inr ⟨if_neg h, if_neg h, ?_⟩
      rw [if_neg (by omega), if_pos (by omega)]; omega
  have hd0 : q ≤ 4611686018427387904 → dgt 64 q 0 = q := by
    intro h
    unfold dgt
    rw [Nat.mul_zero, Nat.pow_zero, Nat.div_one]
    exact Nat.mod_eq_of_lt (by omega)
  clear HV HE HQ HLR hlR HOa HOu HOb HMu HDv hsa hsu hsb
  generalize hzz : cmpZ q 4611686018427387904 = z at *
  clear hzz
  have HZ := Lib.hid hz
  have HDD := Lib.hid hd0
  clear hz hd0
  generalize hlq : lg Q = lQ at *
  rcases hcase with ⟨rfl, hq⟩ | ⟨rfl, rfl, hq⟩ | ⟨rfl, hlp, hq⟩
  · have hq := hq.symm
    subst hq
    have HLQ := Lib.hid hlq
    clear hlq n8
    go_wp2_with fail
    rw [HLQ.out] at HCm HWo
    (with_reducible refine (HOm.out _).mono ?_); rintro e1 w10 ⟨p10, c10, rfl, n10, f⟩
    replace F := F.trans' f
    replace n7 := Us.fr n7 f
    clear f
    go_wp2_with fail
    (with_reducible refine (HCm.out _ _ _ _ _ n7 n10).mono ?_); rintro e1 w11 ⟨rfl, hw⟩; replace hw := hw.symm; subst hw
    rcases HZ.out with ⟨hqm, hvq, rfl, hz⟩ | ⟨rfl, rfl, hz⟩
    · subst hvq
      have hd := HDD.out hqm
      clear hqm
      go_wp2_with fail
      (with_reducible refine (HWo.out _ _ _ n7).mono ?_); rintro e1 w12 ⟨rfl, f⟩
      replace F := F.trans' f
      clear f n7 n10
      go_upto_region 14 with fail
      obtain ⟨W13, hW13⟩ : ∃ W, W = (w12.alloc (.cells (rowN .u64 64 4 0) 23)).setRow w12.heap.size (rowN .u64 64 4 V) := ⟨_, rfl⟩
      refine wp_of_world W13 hW13 ?_
      have N := put_new w12 (rowN .u64 64 4 0) (rowN .u64 64 4 V) 23
      rw [← hW13] at N
      have r := N.new
      have F := F.trans' N.fr
      clear N hW13
      generalize w12.heap.size = g12 at *
      go_wp2_with fail
      go_ret
      exact ⟨rfl, F⟩
    · go_wp2_with fail
      go_ret
      exact ⟨rfl, F⟩
  · have hq := hq.symm
    subst hq
    have HLQ := Lib.hid hlq
    clear hlq n8
    go_wp2_with fail
    rw [HLQ.out] at HCm HWo
    (with_reducible refine (HOm.out _).mono ?_); rintro e1 w10 ⟨p10, c10, rfl, n10, f⟩
    replace F := F.trans' f
    replace n7 := Us.fr n7 f
    clear f
    go_wp2_with fail
    (with_reducible refine (HCm.out _ _ _ _ _ n7 n10).mono ?_); rintro e1 w11 ⟨rfl, hw⟩; replace hw := hw.symm; subst hw
    rcases HZ.out with ⟨hqm, hvq, rfl, hz⟩ | ⟨rfl, rfl, hz⟩
    · subst hvq
      have hd := HDD.out hqm
      clear hqm
      go_wp2_with fail
      (with_reducible refine (HWo.out _ _ _ n7).mono ?_); rintro e1 w12 ⟨rfl, f⟩
      replace F := F.trans' f
      clear f n7 n10
      go_upto_region 14 with fail
      obtain ⟨W13, hW13⟩ : ∃ W, W = (w12.alloc (.cells (rowN .u64 64 4 0) 23)).setRow w12.heap.size (rowN .u64 64 4 V) := ⟨_, rfl⟩
      refine wp_of_world W13 hW13 ?_
      have N := put_new w12 (rowN .u64 64 4 0) (rowN .u64 64 4 V) 23
      rw [← hW13] at N
      have r := N.new
      have F := F.trans' N.fr
      clear N hW13
      generalize w12.heap.size = g12 at *
      go_wp2_with fail
      go_ret
      exact ⟨rfl, F⟩
    · go_wp2_with fail
      go_ret
      exact ⟨rfl, F⟩
  · have HLQ := Lib.hid hlq
    rw [← hq] at HAd
    have l4 : (0 : Int) < (lr : Int) := by omega
    clear hlq n8 hq hlp
    go_wp2_with fail
    have h8 := HAd.out p7 c7 _ 1 _ (n7.fr ((Fr.refl F0 w7).alloc (.cells #[.int .u64 ((1 : Nat) : Int)] 22))) (Us.of_new w7 1)
    rw [show ((1 : Nat) : Int) = 1 from rfl] at h8
    (with_reducible refine h8.mono ?_); rintro e1 w9 ⟨p9, c9, rfl, n9, f⟩
    replace F := F.trans' (((Fr.refl F0 w7).alloc _).trans' f)
    clear f h8 n7
    go_wp2_with fail
    have n7 := n9
    clear n9
    generalize hlq2 : lg q = lq2 at *
    replace HLQ := Lib.hid hlq2
    clear hlq2
    (with_reducible refine (HOm.out _).mono ?_); rintro e1 w10 ⟨p10, c10, rfl, n10, f⟩
    replace F := F.trans' f
    replace n7 := Us.fr n7 f
    clear f
    go_wp2_with fail
    (with_reducible refine (HCm.out _ _ _ _ _ n7 n10).mono ?_); rintro e1 w11 ⟨rfl, hw⟩; replace hw := hw.symm; subst hw
    rcases HZ.out with ⟨hqm, hvq, rfl, hz⟩ | ⟨rfl, rfl, hz⟩
    · subst hvq
      have hd := HDD.out hqm
      clear hqm
      go_wp2_with fail
      (with_reducible refine (HWo.out _ _ _ n7).mono ?_); rintro e1 w12 ⟨rfl, f⟩
      replace F := F.trans' f
      clear f n7 n10
      go_upto_region 14 with fail
      obtain ⟨W13, hW13⟩ : ∃ W, W = (w12.alloc (.cells (rowN .u64 64 4 0) 23)).setRow w12.heap.size (rowN .u64 64 4 V) := ⟨_, rfl⟩
      refine wp_of_world W13 hW13 ?_
      have N := put_new w12 (rowN .u64 64 4 0) (rowN .u64 64 4 V) 23
      rw [← hW13] at N
      have r := N.new
      have F := F.trans' N.fr
      clear N hW13
      generalize w12.heap.size = g12 at *
      go_wp2_with fail
      go_ret
      exact ⟨rfl, F⟩
    · go_wp2_with fail
      go_ret
      exact ⟨rfl, F⟩

theorem moneyParts_any (a up by' : Nat) (more : Bool) (ha : a < 18446744073709551616) (hup : up < 18446744073709551616) (hby : by' < 18446744073709551616) (w : World) :
    Calls Try.prog 6 #[.int .u64 (a : Int), .int .u64 (up : Int), .int .u64 (by' : Int), .bool more] w fun e w' => e = .returned (.bool true) ∧ Fr F0 w w' := by
  by_cases h1 : a ≤ 4611686018427387904
  · by_cases h2 : 0 < by'
    · exact moneyParts_val a up by' more h1 hup hby h2 w
    · exact moneyParts_zero a up by' more h1 hup (by omega) w
  · exact moneyParts_arg a up by' more h1 hup hby w
end Go.Proofs.Ytmebilpmhflahaa
