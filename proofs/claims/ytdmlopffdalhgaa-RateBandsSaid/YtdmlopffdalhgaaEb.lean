/- Layer 5 (rate): the document's N, Product, Divide. -/
import Derived.Test.YtdmlopffdalhgaaEa
import Derived.Test.YtdmlopffdalhgaaLg
namespace Go.Proofs.Ytdmlopffdalhgaa
set_option linter.unusedVariables false
set_option linter.unusedSimpArgs false
open Go.RowKit

theorem r5N_any (x : Nat) (hx : x < 18446744073709551616) (w : World) :
    Calls Try.prog 15 #[.int .u64 (x : Int)] w fun e w' => NN x w e w' := by
  have hbn := rowN_nil4 0
  have hs := set_first x hx
  have HO := Lib.hid (r3Of_any x (word_wide x (by omega)))
  clear hx
  go_enter Try.func15, Try.ntmps15
  go_wp2_with fail
  (with_reducible refine (HO.out _).mono ?_); rintro e w1 ⟨p1, c1, rfl, n1, f1⟩
  go_wp2_with fail
  go_ret
  exact ⟨_, _, rfl, n1, f1⟩

/-- A product, one by one. -/
def prd (l : List Nat) : Nat := l.foldl (· * ·) 1
theorem prd_succ (l : List Nat) (i : Nat) (h : i < l.length) : prd (l.take (i + 1)) = prd (l.take i) * l.getD i 0 := by
  unfold prd
  rw [List.take_add_one, List.getElem?_eq_getElem h]
  simp only [Option.toList_some, List.foldl_append, List.foldl_cons, List.foldl_nil, List.getD, List.getElem?_eq_getElem h, Option.getD_some]
theorem prd_lt (l : List Nat) (hx : ∀ x ∈ l, x < 18446744073709551616) (i : Nat) (h : i ≤ l.length) : prd (l.take i) < 2 ^ (64 * i) ∨ i = 0 := by
  induction i with
  | zero => exact .inr rfl
  | succ i ih =>
    left
    rw [prd_succ l i h]
    have h1 := hx _ (getD_mem h)
    rcases ih (by omega) with h2 | h2
    · have := Nat.mul_lt_mul'' h2 h1
      rw [show 64 * (i + 1) = 64 * i + 64 by omega, Nat.pow_add]
      exact this
    · subst h2
      simpa [prd] using h1
theorem lg_prd (l : List Nat) (hx : ∀ x ∈ l, x < 18446744073709551616) (hl : l.length ≤ 100) (i : Nat) (h : i ≤ l.length) : lg (prd (l.take i)) ≤ 1000 := by
  rcases prd_lt l hx i h with h2 | h2
  · have : lg (prd (l.take i)) ≤ 4 * i := lg_min (by rw [show 16 * (4 * i) = 64 * i by omega]; exact h2)
    omega
  · subst h2
    have : lg (prd (l.take 0)) ≤ 1 := lg_min (by simp [prd])
    omega

set_option maxRecDepth 100000 in
set_option maxHeartbeats 4000000 in
theorem r5Product_any (l : List Nat) (a : Option Addr) (n c : Nat) (hn : n = l.length) (hl : l.length ≤ 100) (hx : ∀ x ∈ l, x < 18446744073709551616) (P : Nat) (hP : prd l = P) (w : World) (h : Us w a c l) :
    Calls Try.prog 14 #[.slice a n c] w fun e w' => NN P w e w' := by
  have HX := Lib.hid h
  have HN := Lib.hid hn
  have HL := Lib.hid (lg_prd l hx hl)
  have HW := Lib.hid hx
  have HP := Lib.hid (show prd (l.take n) = P by rw [hn, List.take_length]; exact hP)
  have hl : n ≤ 100 := by omega
  have H1 := Lib.hid (fun w => show Calls Try.prog 15 #[.int .u64 1] w fun e w' => NN 1 w e w' from r5N_any 1 (by omega) w)
  clear h hn hx hP
  go_enter Try.func14, Try.ntmps14
  go_wp2_with fail
  (with_reducible refine (H1.out _).mono ?_); rintro e w1 ⟨p1, c1, rfl, n1, f1⟩
  go_wp2_with fail
  go_loopw [3, 9] (fun ov iv wr => ∃ i : Nat, i ≤ n ∧ iv = .int .i64 i ∧ (∃ a' c', ov = .slice a' (lg (prd (l.take i))) c' ∧ Ns wr a' c' (prd (l.take i))) ∧ Fr F0 w wr) (fun _ iv _ => n - (intOf iv).toNat)
  case atStart => exact ⟨0, by omega, rfl, ⟨_, _, rfl, n1⟩, f1⟩
  case round =>
    clear n1 f1
    obtain ⟨i, hi, rfl, ⟨a1, c1, rfl, n1⟩, hf⟩ := hrel
    by_cases h1 : i < n
    · have l1 : (i : Int) < (n : Int) := by omega
      have hil : i < l.length := by rw [← HN.out]; exact h1
      obtain ⟨b, off, ea, hc⟩ := (Us.fr HX.out hf).get i hil
      subst ea
      have hxw := HW.out _ (getD_mem hil)
      have HNx := Lib.hid (r5N_any _ hxw)
      have HM := Lib.hid (fun p2 c2 w h1 h2 => r3Mul_any (prd (l.take i)) (l.getD i 0) a1 c1 p2 c2 (Nat.le_trans (HL.out i (by omega)) (by omega)) (Nat.le_trans (lg_word (word_wide _ (by omega))) (by omega)) w h1 h2)
      rw [← prd_succ l i hil] at HM
      clear hxw hil
      generalize l.getD i 0 = x at *
      go_wp2_with fail
      (with_reducible refine (HNx.out _).mono ?_); rintro e w2 ⟨p2, c2, rfl, n2, f2⟩
      replace hf := hf.trans' f2
      replace n1 := Us.fr n1 f2
      clear f2 hc
      go_wp2_with fail
      (with_reducible refine (HM.out _ _ _ n1 n2).mono ?_); rintro e w3 ⟨p3, c3, rfl, n3, f3⟩
      replace hf := hf.trans' f3
      clear f3 n1 n2
      go_wp2_with fail
      go_roundw
      case rel => exact ⟨i + 1, h1, by go_num, ⟨_, _, rfl, n3⟩, hf⟩
      case measure => simp [intOf]; omega
    · have l1 : ¬ (i : Int) < (n : Int) := by omega
      obtain rfl : i = n := by omega
      rw [HP.out] at n1
      rw [HP.out]
      clear HP HL
      go_wp2_with fail
      go_ret
      exact ⟨_, _, rfl, n1, hf⟩

/-- A quotient, rounded as asked. -/
def rdQ (a b : Nat) (more : Bool) : Nat := if more = true ∧ a % b ≠ 0 then a / b + 1 else a / b

set_option maxRecDepth 100000 in
set_option maxHeartbeats 16000000 in
theorem r5Divide_any (a b : Nat) (more : Bool) (p1 : Option Addr) (c1 : Nat) (p2 : Option Addr) (c2 : Nat) (q V : Nat) (o : Bool) (hb : 0 < b) (ha : a + 1 < W256) (hbw : b < W256)
    (hq : rdQ a b more = q) (hV : (if q ≤ 4611686018427387904 then q else 0) = V) (ho : decide (q ≤ 4611686018427387904) = o) (w : World) (h1 : Ns w p1 c1 a) (h2 : Ns w p2 c2 b) :
    Calls Try.prog 13 #[.slice p1 (lg a) c1, .slice p2 (lg b) c2, .bool more] w fun e w' => e = .returned (.tuple #[.int .u64 (V : Int), .bool o]) ∧ Fr F0 w w' := by
  have hQ : a / b + 1 < W256 := Nat.lt_of_le_of_lt (Nat.add_le_add_right (Nat.div_le_self _ _) 1) ha
  have hR : a % b < W256 := Nat.lt_of_lt_of_le (Nat.mod_lt _ hb) (Nat.le_of_lt hbw)
  have hqw : q < W256 := by rw [← hq]; unfold rdQ; split <;> omega
  have hMw : 4611686018427387904 < W256 := word_wide _ (by omega)
  have HOm := Lib.hid (fun w => show Calls Try.prog 15 #[.int .u64 4611686018427387904] w fun e w' => NN 4611686018427387904 w e w' from r5N_any 4611686018427387904 (by omega) w)
  have HO1 := Lib.hid (fun w => show Calls Try.prog 15 #[.int .u64 1] w fun e w' => NN 1 w e w' from r5N_any 1 (by omega) w)
  have HDv := Lib.hid (fun p1 c1 p2 c2 w h1 h2 => r3Div_any a b p1 c1 p2 c2 hb (Nat.le_trans (lg_word (by omega)) (by omega)) (fun z hz => lg_small (z := z) (by
    have h2 : W256 * 2 ≤ W256 * W256 := Nat.mul_le_mul_left _ (show 2 ≤ 2 ^ 256 from Nat.pow_le_pow_right (n := 2) (i := 1) (by omega) (by omega))
    omega)) w h1 h2)
  have HAd := Lib.hid (fun p1 c1 p2 c2 w h1 h2 => r3Add_any (a / b) 1 p1 c1 p2 c2 (Nat.le_trans (lg_word (z := a / b) (by omega)) (by omega)) (by rw [lg_one]; omega) w h1 h2)
  have HCm := Lib.hid (fun p1 c1 p2 c2 w h1 h2 => r3Cmp_any q 4611686018427387904 p1 c1 p2 c2 (Nat.le_trans (lg_word hqw) (by omega)) (Nat.le_trans (lg_word hMw) (by omega)) w h1 h2)
  have HWo := Lib.hid (fun p1 c1 w h1 => r3Words_any q p1 c1 (Nat.le_trans (lg_word hqw) (by omega)) w h1)
  rw [Nat.mod_eq_of_lt hqw, decide_eq_false (Nat.not_le.2 hqw)] at HWo
  have hlR : (0 < lg (a % b)) ∨ a % b = 0 := by
    by_cases h : a % b = 0
    · exact .inr h
    · exact .inl (lg_pos h)
  have hcase : (more = false ∧ q = a / b) ∨ (more = true ∧ lg (a % b) = 0 ∧ q = a / b) ∨ (more = true ∧ 0 < lg (a % b) ∧ q = a / b + 1) := by
    unfold rdQ at hq
    rcases hlR with h | h
    · have hne : a % b ≠ 0 := fun e => by rw [e, lg_zero] at h; omega
      cases more
      · exact .inl ⟨rfl, by rw [← hq]; exact if_neg fun h => by cases h.1⟩
      · exact .inr (.inr ⟨rfl, h, by rw [← hq]; exact if_pos ⟨rfl, hne⟩⟩)
    · cases more
      · exact .inl ⟨rfl, by rw [← hq]; exact if_neg fun h => by cases h.1⟩
      · exact .inr (.inl ⟨rfl, by rw [h]; rfl, by rw [← hq]; exact if_neg fun e => e.2 h⟩)
  have hz : (q ≤ 4611686018427387904 ∧ V = q ∧ o = true ∧ ¬ (0 : Int) < cmpZ q 4611686018427387904 ∧ dgt 64 q 0 = q) ∨ (V = 0 ∧ o = false ∧ (0 : Int) < cmpZ q 4611686018427387904) := by
    unfold cmpZ
    rw [← hV, ← ho]
    by_cases h : q ≤ 4611686018427387904
    · refine .inl ⟨h, if_pos h, decide_eq_true h, ?_, ?_⟩
      · split
        · omega
        · rw [if_neg (by omega)]; omega
      · unfold dgt
        rw [Nat.mul_zero, Nat.pow_zero, Nat.div_one]
        exact Nat.mod_eq_of_lt (by omega)
    · refine .inr ⟨if_neg h, decide_eq_false h, ?_⟩
      rw [if_neg (by omega), if_pos (by omega)]; omega
  have N1 := Lib.hid h1
  have N2 := Lib.hid h2
  clear hQ hR hqw hMw ha hb hbw hq hV ho hlR h1 h2
  generalize cmpZ q 4611686018427387904 = z at *
  generalize hlr : lg (a % b) = lr at *
  have HLR := Lib.hid hlr
  clear hlr
  generalize a % b = R at *
  generalize a / b = Q at *
  generalize hlq : lg Q = lQ at *
  have HLQ := Lib.hid hlq
  have HZ := Lib.hid hz
  clear hlq hz
  go_enter Try.func13, Try.ntmps13
  go_wp2_with fail
  (with_reducible refine (HDv.out _ _ _ _ _ N1.out N2.out).mono ?_); rintro e1 w1 ⟨p3, c3, p4, c4, rfl, n3, n4, F⟩
  clear n4
  rcases hcase with ⟨rfl, hq⟩ | ⟨rfl, hl0, hq⟩ | ⟨rfl, hl0, hq⟩
  · have hq := hq.symm
    subst hq
    have e := HLQ.out
    go_wp2_with fail
    (with_reducible refine (HOm.out _).mono ?_); rintro e1 w2 ⟨p5, c5, rfl, n5, f⟩
    replace F := F.trans' f
    replace n3 := Us.fr n3 f
    clear f
    rw [e] at HCm HWo
    clear e
    go_wp2_with fail
    (with_reducible refine (HCm.out _ _ _ _ _ n3 n5).mono ?_); rintro e1 w11 ⟨rfl, hw⟩; replace hw := hw.symm; subst hw
    clear n5
    rcases HZ.out with ⟨hqm, rfl, rfl, hz, hd⟩ | ⟨rfl, rfl, hz⟩
    · clear hqm
      go_wp2_with fail
      (with_reducible refine (HWo.out _ _ _ n3).mono ?_); rintro e1 w12 ⟨rfl, f⟩
      replace F := F.trans' f
      clear f n3
      go_wp2_with fail
      go_ret2
      exact ⟨rfl, (F.alloc _).setRow (fun h => by have := F.size; omega) _⟩
    · go_wp2_with fail
      go_ret2
      exact ⟨rfl, F⟩
  · have hq := hq.symm
    subst hq
    subst hl0
    have e := HLQ.out
    go_wp2_with fail
    (with_reducible refine (HOm.out _).mono ?_); rintro e1 w2 ⟨p5, c5, rfl, n5, f⟩
    replace F := F.trans' f
    replace n3 := Us.fr n3 f
    clear f
    rw [e] at HCm HWo
    clear e
    go_wp2_with fail
    (with_reducible refine (HCm.out _ _ _ _ _ n3 n5).mono ?_); rintro e1 w11 ⟨rfl, hw⟩; replace hw := hw.symm; subst hw
    clear n5
    rcases HZ.out with ⟨hqm, rfl, rfl, hz, hd⟩ | ⟨rfl, rfl, hz⟩
    · clear hqm
      go_wp2_with fail
      (with_reducible refine (HWo.out _ _ _ n3).mono ?_); rintro e1 w12 ⟨rfl, f⟩
      replace F := F.trans' f
      clear f n3
      go_wp2_with fail
      go_ret2
      exact ⟨rfl, (F.alloc _).setRow (fun h => by have := F.size; omega) _⟩
    · go_wp2_with fail
      go_ret2
      exact ⟨rfl, F⟩
  · have l4 : (0 : Int) < (lr : Int) := by omega
    rw [← hq] at HAd
    clear hl0 hq
    go_wp2_with fail
    (with_reducible refine (HO1.out _).mono ?_); rintro e1 w9 ⟨p9, c9, rfl, n9, f⟩
    replace F := F.trans' f
    replace n3 := Us.fr n3 f
    clear f
    go_wp2_with fail
    (with_reducible refine (HAd.out _ _ _ _ _ n3 n9).mono ?_); rintro e1 w10 ⟨p3, c3, rfl, n3, f⟩
    replace F := F.trans' f
    clear f n9
    go_wp2_with fail
    (with_reducible refine (HOm.out _).mono ?_); rintro e1 w2 ⟨p5, c5, rfl, n5, f⟩
    replace F := F.trans' f
    replace n3 := Us.fr n3 f
    clear f
    go_wp2_with fail
    (with_reducible refine (HCm.out _ _ _ _ _ n3 n5).mono ?_); rintro e1 w11 ⟨rfl, hw⟩; replace hw := hw.symm; subst hw
    clear n5
    rcases HZ.out with ⟨hqm, rfl, rfl, hz, hd⟩ | ⟨rfl, rfl, hz⟩
    · clear hqm
      go_wp2_with fail
      (with_reducible refine (HWo.out _ _ _ n3).mono ?_); rintro e1 w12 ⟨rfl, f⟩
      replace F := F.trans' f
      clear f n3
      go_wp2_with fail
      go_ret2
      exact ⟨rfl, (F.alloc _).setRow (fun h => by have := F.size; omega) _⟩
    · go_wp2_with fail
      go_ret2
      exact ⟨rfl, F⟩
end Go.Proofs.Ytdmlopffdalhgaa
