/- The document's answer 03 (wide): the walk of Of. -/
import Derived.Test.YtgdnmmobnfjegaaRb
namespace Go.Proofs.Ytgdnmmobnfjegaa
set_option linter.unusedVariables false
set_option linter.unusedSimpArgs false
open Go.RowKit

theorem dgt_word (x i j : Nat) (hj : j < 4) : dgt 64 x i / 2 ^ (16 * j) % 65536 = dgt 16 x (4 * i + j) := by
  have e1 : 2 ^ (16 * (4 * i + j)) = 2 ^ (64 * i) * 2 ^ (16 * j) := by rw [← Nat.pow_add]; congr 1; omega
  have e2 : 2 ^ 64 = 2 ^ (16 * j) * (2 ^ 16 * 2 ^ (16 * (3 - j))) := by rw [← Nat.pow_add, ← Nat.pow_add]; congr 1; omega
  unfold dgt
  rw [e1, ← Nat.div_div_eq_div_mul, e2, Nat.mod_mul_right_div_self, show (65536 : Nat) = 2 ^ 16 from rfl, Nat.mod_mul_right_mod]

theorem Row.nil2 (w : World) (O : Obj) : Row w [] (.slice (some ⟨w.heap.size + 1, 0, none⟩) 0 0) ((w.alloc O).alloc (.cells #[] 22)) := by
  refine ⟨_, _, rfl, ?_, fun g e => by cases e; exact Nat.le_succ _⟩
  have : OwnU ((w.alloc O).alloc (.cells #[] 22)) (.slice (some ⟨(w.alloc O).heap.size, 0, none⟩) 0 0) [] := World.ownsRow_made (w.alloc O) #[] 0 (Nat.zero_le _) (Nat.zero_le _) rfl
  rw [World.size_alloc] at this
  exact this

set_option maxRecDepth 100000 in
set_option maxHeartbeats 8000000 in
theorem r3Of_any (x : Nat) (hx : x < W256) (w : World) :
    Calls Try.prog 17 #[.agg (rowN .u64 64 4 x)] w fun e w' => NN x w e w' := by
  have HX := Lib.hid (show x < pw 16 from hx)
  clear hx
  go_enter Try.func17, Try.ntmps17
  go_wp2_with fail
  go_loopw [3, 9] (fun v iv wr => ∃ i : Nat, i ≤ 4 ∧ iv = .int .i64 i ∧ Row w (ds (4 * i) x) v wr ∧ Fr F0 w wr) (fun _ iv _ => 4 - (intOf iv).toNat)
  case atStart => exact ⟨0, by omega, rfl, Row.nil2 w _, ((Fr.refl F0 w).alloc _).alloc _⟩
  case round =>
    obtain ⟨i, hi, rfl, ⟨a, c, rfl, hown, hblk⟩, hf⟩ := hrel
    rw [ds_length] at hown ⊢
    have HB := Lib.hid hblk
    have HF := Lib.hid hf
    by_cases h1 : i < 4
    · have l1 : (i : Int) < 4 := by omega
      have HO := Lib.hid hown
      clear hblk hf hown
      go_wp2_with fail
      go_loopw [3, 6] (fun v jv w2 => ∃ j : Nat, j ≤ 4 ∧ jv = .int .i64 j ∧ Row w (ds (4 * i + j) x) v w2 ∧ Fr F0 w w2) (fun _ jv _ => 4 - (intOf jv).toNat)
      case atStart => exact ⟨0, by omega, rfl, ⟨a, c, by rw [ds_length]; rfl, by rw [ds_length]; exact HO.out, HB.out⟩, HF.out⟩
      case round =>
        obtain ⟨j, hj, rfl, ⟨a, c, rfl, hown, hblk⟩, hf⟩ := hrel
        rw [ds_length] at hown ⊢
        have HB2 := Lib.hid hblk
        have HF2 := Lib.hid hf
        clear hblk hf
        by_cases h2 : j < 4
        · have l2 : (j : Int) < 4 := by omega
          have hd := dgt_word x i j h2
          have hdl : dgt 64 x i < 2 ^ 64 := dgt_lt 64 x i
          generalize dgt 64 x i = D at *
          obtain ⟨q, hq⟩ : ∃ q, D / 2 ^ (16 * j) = q := ⟨_, rfl⟩
          obtain ⟨r, hr⟩ : ∃ r, q % 65536 = r := ⟨_, rfl⟩
          have mq : (D : Int) / 2 ^ (16 * j) = (q : Int) := by rw [← hq]; simp
          have mr : (q : Int) % 65536 = (r : Int) := by omega
          rw [hq, hr] at hd
          have HD := Lib.hid hd
          clear hd hq hr hdl
          go_wp2_with (first | (at_builtin; refine wpList_appN rfl _ _ rfl _ (ds (4 * i + j) x) rfl (hown.fr ((Fr.refl F0 wr).alloc _) (fun _ _ f => f)) _ _ _ [r] rfl (Us.of_new wr r) rfl (by rw [ds_length]; simp; omega) ?_; intro a3 c3 w3 ho hg hb) | fail)
          go_roundw
          case rel =>
            rw [ds_length] at *
            refine ⟨j + 1, by omega, by go_num, ?_, Row.frame HB2.out HF2.out hg⟩
            rw [← Nat.add_assoc, ds_succ, ← HD.out]
            have := Row.app (l := ds (4 * i + j) x) HB2.out HF2.out (by rw [ds_length]; exact ho) hb
            rwa [ds_length] at this
          case measure => simp [intOf]; omega
        · have l2 : ¬ (j : Int) < 4 := by omega
          obtain rfl : j = 4 := by omega
          go_wp2_with fail
          go_roundw
          case rel => exact ⟨i + 1, by omega, by go_num, ⟨a, c, by rw [ds_length]; rfl, by rw [ds_length]; exact hown, HB2.out⟩, HF2.out⟩
          case measure => simp [intOf]; omega
    · have l1 : ¬ (i : Int) < 4 := by omega
      obtain rfl : i = 4 := by omega
      have HQ3 := Lib.hid (trim_any 16 x a c HX.out (by omega) wr hown.us.2)
      go_wp2_with ((with_reducible refine HQ3.out.mono ?_); rintro e w' ⟨⟨a5, c5, rfl, hn⟩, hw⟩; have hw := hw.symm; subst hw)
      go_ret
      exact ⟨a5, c5, rfl, hn, HF.out⟩
end Go.Proofs.Ytgdnmmobnfjegaa
