/- Layer 5 (rate): what is right; the document's Right, N and Product. -/
import Derived.Test.YtdmlopffdalhgaaMc
import Derived.Test.YtdmlopffdalhgaaRv
import Derived.Test.YtdmlopffdalhgaaRw
namespace Go.Proofs.Ytdmlopffdalhgaa
set_option linter.unusedVariables false
set_option linter.unusedSimpArgs false
open Go.RowKit

theorem ePright_any (p : Nat) (o : Bool) (ho : decide (1 ≤ p ∧ p ≤ 1099511627776) = o) (w : World) :
    Calls Try.prog 12 #[.int .u64 (p : Int)] w fun e w' => e = .returned (.bool o) ∧ w' = w := by
  by_cases h1 : 1 ≤ p
  · by_cases h2 : p ≤ 1099511627776
    · have l1 : (1 : Int) ≤ (p : Int) := by omega
      have l2 : (p : Int) ≤ 1099511627776 := by omega
      obtain rfl : true = o := by rw [← ho]; exact (decide_eq_true ⟨h1, h2⟩).symm
      clear ho h1 h2
      go_enter Try.func12, Try.ntmps12
      go_wp2
      go_ret
      exact ⟨rfl, rfl⟩
    · have l1 : (1 : Int) ≤ (p : Int) := by omega
      have l2 : ¬ (p : Int) ≤ 1099511627776 := by omega
      obtain rfl : false = o := by rw [← ho]; exact (decide_eq_false fun h => h2 h.2).symm
      clear ho h1 h2
      go_enter Try.func12, Try.ntmps12
      go_wp2
      go_ret
      exact ⟨rfl, rfl⟩
  · have l1 : ¬ (1 : Int) ≤ (p : Int) := by omega
    obtain rfl : false = o := by rw [← ho]; exact (decide_eq_false fun h => h1 h.1).symm
    clear ho h1
    go_enter Try.func12, Try.ntmps12
    go_wp2
    go_ret
    exact ⟨rfl, rfl⟩

theorem ethreshold_any (p : Nat) (o : Bool) (ho : decide (1 ≤ p ∧ p ≤ 1000000) = o) (w : World) :
    Calls Try.prog 30 #[.int .u64 (p : Int)] w fun e w' => e = .returned (.bool o) ∧ w' = w := by
  by_cases h1 : 1 ≤ p
  · by_cases h2 : p ≤ 1000000
    · have l1 : (1 : Int) ≤ (p : Int) := by omega
      have l2 : (p : Int) ≤ 1000000 := by omega
      obtain rfl : true = o := by rw [← ho]; exact (decide_eq_true ⟨h1, h2⟩).symm
      clear ho h1 h2
      go_enter Try.func30, Try.ntmps30
      go_wp2
      go_ret
      exact ⟨rfl, rfl⟩
    · have l1 : (1 : Int) ≤ (p : Int) := by omega
      have l2 : ¬ (p : Int) ≤ 1000000 := by omega
      obtain rfl : false = o := by rw [← ho]; exact (decide_eq_false fun h => h2 h.2).symm
      clear ho h1 h2
      go_enter Try.func30, Try.ntmps30
      go_wp2
      go_ret
      exact ⟨rfl, rfl⟩
  · have l1 : ¬ (1 : Int) ≤ (p : Int) := by omega
    obtain rfl : false = o := by rw [← ho]; exact (decide_eq_false fun h => h1 h.1).symm
    clear ho h1
    go_enter Try.func30, Try.ntmps30
    go_wp2
    go_ret
    exact ⟨rfl, rfl⟩

theorem asked_room {p t : Nat} (hp : p ≤ 1099511627776) (ht : t ≤ 1000000) : p * t ≤ 1099511627776000000 := Nat.mul_le_mul hp ht

theorem easked_any (p t : Nat) (hp : p ≤ 1099511627776) (ht : t ≤ 1000000) (w : World) :
    Calls Try.prog 33 #[.int .u64 (p : Int), .int .u64 (t : Int)] w fun e w' => e = .returned (.int .u64 ((p * t : Nat) : Int)) ∧ w' = w := by
  have hr := asked_room hp ht
  have m : IntKind.u64.wrap ((p : Int) * (t : Int)) = ((p * t : Nat) : Int) := by rw [IntWalk.u64_in _ (by rw [← Int.natCast_mul]; omega), Int.natCast_mul]
  generalize p * t = s at *
  clear hp ht hr
  go_enter Try.func33, Try.ntmps33
  go_wp2
  go_ret
  exact ⟨rfl, rfl⟩

theorem all_take {l : List Nat} {M i : Nat} (h : ∀ j, j < i → l.getD j 0 ≤ M) (hi : l.length ≤ i) : ∀ x ∈ l, x ≤ M := by
  intro x hx
  obtain ⟨j, hj, rfl⟩ := List.getElem_of_mem hx
  have := h j (by omega)
  simpa [List.getD, hj] using this
theorem getD_mem {l : List Nat} {j : Nat} (h : j < l.length) : l.getD j 0 ∈ l := by
  simp [List.getD, h]

set_option maxHeartbeats 2000000 in
theorem eright_any (p : Nat) (l : List Nat) (a : Option Addr) (n c : Nat) (hn : n = l.length) (hl : l.length ≤ 100) (o : Bool) (ho : decide ((1 ≤ p ∧ p ≤ 1099511627776) ∧ ∀ x ∈ l, x ≤ 4611686018427387904) = o) (w : World) (h : Us w a c l) :
    Calls Try.prog 22 #[.int .u64 (p : Int), .slice a n c] w fun e w' => e = .returned (.bool o) ∧ w' = w := by
  have HX := Lib.hid h
  have HO := Lib.hid ho
  have HN := Lib.hid hn
  have hl : n ≤ 100 := by omega
  clear h ho hn
  go_enter Try.func22, Try.ntmps22
  go_wp2_with fail
  go_loopw [9] (fun iv wr => wr = w ∧ ∃ i : Nat, i ≤ n ∧ iv = .int .i64 i ∧ ∀ j, j < i → l.getD j 0 ≤ 4611686018427387904) (fun iv _ => n - (intOf iv).toNat)
  case atStart => exact ⟨rfl, 0, by omega, rfl, fun j h => by omega⟩
  case round =>
    obtain ⟨rfl, i, hi, rfl, hall⟩ := hrel
    by_cases h1 : i < n
    · have l1 : (i : Int) < (n : Int) := by omega
      obtain ⟨b, off, ea, hc⟩ := HX.out.get i (by rw [← HN.out]; exact h1)
      subst ea
      by_cases hx : l.getD i 0 ≤ 4611686018427387904
      · have HA := Lib.hid (aRight_any (l.getD i 0) true (decide_eq_true hx))
        have HI := Lib.hid (show ∀ j, j < i + 1 → l.getD j 0 ≤ 4611686018427387904 from fun j hj => by
          rcases Nat.lt_or_ge j i with h | h
          · exact hall j h
          · obtain rfl : j = i := by omega
            exact hx)
        clear hall hx
        generalize l.getD i 0 = x at *
        go_wp2_with fail
        (with_reducible refine (HA.out _).mono ?_); rintro e w1 ⟨rfl, hw⟩; replace hw := hw.symm; subst hw
        go_wp2_with fail
        go_roundw
        case rel => exact ⟨trivial, i + 1, h1, by go_num, HI.out⟩
        case measure => simp [intOf]; omega
      · have HA := Lib.hid (aRight_any (l.getD i 0) false (decide_eq_false hx))
        have HF := Lib.hid (show o = false by
          rw [← HO.out]
          exact decide_eq_false fun h => hx (h.2 _ (getD_mem (by rw [← HN.out]; exact h1))))
        clear hall hx
        generalize l.getD i 0 = x at *
        go_wp2_with fail
        (with_reducible refine (HA.out _).mono ?_); rintro e w1 ⟨rfl, hw⟩; replace hw := hw.symm; subst hw
        go_wp2_with fail
        go_ret
        exact ⟨by rw [HF.out]; rfl, rfl⟩
    · have l1 : ¬ (i : Int) < (n : Int) := by omega
      have HA := Lib.hid (ePright_any p o (by
        rw [← HO.out]
        have := all_take hall (by rw [← HN.out]; omega)
        exact decide_eq_decide.2 ⟨fun h => ⟨h, this⟩, fun h => h.1⟩))
      clear hall
      go_wp2_with fail
      (with_reducible refine (HA.out _).mono ?_); rintro e w1 ⟨rfl, hw⟩; replace hw := hw.symm; subst hw
      go_wp2_with fail
      go_ret
      exact ⟨rfl, rfl⟩

set_option maxHeartbeats 2000000 in
theorem r5Right_any (p t : Nat) (l : List Nat) (a : Option Addr) (n c : Nat) (hn : n = l.length) (hl : l.length ≤ 100) (o : Bool) (ho : decide (((1 ≤ p ∧ p ≤ 1099511627776) ∧ (1 ≤ t ∧ t ≤ 1000000)) ∧ ∀ x ∈ l, x ≤ 4611686018427387904) = o) (w : World) (h : Us w a c l) :
    Calls Try.prog 8 #[.int .u64 (p : Int), .int .u64 (t : Int), .slice a n c] w fun e w' => e = .returned (.bool o) ∧ w' = w := by
  have HX := Lib.hid h
  have HO := Lib.hid ho
  have HN := Lib.hid hn
  have hl : n ≤ 100 := by omega
  clear h ho hn
  go_enter Try.func8, Try.ntmps8
  go_wp2_with fail
  go_loopw [11] (fun iv wr => wr = w ∧ ∃ i : Nat, i ≤ n ∧ iv = .int .i64 i ∧ ∀ j, j < i → l.getD j 0 ≤ 4611686018427387904) (fun iv _ => n - (intOf iv).toNat)
  case atStart => exact ⟨rfl, 0, by omega, rfl, fun j h => by omega⟩
  case round =>
    obtain ⟨rfl, i, hi, rfl, hall⟩ := hrel
    by_cases h1 : i < n
    · have l1 : (i : Int) < (n : Int) := by omega
      obtain ⟨b, off, ea, hc⟩ := HX.out.get i (by rw [← HN.out]; exact h1)
      subst ea
      by_cases hx : l.getD i 0 ≤ 4611686018427387904
      · have HI := Lib.hid (show ∀ j, j < i + 1 → l.getD j 0 ≤ 4611686018427387904 from fun j hj => by
          rcases Nat.lt_or_ge j i with h | h
          · exact hall j h
          · obtain rfl : j = i := by omega
            exact hx)
        have l2 : ¬ (4611686018427387904 : Int) < ((l.getD i 0 : Nat) : Int) := by omega
        clear hall hx
        generalize l.getD i 0 = x at *
        go_wp2_with fail
        go_roundw
        case rel => exact ⟨trivial, i + 1, h1, by go_num, HI.out⟩
        case measure => simp [intOf]; omega
      · have HF := Lib.hid (show o = false by
          rw [← HO.out]
          exact decide_eq_false fun h => hx (h.2 _ (getD_mem (by rw [← HN.out]; exact h1))))
        have l2 : (4611686018427387904 : Int) < ((l.getD i 0 : Nat) : Int) := by omega
        clear hall hx
        generalize l.getD i 0 = x at *
        go_wp2_with fail
        go_ret
        exact ⟨by rw [HF.out]; rfl, rfl⟩
    · have l1 : ¬ (i : Int) < (n : Int) := by omega
      have hA := all_take hall (by rw [← HN.out]; omega)
      have HE := Lib.hid (show o = decide ((1 ≤ p ∧ p ≤ 1099511627776) ∧ (1 ≤ t ∧ t ≤ 1000000)) by
        rw [← HO.out]
        exact decide_eq_decide.2 ⟨fun h => h.1, fun h => ⟨h, hA⟩⟩)
      clear hall hA
      have hcase : (¬ 1 ≤ p ∧ o = false) ∨ (1 ≤ p ∧ ¬ p ≤ 1099511627776 ∧ o = false) ∨ (1 ≤ p ∧ p ≤ 1099511627776 ∧ ¬ 1 ≤ t ∧ o = false) ∨ (1 ≤ p ∧ p ≤ 1099511627776 ∧ 1 ≤ t ∧ ¬ t ≤ 1000000 ∧ o = false) ∨ (1 ≤ p ∧ p ≤ 1099511627776 ∧ 1 ≤ t ∧ t ≤ 1000000 ∧ o = true) := by
        rw [HE.out, decide_eq_false_iff_not, decide_eq_true_iff]
        omega
      clear HE HO
      rcases hcase with ⟨h1, rfl⟩ | ⟨h1, h2, rfl⟩ | ⟨h1, h2, h3, rfl⟩ | ⟨h1, h2, h3, h4, rfl⟩ | ⟨h1, h2, h3, h4, rfl⟩
      · have l1 : ¬ (1 : Int) ≤ (p : Int) := by omega
        clear h1
        go_wp2_with fail
        go_ret
        exact ⟨rfl, rfl⟩
      · have l1 : (1 : Int) ≤ (p : Int) := by omega
        have l2 : ¬ (p : Int) ≤ 1099511627776 := by omega
        clear h1 h2
        go_wp2_with fail
        go_ret
        exact ⟨rfl, rfl⟩
      · have l1 : (1 : Int) ≤ (p : Int) := by omega
        have l2 : (p : Int) ≤ 1099511627776 := by omega
        have l3 : ¬ (1 : Int) ≤ (t : Int) := by omega
        clear h1 h2 h3
        go_wp2_with fail
        go_ret
        exact ⟨rfl, rfl⟩
      · have l1 : (1 : Int) ≤ (p : Int) := by omega
        have l2 : (p : Int) ≤ 1099511627776 := by omega
        have l3 : (1 : Int) ≤ (t : Int) := by omega
        have l4 : ¬ (t : Int) ≤ 1000000 := by omega
        clear h1 h2 h3 h4
        go_wp2_with fail
        go_ret
        exact ⟨rfl, rfl⟩
      · have l1 : (1 : Int) ≤ (p : Int) := by omega
        have l2 : (p : Int) ≤ 1099511627776 := by omega
        have l3 : (1 : Int) ≤ (t : Int) := by omega
        have l4 : (t : Int) ≤ 1000000 := by omega
        clear h1 h2 h3 h4
        go_wp2_with fail
        go_ret
        exact ⟨rfl, rfl⟩
end Go.Proofs.Ytdmlopffdalhgaa
