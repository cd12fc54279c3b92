/- Layer 4's law MoneyTotals, walked. -/
import Derived.Test.YtmebilpmhflahaaTb
namespace Go.Proofs.Ytmebilpmhflahaa
set_option linter.unusedVariables false
set_option linter.unusedSimpArgs false
open Go.RowKit Go.Shelf

theorem adE_big {s x : Nat} (h : ¬ x ≤ 4611686018427387904) : adE s x = 1 := if_neg fun h1 => h h1.2
theorem adE_over {s x : Nat} (hs : s ≤ 4611686018427387904) (hx : x ≤ 4611686018427387904) (h : ¬ s + x ≤ 4611686018427387904) : adE s x = 4 := by
  unfold adE
  rw [if_pos ⟨hs, hx⟩, if_neg h]
theorem adE_fine {s x : Nat} (hs : s ≤ 4611686018427387904) (hx : x ≤ 4611686018427387904) (h : s + x ≤ 4611686018427387904) : adE s x = 0 := by
  unfold adE
  rw [if_pos ⟨hs, hx⟩, if_pos h]

theorem moneyTotals_long (a : Option Addr) (n c : Nat) (hn : ¬ n ≤ 100) (w : World) :
    Calls Try.prog 7 #[.slice a n c] w fun e w' => e = .returned (.bool true) ∧ Fr F0 w w' := by
  have HL := Lib.hid lives04_any
  have l1 : (100 : Int) < (n : Int) := by omega
  clear hn
  go_enter Try.func7, Try.ntmps7
  go_wp2_with fail
  (with_reducible refine (HL.out _).mono ?_); rintro e w1 ⟨rfl, f1⟩
  go_wp2_with fail
  (with_reducible refine (HL.out _).mono ?_); rintro e w2 ⟨rfl, f2⟩
  go_wp2_with fail
  go_ret
  exact ⟨rfl, f1.trans' f2⟩

set_option maxRecDepth 100000 in
set_option maxHeartbeats 8000000 in
theorem moneyTotals_any (l : List Nat) (hl : ∀ x ∈ l, x < 18446744073709551616) (hn : l.length ≤ 100) (a : Option Addr) (c : Nat) (w : World) (hu : Us w a c l) :
    Calls Try.prog 7 #[.slice a l.length c] w fun e w' => e = .returned (.bool true) ∧ Fr F0 w w' := by
  have HL := Lib.hid lives04_any
  have HT := Lib.hid (fun Bx w h1 h2 => mTotal_any l hl (by omega) Bx a c w h1 h2)
  have HE := Lib.hid (fun w => each04_any a l.length c w)
  have l1 : ¬ (100 : Int) < (l.length : Int) := by omega
  have HX := Lib.hid (And.intro hl hn)
  clear hn hl
  obtain ⟨V, hV⟩ : ∃ V, V = toV 0 l := ⟨_, rfl⟩
  obtain ⟨E, hE⟩ : ∃ E, E = toE 0 l := ⟨_, rfl⟩
  rw [← hV, ← hE] at HT
  have HVE := Lib.hid (And.intro hV hE)
  clear hV hE
  obtain ⟨n, hn⟩ : ∃ n, n = l.length := ⟨_, rfl⟩
  rw [← hn] at HT HE l1 ⊢
  have HN := Lib.hid hn
  clear hn
  go_enter Try.func7, Try.ntmps7
  go_wp2_with fail
  (with_reducible refine (HL.out _).mono ?_); rintro e w1 ⟨rfl, f1⟩
  go_wp2_with fail
  (with_reducible refine (HE.out _).mono ?_); rintro e w2 ⟨rfl, hw2⟩
  have f2 : Fr F0 w w2 := by rw [hw2]; exact f1.alloc _
  have hb := heap_alloc_new w1 (.cells #[.slice a n c] 57)
  rw [← hw2] at hb
  clear hw2
  go_wp2_with fail
  (with_reducible refine (HT.out _ _ hb (hu.fr f2)).mono ?_); rintro e w3 ⟨rfl, f3⟩
  have F := f2.trans' f3
  replace hu := hu.fr F
  clear hb f1 f2 f3 HT HE HL
  go_wp2_with fail
  go_loopw [5, 24] (fun sv iv wr => wr = w3 ∧ ∃ k s : Nat, k ≤ n ∧ iv = .int .i64 (k : Int) ∧ sv = .int .u64 (s : Int) ∧ s ≤ 4611686018427387904 ∧ V = toV s (l.drop k) ∧ E = toE s (l.drop k)) (fun _ iv _ => n - (intOf iv).toNat)
  case atStart => exact ⟨rfl, 0, 0, by omega, rfl, rfl, by omega, HVE.out.1, HVE.out.2⟩
  case round =>
    obtain ⟨rfl, k, s, hk, rfl, rfl, hs, hV, hE⟩ := hrel
    by_cases hlt : k < n
    · have hlt' : k < l.length := by have := HN.out; omega
      obtain ⟨b, off, rfl, hc⟩ := hu.get k hlt'
      have hx : l.getD k 0 < 18446744073709551616 := HX.out.1 _ (by rw [show l.getD k 0 = l[k] by simp [List.getD, List.getElem?_eq_getElem hlt']]; exact List.getElem_mem _)
      have hd : l.drop k = l.getD k 0 :: l.drop (k + 1) := by rw [List.drop_eq_getElem_cons hlt']; simp [List.getD, List.getElem?_eq_getElem hlt']
      rw [hd, toV_cons] at hV
      rw [hd, toE_cons] at hE
      have hroom := hu.room
      rw [← HN.out] at hroom
      have l2 : (k : Int) < (n : Int) := by omega
      generalize l.getD k 0 = x at *
      have HU := Lib.hid hu
      clear hu hd hlt'
      by_cases h1 : x ≤ 4611686018427387904
      · have l3 : ¬ (4611686018427387904 : Int) < (x : Int) := by omega
        have hw1 : IntKind.u64.wrap (4611686018427387904 - (x : Int)) = 4611686018427387904 - (x : Int) := by rw [IntWalk.u64_in _ (by omega)]
        by_cases h2 : s + x ≤ 4611686018427387904
        · have l4 : ¬ (4611686018427387904 : Int) - (x : Int) < (s : Int) := by omega
          have hw2 : IntKind.u64.wrap ((s : Int) + (x : Int)) = ((s + x : Nat) : Int) := by rw [IntWalk.u64_in _ (by omega)]; omega
          rw [if_pos (adE_fine hs h1 h2)] at hV hE
          have HV := Lib.hid (And.intro h2 (And.intro hV hE))
          clear hV hE h1 h2 hx hs
          go_wp2_with fail
          go_roundw
          case rel => exact ⟨trivial, k + 1, s + x, by omega, by go_num, rfl, HV.out.1, HV.out.2.1, HV.out.2.2⟩
          case measure => simp [intOf]; omega
        · have l4 : (4611686018427387904 : Int) - (x : Int) < (s : Int) := by omega
          have he := adE_over hs h1 h2
          rw [he] at hV hE
          rw [if_neg (by omega)] at hV hE
          subst hV hE
          clear h1 h2 hx hs he
          go_wp2_with fail
          go_ret
          exact ⟨rfl, F⟩
      · have l3 : (4611686018427387904 : Int) < (x : Int) := by omega
        have he := adE_big (s := s) h1
        rw [he] at hV hE
        rw [if_neg (by omega)] at hV hE
        subst hV hE
        clear h1 hx hs he
        go_wp2_with fail
        go_ret
        exact ⟨rfl, F⟩
    · obtain rfl : k = n := by omega
      rw [HN.out, List.drop_length] at hV hE
      rw [toV_nil] at hV
      rw [toE_nil] at hE
      subst hV hE
      clear hu
      go_wp2_with fail
      go_ret
      exact ⟨rfl, F⟩
end Go.Proofs.Ytmebilpmhflahaa
