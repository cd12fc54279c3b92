/- Layer 4 (money): an amount read from its digits. -/
import Derived.Test.YtmebilpmhflahaaDoorDc
namespace Go.Proofs.YtmebilpmhflahaaDoor
set_option linter.unusedVariables false
set_option linter.unusedSimpArgs false
open Go.RowKit

theorem rd_not {l : List UInt8} (h : isNum l = false) : rdV l = 0 ∧ rdE l = 2 := by
  unfold rdV rdE
  rw [h]
  exact ⟨rfl, rfl⟩
theorem rd_fit {l : List UInt8} (h : isNum l = true) (h1 : nval l ≤ 4611686018427387904) : rdV l = nval l ∧ rdE l = 0 := by
  unfold rdV rdE
  rw [h, if_pos rfl, if_pos rfl, if_pos h1, if_pos h1]
  exact ⟨rfl, rfl⟩
theorem rd_over {l : List UInt8} (h : isNum l = true) (h1 : 4611686018427387904 < nval l) : rdV l = 0 ∧ rdE l = 4 := by
  unfold rdV rdE
  rw [h, if_pos rfl, if_pos rfl, if_neg (by omega), if_neg (by omega)]
  exact ⟨rfl, rfl⟩
theorem num_all {l : List UInt8} (h : isNum l = true) : l.all dg1 = true := by
  unfold isNum at h
  rw [Bool.and_eq_true] at h
  exact h.2
theorem all_at {l : List UInt8} (h : l.all dg1 = true) (k : Nat) (hk : k < l.length) : dg1 (l.getD k 0) = true := by
  rw [show l.getD k 0 = l[k] by simp [List.getD, List.getElem?_eq_getElem hk]]
  exact List.all_eq_true.1 h _ (List.getElem_mem _)

set_option maxRecDepth 100000 in
set_option maxHeartbeats 8000000 in
theorem mParse_any (l : List UInt8) (a : Option Addr) (c : Nat) (w : World) (hu : Bs w a c l) :
    Calls Tryd.prog 6 #[.slice a l.length c] w fun e w' => e = .returned (.tuple #[.int .u64 (rdV l : Nat), .int .i64 (rdE l)]) ∧ w' = w := by
  have HD := Lib.hid (mdigits_any l a c w hu)
  obtain ⟨n, hn⟩ : ∃ n, n = l.length := ⟨_, rfl⟩
  obtain ⟨V, hV⟩ : ∃ V, V = rdV l := ⟨_, rfl⟩
  obtain ⟨E, hE⟩ : ∃ E, E = rdE l := ⟨_, rfl⟩
  have hmost := hu.most
  unfold maxLen at hmost
  have hroom := hu.room
  rw [← hn] at hroom HD ⊢
  rw [← hV, ← hE]
  cases hI : isNum l with
  | false =>
    rw [hI] at HD
    rw [(rd_not hI).1] at hV
    rw [(rd_not hI).2] at hE
    subst hV hE
    clear hn hu hI
    go_enter Tryd.func6, Tryd.ntmps6
    go_wp2_with fail
    (with_reducible refine HD.out.mono ?_); rintro e w1 ⟨rfl, hw⟩; replace hw := hw.symm; subst hw
    go_wp2_with fail
    go_ret2
    exact ⟨rfl, rfl⟩
  | true =>
    rw [hI] at HD
    have HI := Lib.hid hI
    have HU := Lib.hid hu
    have HV := Lib.hid (And.intro hV hE)
    have HN := Lib.hid hn
    clear hu hV hE hn hI
    go_enter Tryd.func6, Tryd.ntmps6
    go_wp2_with fail
    (with_reducible refine HD.out.mono ?_); rintro e w1 ⟨rfl, hw⟩; replace hw := hw.symm; subst hw
    clear HD
    go_wp2_with fail
    go_loopw [4, 13] (fun sv iv wr => wr = w ∧ ∃ k s : Nat, k ≤ n ∧ iv = .int .i64 (k : Int) ∧ sv = .int .u64 (s : Int) ∧ s ≤ 4611686018427387904 ∧ s = nval (l.take k)) (fun _ iv _ => n - (intOf iv).toNat)
    case atStart => exact ⟨rfl, 0, 0, by omega, rfl, rfl, by omega, rfl⟩
    case round =>
      obtain ⟨rfl, k, s, hk, rfl, rfl, hs, hS⟩ := hrel
      by_cases hlt : k < n
      · have hlt' : k < l.length := by have := HN.out; omega
        obtain ⟨b, off, rfl, hc⟩ := HU.out.get k hlt'
        have hT := nval_take_succ l k hlt'
        have hW := nval_take l (k + 1)
        have hd := dg1_of (all_at (num_all HI.out) k hlt')
        rw [← hS] at hT
        have lk : (k : Int) < (n : Int) := by omega
        obtain ⟨x, hx⟩ : ∃ x, (l.getD k 0).toNat = 48 + x := ⟨(l.getD k 0).toNat - 48, by omega⟩
        rw [hx] at hc hT hd
        have hT' : nval (l.take (k + 1)) = s * 10 + x := by omega
        have w1 : IntKind.u8.wrap (((48 + x : Nat) : Int) - 48) = (x : Int) := by rw [IntWalk.u8_in _ (by omega)]; omega
        have w2 : IntKind.u64.wrap (x : Int) = (x : Int) := IntWalk.u64_in _ (by omega)
        have w3 : IntKind.u64.wrap (4611686018427387904 - (x : Int)) = 4611686018427387904 - (x : Int) := IntWalk.u64_in _ (by omega)
        obtain ⟨q, hq⟩ : ∃ q : Nat, q = (4611686018427387904 - x) / 10 := ⟨_, rfl⟩
        have w4 : IntKind.u64.wrap (Int.tdiv (4611686018427387904 - (x : Int)) 10) = (q : Int) := by
          rw [Int.tdiv_eq_ediv_of_nonneg (by omega), IntWalk.u64_in _ (by omega)]
          omega
        obtain ⟨y, hy⟩ : ∃ y : Nat, y = 48 + x := ⟨_, rfl⟩
        rw [← hy] at hc w1
        have hyb : y ≤ 57 := by omega
        have HX := Lib.hid (And.intro hx hT)
        by_cases h2 : s ≤ q
        · have l4 : ¬ (q : Int) < (s : Int) := by omega
          obtain ⟨m, hm⟩ : ∃ m : Nat, m = s * 10 := ⟨_, rfl⟩
          obtain ⟨t, ht⟩ : ∃ t : Nat, t = m + x := ⟨_, rfl⟩
          have w5 : IntKind.u64.wrap ((s : Int) * 10) = (m : Int) := by rw [IntWalk.u64_in _ (by omega)]; omega
          have w6 : IntKind.u64.wrap ((m : Int) + (x : Int)) = (t : Int) := by rw [IntWalk.u64_in _ (by omega)]; omega
          have HV2 := Lib.hid (show t ≤ 4611686018427387904 ∧ t = nval (l.take (k + 1)) by omega)
          clear hS hT hT' hW hd hx hs hq hy hm ht h2 hlt'
          go_wp2_with fail
          go_roundw
          case rel => exact ⟨trivial, k + 1, t, by omega, by go_num, rfl, HV2.out.1, HV2.out.2⟩
          case measure => simp [intOf]; omega
        · have l4 : (q : Int) < (s : Int) := by omega
          have ho := rd_over HI.out (by omega)
          rw [ho.1, ho.2] at HV
          obtain ⟨rfl, rfl⟩ := HV.out
          clear hS hT hT' hW hd hx hs hq hy h2 hlt' ho
          go_wp2_with fail
          go_ret2
          exact ⟨rfl, rfl⟩
      · obtain rfl : k = n := by omega
        rw [HN.out, List.take_length] at hS
        have ho := rd_fit HI.out (by omega)
        rw [ho.1, ho.2, ← hS] at HV
        obtain ⟨rfl, rfl⟩ := HV.out
        clear hS ho hs
        go_wp2_with fail
        go_ret2
        exact ⟨rfl, rfl⟩
end Go.Proofs.YtmebilpmhflahaaDoor
