/- Layer 4 (money): whether bytes are a numeral. -/
import Derived.Test.YtmebilpmhflahaaDoorAt
namespace Go.Proofs.YtmebilpmhflahaaDoor
set_option linter.unusedVariables false
set_option linter.unusedSimpArgs false
open Go.RowKit

theorem Bs.get {w : World} {a : Option Addr} {c : Nat} {l : List UInt8} (h : Bs w a c l) (j : Nat) (hj : j < l.length) : ∃ b off, a = some ⟨b, off, none⟩ ∧ Obj.cellAt (off + j) w.heap[b]? = some (.int .u8 ((l.getD j 0).toNat : Int)) := by
  obtain ⟨b, off, e, hc⟩ := h.at j hj
  exact ⟨b, off, e, by rw [← cell_at, hc]; simp [List.getD, List.getElem?_eq_getElem hj]⟩

theorem Bs.fr {w w' : World} {a : Option Addr} {c : Nat} {l : List UInt8} (h : Bs w a c l) (f : Fr F0 w w') : Bs w' a c l := Sl.fr h f fun _ _ f => f

theorem num_nil : isNum [] = false := rfl
theorem headOk_one {l : List UInt8} (h : l.length = 1) : headOk l = true := by
  unfold headOk
  rw [decide_eq_true (by omega), decide_eq_true h]
  rfl
theorem headOk_ne {l : List UInt8} (h : 0 < l.length) (h1 : (l.getD 0 0).toNat ≠ 48) : headOk l = true := by
  unfold headOk
  rw [decide_eq_true h, decide_eq_true h1, Bool.or_true]
  rfl
theorem headOk_not {l : List UInt8} (h : l.length ≠ 1) (h1 : (l.getD 0 0).toNat = 48) : headOk l = false := by
  unfold headOk
  rw [decide_eq_false h, Bool.false_or, h1]
  exact Bool.and_false _
theorem num_ok {l : List UInt8} (h : headOk l = true) : isNum l = l.all dg1 := by
  unfold isNum
  rw [h, Bool.true_and]
theorem num_not {l : List UInt8} (h : headOk l = false) : isNum l = false := by
  unfold isNum
  rw [h, Bool.false_and]
theorem head_cases (l : List UInt8) : l.length = 0 ∨ (1 < l.length ∧ (l.getD 0 0).toNat = 48) ∨ (headOk l = true ∧ (l.length = 1 ∨ (1 < l.length ∧ (l.getD 0 0).toNat ≠ 48))) := by
  rcases Nat.lt_trichotomy l.length 1 with h | h | h
  · exact .inl (by omega)
  · exact .inr (.inr ⟨headOk_one h, .inl h⟩)
  · by_cases h1 : (l.getD 0 0).toNat = 48
    · exact .inr (.inl ⟨h, h1⟩)
    · exact .inr (.inr ⟨headOk_ne (by omega) h1, .inr ⟨h, h1⟩⟩)
theorem dg1_cases (c : UInt8) : (dg1 c = true ∧ 48 ≤ c.toNat ∧ c.toNat ≤ 57) ∨ (dg1 c = false ∧ c.toNat < 48) ∨ (dg1 c = false ∧ 48 ≤ c.toNat ∧ 57 < c.toNat) := by
  unfold dg1
  by_cases h1 : 48 ≤ c.toNat
  · by_cases h2 : c.toNat ≤ 57
    · exact .inl ⟨by rw [decide_eq_true h1, decide_eq_true h2]; rfl, h1, h2⟩
    · exact .inr (.inr ⟨by rw [decide_eq_true h1, decide_eq_false h2]; rfl, h1, by omega⟩)
  · exact .inr (.inl ⟨by rw [decide_eq_false h1]; rfl, by omega⟩)

set_option maxRecDepth 100000 in
set_option maxHeartbeats 8000000 in
theorem mdigits_any (l : List UInt8) (a : Option Addr) (c : Nat) (w : World) (hu : Bs w a c l) :
    Calls Tryd.prog 13 #[.slice a l.length c] w fun e w' => e = .returned (.bool (isNum l)) ∧ w' = w := by
  obtain ⟨n, hn⟩ : ∃ n, n = l.length := ⟨_, rfl⟩
  obtain ⟨R, hR⟩ : ∃ R, R = isNum l := ⟨_, rfl⟩
  have hmost := hu.most
  unfold maxLen at hmost
  have hroom := hu.room
  rw [← hn] at hroom ⊢
  rw [← hR]
  rcases head_cases l with h | ⟨h, h1⟩ | ⟨h, h1⟩
  · rw [← hn] at h
    subst h
    obtain rfl := List.eq_nil_of_length_eq_zero hn.symm
    obtain rfl : R = false := hR
    clear hn hu
    go_enter Tryd.func13, Tryd.ntmps13
    go_wp2_with fail
    go_ret
    exact ⟨rfl, rfl⟩
  · obtain ⟨b, off, rfl, hc⟩ := hu.get 0 (by omega)
    obtain rfl : R = false := hR.trans (num_not (headOk_not (by omega) h1))
    rw [h1, show ((48 : Nat) : Int) = 48 from rfl, Nat.add_zero] at hc
    rw [← hn] at h
    have l1 : ¬ (n : Int) = 0 := by omega
    have l2 : (1 : Int) < (n : Int) := by omega
    have l3 : (0 : Int) < (n : Int) := by omega
    clear hn hR hu h1
    go_enter Tryd.func13, Tryd.ntmps13
    go_wp2_with fail
    go_ret
    exact ⟨rfl, rfl⟩
  · obtain ⟨b, off, rfl, hc⟩ := hu.get 0 (by omega)
    rw [num_ok h] at hR
    rw [Nat.add_zero] at hc
    rw [← hn] at h1
    have HU := Lib.hid hu
    have HR := Lib.hid hR
    have HN := Lib.hid hn
    have l1 : ((n : Int) == 0) = false := beq_eq_false_iff_ne.2 (by omega)
    have l3 : (0 : Int) < (n : Int) := by omega
    clear hu hR hn h
    rcases h1 with h1 | ⟨h1, h2⟩
    case' inl => have l2 : ¬ (1 : Int) < (n : Int) := by omega
    case' inr => have l2 : (1 : Int) < (n : Int) := by omega
    case' inr => have l4 : (((l.getD 0 0).toNat : Int) == 48) = false := beq_eq_false_iff_ne.2 (by omega)
    all_goals
      clear h1
      generalize hx : (l.getD 0 0).toNat = x0 at *
      clear hx
      go_enter Tryd.func13, Tryd.ntmps13
      go_wp2_with fail
      go_loopw [21] (fun iv wr => wr = w ∧ ∃ k : Nat, k ≤ n ∧ iv = .int .i64 (k : Int) ∧ (l.take k).all dg1 = true) (fun iv _ => n - (intOf iv).toNat)
      case atStart => exact ⟨rfl, 0, by omega, rfl, rfl⟩
      case round =>
        obtain ⟨rfl, k, hk, rfl, hA⟩ := hrel
        clear hc
        by_cases hlt : k < n
        · have hlt' : k < l.length := by have := HN.out; omega
          obtain ⟨b, off, e, hc⟩ := HU.out.get k hlt'
          obtain ⟨rfl, rfl⟩ : b = _ ∧ off = _ := by simpa using e.symm
          have hT := all_take_succ l k hlt'
          have hF := all_of_not l k hlt'
          have lk : (k : Int) < (n : Int) := by omega
          rcases dg1_cases (l.getD k 0) with ⟨d0, d1, d2⟩ | ⟨d0, d1⟩ | ⟨d0, d1, d2⟩
          · rw [hA, d0] at hT
            have HA := Lib.hid hT
            have e1 : ¬ ((l.getD k 0).toNat : Int) < 48 := by omega
            have e2 : ¬ (57 : Int) < ((l.getD k 0).toNat : Int) := by omega
            generalize (l.getD k 0).toNat = x at *
            clear hT hF hA d0 d1 d2 hlt'
            go_wp2_with fail
            go_roundw
            case rel => exact ⟨trivial, k + 1, by omega, by go_num, HA.out⟩
            case measure => simp [intOf]; omega
          · have HF := Lib.hid (hF d0)
            have e1 : ((l.getD k 0).toNat : Int) < 48 := by omega
            generalize (l.getD k 0).toNat = x at *
            clear hT hF hA d0 d1 hlt'
            go_wp2_with fail
            go_ret
            exact ⟨by rw [HR.out, HF.out]; rfl, rfl⟩
          · have HF := Lib.hid (hF d0)
            have e1 : ¬ ((l.getD k 0).toNat : Int) < 48 := by omega
            have e2 : (57 : Int) < ((l.getD k 0).toNat : Int) := by omega
            generalize (l.getD k 0).toNat = x at *
            clear hT hF hA d0 d1 d2 hlt'
            go_wp2_with fail
            go_ret
            exact ⟨by rw [HR.out, HF.out]; rfl, rfl⟩
        · obtain rfl : k = n := by omega
          rw [HN.out, List.take_length] at hA
          have HA := Lib.hid hA
          clear hA
          go_wp2_with fail
          go_ret
          exact ⟨by rw [HR.out, HA.out]; rfl, rfl⟩
end Go.Proofs.YtmebilpmhflahaaDoor
