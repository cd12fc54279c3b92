/- The document's answer for layer 1: reading a count. -/
import Derived.Test.YtkeepojcdofibaaRef01
namespace Go.Proofs.Ytkeepojcdofibaa
set_option linter.unusedVariables false
set_option linter.unusedSimpArgs false
open Go.RowKit

/-- The count with which bytes begin, and in how many; or none. -/
def rrc (bs : List UInt8) : Nat × Nat × Bool :=
  match bs with
  | [] => (0, 0, false)
  | c :: r =>
    if c.toNat < 253 then (c.toNat, 1, csz c.toNat == 1)
    else
      let size := 1 + 2 * 2 ^ (c.toNat - 253)
      if bs.length < size then (0, 0, false)
      else (ofLE (r.take (size - 1)), size, csz (ofLE (r.take (size - 1))) == size)

set_option maxRecDepth 100000 in
set_option maxHeartbeats 2000000 in
theorem refReadCount_any (a : Option Addr) (n c : Nat) (bs : List UInt8) (w : World) (h : Bs w a c bs) (hn : n = bs.length) :
    Calls Try.prog 33 #[.slice a n c] w fun e w' => e = .returned (.tuple #[.int .u64 (rrc bs).1, .int .i64 (rrc bs).2.1, .bool (rrc bs).2.2]) ∧ Fr F0 w w' := by
  subst hn
  cases bs with
  | nil =>
    go_enter Try.func33, Try.ntmps33
    go_wp2
    go_ret3
    exact ⟨rfl, Fr.refl _ _⟩
  | cons x r =>
    obtain ⟨b, off, rfl, hc⟩ := h.at 0 (by simp)
    simp only [List.getElem_cons_zero, Nat.add_zero] at hc
    have hx8 := x.toNat_lt
    have hb1 : ((r.length : Int) + 1 == 0) = false := by simp; omega
    have hmx := h.most
    have hrm := h.room
    unfold maxLen at hmx
    simp only [List.length_cons] at hrm
    by_cases h1 : x.toNat < 253
    · have e : rrc (x :: r) = (x.toNat, 1, csz x.toNat == 1) := by simp [rrc, h1]
      rw [e]
      dsimp only
      have C := Lib.hid (refCount_any x.toNat w (by omega))
      have L := Lib.hid (cnt_length x.toNat)
      generalize x.toNat = X at *
      clear e h
      go_enter Try.func33, Try.ntmps33
      go_wp2_with (go_at_call 11; refine C.out.mono ?_; rintro e w1 ⟨a', c', rfl, _, hf, _⟩)
      go_ret3
      refine ⟨?_, hf⟩
      rw [L.out]
      have : ((csz X : Int) == 1) = (csz X == 1) := by
        rw [Bool.eq_iff_iff]
        simp
        omega
      rw [this]
      rfl
    · have hlenr : (x :: r).length = r.length + 1 := rfl
      obtain ⟨s, m, hs⟩ : ∃ s m : Nat, (x.toNat = 253 ∧ s = 3 ∧ m = 2) ∨ (x.toNat = 254 ∧ s = 5 ∧ m = 4) ∨ (x.toNat = 255 ∧ s = 9 ∧ m = 8) := by
        rcases (show x.toNat = 253 ∨ x.toNat = 254 ∨ x.toNat = 255 from by omega) with h | h | h
        · exact ⟨3, 2, .inl ⟨h, rfl, rfl⟩⟩
        · exact ⟨5, 4, .inr (.inl ⟨h, rfl, rfl⟩)⟩
        · exact ⟨9, 8, .inr (.inr ⟨h, rfl, rfl⟩)⟩
      have hm : s - 1 = m := by omega
      have e : rrc (x :: r) = if r.length + 1 < s then (0, 0, false) else (ofLE (r.take (s - 1)), s, csz (ofLE (r.take (s - 1))) == s) := by
        rcases hs with ⟨h, rfl, _⟩ | ⟨h, rfl, _⟩ | ⟨h, rfl, _⟩ <;> simp [rrc, h]
      have hB : Bs w (cutA (some ⟨b, off, none⟩) c 1 1) (c - 1) (r.take (s - 1)) := (h.drop 1 (by simp)).take (s - 1)
      rw [hm] at e hB
      have hb2 : ((r.length : Int) + 1 == 0) = false := by simp; omega
      generalize x.toNat = X at *
      clear h h1 hlenr hm
      by_cases hlt : r.length + 1 < s
      · rw [e, if_pos hlt]
        clear e hB
        rcases hs with ⟨rfl, rfl, rfl⟩ | ⟨rfl, rfl, rfl⟩ | ⟨rfl, rfl, rfl⟩
        all_goals
          go_enter Try.func33, Try.ntmps33
          go_wp2
          go_ret3
          exact ⟨rfl, Fr.refl _ _⟩
      · rw [e, if_neg hlt]
        dsimp only
        have hcut : cutA (some ⟨b, off, none⟩) c 1 1 = some ⟨b, off + 1, none⟩ := by
          unfold cutA
          rw [if_neg (by omega)]
          simp [Addr.add_lit]
        rw [hcut] at hB
        clear hcut
        have hl1 : (r.take m).length = m := by simp; omega
        have G := Lib.hid (refGet_any _ m _ _ w hB hl1.symm (by omega))
        have hY : ofLE (r.take m) < 18446744073709551616 := by
          have h2 := ofLE_lt (r.take m)
          have h3 : 256 ^ (r.take m).length ≤ 256 ^ 8 := Nat.pow_le_pow_right (by omega) (by omega)
          omega
        clear hB hl1 e
        generalize ofLE (r.take m) = Y at *
        have C := Lib.hid (refCount_any Y w hY)
        have L := Lib.hid (cnt_length Y)
        have D : ∀ s : Nat, ((csz Y : Int) == (s : Int)) = (csz Y == s) := by
          intro s
          rw [Bool.eq_iff_iff]
          simp
          exact Int.natCast_inj
        have HD := Lib.hid D
        clear D
        rcases hs with ⟨rfl, rfl, rfl⟩ | ⟨rfl, rfl, rfl⟩ | ⟨rfl, rfl, rfl⟩
        all_goals
          go_enter Try.func33, Try.ntmps33
          go_wp2_with (first | (go_at_call 18; refine G.out.mono ?_; rintro e w' ⟨rfl, rfl⟩) | (go_at_call 11; refine C.out.mono ?_; rintro e w1 ⟨a', c', rfl, _, hf, _⟩))
          go_ret3
          refine ⟨?_, hf⟩
          rw [L.out, ← HD.out]
          rfl

/-- A count, and what is left behind it: as the document reads it. -/
def mcnt (most : Nat) (st : Option (List UInt8)) : Nat × Option (List UInt8) :=
  match st with
  | none => (0, none)
  | some bs => if (rrc bs).2.2 = true ∧ (rrc bs).1 ≤ most then ((rrc bs).1, some (bs.drop (rrc bs).2.1)) else (0, none)

theorem tk_some (k : Nat) (bs : List UInt8) (h : k ≤ bs.length) : tk k (some bs) = (bs.take k, some (bs.drop k)) := by
  simp [tk, h]

theorem tk_short (k : Nat) (bs : List UInt8) (h : bs.length < k) : tk k (some bs) = ([], none) := by
  simp only [tk]
  rw [if_neg (by omega)]

theorem gt_some (k : Nat) (bs : List UInt8) (hk : szB k = true) : gt k (some bs) = if k ≤ bs.length then (ofLE (bs.take k), some (bs.drop k)) else (0, none) := by
  split
  · rename_i h; simp [gt, hk, tk_some k bs h]
  · rename_i h; simp [gt, hk, tk_short k bs (by omega), ofLE]

theorem csz_0 : csz 0 = 1 := rfl

/-- The program reads a count as the document does. -/
theorem rc_mcnt (most : Nat) (st : Option (List UInt8)) : rc most st = mcnt most st := by
  cases st with
  | none => simp [rc, rcp, gt, tk, mcnt, szB, ofLE, csz]
  | some bs =>
    cases bs with
    | nil => simp [rc, rcp, gt, tk, mcnt, szB, ofLE, csz, rrc]
    | cons x r =>
      have hx8 := x.toNat_lt
      have g1 : gt 1 (some (x :: r)) = (x.toNat, some r) := by
        have := gt_some 1 (x :: r) rfl
        rw [if_pos (by simp)] at this
        simpa [ofLE] using this
      have g2 := gt_some 2 r rfl
      have g4 := gt_some 4 r rfl
      have g8 := gt_some 8 r rfl
      by_cases h1 : x.toNat < 253
      · have e1 : rcp (some (x :: r)) = (1, x.toNat, some r) := by
          unfold rcp
          rw [g1]
          dsimp only
          rw [if_neg (by omega), if_neg (by omega), if_neg (by omega)]
        have e2 : rrc (x :: r) = (x.toNat, 1, csz x.toNat == 1) := by simp [rrc, h1]
        simp only [rc, e1, mcnt, e2, beq_iff_eq, List.drop_succ_cons, List.drop_zero]
      · obtain ⟨s, m, hm, hs⟩ : ∃ s m : Nat, s = m + 1 ∧ ((x.toNat = 253 ∧ s = 3 ∧ m = 2) ∨ (x.toNat = 254 ∧ s = 5 ∧ m = 4) ∨ (x.toNat = 255 ∧ s = 9 ∧ m = 8)) := by
          rcases (show x.toNat = 253 ∨ x.toNat = 254 ∨ x.toNat = 255 from by omega) with h | h | h
          · exact ⟨3, 2, rfl, .inl ⟨h, rfl, rfl⟩⟩
          · exact ⟨5, 4, rfl, .inr (.inl ⟨h, rfl, rfl⟩)⟩
          · exact ⟨9, 8, rfl, .inr (.inr ⟨h, rfl, rfl⟩)⟩
        have e1 : rcp (some (x :: r)) = (s, if m ≤ r.length then (ofLE (r.take m), some (r.drop m)) else (0, none)) := by
          unfold rcp
          rw [g1]
          dsimp only
          rcases hs with ⟨h, rfl, rfl⟩ | ⟨h, rfl, rfl⟩ | ⟨h, rfl, rfl⟩
          · rw [if_pos h, ← g2]; rfl
          · rw [if_neg (by omega), if_pos h, ← g4]; rfl
          · rw [if_neg (by omega), if_neg (by omega), if_pos h, ← g8]; rfl
        have e2 : rrc (x :: r) = if r.length + 1 < s then (0, 0, false) else (ofLE (r.take m), s, csz (ofLE (r.take m)) == s) := by
          rcases hs with ⟨h, rfl, rfl⟩ | ⟨h, rfl, rfl⟩ | ⟨h, rfl, rfl⟩ <;> simp [rrc, h]
        subst hm
        by_cases hl : m ≤ r.length
        · rw [if_pos hl] at e1
          rw [if_neg (by omega)] at e2
          simp only [rc, e1, mcnt, e2, beq_iff_eq, List.drop_succ_cons]
        · rw [if_neg hl] at e1
          rw [if_pos (by omega)] at e2
          simp only [rc, e1, mcnt, e2, csz_0]
          rw [if_neg (by omega)]
          simp
end Go.Proofs.Ytkeepojcdofibaa
