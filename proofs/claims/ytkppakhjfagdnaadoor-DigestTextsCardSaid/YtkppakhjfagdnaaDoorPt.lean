/- A hash's text is read as that hash. -/
import Derived.Test.YtkppakhjfagdnaaDoorParse2
namespace Go.Proofs.YtkppakhjfagdnaaDoor
set_option linter.unusedVariables false
set_option linter.unusedSimpArgs false
open Go.RowKit

theorem hexT_get : ∀ (l : List UInt8) (j : Nat), j < l.length → (hexT l).getD (2 * j) 0 = hexd ((l.getD j 0).toNat / 16) ∧ (hexT l).getD (2 * j + 1) 0 = hexd ((l.getD j 0).toNat % 16)
  | [], j, h => by simp at h
  | x :: l, 0, h => by simp [hexT, List.getD]
  | x :: l, j + 1, h => by
    have ih := hexT_get l j (by simpa using h)
    have e : hexT (x :: l) = hexd (x.toNat / 16) :: hexd (x.toNat % 16) :: hexT l := by simp [hexT]
    rw [e, show 2 * (j + 1) = 2 * j + 1 + 1 by omega]
    simpa [List.getD] using ih

theorem textL_get (h : List UInt8) (hh : h.length = 32) (j : Nat) (hj : j < 32) : (textL h).getD (2 * j) 0 = hexd ((h.getD (31 - j) 0).toNat / 16) ∧ (textL h).getD (2 * j + 1) 0 = hexd ((h.getD (31 - j) 0).toNat % 16) := by
  have := hexT_get h.reverse j (by simp [hh]; omega)
  have e : h.reverse.getD j 0 = h.getD (31 - j) 0 := by
    have h1 : j < h.reverse.length := by simp [hh]; omega
    have h2 : 31 - j < h.length := by omega
    simp only [List.getD, List.getElem?_eq_getElem h1, List.getElem?_eq_getElem h2, Option.getD_some, List.getElem_reverse]
    congr 1
    omega
  rwa [e] at this

theorem hexv_hexd : ∀ n, n < 16 → hexv (hexd n) = some (UInt8.ofNat n) := by decide +kernel

/-- What has been read of it when j bytes are. -/
def stP (h : List UInt8) (j : Nat) : List UInt8 := List.replicate (32 - j) 0 ++ h.drop (32 - j)

theorem stP_succ (h : List UInt8) (hh : h.length = 32) (j : Nat) (hj : j < 32) : (stP h j).set (31 - j) (h.getD (31 - j) 0) = stP h (j + 1) := by
  unfold stP
  obtain ⟨m, hm⟩ : ∃ m, m = 31 - j := ⟨_, rfl⟩
  rw [← hm, show 32 - j = m + 1 by omega, show 32 - (j + 1) = m by omega]
  have h2 : m < h.length := by omega
  rw [List.drop_eq_getElem_cons h2, List.replicate_succ', List.append_assoc, List.set_append_right _ _ (by simp)]
  simp [List.getD, List.getElem?_eq_getElem h2]

theorem stP_get (h : List UInt8) (j : Nat) (hj : j < 32) : (stP h j).getD (31 - j) 0 = 0 := by
  unfold stP
  have h1 : 31 - j < (List.replicate (32 - j) (0 : UInt8)).length := by simp; omega
  rw [List.getD, List.getElem?_append_left h1, List.getElem?_replicate]
  split <;> rfl

theorem parse_text (h : List UInt8) (hh : h.length = 32) : ∀ j, j ≤ 32 → parseN (textL h) (2 * j) = some (stP h j)
  | 0, _ => by
    rw [Nat.mul_zero, parseN]
    congr 1
    unfold stP
    rw [List.drop_of_length_le (by omega)]
    simp
  | j + 1, hj => by
    have ih := parse_text h hh j (by omega)
    obtain ⟨g1, g2⟩ := textL_get h hh j (by omega)
    have hs := stP_succ h hh j (by omega)
    have hg := stP_get h j (by omega)
    obtain ⟨c, hc⟩ : ∃ c, c = h.getD (31 - j) 0 := ⟨_, rfl⟩
    rw [← hc] at g1 g2 hs
    have hcl := c.toNat_lt
    have l1 : parseN (textL h) (2 * j + 1) = some ((stP h j).set (31 - j) (UInt8.ofNat (c.toNat / 16))) := by
      rw [parseN, ih, g1, hexv_hexd _ (by omega)]
      simp only [show 2 * j / 2 = j by omega, hg]
      congr 2
      apply UInt8.toNat.inj
      simp [UInt8.toNat_ofNat']
    rw [show 2 * (j + 1) = 2 * j + 1 + 1 by omega, parseN, l1, g2, hexv_hexd _ (by omega)]
    simp only [show (2 * j + 1) / 2 = j by omega]
    have hlen : 31 - j < (stP h j).length := by unfold stP; simp; omega
    rw [List.set_set, ← hs]
    congr 2
    have e : ((stP h j).set (31 - j) (UInt8.ofNat (c.toNat / 16))).getD (31 - j) 0 = UInt8.ofNat (c.toNat / 16) := by simp [List.getD, hlen]
    rw [e]
    apply UInt8.toNat.inj
    simp only [UInt8.toNat_ofNat']
    omega

theorem parseL_textL (h : List UInt8) (hh : h.length = 32) : parseL (textL h) = some h := by
  have h64 : (textL h).length = 64 := by unfold textL; rw [hexT_length]; simp [hh]
  rw [parseL, if_pos h64]
  have := parse_text h hh 32 (Nat.le_refl _)
  rw [show 2 * 32 = 64 from rfl] at this
  rw [this]
  simp [stP]
end Go.Proofs.YtkppakhjfagdnaaDoor
