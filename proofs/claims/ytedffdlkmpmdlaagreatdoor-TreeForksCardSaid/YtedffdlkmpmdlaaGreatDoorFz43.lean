import Derived.Test.YtedffdlkmpmdlaaGreatDoorFz27
import Derived.Test.YtedffdlkmpmdlaaGreatDoorFz42
namespace Go.Proofs.YtedffdlkmpmdlaaGreatDoor
set_option maxRecDepth 100000
set_option linter.unusedVariables false
set_option linter.unusedSimpArgs false
open Go.RowKit
abbrev vF : Value := .bool false
def rt (sd j : Nat) : Nat := (j + sd) % 256
theorem rt_lt (sd j : Nat) : rt sd j < 256 := Nat.mod_lt _ (by decide)
def f1 (sd j : Nat) : Hd := lh hw0 (ro8 (rt sd j)) 1010 (fN1 (rt sd j))
def f2 (sd j : Nat) : Hd := lh (ah1 (rt sd j)) (ro8 j) 1020 (fN2 j (rt sd j))
theorem mineN_met (h : Hd) : ∀ (k n0 n : Nat),mineN h k n0 = some n → mtH (h.with n) = true ∧ n ≤ n0 + k
 |0,n0,n,e => by
  rw [mineN] at e
  split at e
  ·cases e; exact ⟨by assumption,by omega⟩
  ·cases e
 |k + 1,n0,n,e => by
  rw [mineN] at e
  split at e
  ·cases e; exact ⟨by assumption,by omega⟩
  ·split at e
   ·cases e
   ·have := mineN_met h k (n0 + 1) n e
    exact ⟨this.1,by omega⟩
theorem ah1_ok (s : Nat) : (ah1 s).length = 8 ∧ ∀ x ∈ ah1 s,x < 2 ^ 32 := hsW_ok _ _ _ _
theorem ah2_ok (i s : Nat) : (ah2 i s).length = 8 ∧ ∀ x ∈ ah2 i s,x < 2 ^ 32 := hsW_ok _ _ _ _
theorem f1_sum (sd j : Nat) : sha2 (f1 sd j).bytes = (ah1 (rt sd j)).flatMap byN := lh_sum hw0_ok.1 _ _ _
theorem f2_sum (sd j : Nat) : sha2 (f2 sd j).bytes = (ah2 j (rt sd j)).flatMap byN := lh_sum (ah1_ok _).1 _ _ _
theorem f1_meets (sd j : Nat) : mtH (f1 sd j) = true ∧ (f1 sd j).Ok := by
 obtain ⟨h1,h2⟩ := mineN_met _ 400 0 _ (first_mined (rt sd j) (rt_lt sd j)).1
 exact ⟨h1,lh_ok hw0_ok.1 (by decide) (by omega)⟩
theorem f2_meets (sd : Nat) {j : Nat} (hj : j < 16) : mtH (f2 sd j) = true ∧ (f2 sd j).Ok := by
 obtain ⟨h1,h2⟩ := mineN_met _ 400 0 _ (next_mined j hj (rt sd j) (rt_lt sd j)).1
 exact ⟨h1,lh_ok (ah1_ok _).1 (by decide) (by omega)⟩
theorem mkM_lh {ah : List Nat} {r : UInt8} {T n : Nat} (h : mineN (lh ah r T 0) 400 0 = some n) : mkM (mkK 0 (lh ah r T 0)) = lh ah r T n := by
 have e : mkK 0 (lh ah r T 0) = lh ah r T 0 := by rw [mkK,if_neg (by decide),if_neg (by decide)]
 rw [e,mkM,mineO,Go.Proofs.YtedffdlkmpmdlaaGreatDoor.mineH,show (lh ah r T 0).nonce = 0 from rfl,h]
 rfl
theorem made1 (sd j : Nat) : mkM (mkK 0 (mk0 Fh 10 (ro8 (rt sd j)) 545259519)) = f1 sd j := by
 have e : mk0 Fh 10 (ro8 (rt sd j)) 545259519 = lh hw0 (ro8 (rt sd j)) 1010 0 := by
  rw [mk0,Fh.sum,show mkT Fh.time 10 = 1010 by decide +kernel,lh,hw0_ok.2.2]
 rw [e]
 exact mkM_lh (first_mined _ (rt_lt sd j)).1
theorem made2 (sd : Nat) {j : Nat} (hj : j < 16) : mkM (mkK 0 (mk0 (f1 sd j) 10 (ro8 j) 545259519)) = f2 sd j := by
 have e : mk0 (f1 sd j) 10 (ro8 j) 545259519 = lh (ah1 (rt sd j)) (ro8 j) 1020 0 := by
  rw [mk0,f1_sum,show mkT (f1 sd j).time 10 = 1020 by show mkT 1010 10 = 1020; decide +kernel,lh]
 rw [e]
 exact mkM_lh (next_mined j hj _ (rt_lt sd j)).1
def kyH (l : List UInt8) : Nat := wd4 (l.getD 0 0) (l.getD 1 0) (l.getD 2 0) (l.getD 3 0)
theorem ky_words {w : List Nat} (h8 : w.length = 8) (h32 : ∀ x ∈ w,x < 2 ^ 32) : kyH (w.flatMap byN) = w.getD 0 0 := by
 obtain ⟨a,b,c,d,e,f,g,i,rfl⟩ := eightN h8
 exact wd4_by (h32 a (by simp))
def k0 : Nat := hw0.getD 0 0
def k1 (sd j : Nat) : Nat := K1.getD (rt sd j) 0
def k2 (sd j : Nat) : Nat := fK2 j (rt sd j)
theorem ky_0 : kyH hashF = k0 := by rw [← hw0_ok.2.2]; exact ky_words hw0_ok.1 hw0_ok.2.1
theorem ky_1 (sd j : Nat) : kyH (sha2 (f1 sd j).bytes) = k1 sd j := by rw [f1_sum,ky_words (ah1_ok _).1 (ah1_ok _).2]; exact (first_mined _ (rt_lt sd j)).2
theorem ky_2 (sd : Nat) {j : Nat} (hj : j < 16) : kyH (sha2 (f2 sd j).bytes) = k2 sd j := by rw [f2_sum,ky_words (ah2_ok _ _).1 (ah2_ok _ _).2]; exact (next_mined j hj _ (rt_lt sd j)).2
theorem pk_get : ∀ (l : List Nat),(∀ x ∈ l,x < 2 ^ 64) → ∀ i,i < l.length → Nat.mod (Nat.shiftRight (pk l) (64 * i)) 18446744073709551616 = l.getD i 0 := by
 intro l hl i hi
 have e : l = l.attach.map Subtype.val := by simp
 have hb : B64 fun s : {x // x ∈ l} => s.val := fun s => hl s.val s.property
 have h := pf_get l.attach hb i ⟨l[i],List.getElem_mem hi⟩ (by rw [List.getElem?_eq_getElem (by simpa using hi)]; simp)
 unfold pf at h
 rw [← e] at h
 rw [List.getD_eq_getElem?_getD,List.getElem?_eq_getElem hi]
 exact h
def k1v (sd j : Nat) : Nat := Nat.mod (Nat.shiftRight (pk K1) (Nat.mul 64 (rt sd j))) 18446744073709551616
def k2v (sd j : Nat) : Nat := Nat.mod (Nat.shiftRight (pk (K2.getD j [])) (Nat.mul 64 (rt sd j))) 18446744073709551616
theorem K_lt : (∀ x ∈ K1,x < 2 ^ 64) ∧ K1.length = 256 ∧ ∀ i,i < 16 → ∀ x ∈ K2.getD i [],x < 2 ^ 64 := by decide +kernel
theorem k1_v (sd j : Nat) : k1 sd j = k1v sd j := (pk_get K1 K_lt.1 (rt sd j) (by rw [K_lt.2.1]; exact rt_lt sd j)).symm
theorem k2_v (sd : Nat) {j : Nat} (hj : j < 16) : k2 sd j = k2v sd j := (pk_get (K2.getD j []) (K_lt.2.2 j hj) (rt sd j) (by rw [(len2 j hj).2]; exact rt_lt sd j)).symm
def unB (sd : Nat) : Bool :=
 (List.range 17).all (fun j => !(Nat.beq k0 (k1v sd j)) && (List.range 17).all (fun k => Nat.beq j k || !(Nat.beq (k1v sd j) (k1v sd k))) && (List.range 16).all fun k => !(Nat.beq (k1v sd j) (k2v sd k))) &&
 (List.range 16).all fun j => !(Nat.beq k0 (k2v sd j)) && (List.range 16).all fun k => Nat.beq j k || !(Nat.beq (k2v sd j) (k2v sd k))
theorem un_all : ∀ sd,sd < 256 → unB sd = true := by decide +kernel
theorem bq {a b : Nat} (h : (!(Nat.beq a b)) = true) : a ≠ b := by
 intro e
 subst e
 rw [Nat.beq_refl] at h
 cases h
theorem un {sd : Nat} (h : sd < 256) : (∀ j,j < 17 → k0 ≠ k1 sd j ∧ (∀ k,k < 17 → j ≠ k → k1 sd j ≠ k1 sd k) ∧ ∀ k,k < 16 → k1 sd j ≠ k2 sd k) ∧ ∀ j,j < 16 → k0 ≠ k2 sd j ∧ ∀ k,k < 16 → j ≠ k → k2 sd j ≠ k2 sd k := by
 have hu := un_all sd h
 unfold unB at hu
 rw [Bool.and_eq_true,List.all_eq_true,List.all_eq_true] at hu
 refine ⟨fun j hj => ?_,fun j hj => ?_⟩
 ·have h1 := hu.1 j (List.mem_range.2 hj)
  rw [Bool.and_eq_true,Bool.and_eq_true,List.all_eq_true,List.all_eq_true] at h1
  refine ⟨by rw [k1_v]; exact bq h1.1.1,fun k hk hne => ?_,fun k hk => by rw [k1_v,k2_v sd hk]; exact bq (h1.2 k (List.mem_range.2 hk))⟩
  have h2 := h1.1.2 k (List.mem_range.2 hk)
  rw [beq_no hne,Bool.false_or] at h2
  rw [k1_v,k1_v]
  exact bq h2
 ·have h1 := hu.2 j (List.mem_range.2 hj)
  rw [Bool.and_eq_true,List.all_eq_true] at h1
  refine ⟨by rw [k2_v sd hj]; exact bq h1.1,fun k hk hne => ?_⟩
  have h2 := h1.2 k (List.mem_range.2 hk)
  rw [beq_no hne,Bool.false_or] at h2
  rw [k2_v sd hj,k2_v sd hk]
  exact bq h2
end Go.Proofs.YtedffdlkmpmdlaaGreatDoor
