import Derived.Test.YtedffdlkmpmdlaaGreatDoorFz43
import Derived.Test.YtedffdlkmpmdlaaGreatDoorFz1
import Derived.Test.YtedffdlkmpmdlaaGreatDoorFz42
import Derived.Test.YtedffdlkmpmdlaaGreatDoorFz32
namespace Go.Proofs.YtedffdlkmpmdlaaGreatDoor
set_option maxRecDepth 100000
set_option linter.unusedVariables false
set_option linter.unusedSimpArgs false
open Go.RowKit
def L1 (sd i : Nat) : List Bk := b0 vF :: (List.range i).map fun j => nbB (f1 sd j) vF 0
def L2 (sd j : Nat) : List Bk := L1 sd 16 ++ (List.range j).map fun k => nbB (f2 sd k) vF (k + 1)
theorem L1_len (sd i : Nat) : (L1 sd i).length = i + 1 := by simp [L1]
theorem L2_len (sd j : Nat) : (L2 sd j).length = j + 17 := by rw [L2,List.length_append,L1_len]; simp; omega
theorem L1_succ (sd i : Nat) : L1 sd (i + 1) = L1 sd i ++ [nbB (f1 sd i) vF 0] := by
 rw [L1,L1,List.range_succ,List.map_append]; rfl
theorem L2_zero (sd : Nat) : L2 sd 0 = L1 sd 16 := by rw [L2]; simp
theorem L2_succ (sd j : Nat) : L2 sd (j + 1) = L2 sd j ++ [nbB (f2 sd j) vF (j + 1)] := by
 rw [L2,L2,List.range_succ,List.map_append,List.append_assoc]; rfl
theorem L1_at0 (sd i : Nat) : bkT (L1 sd i) 0 = b0 vF := rfl
theorem L1_at (sd : Nat) {i j : Nat} (h : j < i) : bkT (L1 sd i) (j + 1) = nbB (f1 sd j) vF 0 := by
 unfold bkT
 rw [L1,List.getD_cons_succ,List.getD_eq_getElem?_getD,List.getElem?_map,List.getElem?_range h]
 rfl
theorem L2_at (sd j : Nat) {k : Nat} (h : k < 17) : bkT (L2 sd j) k = bkT (L1 sd 16) k := by
 unfold bkT
 rw [L2,List.getD_eq_getElem?_getD,List.getD_eq_getElem?_getD,List.getElem?_append_left (by rw [L1_len]; exact h)]
theorem L1_mem {sd i : Nat} {b : Bk} (h : b ∈ L1 sd i) : b = b0 vF ∨ ∃ j,j < i ∧ b = nbB (f1 sd j) vF 0 := by
 rcases List.mem_cons.1 h with h | h
 ·exact .inl h
 ·obtain ⟨j,hj,rfl⟩ := List.mem_map.1 h
  exact .inr ⟨j,List.mem_range.1 hj,rfl⟩
theorem L2_mem {sd j : Nat} {b : Bk} (h : b ∈ L2 sd j) : b = b0 vF ∨ (∃ k,k < 16 ∧ b = nbB (f1 sd k) vF 0) ∨ ∃ k,k < j ∧ b = nbB (f2 sd k) vF (k + 1) := by
 rcases List.mem_append.1 h with h | h
 ·rcases L1_mem h with h | h
  ·exact .inl h
  ·exact .inr (.inl h)
 ·obtain ⟨k,hk,rfl⟩ := List.mem_map.1 h
  exact .inr (.inr ⟨k,List.mem_range.1 hk,rfl⟩)
theorem find_not {L : List Bk} {h : List UInt8} (hk : ∀ b ∈ L,kyH b.hash ≠ kyH h) : findM L h < 0 := by
 rcases findM_lt h L with e | ⟨i,e,hi⟩
 ·omega
 ·obtain ⟨h1,h2⟩ := findM_is e
  exact absurd (by rw [h2]) (hk _ (bkT_mem h1))
theorem ky_b0 : kyH (b0 vF).hash = k0 := by rw [b0_hash,Fh.sum]; exact ky_0
theorem EQ1 (sd i : Nat) : EQ (L1 sd i) := by
 intro k hk
 rcases L1_mem (bkT_mem hk) with e | ⟨j,_,e⟩ <;> rw [e] <;> rfl
theorem EQ2 (sd j : Nat) : EQ (L2 sd j) := by
 intro k hk
 rcases L2_mem (bkT_mem hk) with e | ⟨j,_,e⟩ | ⟨j,_,e⟩ <;> rw [e] <;> rfl
def Low (L : List Bk) : Prop := ∀ k,k < L.length → (anc L k).length ≤ 3
theorem Low.tb {L : List Bk} (low : Low L) (e : EQ L) (h : WFt L) {s : Nat} : TB L 7 s lim0 ∧ ∀ i,i < L.length → bitsM L 7 s lim0 i = lim0 := by
 have hb : ∀ i,i < L.length → bitsM L 7 s lim0 i = lim0 := fun i hi => by
  have h1 := anc_len h i hi
  have h2 := low i hi
  have h3 : (lineM L i).length = (anc L i).length := by rw [lineM,List.length_reverse]
  unfold bitsM
  rw [if_neg (by rw [Nat.mod_eq_of_lt (by omega)]; omega)]
  exact e i hi
 refine ⟨⟨fun i hi => by rw [e i hi]; exact lim0_P,fun i hi => ?_⟩,hb⟩
 rw [hb i hi]
 refine ⟨lim0_P,Nat.le_refl _,?_⟩
 rw [e.work h hi]
 have h1 := anc_len h i hi
 have h2 := low i hi
 have h3 : heightM L i + 1 ≤ 3 := by unfold heightM; omega
 have h4 : (heightM L i + 1) * wkN (btT lim0) ≤ 3 * wkN (btT lim0) := Nat.mul_le_mul_right _ h3
 have h5 : 3 * wkN (btT lim0) + wkN (btT lim0) < W256 := of_decide_eq_true (by decide +kernel : decide (3 * wkN (btT 545259519) + wkN (btT 545259519) < W256) = true)
 omega
theorem Low.snoc {L : List Bk} (low : Low L) (h : WFt L) {b : Bk} (o : b.Ok) {i : Nat} (hi : i < L.length) (hb : b.ahead = (i : Int)) (h2 : (anc L i).length ≤ 2) : Low (L ++ [b]) := by
 intro k hk
 rw [len_snoc] at hk
 by_cases h1 : k < L.length
 ·rw [anc_old h b h1]; exact low k h1
 ·obtain rfl : k = L.length := by omega
  rw [anc_new h o hi hb,List.length_cons]
  omega
theorem anc1_0 {sd i : Nat} (h : WFt (L1 sd i)) : anc (L1 sd i) 0 = [0] := anc_root h (by rw [L1_len]; omega) (by rw [L1_at0]; decide)
theorem anc2_0 {sd j : Nat} (h : WFt (L2 sd j)) : anc (L2 sd j) 0 = [0] := anc_root h (by rw [L2_len]; omega) (by rw [L2_at sd j (by omega),L1_at0]; decide)
theorem anc2_1 {sd j k : Nat} (h : WFt (L2 sd j)) (hk : k < 16) : anc (L2 sd j) (k + 1) = [k + 1,0] := by
 have h1 : (bkT (L2 sd j) (k + 1)).ahead = ((0 : Nat) : Int) := by rw [L2_at sd j (by omega),L1_at sd hk]; rfl
 rw [(anc_step h (by rw [L2_len]; omega) h1).2,anc2_0 h]
theorem tip1 (sd i : Nat) : isTip (L1 sd i) 0 = decide (i = 0) := by
 unfold isTip
 cases i with
 |zero => rfl
 |succ i =>
  rw [decide_eq_false (by omega),L1_succ,List.all_append]
  simp [nbB]
theorem tips1 (sd : Nat) : ∀ i,WFt (L1 sd i) → tipsM (L1 sd i) = max 1 i
 |0,_ => rfl
 |i + 1,h => by
  have hw : WFt (L1 sd i) := by
   rw [L1_succ] at h
   exact ⟨fun b hb => h.ok b (List.mem_append_left _ hb),fun k hk => by have := h.up k (by rw [len_snoc]; omega); rw [bkT_old hk] at this; exact this⟩
  rw [L1_succ,tips_snoc hw (i := 0) (by rw [L1_len]; omega) rfl,tips1 sd i hw,tip1]
  by_cases h0 : i = 0
  ·subst h0; rfl
  ·rw [decide_eq_false h0,if_neg (by decide)]
   omega
theorem tip2 {sd j : Nat} (hj : j < 16) : isTip (L2 sd j) (j + 1) = true := by
 unfold isTip
 rw [List.all_eq_true]
 intro b hb
 have : b.ahead ≠ ((j + 1 : Nat) : Int) := by
  rcases L2_mem hb with rfl | ⟨k,_,rfl⟩ | ⟨k,hk,rfl⟩
  ·show (-1 : Int) ≠ _; omega
  ·show ((0 : Nat) : Int) ≠ _; omega
  ·show ((k + 1 : Nat) : Int) ≠ _; omega
 rw [decide_eq_false this]
 rfl
theorem tips2 (sd : Nat) : ∀ j,j ≤ 16 → WFt (L2 sd j) → tipsM (L2 sd j) = 16
 |0,_,h => by
  rw [L2_zero] at h ⊢
  rw [tips1 sd 16 h]
  rfl
 |j + 1,hj,h => by
  have hw : WFt (L2 sd j) := by
   rw [L2_succ] at h
   exact ⟨fun b hb => h.ok b (List.mem_append_left _ hb),fun k hk => by have := h.up k (by rw [len_snoc]; omega); rw [bkT_old hk] at this; exact this⟩
  rw [L2_succ,tips_snoc hw (i := j + 1) (by rw [L2_len]; omega) rfl,tips2 sd j (by omega) hw,tip2 (by omega),if_pos rfl]
theorem fchk1 {sd : Nat} (hsd : sd < 256) {H : List Hd} {ps : List Nat} {i : Nat} (hi : i ≤ 16) (low : Low (L1 sd i)) (I : TI H (L1 sd i) ps) (s : Nat) : chkE (L1 sd i) 7 s lim0 (plainB (f1 sd i) vF) (f1 sd i).ahead (mtH (f1 sd i)) = if i < 16 then 0 else 10 := by
 have h1 : findM (L1 sd i) (plainB (f1 sd i) vF).hash < 0 := find_not fun b hb => by
  show kyH b.hash ≠ kyH (sha2 (f1 sd i).bytes)
  rw [ky_1]
  rcases L1_mem hb with rfl | ⟨j,hj,rfl⟩
  ·rw [ky_b0]; exact ((un hsd).1 i (by omega)).1
  ·show kyH (sha2 (f1 sd j).bytes) ≠ _
   rw [ky_1]; exact ((un hsd).1 j (by omega)).2.1 i (by omega) (by omega)
 have h2 : findM (L1 sd i) (f1 sd i).ahead = ((0 : Nat) : Int) := by
  have := findM_at I.nh I.pos
  rw [L1_at0,b0_hash,Fh.sum] at this
  rw [show (f1 sd i).ahead = hashF from hw0_ok.2.2]
  exact this
 have hb := (low.tb (EQ1 sd i) I.wf (s := s)).2 0 I.pos
 have hm : medianM (L1 sd i) 0 = 1000 := by
  unfold medianM
  rw [anc1_0 I.wf]
  show (tms (L1 sd i) [0]).getD ((tms (L1 sd i) [0]).length / 2) 0 = 1000
  have : tms (L1 sd i) [0] = [1000] := by
   show insL (bkT (L1 sd i) 0).time [] = [1000]
   rw [L1_at0]
   rfl
  rw [this]
  rfl
 unfold chkE
 rw [if_neg (by omega),h2,if_neg (by omega),Int.toNat_natCast]
 unfold mayE
 rw [if_neg (by rw [hb]; exact not_not_intro ⟨rfl,lim0_P,Nat.le_refl _⟩),(f1_meets sd i).1,if_neg (by decide),hm,if_neg (by show ¬ 1010 ≤ 1000; decide),L1_len,tip1,tips1 sd i I.wf]
 by_cases h16 : i < 16
 ·rw [if_pos h16,if_neg (by omega)]
 ·rw [if_neg h16,if_pos (.inr ⟨decide_eq_false (by omega),by omega⟩)]
theorem fchk2 {sd : Nat} (hsd : sd < 256) {H : List Hd} {ps : List Nat} {j : Nat} (hj : j < 16) (low : Low (L2 sd j)) (I : TI H (L2 sd j) ps) (s : Nat) : chkE (L2 sd j) 7 s lim0 (plainB (f2 sd j) vF) (f2 sd j).ahead (mtH (f2 sd j)) = 0 := by
 have h1 : findM (L2 sd j) (plainB (f2 sd j) vF).hash < 0 := find_not fun b hb => by
  show kyH b.hash ≠ kyH (sha2 (f2 sd j).bytes)
  rw [ky_2 sd hj]
  rcases L2_mem hb with rfl | ⟨k,hk,rfl⟩ | ⟨k,hk,rfl⟩
  ·rw [ky_b0]; exact ((un hsd).2 j hj).1
  ·show kyH (sha2 (f1 sd k).bytes) ≠ _
   rw [ky_1]; exact ((un hsd).1 k (by omega)).2.2 j hj
  ·show kyH (sha2 (f2 sd k).bytes) ≠ _
   rw [ky_2 sd (by omega)]; exact ((un hsd).2 k (by omega)).2 j hj (by omega)
 have hlen := L2_len sd j
 have hat : bkT (L2 sd j) (j + 1) = nbB (f1 sd j) vF 0 := by rw [L2_at sd j (by omega),L1_at sd hj]
 have h2 : findM (L2 sd j) (f2 sd j).ahead = ((j + 1 : Nat) : Int) := by
  have := findM_at I.nh (i := j + 1) (by omega)
  rw [hat] at this
  rw [show (f2 sd j).ahead = (nbB (f1 sd j) vF 0).hash from (f1_sum sd j).symm]
  exact this
 have hb := (low.tb (EQ2 sd j) I.wf (s := s)).2 (j + 1) (by omega)
 have hm : medianM (L2 sd j) (j + 1) = 1010 := by
  unfold medianM
  rw [anc2_1 I.wf hj]
  show (tms (L2 sd j) [j + 1,0]).getD ((tms (L2 sd j) [j + 1,0]).length / 2) 0 = 1010
  have : tms (L2 sd j) [j + 1,0] = [1000,1010] := by
   show insL (bkT (L2 sd j) 0).time (insL (bkT (L2 sd j) (j + 1)).time []) = [1000,1010]
   rw [hat,L2_at sd j (by omega),L1_at0]
   rfl
  rw [this]
  rfl
 unfold chkE
 rw [if_neg (by omega),h2,if_neg (by omega),Int.toNat_natCast]
 unfold mayE
 rw [if_neg (by rw [hb]; exact not_not_intro ⟨rfl,lim0_P,Nat.le_refl _⟩),(f2_meets sd hj).1,if_neg (by decide),hm,if_neg (by show ¬ 1020 ≤ 1010; decide),L2_len,tip2 hj,if_neg]
 rintro (h | ⟨h,_⟩)
 ·omega
 ·cases h
end Go.Proofs.YtedffdlkmpmdlaaGreatDoor
namespace Go.Proofs.YtedffdlkmpmdlaaGreatDoor
set_option maxRecDepth 100000
set_option linter.unusedVariables false
set_option linter.unusedSimpArgs false
open Go.RowKit
theorem low_trans {w W W' : World} {S0 : Nat → Prop} (F : Fr F0 w W) (f : Fr S0 W W') (h : ∀ k,S0 k → w.heap.size ≤ k) : Fr F0 w W' := F.trans f fun k hk e => absurd (h k e) (by omega)
end Go.Proofs.YtedffdlkmpmdlaaGreatDoor
