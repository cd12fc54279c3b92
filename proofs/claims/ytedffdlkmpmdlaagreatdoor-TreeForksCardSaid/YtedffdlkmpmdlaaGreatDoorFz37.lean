import Derived.Test.YtedffdlkmpmdlaaGreatDoorFz32
import Derived.Test.YtedffdlkmpmdlaaGreatDoorFz29
import Derived.Test.YtedffdlkmpmdlaaGreatDoorFz19
set_option maxRecDepth 100000
set_option maxHeartbeats 64000000
namespace Go.Proofs.YtedffdlkmpmdlaaGreatDoor
set_option maxRecDepth 100000
set_option linter.unusedVariables false
set_option linter.unusedSimpArgs false
open Go.RowKit
theorem anc_drop {L : List Bk} (h : WFt L) : ∀ i,i < L.length → ∀ (k j : Nat),(anc L i)[k]? = some j → (anc L i).drop k = anc L j ∧ j < L.length := by
 intro i
 induction i using Nat.strongRecOn with
 |_ i ih =>
  intro hi k j hk
  have hu := h.up i hi
  by_cases h0 : (bkT L i).ahead < 0
  ·rw [anc_root h hi h0] at hk ⊢
   cases k with
   |zero => simp at hk; subst hk; exact ⟨(anc_root h hi h0).symm,hi⟩
   |succ k => simp at hk
  ·obtain ⟨m,hm⟩ := Int.eq_ofNat_of_zero_le (show 0 ≤ (bkT L i).ahead by omega)
   obtain ⟨h1,h2⟩ := anc_step h hi hm
   cases k with
   |zero => rw [h2] at hk; simp at hk; subst hk; exact ⟨rfl,hi⟩
   |succ k =>
    rw [h2] at hk ⊢
    rw [List.getElem?_cons_succ] at hk
    rw [List.drop_succ_cons]
    exact ih m h1 (by omega) k j hk
theorem anc_next {L : List Bk} (h : WFt L) {i : Nat} (hi : i < L.length) {k j : Nat} (hk : (anc L i)[k]? = some j) (hl : k + 1 < (anc L i).length) : ∃ m : Nat,(bkT L j).ahead = m ∧ m < L.length ∧ (anc L i)[k + 1]? = some m := by
 obtain ⟨h1,h2⟩ := anc_drop h i hi k j hk
 have hu := h.up j h2
 have hlen := congrArg List.length h1
 rw [List.length_drop] at hlen
 by_cases h0 : (bkT L j).ahead < 0
 ·rw [anc_root h h2 h0] at hlen
  simp at hlen
  omega
 ·obtain ⟨m,hm⟩ := Int.eq_ofNat_of_zero_le (show 0 ≤ (bkT L j).ahead by omega)
  obtain ⟨h3,h4⟩ := anc_step h h2 hm
  refine ⟨m,hm,by omega,?_⟩
  rw [h4] at h1
  have e := congrArg (fun l : List Nat => l[1]?) h1
  simp only [List.getElem?_drop,List.getElem?_cons_succ] at e
  rw [e]
  obtain ⟨r,hr⟩ := anc_head h (show m < L.length by omega)
  rw [hr]; rfl
theorem from_is {L : List Bk} (h : WFt L) {i e j : Nat} (hi : i < L.length) (he : 0 < e) (hle : e ≤ (lineM L i).length) (hj : (anc L i)[e - 1]? = some j) : fromM L e i = j := by
 unfold fromM
 have hl : (lineM L i).length = (anc L i).length := by rw [lineM,List.length_reverse]
 rw [hl] at hle ⊢
 rw [List.getD_eq_getElem?_getD,lineM,List.getElem?_reverse (by omega),show (anc L i).length - 1 - ((anc L i).length - e) = e - 1 by omega,hj]
 rfl
theorem jDue_any {C : Array Value} {e : Nat} {span limit : Nat} {confirm : Int} (h : RuOf C (e : Int) span limit confirm) (he : 0 < e) (he2 : e ≤ 100000) (n : Nat) (hn : 0 < n) (hn2 : n ≤ 100000) (w : World) :
  Calls Tryz.prog 59 #[.agg C,.int .i64 (n : Int)] w fun ed w' => ed = .returned (.bool (decide (n % e = 0))) ∧ Fr F0 w w' := by
 obtain ⟨s,c0,_,_,_,_,_,_⟩ := h
 have s0 : 0 < C.size := by omega
 have d0 := cell_is c0 s0
 have F := (Fr.refl F0 w).alloc (.cells C 29)
 have l1 : (1 : Int) ≤ (e : Int) := by omega
 have l2 : ¬ (n : Int) = 0 := by omega
 have l2' : ¬ n = 0 := by omega
 have l3 : ¬ (e : Int) = 0 := by omega
 have l3' : ¬ e = 0 := by omega
 have hmod : ((n : Int).tmod (e : Int)) = ((n % e : Nat) : Int) := by rw [Int.tmod_eq_emod_of_nonneg (by omega)]; omega
 obtain ⟨m,hm⟩ : ∃ m,n % e = m := ⟨_,rfl⟩
 have hm2 : (n : Int) % (e : Int) = (m : Int) := by rw [← hm]; omega
 rw [hm] at hmod ⊢
 clear hm he he2 hn hn2
 go_enter Tryz.func59,Tryz.ntmps59
 go_wp2_with fail
 go_ret
 have hb : ((m : Int) == 0) = decide (m = 0) := by
  rw [Bool.eq_iff_iff,beq_iff_eq,decide_eq_true_eq]
  omega
 have hc : ((n : Int) != 0 && (m : Int) == 0) = decide (m = 0) := by rw [show ((n : Int) != 0) = true from bne_iff_ne.2 l2,Bool.true_and,hb]
 rw [← hc]
 exact ⟨rfl,F⟩
end Go.Proofs.YtedffdlkmpmdlaaGreatDoor
