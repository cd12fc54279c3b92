import Derived.Test.YtohckefafbhooaaGreatN43
import Derived.Test.YtohckefafbhooaaGreatN46
import Derived.Test.YtohckefafbhooaaGreatN13
set_option maxRecDepth 100000
set_option maxHeartbeats 64000000
namespace Go.Proofs.YtohckefafbhooaaGreat
set_option maxRecDepth 100000
set_option linter.unusedVariables false
set_option linter.unusedSimpArgs false
open Go.RowKit
section
variable (x v a : Nat) (w : World)
theorem nilSt (W : World) : Calls Tryz.prog 82 #[vBv v0,.int .i64 1] W fun e w' => e = .returned (.tuple #[vBv v0,.int .i64 1]) ∧ Fr F0 W w' := bkstanding_no v0 1 (by decide) W
theorem nilSettled : Calls Tryz.prog 111 #[.pointer none,.int .u8 (x : Int),.int .u64 (a : Int)] w fun e w' => e = .returned (.tuple #[vBv v0,.agg #[.int .u64 0,.int .u64 0],.int .i64 1]) ∧ Fr F0 w w' := bksettled_ref (fun W _ => bkasked_nil a x W) (by decide)
end
theorem nil_go {f : FuncId} {args : Array Value} {r : Value} {w W : World} (F : Fr F0 w W) (h : Calls Tryz.prog f args W fun e w' => e = .returned r ∧ Fr F0 W w') : Calls Tryz.prog f args W fun e w' => e = .returned r ∧ Fr F0 w w' := h.mono fun _ _ ⟨a,b⟩ => ⟨a,F.trans' b⟩
theorem nil_go0 {f : FuncId} {args : Array Value} {r : Value} {w W : World} (F : Fr F0 w W) (h : Calls Tryz.prog f args W fun e w' => e = .returned r ∧ w' = W) : Calls Tryz.prog f args W fun e w' => e = .returned r ∧ Fr F0 w w' := h.mono fun _ _ ⟨a,b⟩ => ⟨a,by rw [b]; exact F⟩
theorem do20_nil (d : Dd) (hk : d.kind ≤ 21) (hw : d.w < 256) (hv : d.v < 256) (w : World) : Calls Tryz.prog 13 #[.pointer none,.agg (dC d)] w fun e w' => e = .returned (.tuple #[.int .u64 0,.int .i64 1]) ∧ Fr F0 w w' := by
 have hc : d.kind = 0 ∨ d.kind = 1 ∨ d.kind = 2 ∨ d.kind = 3 ∨ d.kind = 4 ∨ d.kind = 5 ∨ d.kind = 6 ∨ d.kind = 7 ∨ d.kind = 8 ∨ d.kind = 9 ∨ d.kind = 10 ∨ d.kind = 11 ∨ d.kind = 12 ∨ d.kind = 13 ∨ d.kind = 14 ∨ d.kind = 15 ∨ d.kind = 16 ∨ d.kind = 17 ∨ d.kind = 18 ∨ d.kind = 19 ∨ d.kind = 20 ∨ d.kind = 21 := by omega
 rcases hc with h | h | h | h | h | h | h | h | h | h | h | h | h | h | h | h | h | h | h | h | h | h
 ·exact do20_0 h hw hv (Q := fun w' => Fr F0 w w') fun W f => nil_go0 f (bkTick_nil _ W)
 ·exact do20_1 h hw hv (Q := fun w' => Fr F0 w w') (t := 0) (fun W f => bkFeed_nil W) (fun W f => bkNow_nil W) fun W f => nil_go0 f (oSet_nil _ _ W)
 ·exact do20_2 h hw hv (Q := fun w' => Fr F0 w w') (fun W f => bkPurse_nil W) fun W f => nil_go0 f (puIn_nil _ _ W)
 ·exact do20_3 h hw hv (Q := fun w' => Fr F0 w w') (fun W f => bkPurse_nil W) fun W f => nil_go0 f (puOut_nil _ _ W)
 ·exact do20_4 h hw hv (Q := fun w' => Fr F0 w w') (fun W f => bkTokens_nil W) fun W f => nil_go0 f (tkMove_nil _ _ _ W)
 ·exact do20_5 h hw hv (Q := fun w' => Fr F0 w w') fun W f => nil_go f (bkRegister_nil _ _ _ W)
 ·exact do20_6 h hw hv (Q := fun w' => Fr F0 w w') fun W f => nil_go f (bkMore_ref (bkasked_nil _ _ W) nilSt (by decide))
 ·exact do20_7 h hw hv (Q := fun w' => Fr F0 w w') fun W f => nil_go f (bkLess_ref (bkasked_nil _ _ W) nilSt (by decide))
 ·exact do20_8 h hw hv (Q := fun w' => Fr F0 w w') fun W f => nil_go f (bkReserve_ref (bkasked_nil _ _ W) nilSt (by decide))
 ·exact do20_9 h hw hv (Q := fun w' => Fr F0 w w') fun W f => nil_go f (bkRelease_ref (u := v0) (E1 := 0) (bkasked_nil _ _ W) (by decide))
 ·exact do20_10 h hw hv (Q := fun w' => Fr F0 w w') fun W f => nil_go f (bkMint_ref (bkasked_nil _ _ W) nilSt (by decide))
 ·exact do20_11 h hw hv (Q := fun w' => Fr F0 w w') fun W f => nil_go f (bkBurn_ref (bkasked_nil _ _ W) nilSt (by decide))
 ·exact do20_12 h hw hv (Q := fun w' => Fr F0 w w') fun W f => nil_go f (bkPaid_ref (u := v0) (E1 := 0) (nilSettled _ _ W) (by decide))
 ·exact do20_13 h hw hv (Q := fun w' => Fr F0 w w') fun W f => nil_go f (bkRemint_ref (u := v0) (E1 := 0) (nilSettled _ _ W) (by decide))
 ·exact do20_14 h hw hv (Q := fun w' => Fr F0 w w') (n := 0) fun W f => nil_go f (bkSlash_ref (u := v0) (E1 := 0) (bkasked_nil _ _ W) (by decide))
 ·exact do20_15 h hw hv (Q := fun w' => Fr F0 w w') fun W f => nil_go f (bkLeave_ref (bkasked_nil _ _ W) nilSt (by decide))
 ·exact do20_16 h hw hv (Q := fun w' => Fr F0 w w') fun W f => nil_go f (bkStay_ref (bkasked_nil _ _ W) nilSt (by decide))
 ·exact do20_17 h hw hv (Q := fun w' => Fr F0 w w') fun W f => nil_go f (bkHand_ref (bkasked_nil _ _ W) nilSt (by decide))
 ·exact do20_18 h hw hv (Q := fun w' => Fr F0 w w') fun W f => nil_go f (bkFall_ref (bkvault_nil _ W) nilSt (by decide))
 ·exact do20_19 h hw hv (Q := fun w' => Fr F0 w w') (n := 0) fun W f => nil_go0 f (bkRedeem_nil _ _ W)
 ·exact do20_20 h hw hv (Q := fun w' => Fr F0 w w') fun W f => nil_go0 f (bkDeposit_nil _ _ W)
 ·exact do20_21 h hw hv (Q := fun w' => Fr F0 w w') fun W f => nil_go0 f (bkReturn_nil _ _ W)
def rz : Array Value := Array.replicate 11 (.int .u64 0)
theorem run_buildR0 (w : World) : (buildBR #[]).run Tryz.prog w = .ok (.agg rz) w := run_build w _ _ _ (by kernel_rfl)
theorem rz_one : rowOne rz := by unfold rowOne; kernel_rfl
theorem rz_eq (w : World) : (binOp .eql 38 (.agg rz) (.agg rz)).run Tryz.prog w = .ok (.bool true) w := by kernel_rfl
theorem bkRules_nil (w : World) : Calls Tryz.prog 36 #[.pointer none] w fun e w' => e = .returned (.agg rz) ∧ Fr F0 w w' := by
 have hb := run_buildR0
 have oS := rz_one
 have sz : rz.size = 11 := rfl
 generalize rz = Z at *
 go_enter Tryz.func36,Tryz.ntmps36
 go_upto_region 1 with fail
 refine wp_new fun W1 N => ?_
 have r2 := N.new
 have F1 := Lib.hid N.fr
 clear N
 obtain ⟨g2,hg2⟩ : ∃ g,w.heap.size = g := ⟨_,rfl⟩
 rw [hg2] at r2 ⊢
 replace hg2 := Lib.hid hg2
 go_wp2_with fail
 refine bodyPost_ret (results_cell_row rfl _ _ g2 _ _ _ _ rfl (by rw [heap_setRow_at,r2]; rfl) Tryz.underlying38 rfl (by rw [Tryz.szBRules,sz])) rfl ?_
 exact ⟨rfl,F1.out.setRow (fun h => by have := hg2.out; omega) _⟩
theorem bkPool_nil (w : World) : Calls Tryz.prog 28 #[.pointer none] w fun e w' => e = .returned (.agg #[.int .u64 0,.int .u64 0]) ∧ Fr F0 w w' := by
 have hb := run_buildP0
 have oS := pool_one 0 0
 go_enter Tryz.func28,Tryz.ntmps28
 go_upto_region 1 with fail
 refine wp_new fun W1 N => ?_
 have r2 := N.new
 have F1 := Lib.hid N.fr
 clear N
 obtain ⟨g2,hg2⟩ : ∃ g,w.heap.size = g := ⟨_,rfl⟩
 rw [hg2] at r2 ⊢
 replace hg2 := Lib.hid hg2
 go_wp2_with fail
 refine bodyPost_ret (results_cell_row rfl _ _ g2 _ _ _ _ rfl (by rw [heap_setRow_at,r2]; rfl) Tryz.underlying76 rfl (by rw [Tryz.szPool]; rfl)) rfl ?_
 exact ⟨rfl,F1.out.setRow (fun h => by have := hg2.out; omega) _⟩
end Go.Proofs.YtohckefafbhooaaGreat
namespace Go.Proofs.YtohckefafbhooaaGreat
set_option maxRecDepth 100000
set_option linter.unusedVariables false
set_option linter.unusedSimpArgs false
open Go.RowKit
theorem run_fieldP1 (a b : Int) (w : World) : (Instr.field 76 (.agg #[.int .u64 a,.int .u64 b]) 1).run Tryz.prog w = .ok (.int .u64 b) w := by kernel_rfl
theorem dIf (k w v : Int) (a : Nat) (A : List UInt8) : (dI k w v a A).size = 24 ∧ rowOne (dI k w v a A) ∧ (dI k w v a A)[0]? = some (.int .i64 k) := ⟨dI_size k w v a A,dI_one k w v a A,rfl⟩
theorem bookNone_at (kd x y : Int) (am : Nat) (A : List UInt8) (ham : am < 18446744073709551616) (hA : A.length = 20) (w : World) : Calls Tryz.prog 6 #[.agg (dI kd x y am A)] w fun e w' => e = .returned (.bool true) ∧ Fr F0 w w' := by
 have HL := Lib.hid lives20_any
 have HNr := Lib.hid (near20_any kd x y am A)
 have HV := Lib.hid (bkVault_nil 1)
 rw [show ((1 : Nat) : Int) = 1 from rfl] at HV
 have HP := Lib.hid bkPrice_nil
 have HN := Lib.hid bkNow_nil
 have HD := Lib.hid bkDeposits_nil
 have HVs := Lib.hid bkVaults_nil
 have HC := Lib.hid bkCopy_nil
 have HT := Lib.hid bkTokens_nil
 have HPu := Lib.hid bkPurse_nil
 have HFe := Lib.hid bkFeed_nil
 have HR := Lib.hid bkRules_nil
 have HPo := Lib.hid bkPool_nil
 have hb0 := run_buildR0
 have hf1 := run_fieldP1
 have hre := rz_eq
 have szC := cB_size v0
 have oSC := cB_one v0
 simp only [vBv_is] at HV
 generalize cB v0 = C0 at *
 generalize rz = Z at *
 obtain ⟨s1,o1,-⟩ := dIf kd x y am A
 obtain ⟨s2,o2,k2⟩ := dIf kd (nrN x) (nrN y) am A
 have HDo : Hid (0 ≤ kd → kd < 22 → ∀ W,Calls Tryz.prog 13 #[.pointer none,.agg (dI kd (nrN x) (nrN y) am A)] W fun e w' => e = .returned (.tuple #[.int .u64 0,.int .i64 1]) ∧ Fr F0 W w') := Lib.hid fun h1 h2 W => by
  obtain ⟨k,rfl⟩ := Int.eq_ofNat_of_zero_le h1
  exact do20_nil ⟨k,nrN x,nrN y,am,A⟩ (show k ≤ 21 by omega) (nrN_lt x) (nrN_lt y) W
 generalize dI kd x y am A = D1 at *
 generalize dI kd (nrN x) (nrN y) am A = D2 at *
 have e2 := cell_is k2
 clear ham hA
 go_enter Tryz.func6,Tryz.ntmps6
 go_upto_region 1 with fail
 refine wp_new fun W1 N => ?_
 have r1 := N.new
 have F := Lib.hid N.fr
 clear N
 obtain ⟨g1,hg1⟩ : ∃ g,w.heap.size = g := ⟨_,rfl⟩
 rw [hg1] at r1 ⊢
 replace hg1 := Lib.hid hg1
 go_wp2_with fail
 (with_reducible refine (HL.out _).mono ?_); rintro e w2 ⟨rfl,f2⟩
 replace r1 := keep_fr f2 r1
 replace F := Lib.hid (F.out.trans' f2)
 clear f2 HL
 go_wp2_with fail
 (with_reducible refine (HNr.out _).mono ?_); rintro e w3 ⟨rfl,f3⟩
 replace r1 := keep_fr f3 r1
 replace F := Lib.hid (F.out.trans' f3)
 clear f3 HNr
 go_upto_region 5 with fail
 obtain ⟨W4,hW4⟩ : ∃ X,X = w3.setRow g1 D2 := ⟨_,rfl⟩
 rw [← hW4]
 replace r1 : W4.heap[g1]? = some (.cells D2 26 (0,0)) := by rw [hW4]; exact new_row r1
 replace F := Lib.hid (show Fr F0 w W4 by rw [hW4]; exact F.out.setRow (fun h => by have := hg1.out; omega) _)
 clear hW4
 by_cases h1 : 0 ≤ kd
 ·by_cases h2 : kd < 22
  ·have hdo := Lib.hid (HDo.out h1 h2)
   clear HDo
   go_wp2_with fail
   (with_reducible refine (hdo.out _).mono ?_); rintro e w5 ⟨rfl,f5⟩
   replace F := Lib.hid (F.out.trans' f5)
   clear f5 r1 hdo
   go_wp2_with fail
   (with_reducible refine (HV.out _).mono ?_); rintro e w9 ⟨rfl,f9⟩
   replace F := Lib.hid (F.out.trans' f9)
   clear f9
   go_upto_region 10 with fail
   refine wp_put fun W3 N => ?_
   replace F := Lib.hid (F.out.trans' N.fr)
   clear N
   go_wp2_with fail
   (with_reducible refine (HP.out _).mono ?_); rintro e w9 ⟨rfl,f9⟩
   replace F := Lib.hid (F.out.trans' f9)
   clear f9
   go_wp2_with fail
   (with_reducible refine (HN.out _).mono ?_); rintro e w9 ⟨rfl,hw⟩; replace hw := hw.symm; subst hw
   go_wp2_with fail
   (with_reducible refine (HD.out _).mono ?_); rintro e w9 ⟨rfl,hw⟩; replace hw := hw.symm; subst hw
   go_wp2_with fail
   refine (HVs.out _).mono ?_; rintro e w9 ⟨gb,v9,rfl,hvb,f9⟩
   replace F := Lib.hid (F.out.trans' f9)
   have HAl := Lib.hid (allV20_any (l := []) hvb (Nat.zero_le _))
   clear f9 hvb
   go_wp2_with fail
   refine HAl.out.mono ?_; rintro e w10 ⟨a9,c9,rfl,-,f10⟩
   replace F := Lib.hid (F.out.trans' f10)
   clear f10 HAl
   rw [show ([] : List Vlt).length = 0 from rfl]
   go_wp2_with fail
   (with_reducible refine (HC.out _).mono ?_); rintro e w9 ⟨rfl,hw⟩; replace hw := hw.symm; subst hw
   go_wp2_with fail
   (with_reducible refine (HT.out _).mono ?_); rintro e w9 ⟨rfl,hw⟩; replace hw := hw.symm; subst hw
   go_wp2_with fail
   (with_reducible refine (HPu.out _).mono ?_); rintro e w9 ⟨rfl,hw⟩; replace hw := hw.symm; subst hw
   go_wp2_with fail
   (with_reducible refine (HFe.out _).mono ?_); rintro e w9 ⟨rfl,hw⟩; replace hw := hw.symm; subst hw
   go_wp2_with fail
   (with_reducible refine (HR.out _).mono ?_); rintro e w9 ⟨rfl,f9⟩
   replace F := Lib.hid (F.out.trans' f9)
   clear f9
   go_wp2_with fail
   (with_reducible refine (HPo.out _).mono ?_); rintro e w9 ⟨rfl,f9⟩
   replace F := Lib.hid (F.out.trans' f9)
   clear f9
   go_wp2_with fail
   go_ret
   exact ⟨rfl,F.out⟩
  ·clear HDo
   go_wp2_with fail
   (with_reducible refine (HV.out _).mono ?_); rintro e w9 ⟨rfl,f9⟩
   replace F := Lib.hid (F.out.trans' f9)
   clear f9
   go_upto_region 10 with fail
   refine wp_put fun W3 N => ?_
   replace F := Lib.hid (F.out.trans' N.fr)
   clear N
   go_wp2_with fail
   (with_reducible refine (HP.out _).mono ?_); rintro e w9 ⟨rfl,f9⟩
   replace F := Lib.hid (F.out.trans' f9)
   clear f9
   go_wp2_with fail
   (with_reducible refine (HN.out _).mono ?_); rintro e w9 ⟨rfl,hw⟩; replace hw := hw.symm; subst hw
   go_wp2_with fail
   (with_reducible refine (HD.out _).mono ?_); rintro e w9 ⟨rfl,hw⟩; replace hw := hw.symm; subst hw
   go_wp2_with fail
   refine (HVs.out _).mono ?_; rintro e w9 ⟨gb,v9,rfl,hvb,f9⟩
   replace F := Lib.hid (F.out.trans' f9)
   have HAl := Lib.hid (allV20_any (l := []) hvb (Nat.zero_le _))
   clear f9 hvb
   go_wp2_with fail
   refine HAl.out.mono ?_; rintro e w10 ⟨a9,c9,rfl,-,f10⟩
   replace F := Lib.hid (F.out.trans' f10)
   clear f10 HAl
   rw [show ([] : List Vlt).length = 0 from rfl]
   go_wp2_with fail
   (with_reducible refine (HC.out _).mono ?_); rintro e w9 ⟨rfl,hw⟩; replace hw := hw.symm; subst hw
   go_wp2_with fail
   (with_reducible refine (HT.out _).mono ?_); rintro e w9 ⟨rfl,hw⟩; replace hw := hw.symm; subst hw
   go_wp2_with fail
   (with_reducible refine (HPu.out _).mono ?_); rintro e w9 ⟨rfl,hw⟩; replace hw := hw.symm; subst hw
   go_wp2_with fail
   (with_reducible refine (HFe.out _).mono ?_); rintro e w9 ⟨rfl,hw⟩; replace hw := hw.symm; subst hw
   go_wp2_with fail
   (with_reducible refine (HR.out _).mono ?_); rintro e w9 ⟨rfl,f9⟩
   replace F := Lib.hid (F.out.trans' f9)
   clear f9
   go_wp2_with fail
   (with_reducible refine (HPo.out _).mono ?_); rintro e w9 ⟨rfl,f9⟩
   replace F := Lib.hid (F.out.trans' f9)
   clear f9
   go_wp2_with fail
   go_ret
   exact ⟨rfl,F.out⟩
 ·have h1' : kd < 0 := by omega
  clear HDo
  go_wp2_with fail
  (with_reducible refine (HV.out _).mono ?_); rintro e w9 ⟨rfl,f9⟩
  replace F := Lib.hid (F.out.trans' f9)
  clear f9
  go_upto_region 10 with fail
  refine wp_put fun W3 N => ?_
  replace F := Lib.hid (F.out.trans' N.fr)
  clear N
  go_wp2_with fail
  (with_reducible refine (HP.out _).mono ?_); rintro e w9 ⟨rfl,f9⟩
  replace F := Lib.hid (F.out.trans' f9)
  clear f9
  go_wp2_with fail
  (with_reducible refine (HN.out _).mono ?_); rintro e w9 ⟨rfl,hw⟩; replace hw := hw.symm; subst hw
  go_wp2_with fail
  (with_reducible refine (HD.out _).mono ?_); rintro e w9 ⟨rfl,hw⟩; replace hw := hw.symm; subst hw
  go_wp2_with fail
  refine (HVs.out _).mono ?_; rintro e w9 ⟨gb,v9,rfl,hvb,f9⟩
  replace F := Lib.hid (F.out.trans' f9)
  have HAl := Lib.hid (allV20_any (l := []) hvb (Nat.zero_le _))
  clear f9 hvb
  go_wp2_with fail
  refine HAl.out.mono ?_; rintro e w10 ⟨a9,c9,rfl,-,f10⟩
  replace F := Lib.hid (F.out.trans' f10)
  clear f10 HAl
  rw [show ([] : List Vlt).length = 0 from rfl]
  go_wp2_with fail
  (with_reducible refine (HC.out _).mono ?_); rintro e w9 ⟨rfl,hw⟩; replace hw := hw.symm; subst hw
  go_wp2_with fail
  (with_reducible refine (HT.out _).mono ?_); rintro e w9 ⟨rfl,hw⟩; replace hw := hw.symm; subst hw
  go_wp2_with fail
  (with_reducible refine (HPu.out _).mono ?_); rintro e w9 ⟨rfl,hw⟩; replace hw := hw.symm; subst hw
  go_wp2_with fail
  (with_reducible refine (HFe.out _).mono ?_); rintro e w9 ⟨rfl,hw⟩; replace hw := hw.symm; subst hw
  go_wp2_with fail
  (with_reducible refine (HR.out _).mono ?_); rintro e w9 ⟨rfl,f9⟩
  replace F := Lib.hid (F.out.trans' f9)
  clear f9
  go_wp2_with fail
  (with_reducible refine (HPo.out _).mono ?_); rintro e w9 ⟨rfl,f9⟩
  replace F := Lib.hid (F.out.trans' f9)
  clear f9
  go_wp2_with fail
  go_ret
  exact ⟨rfl,F.out⟩
end Go.Proofs.YtohckefafbhooaaGreat
