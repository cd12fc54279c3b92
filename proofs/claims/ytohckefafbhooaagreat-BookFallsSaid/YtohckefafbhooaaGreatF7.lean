import Derived.Test.YtohckefafbhooaaGreatF6
import Derived.Test.YtohckefafbhooaaGreatF1
import Derived.Test.YtohckefafbhooaaGreatF4
import Derived.Test.YtohckefafbhooaaGreatF2
import Derived.RecoverIn
import Derived.ProofKit
import Derived.OpenShut
import Derived.WideKeyArr2
import Derived.Below
set_option maxRecDepth 100000
set_option maxHeartbeats 64000000
namespace Go.Proofs.YtohckefafbhooaaGreat
set_option maxRecDepth 100000
set_option linter.unusedVariables false
set_option linter.unusedSimpArgs false
open Go.RowKit
end Go.Proofs.YtohckefafbhooaaGreat
namespace Go.Proofs.YtohckefafbhooaaGreat
set_option maxRecDepth 100000
set_option linter.unusedVariables false
set_option linter.unusedSimpArgs false
open Go.RowKit
theorem aPart_arg (a up by' : Nat) (more : Bool) (ha : ¬ a ≤ 4611686018427387904) (w : World) :
  Calls Tryz.prog 29 #[.int .u64 (a : Int),.int .u64 (up : Int),.int .u64 (by' : Int),.bool more] w fun e w' => e = .returned (.tuple #[.int .u64 0,.int .i64 1]) ∧ Fr F0 w w' := by
 have HA := Lib.hid (aRight_any a false (decide_eq_false ha))
 clear ha
 go_enter Tryz.func29,Tryz.ntmps29
 go_wp2_with fail
 (with_reducible refine (HA.out _).mono ?_); rintro e w1 ⟨rfl,rfl⟩
 go_wp2_with fail
 go_ret2
 exact ⟨rfl,Fr.refl _ _⟩
theorem word_wide (x : Nat) (h : x < 2 ^ 64) : x < W256 := Nat.lt_of_lt_of_le h (Nat.pow_le_pow_right (by omega) (by omega))
theorem prod_wide (x y : Nat) (hx : x < 2 ^ 64) (hy : y < 2 ^ 64) : x * y < W256 := Nat.lt_of_lt_of_le (Nat.mul_lt_mul'' hx hy) (by rw [← Nat.pow_add]; exact Nat.pow_le_pow_right (by omega) (by omega))
theorem prod_room (x y : Nat) (hx : x < 2 ^ 64) (hy : y < 2 ^ 64) : x * y + 1 < W256 := by
 have h1 := Nat.mul_lt_mul'' hx hy
 rw [← Nat.pow_add] at h1
 have h2 : 2 ^ (64 + 64) * 2 ≤ W256 := by rw [show 2 ^ (64 + 64) * 2 = 2 ^ 129 from rfl]; exact Nat.pow_le_pow_right (by omega) (by omega)
 generalize 2 ^ (64 + 64) = p at *
 omega
theorem aPart_zero (a up by' : Nat) (more : Bool) (ha : a ≤ 4611686018427387904) (hup : up < 18446744073709551616) (hb : by' = 0) (w : World) :
  Calls Tryz.prog 29 #[.int .u64 (a : Int),.int .u64 (up : Int),.int .u64 (by' : Int),.bool more] w fun e w' => e = .returned (.tuple #[.int .u64 0,.int .i64 5]) ∧ Fr F0 w w' := by
 have HA := Lib.hid (aRight_any a true (decide_eq_true ha))
 have HP := Lib.hid (fun w => show Calls Tryz.prog 90 #[.int .u64 (a : Int),.int .u64 (up : Int)] w _ from wProduct_any a up (by omega) (by omega) w)
 have HO := Lib.hid (fun w => show Calls Tryz.prog 92 #[.int .u64 (by' : Int)] w _ from wOf_any by' (by omega) w)
 have HD := Lib.hid (fun w => wDiv_zero (a * up) by' hb w)
 clear ha hup hb
 go_enter Tryz.func29,Tryz.ntmps29
 go_wp2_with fail
 (with_reducible refine (HA.out _).mono ?_); rintro e w1 ⟨rfl,hw⟩; replace hw := hw.symm; subst hw
 go_wp2_with fail
 (with_reducible refine (HP.out _).mono ?_); rintro e w2 ⟨rfl,f1⟩
 go_wp2_with fail
 (with_reducible refine (HO.out _).mono ?_); rintro e w3 ⟨rfl,f2⟩
 go_wp2_with fail
 (with_reducible refine (HD.out _).mono ?_); rintro e w4 ⟨rfl,f3⟩
 have F := (f1.trans' f2).trans' f3
 clear f1 f2 f3
 go_upto_region 4 with fail
 obtain ⟨W5,hW5⟩ : ∃ W,W = (((w4.alloc (.cells (rowN .u64 64 4 0) 134)).alloc (.cells (rowN .u64 64 4 0) 134)).setRow w4.heap.size (rowN .u64 64 4 0)).setRow (w4.heap.size + 1) (rowN .u64 64 4 0) := ⟨_,rfl⟩
 refine wp_of_world W5 hW5 ?_
 replace F : Fr F0 w W5 := by rw [hW5]; exact ((F.alloc _).alloc _ |>.setRow (fun h => by have := F.size; omega) _).setRow (fun h => by have := F.size; omega) _
 clear hW5
 go_wp2_with fail
 go_ret2
 exact ⟨rfl,F⟩
def ptQ (a up by' : Nat) (more : Bool) : Nat := if more = true ∧ a * up % by' ≠ 0 then a * up / by' + 1 else a * up / by'
def ptA (a up by' : Nat) (more : Bool) : Nat := if ptQ a up by' more ≤ 4611686018427387904 then ptQ a up by' more else 0
def ptE (a up by' : Nat) (more : Bool) : Int := if ptQ a up by' more ≤ 4611686018427387904 then 0 else 4
theorem aPart_core (a up by' x Q R q v V : Nat) (E : Int) (ob os or : Bool) (more : Bool)
  (HA : Hid (∀ w,Calls Tryz.prog 78 #[.int .u64 (a : Int)] w fun e w' => e = .returned (.bool true) ∧ w' = w))
  (HP : Hid (∀ w,Calls Tryz.prog 90 #[.int .u64 (a : Int),.int .u64 (up : Int)] w fun e w' => e = .returned (.agg (rowN .u64 64 4 x)) ∧ Fr F0 w w'))
  (HO : Hid (∀ w,Calls Tryz.prog 92 #[.int .u64 (by' : Int)] w fun e w' => e = .returned (.agg (rowN .u64 64 4 by')) ∧ Fr F0 w w'))
  (HO1 : Hid (∀ w,Calls Tryz.prog 92 #[.int .u64 1] w fun e w' => e = .returned (.agg (rowN .u64 64 4 1)) ∧ Fr F0 w w'))
  (HD : Hid (∀ w,Calls Tryz.prog 91 #[.agg (rowN .u64 64 4 x),.agg (rowN .u64 64 4 by')] w fun e w' => e = .returned (.tuple #[.agg (rowN .u64 64 4 Q),.agg (rowN .u64 64 4 R),.int .i64 0]) ∧ Fr F0 w w'))
  (HQ : Hid (∀ w,Calls Tryz.prog 93 #[.agg (rowN .u64 64 4 Q),.agg (rowN .u64 64 4 1)] w fun e w' => e = .returned (.tuple #[.agg (rowN .u64 64 4 (Q + 1)),.bool false]) ∧ Fr F0 w w'))
  (hR : rowEq 256 R 0 = ob) (hq : q = if more = true ∧ ob = false then Q + 1 else Q)
  (HU : Hid (∀ w,Calls Tryz.prog 94 #[.agg (rowN .u64 64 4 q)] w fun e w' => e = .returned (.tuple #[.int .u64 (v : Int),.bool os]) ∧ Fr F0 w w'))
  (HR : Hid (∀ w,Calls Tryz.prog 78 #[.int .u64 (v : Int)] w fun e w' => e = .returned (.bool or) ∧ w' = w))
  (hV : V = if (os && or) = true then v else 0) (hE : E = if (os && or) = true then 0 else 4) (w : World) :
  Calls Tryz.prog 29 #[.int .u64 (a : Int),.int .u64 (up : Int),.int .u64 (by' : Int),.bool more] w fun e w' => e = .returned (.tuple #[.int .u64 (V : Int),.int .i64 E]) ∧ Fr F0 w w' := by
 have HV := Lib.hid (And.intro hV hE)
 clear hV hE
 have Hq := Lib.hid hq
 clear hq
 go_enter Tryz.func29,Tryz.ntmps29
 go_wp2_with fail
 (with_reducible refine (HA.out _).mono ?_); rintro e w1 ⟨rfl,hw⟩; replace hw := hw.symm; subst hw
 go_wp2_with fail
 (with_reducible refine (HP.out _).mono ?_); rintro e w2 ⟨rfl,f1⟩
 go_wp2_with fail
 (with_reducible refine (HO.out _).mono ?_); rintro e w3 ⟨rfl,f2⟩
 go_wp2_with fail
 (with_reducible refine (HD.out _).mono ?_); rintro e w4 ⟨rfl,f3⟩
 have F := (f1.trans' f2).trans' f3
 clear f1 f2 f3
 go_upto_region 4 with fail
 obtain ⟨W5,hW5⟩ : ∃ W,W = (((w4.alloc (.cells (rowN .u64 64 4 0) 134)).alloc (.cells (rowN .u64 64 4 0) 134)).setRow w4.heap.size (rowN .u64 64 4 Q)).setRow (w4.heap.size + 1) (rowN .u64 64 4 R) := ⟨_,rfl⟩
 refine wp_of_world W5 hW5 ?_
 have hs := F.size
 replace F : Fr F0 w W5 := by rw [hW5]; exact ((F.alloc _).alloc _ |>.setRow (fun h => by omega) _).setRow (fun h => by omega) _
 obtain ⟨r1,r2⟩ := heap2 w4 (.cells (rowN .u64 64 4 0) 134) (.cells (rowN .u64 64 4 0) 134)
 replace r1 : W5.heap[w4.heap.size]? = some (.cells (rowN .u64 64 4 Q) 134 (0,0)) := by rw [hW5,heap_setRow_ne _ _ _ _ (by omega),heap_setRow_at,r1]; rfl
 replace r2 : W5.heap[w4.heap.size + 1]? = some (.cells (rowN .u64 64 4 R) 134 (0,0)) := by rw [hW5,heap_setRow_at,heap_setRow_ne _ _ _ _ (by omega),r2]; rfl
 clear hW5
 generalize hg1 : w4.heap.size = g1 at *
 generalize hg2 : g1 + 1 = g2 at *
 have HG := Lib.hid (show w.heap.size ≤ g1 ∧ g2 ≠ g1 by omega)
 clear hg1 hg2 hs
 cases more
 ·have e : q = Q := by rw [Hq.out]; exact if_neg fun h => by cases h.1
  clear Hq
  subst e
  go_wp2_with fail
  (with_reducible refine (HU.out _).mono ?_); rintro e w7 ⟨rfl,f⟩
  replace F := F.trans' f
  clear f r1
  cases os
  ·go_wp2_with fail
   go_ret2
   exact ⟨by rw [HV.out.1,HV.out.2]; rfl,F⟩
  ·go_wp2_with fail
   (with_reducible refine (HR.out _).mono ?_); rintro e w8 ⟨rfl,hw⟩; replace hw := hw.symm; subst hw
   cases or
   ·go_wp2_with fail
    go_ret2
    exact ⟨by rw [HV.out.1,HV.out.2]; rfl,F⟩
   ·go_wp2_with fail
    go_ret2
    exact ⟨by rw [HV.out.1,HV.out.2]; rfl,F⟩
 ·cases ob
  ·have e : q = Q + 1 := by rw [Hq.out]; exact if_pos ⟨rfl,rfl⟩
   rw [← e] at HQ
   clear Hq e
   go_wp2_with fail
   refine rbegin (S := (fun w' => w'.heap[g2]? = some (.cells (rowN .u64 64 4 R) 134 (0,0)) ∧ Fr F0 w w')) ?_ fun hHeld => ?_
   ·((try dsimp only) <;> (exact ⟨r2,F.drew⟩))
   refine wpAnyH_ready (rs := [0,1]) (by kernel_rfl) (by simp) ?_
   refine AllReadyH.cons (o := ⟨_,_,_,_,_,_⟩) rfl (fun K hK => ?_) (AllReadyH.cons (o := ⟨_,_,_,_,_,_⟩) rfl (fun K hK => ?_) AllReadyH.nil)
   go_simp
   refine hK.out _ _ ?_ (fun hHeld => ?_)
   ·((try dsimp only) <;> (first | exact ⟨keep_row HG.out.2 hHeld.1,hHeld.2.setRow (fun h => by have := HG.out.1; omega) _⟩ | exact hHeld))
   clear hK K
   try (simp only [Act.put,aST]; dsimp only [aS0,aS1])
   refine rone 1 fun K hK => ?_
   go_simp
   ((with_reducible refine (HO1.out _).mono ?_); rintro e w5 ⟨rfl,f5⟩; replace r1 := keep_fr f5 r1)
   refine hK.out _ _ ?_ (fun hHeld => ?_)
   ·((try dsimp only) <;> (first | exact ⟨keep_fr f5 hHeld.1,hHeld.2.trans' f5⟩ | exact hHeld))
   clear hK K
   try (simp only [Act.put,aST]; dsimp only [aS0,aS1])
   refine rone 2 fun K hK => ?_
   go_simp
   ((with_reducible refine (HQ.out _).mono ?_); rintro e w6 ⟨rfl,f5⟩; replace r1 := keep_fr f5 r1)
   refine hK.out _ _ ?_ (fun hHeld => ?_)
   ·((try dsimp only) <;> (first | exact ⟨keep_fr f5 hHeld.1,hHeld.2.trans' f5⟩ | exact hHeld))
   clear hK K
   try (simp only [Act.put,aST]; dsimp only [aS0,aS1])
   refine rtake 3 ?_
   refine rtake 4 ?_
   refine rtake 5 ?_
   refine rone 6 fun K hK => ?_
   go_simp
   refine hK.out _ _ ?_ (fun hHeld => ?_)
   ·((try dsimp only) <;> (first | exact ⟨keep_row HG.out.2 hHeld.1,hHeld.2.setRow (fun h => by have := HG.out.1; omega) _⟩ | exact hHeld))
   clear hK K
   try (simp only [Act.put,aST]; dsimp only [aS0,aS1])
   refine rdone ?_
   rotate_left
   go_simp
   ((with_reducible refine (HO1.out _).mono ?_); rintro e w5 ⟨rfl,f5⟩; replace r1 := keep_fr f5 r1)
   refine hK.out _ _ ?_ (fun hHeld => ?_)
   ·((try dsimp only) <;> (first | exact ⟨keep_fr f5 hHeld.1,hHeld.2.trans' f5⟩ | exact hHeld))
   clear hK K
   try (simp only [Act.put,aST]; dsimp only [aS0,aS1])
   refine rone 0 fun K hK => ?_
   go_simp
   refine hK.out _ _ ?_ (fun hHeld => ?_)
   ·((try dsimp only) <;> (first | exact ⟨keep_row HG.out.2 hHeld.1,hHeld.2.setRow (fun h => by have := HG.out.1; omega) _⟩ | exact hHeld))
   clear hK K
   try (simp only [Act.put,aST]; dsimp only [aS0,aS1])
   refine rone 2 fun K hK => ?_
   go_simp
   ((with_reducible refine (HQ.out _).mono ?_); rintro e w6 ⟨rfl,f5⟩; replace r1 := keep_fr f5 r1)
   refine hK.out _ _ ?_ (fun hHeld => ?_)
   ·((try dsimp only) <;> (first | exact ⟨keep_fr f5 hHeld.1,hHeld.2.trans' f5⟩ | exact hHeld))
   clear hK K
   try (simp only [Act.put,aST]; dsimp only [aS0,aS1])
   refine rtake 3 ?_
   refine rtake 4 ?_
   refine rtake 5 ?_
   refine rone 6 fun K hK => ?_
   go_simp
   refine hK.out _ _ ?_ (fun hHeld => ?_)
   ·((try dsimp only) <;> (first | exact ⟨keep_row HG.out.2 hHeld.1,hHeld.2.setRow (fun h => by have := HG.out.1; omega) _⟩ | exact hHeld))
   clear hK K
   try (simp only [Act.put,aST]; dsimp only [aS0,aS1])
   refine rdone ?_
   rotate_left
   all_goals
    clear F
    obtain ⟨_,F⟩ := hHeld
    replace r1 := new_row (c := rowN .u64 64 4 q) r1
    generalize World.setRow _ g1 (rowN .u64 64 4 q) = W8 at *
    go_wp2_with fail
    (with_reducible refine (HU.out _).mono ?_); rintro e w7 ⟨rfl,f⟩
    replace F := F.trans' f
    clear f r1
    cases os
    ·go_wp2_with fail
     go_ret2
     exact ⟨by rw [HV.out.1,HV.out.2]; rfl,F⟩
    ·go_wp2_with fail
     (with_reducible refine (HR.out _).mono ?_); rintro e w8 ⟨rfl,hw⟩; replace hw := hw.symm; subst hw
     cases or
     ·go_wp2_with fail
      go_ret2
      exact ⟨by rw [HV.out.1,HV.out.2]; rfl,F⟩
     ·go_wp2_with fail
      go_ret2
      exact ⟨by rw [HV.out.1,HV.out.2]; rfl,F⟩
  ·have e : q = Q := by rw [Hq.out]; exact if_neg fun h => by cases h.2
   clear Hq
   subst e
   go_wp2_with fail
   (with_reducible refine (HU.out _).mono ?_); rintro e w7 ⟨rfl,f⟩
   replace F := F.trans' f
   clear f r1
   cases os
   ·go_wp2_with fail
    go_ret2
    exact ⟨by rw [HV.out.1,HV.out.2]; rfl,F⟩
   ·go_wp2_with fail
    (with_reducible refine (HR.out _).mono ?_); rintro e w8 ⟨rfl,hw⟩; replace hw := hw.symm; subst hw
    cases or
    ·go_wp2_with fail
     go_ret2
     exact ⟨by rw [HV.out.1,HV.out.2]; rfl,F⟩
    ·go_wp2_with fail
     go_ret2
     exact ⟨by rw [HV.out.1,HV.out.2]; rfl,F⟩
end Go.Proofs.YtohckefafbhooaaGreat
namespace Go.Proofs.YtohckefafbhooaaGreat
set_option maxRecDepth 100000
set_option linter.unusedVariables false
set_option linter.unusedSimpArgs false
open Go.RowKit
theorem aPart_val (a up by' : Nat) (more : Bool) (ha : a ≤ 4611686018427387904) (hup : up < 18446744073709551616) (hby : by' < 18446744073709551616) (hb : 0 < by') (w : World) :
  Calls Tryz.prog 29 #[.int .u64 (a : Int),.int .u64 (up : Int),.int .u64 (by' : Int),.bool more] w fun e w' => e = .returned (.tuple #[.int .u64 (ptA a up by' more : Nat),.int .i64 (ptE a up by' more)]) ∧ Fr F0 w w' := by
 have hx := prod_wide a up (by omega) (by omega)
 have hx1 := prod_room a up (by omega) (by omega)
 have hbw := word_wide by' (by omega)
 have hQ : a * up / by' + 1 < W256 := Nat.lt_of_le_of_lt (Nat.add_le_add_right (Nat.div_le_self _ _) 1) hx1
 have hRW : a * up % by' < W256 := Nat.lt_of_lt_of_le (Nat.mod_lt _ hb) (Nat.le_of_lt hbw)
 have h1W : 1 < W256 := by
  have : 2 ^ 1 ≤ W256 := Nat.pow_le_pow_right (by omega) (by omega)
  omega
 have hq : ptQ a up by' more < W256 := by
  unfold ptQ
  split <;> omega
 have e1 : (a * up / by' + 1) % W256 = a * up / by' + 1 := Nat.mod_eq_of_lt hQ
 have e2 : decide (W256 ≤ a * up / by' + 1) = false := decide_eq_false (by omega)
 refine aPart_core a up by' (a * up) (a * up / by') (a * up % by') (ptQ a up by' more) (if ptQ a up by' more < 18446744073709551616 then ptQ a up by' more else 0) _ _ (rowEq 256 (a * up % by') 0) (decide (ptQ a up by' more < 18446744073709551616)) _ more
  (Lib.hid (aRight_any a true (decide_eq_true ha)))
  (Lib.hid fun w => wProduct_any a up (by omega) (by omega) w)
  (Lib.hid fun w => wOf_any by' (by omega) w)
  (Lib.hid fun w => show Calls Tryz.prog 92 #[.int .u64 1] w _ from wOf_any 1 (by omega) w)
  (Lib.hid fun w => wDiv_any (a * up) by' hx hbw hb w)
  (Lib.hid fun w => by have := wAdd_any (a * up / by') 1 (by omega) h1W w; rwa [e1,e2] at this)
  rfl ?_ (Lib.hid fun w => wUint_any _ hq w) (Lib.hid fun w => aRight_any _ _ rfl w) ?_ ?_ w
 ·rw [rowEq_of _ 0 hRW (by omega)]
  unfold ptQ
  by_cases hm : more = true ∧ a * up % by' ≠ 0
  ·rw [if_pos hm,if_pos ⟨hm.1,decide_eq_false hm.2⟩]
  ·rw [if_neg hm,if_neg fun h => hm ⟨h.1,of_decide_eq_false h.2⟩]
 ·unfold ptA
  generalize ptQ a up by' more = q at *
  by_cases h1 : q ≤ 4611686018427387904
  ·have h2 : q < 18446744073709551616 := by omega
   rw [if_pos h1,if_pos h2,decide_eq_true h2,decide_eq_true h1]; rfl
  ·rw [if_neg h1]
   by_cases h2 : q < 18446744073709551616
   ·rw [if_pos h2,decide_eq_true h2,decide_eq_false h1]; rfl
   ·rw [if_neg h2,decide_eq_false h2]; rfl
 ·unfold ptE
  generalize ptQ a up by' more = q at *
  by_cases h1 : q ≤ 4611686018427387904
  ·have h2 : q < 18446744073709551616 := by omega
   rw [if_pos h1,if_pos h2,decide_eq_true h2,decide_eq_true h1]; rfl
  ·rw [if_neg h1]
   by_cases h2 : q < 18446744073709551616
   ·rw [if_pos h2,decide_eq_true h2,decide_eq_false h1]; rfl
   ·rw [if_neg h2,decide_eq_false h2]; rfl
def paV (a up by' : Nat) (more : Bool) : Nat := if a ≤ 4611686018427387904 ∧ 0 < by' then ptA a up by' more else 0
def paE (a up by' : Nat) (more : Bool) : Int := if a ≤ 4611686018427387904 then (if 0 < by' then ptE a up by' more else 5) else 1
theorem aPart_any (a up by' : Nat) (more : Bool) (hup : up < 18446744073709551616) (hby : by' < 18446744073709551616) (w : World) :
  Calls Tryz.prog 29 #[.int .u64 (a : Int),.int .u64 (up : Int),.int .u64 (by' : Int),.bool more] w fun e w' => e = .returned (.tuple #[.int .u64 (paV a up by' more : Nat),.int .i64 (paE a up by' more)]) ∧ Fr F0 w w' := by
 unfold paV paE
 by_cases ha : a ≤ 4611686018427387904
 ·by_cases hb : 0 < by'
  ·rw [if_pos ⟨ha,hb⟩,if_pos ha,if_pos hb]
   exact aPart_val a up by' more ha hup hby hb w
  ·rw [if_neg fun h => hb h.2,if_pos ha,if_neg hb]
   exact aPart_zero a up by' more ha hup (by omega) w
 ·rw [if_neg fun h => ha h.1,if_neg ha]
  exact aPart_arg a up by' more ha w
end Go.Proofs.YtohckefafbhooaaGreat
namespace Go.Proofs.YtohckefafbhooaaGreat
set_option maxRecDepth 100000
set_option linter.unusedVariables false
set_option linter.unusedSimpArgs false
open Go.RowKit
theorem ePright_any (p : Nat) (o : Bool) (ho : decide (1 ≤ p ∧ p ≤ 1099511627776) = o) (w : World) :
  Calls Tryz.prog 71 #[.int .u64 (p : Int)] w fun e w' => e = .returned (.bool o) ∧ w' = w := by
 by_cases h1 : 1 ≤ p
 ·by_cases h2 : p ≤ 1099511627776
  ·have l1 : (1 : Int) ≤ (p : Int) := by omega
   have l2 : (p : Int) ≤ 1099511627776 := by omega
   obtain rfl : true = o := by rw [← ho]; exact (decide_eq_true ⟨h1,h2⟩).symm
   clear ho h1 h2
   go_enter Tryz.func71,Tryz.ntmps71
   go_wp2
   go_ret
   exact ⟨rfl,rfl⟩
  ·have l1 : (1 : Int) ≤ (p : Int) := by omega
   have l2 : ¬ (p : Int) ≤ 1099511627776 := by omega
   obtain rfl : false = o := by rw [← ho]; exact (decide_eq_false fun h => h2 h.2).symm
   clear ho h1 h2
   go_enter Tryz.func71,Tryz.ntmps71
   go_wp2
   go_ret
   exact ⟨rfl,rfl⟩
 ·have l1 : ¬ (1 : Int) ≤ (p : Int) := by omega
  obtain rfl : false = o := by rw [← ho]; exact (decide_eq_false fun h => h1 h.1).symm
  clear ho h1
  go_enter Tryz.func71,Tryz.ntmps71
  go_wp2
  go_ret
  exact ⟨rfl,rfl⟩
theorem ethreshold_any (p : Nat) (o : Bool) (ho : decide (1 ≤ p ∧ p ≤ 1000000) = o) (w : World) :
  Calls Tryz.prog 74 #[.int .u64 (p : Int)] w fun e w' => e = .returned (.bool o) ∧ w' = w := by
 by_cases h1 : 1 ≤ p
 ·by_cases h2 : p ≤ 1000000
  ·have l1 : (1 : Int) ≤ (p : Int) := by omega
   have l2 : (p : Int) ≤ 1000000 := by omega
   obtain rfl : true = o := by rw [← ho]; exact (decide_eq_true ⟨h1,h2⟩).symm
   clear ho h1 h2
   go_enter Tryz.func74,Tryz.ntmps74
   go_wp2
   go_ret
   exact ⟨rfl,rfl⟩
  ·have l1 : (1 : Int) ≤ (p : Int) := by omega
   have l2 : ¬ (p : Int) ≤ 1000000 := by omega
   obtain rfl : false = o := by rw [← ho]; exact (decide_eq_false fun h => h2 h.2).symm
   clear ho h1 h2
   go_enter Tryz.func74,Tryz.ntmps74
   go_wp2
   go_ret
   exact ⟨rfl,rfl⟩
 ·have l1 : ¬ (1 : Int) ≤ (p : Int) := by omega
  obtain rfl : false = o := by rw [← ho]; exact (decide_eq_false fun h => h1 h.1).symm
  clear ho h1
  go_enter Tryz.func74,Tryz.ntmps74
  go_wp2
  go_ret
  exact ⟨rfl,rfl⟩
theorem asked_room {p t : Nat} (hp : p ≤ 1099511627776) (ht : t ≤ 1000000) : p * t ≤ 1099511627776000000 := Nat.mul_le_mul hp ht
theorem easked_any (p t : Nat) (hp : p ≤ 1099511627776) (ht : t ≤ 1000000) (w : World) :
  Calls Tryz.prog 75 #[.int .u64 (p : Int),.int .u64 (t : Int)] w fun e w' => e = .returned (.int .u64 ((p * t : Nat) : Int)) ∧ w' = w := by
 have hr := asked_room hp ht
 have m : IntKind.u64.wrap ((p : Int) * (t : Int)) = ((p * t : Nat) : Int) := by rw [IntWalk.u64_in _ (by rw [← Int.natCast_mul]; omega),Int.natCast_mul]
 generalize p * t = s at *
 clear hp ht hr
 go_enter Tryz.func75,Tryz.ntmps75
 go_wp2
 go_ret
 exact ⟨rfl,rfl⟩
theorem all_take {l : List Nat} {M i : Nat} (h : ∀ j,j < i → l.getD j 0 ≤ M) (hi : l.length ≤ i) : ∀ x ∈ l,x ≤ M := by
 intro x hx
 obtain ⟨j,hj,rfl⟩ := List.getElem_of_mem hx
 have := h j (by omega)
 simpa [List.getD,hj] using this
theorem getD_memU {l : List Nat} {j : Nat} (h : j < l.length) : l.getD j 0 ∈ l := by
 simp [List.getD,h]
theorem eright_any (p : Nat) (l : List Nat) (a : Option Addr) (n c : Nat) (hn : n = l.length) (hl : l.length ≤ 100) (o : Bool) (ho : decide ((1 ≤ p ∧ p ≤ 1099511627776) ∧ ∀ x ∈ l,x ≤ 4611686018427387904) = o) (w : World) (h : Us w a c l) :
  Calls Tryz.prog 73 #[.int .u64 (p : Int),.slice a n c] w fun e w' => e = .returned (.bool o) ∧ w' = w := by
 have HX := Lib.hid h
 have HO := Lib.hid ho
 have HN := Lib.hid hn
 have hl : n ≤ 100 := by omega
 clear h ho hn
 go_enter Tryz.func73,Tryz.ntmps73
 go_wp2_with fail
 go_loopw [9] (fun iv wr => wr = w ∧ ∃ i : Nat,i ≤ n ∧ iv = .int .i64 i ∧ ∀ j,j < i → l.getD j 0 ≤ 4611686018427387904) (fun iv _ => n - (intOf iv).toNat)
 case atStart => exact ⟨rfl,0,by omega,rfl,fun j h => by omega⟩
 case round =>
  obtain ⟨rfl,i,hi,rfl,hall⟩ := hrel
  by_cases h1 : i < n
  ·have l1 : (i : Int) < (n : Int) := by omega
   obtain ⟨b,off,ea,hc⟩ := HX.out.get i (by rw [← HN.out]; exact h1)
   subst ea
   by_cases hx : l.getD i 0 ≤ 4611686018427387904
   ·have HA := Lib.hid (aRight_any (l.getD i 0) true (decide_eq_true hx))
    have HI := Lib.hid (show ∀ j,j < i + 1 → l.getD j 0 ≤ 4611686018427387904 from fun j hj => by
     rcases Nat.lt_or_ge j i with h | h
     ·exact hall j h
     ·obtain rfl : j = i := by omega
      exact hx)
    clear hall hx
    generalize l.getD i 0 = x at *
    go_wp2_with fail
    (with_reducible refine (HA.out _).mono ?_); rintro e w1 ⟨rfl,hw⟩; replace hw := hw.symm; subst hw
    go_wp2_with fail
    go_roundw
    case rel => exact ⟨trivial,i + 1,h1,by go_num,HI.out⟩
    case measure => simp [intOf]; omega
   ·have HA := Lib.hid (aRight_any (l.getD i 0) false (decide_eq_false hx))
    have HF := Lib.hid (show o = false by
     rw [← HO.out]
     exact decide_eq_false fun h => hx (h.2 _ (getD_memU (by rw [← HN.out]; exact h1))))
    clear hall hx
    generalize l.getD i 0 = x at *
    go_wp2_with fail
    (with_reducible refine (HA.out _).mono ?_); rintro e w1 ⟨rfl,hw⟩; replace hw := hw.symm; subst hw
    go_wp2_with fail
    go_ret
    exact ⟨by rw [HF.out]; rfl,rfl⟩
  ·have l1 : ¬ (i : Int) < (n : Int) := by omega
   have HA := Lib.hid (ePright_any p o (by
    rw [← HO.out]
    have := all_take hall (by rw [← HN.out]; omega)
    exact decide_eq_decide.2 ⟨fun h => ⟨h,this⟩,fun h => h.1⟩))
   clear hall
   go_wp2_with fail
   (with_reducible refine (HA.out _).mono ?_); rintro e w1 ⟨rfl,hw⟩; replace hw := hw.symm; subst hw
   go_wp2_with fail
   go_ret
   exact ⟨rfl,rfl⟩
end Go.Proofs.YtohckefafbhooaaGreat
namespace Go.Proofs.YtohckefafbhooaaGreat
set_option maxRecDepth 100000
set_option linter.unusedVariables false
set_option linter.unusedSimpArgs false
open Go.RowKit
theorem Us.of_list (w : World) (l : List Nat) (t : TypeId) (hl : l.length ≤ 1000) : Us (w.alloc (.cells (l.map U64).toArray t)) (some ⟨w.heap.size,0,none⟩) l.length l :=
 ⟨by simp,Nat.le_refl _,by unfold maxLen; omega,(fun e => by cases e),fun j u hj => ⟨w.heap.size,0,rfl,by
  rw [Nat.zero_add,cell_of_row _ _ j _ _ _ (heap_alloc_new w _)]
  simpa using hj⟩⟩
theorem Us.of1 (w : World) (x : Nat) (t : TypeId) : Us (w.alloc (.cells #[.int .u64 (x : Int)] t)) (some ⟨w.heap.size,0,none⟩) 1 [x] := Us.of_list w [x] t (by simp)
theorem Us.of2 (w : World) (x y : Nat) (t : TypeId) : Us (w.alloc (.cells #[.int .u64 (x : Int),.int .u64 (y : Int)] t)) (some ⟨w.heap.size,0,none⟩) 2 [x,y] := Us.of_list w [x,y] t (by simp)
end Go.Proofs.YtohckefafbhooaaGreat
namespace Go.Proofs.YtohckefafbhooaaGreat
set_option maxRecDepth 100000
set_option linter.unusedVariables false
set_option linter.unusedSimpArgs false
open Go.RowKit
def rdQ (a b : Nat) (more : Bool) : Nat := if more = true ∧ a % b ≠ 0 then a / b + 1 else a / b
end Go.Proofs.YtohckefafbhooaaGreat
namespace Go.Proofs.YtohckefafbhooaaGreat
set_option maxRecDepth 100000
set_option linter.unusedVariables false
set_option linter.unusedSimpArgs false
open Go.RowKit
def riP (p t c q : Nat) : Prop := ((1 ≤ p ∧ p ≤ 1099511627776) ∧ (1 ≤ t ∧ t ≤ 1000000)) ∧ c ≤ 4611686018427387904 ∧ q ≤ 4611686018427387904
instance (p t c q : Nat) : Decidable (riP p t c q) := by unfold riP; infer_instance
def enP (c q p t : Nat) : Prop := riP p t c q ∧ q * p * t ≤ c * 100000000 * 1000
instance (c q p t : Nat) : Decidable (enP c q p t) := by unfold enP; infer_instance
theorem eEnough_any (c q p t : Nat) (hc : c < 18446744073709551616) (hq : q < 18446744073709551616) (o : Bool) (ho : decide (enP c q p t) = o) (w : World) :
  Calls Tryz.prog 121 #[.int .u64 (c : Int),.int .u64 (q : Int),.int .u64 (p : Int),.int .u64 (t : Int)] w fun e w' => e = .returned (.bool o) ∧ Fr F0 w w' := by
 by_cases h1 : (1 ≤ p ∧ p ≤ 1099511627776) ∧ ∀ x ∈ [c,q],x ≤ 4611686018427387904
 ·have HR := Lib.hid (fun a w h => eright_any p [c,q] a 2 2 rfl (by simp) true (decide_eq_true h1) w h)
  by_cases h2 : 1 ≤ t ∧ t ≤ 1000000
  ·have HT := Lib.hid (ethreshold_any t true (decide_eq_true h2))
   have hri : riP p t c q := ⟨⟨h1.1,h2⟩,h1.2 c (by simp),h1.2 q (by simp)⟩
   have hen : enP c q p t ↔ q * (p * t) ≤ c * 100000000000 := by
    rw [← Nat.mul_assoc,show c * 100000000000 = c * 100000000 * 1000 by rw [Nat.mul_assoc]]
    exact ⟨fun h => h.2,fun h => ⟨hri,h⟩⟩
   have hpt := asked_room h1.1.2 h2.2
   have HK := Lib.hid (easked_any p t h1.1.2 h2.2)
   have HA := Lib.hid (fun w => show Calls Tryz.prog 90 #[.int .u64 (c : Int),.int .u64 100000000000] w _ from wProduct_any c 100000000000 (by omega) (by omega) w)
   have HB := Lib.hid (wProduct_any q (p * t) (by omega) (by omega))
   have HC := Lib.hid (wCmp_any (c * 100000000000) (q * (p * t)) (prod_wide _ _ (by omega) (by omega)) (prod_wide _ _ (by omega) (by omega)))
   have hz : (o = true ∧ (0 : Int) ≤ sgn (c * 100000000000) (q * (p * t))) ∨ (o = false ∧ ¬ (0 : Int) ≤ sgn (c * 100000000000) (q * (p * t))) := by
    rw [← ho]
    unfold sgn
    by_cases h : q * (p * t) ≤ c * 100000000000
    ·refine .inl ⟨decide_eq_true (hen.2 h),?_⟩
     rw [if_neg (by omega)]; split <;> omega
    ·refine .inr ⟨decide_eq_false fun e => h (hen.1 e),?_⟩
     rw [if_pos (by omega)]; omega
   clear ho hen hri h1 h2 hpt hc hq
   generalize sgn (c * 100000000000) (q * (p * t)) = z at *
   generalize q * (p * t) = B at *
   generalize p * t = k at *
   generalize c * 100000000000 = A at *
   have HZ := Lib.hid hz
   clear hz
   go_enter Tryz.func121,Tryz.ntmps121
   go_wp2_with fail
   obtain ⟨W1,hW1⟩ : ∃ W,W = w.alloc (.cells #[.int .u64 (c : Int),.int .u64 (q : Int)] 36) := ⟨_,rfl⟩
   refine Calls.of_world W1 hW1 ?_
   have u1 : Us W1 (some ⟨w.heap.size,0,none⟩) 2 [c,q] := by rw [hW1]; exact Us.of2 _ _ _ _
   have F : Fr F0 w W1 := by rw [hW1]; exact (Fr.refl _ _).alloc _
   clear hW1
   (with_reducible refine (HR.out _ _ u1).mono ?_); rintro e w1 ⟨rfl,hw⟩; replace hw := hw.symm; subst hw
   clear u1
   go_wp2_with fail
   (with_reducible refine (HT.out _).mono ?_); rintro e w1 ⟨rfl,hw⟩; replace hw := hw.symm; subst hw
   go_wp2_with fail
   (with_reducible refine (HA.out _).mono ?_); rintro e w2 ⟨rfl,f⟩
   replace F := F.trans' f
   clear f
   go_wp2_with fail
   obtain ⟨W3,hW3⟩ : ∃ W,W = (w2.alloc (.cells (rowN .u64 64 4 0) 134)).setRow w2.heap.size (rowN .u64 64 4 A) := ⟨_,rfl⟩
   refine wp_of_world W3 hW3 ?_
   have N := put_new w2 (rowN .u64 64 4 0) (rowN .u64 64 4 A) 134
   rw [← hW3] at N
   have r0 := N.new
   replace F := F.trans' N.fr
   clear N hW3
   generalize w2.heap.size = g at *
   refine rbegin (S := (fun w' => w'.heap[g]? = some (.cells (rowN .u64 64 4 A) 134 (0,0)) ∧ Fr F0 w w')) ?_ fun hHeld => ?_
   ·((try dsimp only) <;> (exact ⟨r0,F.drew⟩))
   refine rtake 0 ?_
   refine rtake 1 ?_
   refine rtake 2 ?_
   refine rtake 3 ?_
   refine rone 4 fun K hK => ?_
   go_simp
   ((with_reducible refine (HK.out _).mono ?_); rintro e w5 ⟨rfl,hw⟩; replace hw := hw.symm; subst hw)
   refine hK.out _ _ ?_ (fun hHeld => ?_)
   ·((try dsimp only) <;> (first | exact hHeld | exact ⟨keep_fr f5 hHeld.1,hHeld.2.trans' f5⟩))
   clear hK K
   try (simp only [Act.put,aST]; dsimp only [aS0,aS1])
   refine rone 5 fun K hK => ?_
   go_simp
   ((with_reducible refine (HB.out _).mono ?_); rintro e w5 ⟨rfl,f5⟩)
   refine hK.out _ _ ?_ (fun hHeld => ?_)
   ·((try dsimp only) <;> (first | exact hHeld | exact ⟨keep_fr f5 hHeld.1,hHeld.2.trans' f5⟩))
   clear hK K
   try (simp only [Act.put,aST]; dsimp only [aS0,aS1])
   refine rone 6 fun K hK => ?_
   go_simp
   ((with_reducible refine (HC.out _).mono ?_); rintro e w5 ⟨rfl,f5⟩)
   refine hK.out _ _ ?_ (fun hHeld => ?_)
   ·((try dsimp only) <;> (first | exact hHeld | exact ⟨keep_fr f5 hHeld.1,hHeld.2.trans' f5⟩))
   clear hK K
   try (simp only [Act.put,aST]; dsimp only [aS0,aS1])
   refine rtake 7 ?_
   refine rtake 8 ?_
   refine rdone ?_
   all_goals
    rcases HZ.out with ⟨rfl,hz⟩ | ⟨rfl,hz⟩
    ·go_wp2
     go_ret
     exact ⟨rfl,hHeld.2⟩
    ·go_wp2
     go_ret
     exact ⟨congrArg (fun b => Ending.returned (.bool b)) (decide_eq_false (p := (0 : Int) ≤ z) (by omega)),hHeld.2⟩
  ·have HT := Lib.hid (ethreshold_any t false (decide_eq_false h2))
   obtain rfl : false = o := by rw [← ho]; exact (decide_eq_false fun h => h2 h.1.1.2).symm
   clear ho h1 h2 hc hq
   go_enter Tryz.func121,Tryz.ntmps121
   go_wp2_with fail
   obtain ⟨W1,hW1⟩ : ∃ W,W = w.alloc (.cells #[.int .u64 (c : Int),.int .u64 (q : Int)] 36) := ⟨_,rfl⟩
   refine Calls.of_world W1 hW1 ?_
   have u1 : Us W1 (some ⟨w.heap.size,0,none⟩) 2 [c,q] := by rw [hW1]; exact Us.of2 _ _ _ _
   have F : Fr F0 w W1 := by rw [hW1]; exact (Fr.refl _ _).alloc _
   clear hW1
   (with_reducible refine (HR.out _ _ u1).mono ?_); rintro e w1 ⟨rfl,hw⟩; replace hw := hw.symm; subst hw
   clear u1
   go_wp2_with fail
   (with_reducible refine (HT.out _).mono ?_); rintro e w1 ⟨rfl,hw⟩; replace hw := hw.symm; subst hw
   go_wp2_with fail
   go_ret
   exact ⟨rfl,F⟩
 ·have HR := Lib.hid (fun a w h => eright_any p [c,q] a 2 2 rfl (by simp) false (decide_eq_false h1) w h)
  obtain rfl : false = o := by
   rw [← ho]
   exact (decide_eq_false fun h => h1 ⟨h.1.1.1,by simpa using h.1.2⟩).symm
  clear ho h1 hc hq
  go_enter Tryz.func121,Tryz.ntmps121
  go_wp2_with fail
  obtain ⟨W1,hW1⟩ : ∃ W,W = w.alloc (.cells #[.int .u64 (c : Int),.int .u64 (q : Int)] 36) := ⟨_,rfl⟩
  refine Calls.of_world W1 hW1 ?_
  have u1 : Us W1 (some ⟨w.heap.size,0,none⟩) 2 [c,q] := by rw [hW1]; exact Us.of2 _ _ _ _
  have F : Fr F0 w W1 := by rw [hW1]; exact (Fr.refl _ _).alloc _
  clear hW1
  (with_reducible refine (HR.out _ _ u1).mono ?_); rintro e w1 ⟨rfl,hw⟩; replace hw := hw.symm; subst hw
  clear u1
  go_wp2_with fail
  go_ret
  exact ⟨rfl,F⟩
end Go.Proofs.YtohckefafbhooaaGreat
namespace Go.Proofs.YtohckefafbhooaaGreat
set_option maxRecDepth 100000
set_option linter.unusedVariables false
set_option linter.unusedSimpArgs false
open Go.RowKit Go.Shelf
attribute [local go_sem] Oper.semAt_some
abbrev encA (x : Nat) : Array Value := #[.int .u64 (x : Int)]
theorem recover_idle (n : Nat) (w : World) :
  CallsDIn Fence.wide n Tryz.prog 141 #[] .returning w fun e u' w' => (∃ v,e = .returned v) ∧ u' = .returning ∧ w' = w := by
 refine callsDIn_of_wpSIn Tryz.func141 rfl (by trivial) fun c₀ cs hu => ?_
 apply wpSIn_region
 simp [wpOpsSIn,go_sem,recoverD,hu,Tryz.ntmps141,Exit.thenS]
 cases c₀
 simp_all [bodyPostS,results,Tryz.results141]
end Go.Proofs.YtohckefafbhooaaGreat
namespace Go.Proofs.YtohckefafbhooaaGreat
set_option maxRecDepth 100000
set_option linter.unusedVariables false
set_option linter.unusedSimpArgs false
open Go.RowKit Go.Shelf
attribute [local go_sem] Oper.semAt_some
theorem sameC {w : World} {g : Nat} {v : Value} {t : TypeId} {f : Nat × Nat} (h : w.heap[g]? = some (.cells #[v] t f)) : (w.setCell ⟨g,0,none⟩ v).heap[g]? = some (.cells #[v] t f) := by rw [heap_setCell_at,h]; rfl
theorem otherC {w : World} {g g' i : Nat} {v : Value} {o : Obj} (hn : g ≠ g') (h : w.heap[g]? = some o) : (w.setCell ⟨g',i,none⟩ v).heap[g]? = some o := by rw [heap_setCell_ne' _ _ _ _ _ hn]; exact h
theorem res_cell2 {P : Program} {fn : Func} {p q : Tmp} {ty ty2 : TypeId} {k k2 : IntKind} (h : fn.results = #[.cell p ty,.cell q ty2]) (tmps : Array Value) (w : World) (g g' : Nat) (v v' : Value)
  (hp : tmps.getD p undef = .pointer (some ⟨g,0,none⟩)) (hq : tmps.getD q undef = .pointer (some ⟨g',0,none⟩)) (hc : w.cell? ⟨g,0,none⟩ = some v) (hc' : w.cell? ⟨g',0,none⟩ = some v')
  (hu : P.underlying ty = some (.int k)) (hu' : P.underlying ty2 = some (.int k2)) : (results fn tmps).run P w = .ok (.tuple #[v,v']) w := by
 have hp' : tmps[p]?.getD undef = .pointer (some ⟨g,0,none⟩) := by simpa using hp
 have hq' : tmps[q]?.getD undef = .pointer (some ⟨g',0,none⟩) := by simpa using hq
 have hagg : (isAgg ty).run P w = .ok false w := by
  unfold isAgg
  rw [Sem.run_bind,run_underlying hu w]
  rfl
 have hagg2 : (isAgg ty2).run P w = .ok false w := by
  unfold isAgg
  rw [Sem.run_bind,run_underlying hu' w]
  rfl
 simp [results,h,hp',hq',asAddr,loadVar,Sem.run_bind,hagg,hagg2,hc,hc']
theorem adE_ok {a b : Nat} (h : adE a b = 0) : a ≤ 4611686018427387904 ∧ b ≤ 4611686018427387904 ∧ a + b ≤ 4611686018427387904 := by
 unfold adE at h
 split at h
 ·rename_i h1
  split at h
  ·exact ⟨h1.1,h1.2,by assumption⟩
  ·cases h
 ·cases h
theorem adV_ok {a b : Nat} (h : adE a b = 0) : adV a b = a + b := if_pos (adE_ok h)
theorem adV_no {a b : Nat} (h : ¬ adE a b = 0) : adV a b = 0 := by
 refine if_neg fun h1 => h ?_
 unfold adE
 rw [if_pos ⟨h1.1,h1.2.1⟩,if_pos h1.2.2]
end Go.Proofs.YtohckefafbhooaaGreat
namespace Go.Proofs.YtohckefafbhooaaGreat
set_option maxRecDepth 100000
set_option linter.unusedVariables false
set_option linter.unusedSimpArgs false
open Go.RowKit Go.Shelf
attribute [local go_sem] Oper.semAt_some
end Go.Proofs.YtohckefafbhooaaGreat
namespace Go.Proofs.YtohckefafbhooaaGreat
set_option maxRecDepth 100000
set_option linter.unusedVariables false
set_option linter.unusedSimpArgs false
open Go.RowKit
def vlV (q : Nat) : Nat := if q ≤ 4611686018427387904 then q else 0
def vlE (q : Nat) : Int := if q ≤ 4611686018427387904 then 0 else 4
theorem part_is (a up by' : Nat) (more : Bool) (ha : a ≤ 4611686018427387904) (hup : up < 18446744073709551616) (hby : by' < 18446744073709551616) (hb : 0 < by') (w : World) :
  Calls Tryz.prog 29 #[.int .u64 (a : Int),.int .u64 (up : Int),.int .u64 (by' : Int),.bool more] w fun e w' => e = .returned (.tuple #[.int .u64 (vlV (rdQ (a * up) by' more) : Nat),.int .i64 (vlE (rdQ (a * up) by' more))]) ∧ Fr F0 w w' :=
 aPart_val a up by' more ha hup hby hb w
theorem one_right {p a : Nat} (ha : a ≤ 4611686018427387904) (hp : 1 ≤ p ∧ p ≤ 1099511627776) : (1 ≤ p ∧ p ≤ 1099511627776) ∧ ∀ x ∈ [a],x ≤ 4611686018427387904 := ⟨hp,by simpa using ha⟩
theorem eNeeds_yes (a p t : Nat) (ha : a ≤ 4611686018427387904) (hp : 1 ≤ p ∧ p ≤ 1099511627776) (ht : 1 ≤ t ∧ t ≤ 1000000) (w : World) :
  Calls Tryz.prog 19 #[.int .u64 (a : Int),.int .u64 (p : Int),.int .u64 (t : Int)] w fun e w' => e = .returned (.tuple #[.int .u64 (vlV (rdQ (a * (p * t)) 100000000000 true) : Nat),.int .i64 (vlE (rdQ (a * (p * t)) 100000000000 true))]) ∧ Fr F0 w w' := by
 have hpt := asked_room hp.2 ht.2
 have hpt0 : 0 < p * t := Nat.mul_pos hp.1 ht.1
 have HR := Lib.hid (fun b w h => eright_any p [a] b 1 1 rfl (by simp) true (decide_eq_true (one_right ha hp)) w h)
 have HT := Lib.hid (ethreshold_any t true (decide_eq_true ht))
 have HK := Lib.hid (easked_any p t hp.2 ht.2)
 have HP := Lib.hid (fun w => show Calls Tryz.prog 29 #[.int .u64 (a : Int),.int .u64 ((p * t : Nat) : Int),.int .u64 100000000000,.bool true] w _ from part_is a (p * t) 100000000000 true ha (by omega) (by omega) (by omega) w)
 clear ha hp ht hpt hpt0
 generalize vlV (rdQ (a * (p * t)) 100000000000 true) = V at *
 generalize vlE (rdQ (a * (p * t)) 100000000000 true) = E at *
 generalize p * t = k at *
 go_enter Tryz.func19,Tryz.ntmps19
 go_wp2_with fail
 obtain ⟨W1,hW1⟩ : ∃ W,W = w.alloc (.cells #[.int .u64 (a : Int)] 36) := ⟨_,rfl⟩
 refine Calls.of_world W1 hW1 ?_
 have u1 : Us W1 (some ⟨w.heap.size,0,none⟩) 1 [a] := by rw [hW1]; exact Us.of1 _ _ _
 have F : Fr F0 w W1 := by rw [hW1]; exact (Fr.refl _ _).alloc _
 clear hW1
 (with_reducible refine (HR.out _ _ u1).mono ?_); rintro e w1 ⟨rfl,hw⟩; replace hw := hw.symm; subst hw
 clear u1
 go_wp2_with fail
 (with_reducible refine (HT.out _).mono ?_); rintro e w1 ⟨rfl,hw⟩; replace hw := hw.symm; subst hw
 go_wp2_with fail
 (with_reducible refine (HK.out _).mono ?_); rintro e w1 ⟨rfl,hw⟩; replace hw := hw.symm; subst hw
 go_wp2_with fail
 (with_reducible refine (HP.out _).mono ?_); rintro e w2 ⟨rfl,f⟩
 replace F := F.trans' f
 clear f
 go_wp2_with fail
 go_ret2
 exact ⟨rfl,F⟩
end Go.Proofs.YtohckefafbhooaaGreat
namespace Go.Proofs.YtohckefafbhooaaGreat
set_option maxRecDepth 100000
set_option linter.unusedVariables false
set_option linter.unusedSimpArgs false
open Go.RowKit
def bdP (x y z : Nat) : Prop := (y ≤ x ∧ z ≤ y) ∧ (1 ≤ z ∧ x ≤ 1000000)
instance (x y z : Nat) : Decidable (bdP x y z) := by unfold bdP; infer_instance
abbrev BV (x y z : Nat) : Array Value := #[.int .u64 (x : Int),.int .u64 (y : Int),.int .u64 (z : Int)]
theorem eBright_any (x y z : Nat) (o : Bool) (ho : decide (bdP x y z) = o) (w : World) :
  Calls Tryz.prog 102 #[.agg (BV x y z)] w fun e w' => e = .returned (.bool o) ∧ Fr F0 w w' := by
 have hcase : (¬ y ≤ x ∧ o = false) ∨ (y ≤ x ∧ ¬ z ≤ y ∧ o = false) ∨ (y ≤ x ∧ z ≤ y ∧ decide (1 ≤ x ∧ x ≤ 1000000) = false ∧ o = false) ∨ (y ≤ x ∧ z ≤ y ∧ decide (1 ≤ x ∧ x ≤ 1000000) = true ∧ decide (1 ≤ y ∧ y ≤ 1000000) = false ∧ o = false) ∨
   (y ≤ x ∧ z ≤ y ∧ decide (1 ≤ x ∧ x ≤ 1000000) = true ∧ decide (1 ≤ y ∧ y ≤ 1000000) = true ∧ decide (1 ≤ z ∧ z ≤ 1000000) = o) := by
  rw [← ho]
  by_cases h1 : y ≤ x
  ·by_cases h2 : z ≤ y
   ·by_cases h3 : 1 ≤ x ∧ x ≤ 1000000
    ·by_cases h4 : 1 ≤ y ∧ y ≤ 1000000
     ·exact .inr (.inr (.inr (.inr ⟨h1,h2,decide_eq_true h3,decide_eq_true h4,decide_eq_decide.2 (by unfold bdP; omega)⟩)))
     ·exact .inr (.inr (.inr (.inl ⟨h1,h2,decide_eq_true h3,decide_eq_false h4,decide_eq_false (by unfold bdP; omega)⟩)))
    ·exact .inr (.inr (.inl ⟨h1,h2,decide_eq_false h3,decide_eq_false (by unfold bdP; omega)⟩))
   ·exact .inr (.inl ⟨h1,h2,decide_eq_false (by unfold bdP; omega)⟩)
  ·exact .inl ⟨h1,decide_eq_false (by unfold bdP; omega)⟩
 clear ho
 rcases hcase with ⟨h1,rfl⟩ | ⟨h1,h2,rfl⟩ | ⟨h1,h2,h3,rfl⟩ | ⟨h1,h2,h3,h4,rfl⟩ | ⟨h1,h2,h3,h4,h5⟩
 ·have l1 : ¬ (y : Int) ≤ (x : Int) := by omega
  clear h1
  go_enter Tryz.func102,Tryz.ntmps102
  go_wp2_with fail
  go_ret
  exact ⟨rfl,(Fr.refl _ _).alloc _⟩
 ·have l1 : (y : Int) ≤ (x : Int) := by omega
  have l2 : ¬ (z : Int) ≤ (y : Int) := by omega
  clear h1 h2
  go_enter Tryz.func102,Tryz.ntmps102
  go_wp2_with fail
  go_ret
  exact ⟨rfl,(Fr.refl _ _).alloc _⟩
 ·have l1 : (y : Int) ≤ (x : Int) := by omega
  have l2 : (z : Int) ≤ (y : Int) := by omega
  have T1 := Lib.hid (ethreshold_any x _ h3)
  clear h1 h2 h3
  go_enter Tryz.func102,Tryz.ntmps102
  go_wp2_with fail
  (with_reducible refine (T1.out _).mono ?_); rintro e w1 ⟨rfl,rfl⟩
  go_wp2_with fail
  go_ret
  exact ⟨rfl,(Fr.refl _ _).alloc _⟩
 ·have l1 : (y : Int) ≤ (x : Int) := by omega
  have l2 : (z : Int) ≤ (y : Int) := by omega
  have T1 := Lib.hid (ethreshold_any x _ h3)
  have T2 := Lib.hid (ethreshold_any y _ h4)
  clear h1 h2 h3 h4
  go_enter Tryz.func102,Tryz.ntmps102
  go_wp2_with fail
  (with_reducible refine (T1.out _).mono ?_); rintro e w1 ⟨rfl,rfl⟩
  go_wp2_with fail
  (with_reducible refine (T2.out _).mono ?_); rintro e w1 ⟨rfl,rfl⟩
  go_wp2_with fail
  go_ret
  exact ⟨rfl,(Fr.refl _ _).alloc _⟩
 ·have l1 : (y : Int) ≤ (x : Int) := by omega
  have l2 : (z : Int) ≤ (y : Int) := by omega
  have T1 := Lib.hid (ethreshold_any x _ h3)
  have T2 := Lib.hid (ethreshold_any y _ h4)
  have T3 := Lib.hid (ethreshold_any z _ h5)
  clear h1 h2 h3 h4 h5
  go_enter Tryz.func102,Tryz.ntmps102
  go_wp2_with fail
  (with_reducible refine (T1.out _).mono ?_); rintro e w1 ⟨rfl,rfl⟩
  go_wp2_with fail
  (with_reducible refine (T2.out _).mono ?_); rintro e w1 ⟨rfl,rfl⟩
  go_wp2_with fail
  (with_reducible refine (T3.out _).mono ?_); rintro e w1 ⟨rfl,rfl⟩
  go_wp2_with fail
  go_ret
  exact ⟨rfl,(Fr.refl _ _).alloc _⟩
end Go.Proofs.YtohckefafbhooaaGreat
namespace Go.Proofs.YtohckefafbhooaaGreat
set_option maxRecDepth 100000
set_option linter.unusedVariables false
set_option linter.unusedSimpArgs false
open Go.RowKit Go.ChangeShapes Go.WideShapes
theorem bounds_u64' {a : Int} (h : (Lit.int .u64 a).wf = true) : 0 ≤ a ∧ a < 18446744073709551616 := by
 have := bounds_u64 h
 omega
section
variable {H : Type} {enc : TypeId × Value → H} {W : World} {base : Nat} {sp : Nat → Bool} {held : Bool}
end
end Go.Proofs.YtohckefafbhooaaGreat
namespace Go.Proofs.YtohckefafbhooaaGreat
set_option maxRecDepth 100000
set_option linter.unusedVariables false
set_option linter.unusedSimpArgs false
open Go.RowKit Go.ChangeShapes Go.WideShapes
section
variable {H : Type} {enc : TypeId × Value → H} {W : World} {base : Nat} {sp : Nat → Bool} {held : Bool}
theorem open_amt {r : Reach} {b0 : Nat} {v : Value} {d : DataW H} {ps : List MemPlace} (hd : DataW.Trod enc Tryz.prog W base sp held 36 v d ps) (hv : Value.okWide Tryz.prog W r b0 36 v) :
  ∃ x : Nat,x < 18446744073709551616 ∧ v = .int .u64 (x : Int) := by
 obtain ⟨n,rfl⟩ := okWide_int Tryz.underlying36 hv
 obtain ⟨fuel,hf⟩ := hd
 obtain ⟨z,e,_,wf⟩ := DataW.trod_int Tryz.underlying36 (by simpa [Value.cells] using hf)
 have hb := bounds_u64' wf
 simp at e
 subst e
 obtain ⟨x,rfl⟩ := Int.eq_ofNat_of_zero_le hb.1
 exact ⟨x,by omega,rfl⟩
end
end Go.Proofs.YtohckefafbhooaaGreat
