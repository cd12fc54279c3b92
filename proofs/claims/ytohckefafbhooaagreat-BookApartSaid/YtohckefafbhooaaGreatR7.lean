import Derived.Test.YtohckefafbhooaaGreatR6
import Derived.Test.YtohckefafbhooaaGreatR1
import Derived.Test.YtohckefafbhooaaGreatR4
import Derived.Test.YtohckefafbhooaaGreatR2
import Derived.RecoverIn
import Derived.ProofKit
import Derived.OpenShut
import Derived.WideKeyArr2
import Derived.Below
set_option maxRecDepth 100000
set_option maxHeartbeats 64000000
namespace Go.Proofs.YtohckefafbhooaaGreat
set_option linter.unusedVariables false
set_option linter.unusedSimpArgs false
open Go.RowKit
theorem aw3 (x : Nat) : (ig .u64 64 4 x = #[]) = False := by
 apply eq_false
 intro h
 have := congrArg Array.size h
 rw [aas] at this
 simp at this
theorem ayj (a up by' : Nat) (more : Bool) (ha : ¬ a ≤ 4611686018427387904) (w : World) :
  Calls Tryz.prog 29 #[.int .u64 (a : Int),.int .u64 (up : Int),.int .u64 (by' : Int),.bool more] w fun e w' => e = .returned (.tuple #[.int .u64 0,.int .i64 1]) ∧ Fr F0 w w' := by
 have HA := Lib.hid (iy a false (decide_eq_false ha))
 clear ha
 go_enter Tryz.func29,Tryz.ntmps29
 go_wp2_with fail
 (with_reducible refine (HA.out _).mono ?_); rintro e w1 ⟨rfl,rfl⟩
 go_wp2_with fail
 go_ret2
 exact ⟨rfl,Fr.refl _ _⟩
theorem acw (x : Nat) (h : x < 2 ^ 64) : x < oz := Nat.lt_of_lt_of_le h (Nat.pow_le_pow_right (by omega) (by omega))
theorem ac0 (x y : Nat) (hx : x < 2 ^ 64) (hy : y < 2 ^ 64) : x * y < oz := Nat.lt_of_lt_of_le (Nat.mul_lt_mul'' hx hy) (by rw [← Nat.pow_add]; exact Nat.pow_le_pow_right (by omega) (by omega))
theorem al1 (x y : Nat) (hx : x < 2 ^ 64) (hy : y < 2 ^ 64) : x * y + 1 < oz := by
 have h1 := Nat.mul_lt_mul'' hx hy
 rw [← Nat.pow_add] at h1
 have h2 : 2 ^ (64 + 64) * 2 ≤ oz := by rw [show 2 ^ (64 + 64) * 2 = 2 ^ 129 from rfl]; exact Nat.pow_le_pow_right (by omega) (by omega)
 generalize 2 ^ (64 + 64) = p at *
 omega
theorem auu (a up by' : Nat) (more : Bool) (ha : a ≤ 4611686018427387904) (hup : up < 18446744073709551616) (hb : by' = 0) (w : World) :
  Calls Tryz.prog 29 #[.int .u64 (a : Int),.int .u64 (up : Int),.int .u64 (by' : Int),.bool more] w fun e w' => e = .returned (.tuple #[.int .u64 0,.int .i64 5]) ∧ Fr F0 w w' := by
 have HA := Lib.hid (iy a true (decide_eq_true ha))
 have HP := Lib.hid (fun w => show Calls Tryz.prog 90 #[.int .u64 (a : Int),.int .u64 (up : Int)] w _ from abv a up (by omega) (by omega) w)
 have HO := Lib.hid (fun w => show Calls Tryz.prog 92 #[.int .u64 (by' : Int)] w _ from ajr by' (by omega) w)
 have HD := Lib.hid (fun w => aws (a * up) by' hb w)
 clear ha hup hb
 go_enter Tryz.func29,Tryz.ntmps29
 go_wp2_with fail
 (with_reducible refine (HA.out _).mono ?_); rintro e w1 ⟨rfl,hw⟩; replace hw := hw.symm; subst hw
 go_wp2_with fail
 (with_reducible refine (HP.out _).mono ?_); rintro e w2 ⟨rfl,f1⟩
 go_wp2_with fail
 (with_reducible refine (HO.out _).mono ?_); rintro e w3 ⟨rfl,f2⟩
 go_wp2_with fail
 (with_reducible refine (HD.out _).mono ?_); rintro e w4 ⟨rfl,f3⟩
 have F := (f1.trans' f2).trans' f3
 clear f1 f2 f3
 go_upto_region 4 with fail
 obtain ⟨W5,hW5⟩ : ∃ W,W = (((w4.alloc (.cells (ig .u64 64 4 0) 134)).alloc (.cells (ig .u64 64 4 0) 134)).setRow w4.heap.size (ig .u64 64 4 0)).setRow (w4.heap.size + 1) (ig .u64 64 4 0) := ⟨_,rfl⟩
 refine bg W5 hW5 ?_
 replace F : Fr F0 w W5 := by rw [hW5]; exact ((F.alloc _).alloc _ |>.setRow (fun h => by have := F.size; omega) _).setRow (fun h => by have := F.size; omega) _
 clear hW5
 go_wp2_with fail
 go_ret2
 exact ⟨rfl,F⟩
def ptQ (a up by' : Nat) (more : Bool) : Nat := if more = true ∧ a * up % by' ≠ 0 then a * up / by' + 1 else a * up / by'
def ptA (a up by' : Nat) (more : Bool) : Nat := if ptQ a up by' more ≤ 4611686018427387904 then ptQ a up by' more else 0
def ptE (a up by' : Nat) (more : Bool) : Int := if ptQ a up by' more ≤ 4611686018427387904 then 0 else 4
theorem auv (a up by' x Q R q v V : Nat) (E : Int) (ob os or : Bool) (more : Bool)
  (HA : Hid (∀ w,Calls Tryz.prog 78 #[.int .u64 (a : Int)] w fun e w' => e = .returned (.bool true) ∧ w' = w))
  (HP : Hid (∀ w,Calls Tryz.prog 90 #[.int .u64 (a : Int),.int .u64 (up : Int)] w fun e w' => e = .returned (.agg (ig .u64 64 4 x)) ∧ Fr F0 w w'))
  (HO : Hid (∀ w,Calls Tryz.prog 92 #[.int .u64 (by' : Int)] w fun e w' => e = .returned (.agg (ig .u64 64 4 by')) ∧ Fr F0 w w'))
  (HO1 : Hid (∀ w,Calls Tryz.prog 92 #[.int .u64 1] w fun e w' => e = .returned (.agg (ig .u64 64 4 1)) ∧ Fr F0 w w'))
  (HD : Hid (∀ w,Calls Tryz.prog 91 #[.agg (ig .u64 64 4 x),.agg (ig .u64 64 4 by')] w fun e w' => e = .returned (.tuple #[.agg (ig .u64 64 4 Q),.agg (ig .u64 64 4 R),.int .i64 0]) ∧ Fr F0 w w'))
  (HQ : Hid (∀ w,Calls Tryz.prog 93 #[.agg (ig .u64 64 4 Q),.agg (ig .u64 64 4 1)] w fun e w' => e = .returned (.tuple #[.agg (ig .u64 64 4 (Q + 1)),.bool false]) ∧ Fr F0 w w'))
  (hR : ae9 256 R 0 = ob) (hq : q = if more = true ∧ ob = false then Q + 1 else Q)
  (HU : Hid (∀ w,Calls Tryz.prog 94 #[.agg (ig .u64 64 4 q)] w fun e w' => e = .returned (.tuple #[.int .u64 (v : Int),.bool os]) ∧ Fr F0 w w'))
  (HR : Hid (∀ w,Calls Tryz.prog 78 #[.int .u64 (v : Int)] w fun e w' => e = .returned (.bool or) ∧ w' = w))
  (hV : V = if (os && or) = true then v else 0) (hE : E = if (os && or) = true then 0 else 4) (w : World) :
  Calls Tryz.prog 29 #[.int .u64 (a : Int),.int .u64 (up : Int),.int .u64 (by' : Int),.bool more] w fun e w' => e = .returned (.tuple #[.int .u64 (V : Int),.int .i64 E]) ∧ Fr F0 w w' := by
 have HV := Lib.hid (And.intro hV hE)
 clear hV hE
 have Hq := Lib.hid hq
 clear hq
 go_enter Tryz.func29,Tryz.ntmps29
 go_wp2_with fail
 (with_reducible refine (HA.out _).mono ?_); rintro e w1 ⟨rfl,hw⟩; replace hw := hw.symm; subst hw
 go_wp2_with fail
 (with_reducible refine (HP.out _).mono ?_); rintro e w2 ⟨rfl,f1⟩
 go_wp2_with fail
 (with_reducible refine (HO.out _).mono ?_); rintro e w3 ⟨rfl,f2⟩
 go_wp2_with fail
 (with_reducible refine (HD.out _).mono ?_); rintro e w4 ⟨rfl,f3⟩
 have F := (f1.trans' f2).trans' f3
 clear f1 f2 f3
 go_upto_region 4 with fail
 obtain ⟨W5,hW5⟩ : ∃ W,W = (((w4.alloc (.cells (ig .u64 64 4 0) 134)).alloc (.cells (ig .u64 64 4 0) 134)).setRow w4.heap.size (ig .u64 64 4 Q)).setRow (w4.heap.size + 1) (ig .u64 64 4 R) := ⟨_,rfl⟩
 refine bg W5 hW5 ?_
 have hs := F.size
 replace F : Fr F0 w W5 := by rw [hW5]; exact ((F.alloc _).alloc _ |>.setRow (fun h => by omega) _).setRow (fun h => by omega) _
 obtain ⟨r1,r2⟩ := heap2 w4 (.cells (ig .u64 64 4 0) 134) (.cells (ig .u64 64 4 0) 134)
 replace r1 : W5.heap[w4.heap.size]? = some (.cells (ig .u64 64 4 Q) 134 (0,0)) := by rw [hW5,dh _ _ _ _ (by omega),bf,r1]; rfl
 replace r2 : W5.heap[w4.heap.size + 1]? = some (.cells (ig .u64 64 4 R) 134 (0,0)) := by rw [hW5,bf,dh _ _ _ _ (by omega),r2]; rfl
 clear hW5
 generalize hg1 : w4.heap.size = g1 at *
 generalize hg2 : g1 + 1 = g2 at *
 have HG := Lib.hid (show w.heap.size ≤ g1 ∧ g2 ≠ g1 by omega)
 clear hg1 hg2 hs
 cases more
 ·have e : q = Q := by rw [Hq.out]; exact if_neg fun h => by cases h.1
  clear Hq
  subst e
  go_wp2_with fail
  (with_reducible refine (HU.out _).mono ?_); rintro e w7 ⟨rfl,f⟩
  replace F := F.trans' f
  clear f r1
  cases os
  ·go_wp2_with fail
   go_ret2
   exact ⟨by rw [HV.out.1,HV.out.2]; rfl,F⟩
  ·go_wp2_with fail
   (with_reducible refine (HR.out _).mono ?_); rintro e w8 ⟨rfl,hw⟩; replace hw := hw.symm; subst hw
   cases or
   ·go_wp2_with fail
    go_ret2
    exact ⟨by rw [HV.out.1,HV.out.2]; rfl,F⟩
   ·go_wp2_with fail
    go_ret2
    exact ⟨by rw [HV.out.1,HV.out.2]; rfl,F⟩
 ·cases ob
  ·have e : q = Q + 1 := by rw [Hq.out]; exact if_pos ⟨rfl,rfl⟩
   rw [← e] at HQ
   clear Hq e
   go_wp2_with fail
   refine zn (S := (fun w' => w'.heap[g2]? = some (.cells (ig .u64 64 4 R) 134 (0,0)) ∧ Fr F0 w w')) ?_ fun aj => ?_
   ·exact(by ((try dsimp only) <;> (exact ⟨r2,F.drew⟩)))
   refine rdy [0,1] ?_
   refine rco (fun K hK => ?_) (rco (fun K hK => ?_) AllReadyH.nil)
   go_simp
   refine rpu hK (by ((try dsimp only) <;> (first | exact ⟨aac HG.out.2 aj.1,aj.2.setRow (fun h => by have := HG.out.1; omega) _⟩ | exact aj))) fun aj => ?_
   clear hK K
   refine zi 1 fun K hK => ?_
   go_simp
   ((with_reducible refine (HO1.out _).mono ?_); rintro e w5 ⟨rfl,f5⟩; replace r1 := dn f5 r1)
   refine rpu hK (by ((try dsimp only) <;> (first | exact ⟨dn f5 aj.1,aj.2.trans' f5⟩ | exact aj))) fun aj => ?_
   clear hK K
   refine zi 2 fun K hK => ?_
   go_simp
   ((with_reducible refine (HQ.out _).mono ?_); rintro e w6 ⟨rfl,f5⟩; replace r1 := dn f5 r1)
   refine rpu hK (by ((try dsimp only) <;> (first | exact ⟨dn f5 aj.1,aj.2.trans' f5⟩ | exact aj))) fun aj => ?_
   clear hK K
   refine au 3 ?_
   refine au 4 ?_
   refine au 5 ?_
   refine zi 6 fun K hK => ?_
   go_simp
   refine rpu hK (by ((try dsimp only) <;> (first | exact ⟨aac HG.out.2 aj.1,aj.2.setRow (fun h => by have := HG.out.1; omega) _⟩ | exact aj))) fun aj => ?_
   clear hK K
   refine aap ?_
   rotate_left
   go_simp
   ((with_reducible refine (HO1.out _).mono ?_); rintro e w5 ⟨rfl,f5⟩; replace r1 := dn f5 r1)
   refine rpu hK (by ((try dsimp only) <;> (first | exact ⟨dn f5 aj.1,aj.2.trans' f5⟩ | exact aj))) fun aj => ?_
   clear hK K
   refine zi 0 fun K hK => ?_
   go_simp
   refine rpu hK (by ((try dsimp only) <;> (first | exact ⟨aac HG.out.2 aj.1,aj.2.setRow (fun h => by have := HG.out.1; omega) _⟩ | exact aj))) fun aj => ?_
   clear hK K
   refine zi 2 fun K hK => ?_
   go_simp
   ((with_reducible refine (HQ.out _).mono ?_); rintro e w6 ⟨rfl,f5⟩; replace r1 := dn f5 r1)
   refine rpu hK (by ((try dsimp only) <;> (first | exact ⟨dn f5 aj.1,aj.2.trans' f5⟩ | exact aj))) fun aj => ?_
   clear hK K
   refine au 3 ?_
   refine au 4 ?_
   refine au 5 ?_
   refine zi 6 fun K hK => ?_
   go_simp
   refine rpu hK (by ((try dsimp only) <;> (first | exact ⟨aac HG.out.2 aj.1,aj.2.setRow (fun h => by have := HG.out.1; omega) _⟩ | exact aj))) fun aj => ?_
   clear hK K
   refine aap ?_
   rotate_left
   all_goals
    clear F
    obtain ⟨_,F⟩ := aj
    replace r1 := ady (c := ig .u64 64 4 q) r1
    generalize World.setRow _ g1 (ig .u64 64 4 q) = W8 at *
    go_wp2_with fail
    (with_reducible refine (HU.out _).mono ?_); rintro e w7 ⟨rfl,f⟩
    replace F := F.trans' f
    clear f r1
    cases os
    ·go_wp2_with fail
     go_ret2
     exact ⟨by rw [HV.out.1,HV.out.2]; rfl,F⟩
    ·go_wp2_with fail
     (with_reducible refine (HR.out _).mono ?_); rintro e w8 ⟨rfl,hw⟩; replace hw := hw.symm; subst hw
     cases or
     ·go_wp2_with fail
      go_ret2
      exact ⟨by rw [HV.out.1,HV.out.2]; rfl,F⟩
     ·go_wp2_with fail
      go_ret2
      exact ⟨by rw [HV.out.1,HV.out.2]; rfl,F⟩
  ·have e : q = Q := by rw [Hq.out]; exact if_neg fun h => by cases h.2
   clear Hq
   subst e
   go_wp2_with fail
   (with_reducible refine (HU.out _).mono ?_); rintro e w7 ⟨rfl,f⟩
   replace F := F.trans' f
   clear f r1
   cases os
   ·go_wp2_with fail
    go_ret2
    exact ⟨by rw [HV.out.1,HV.out.2]; rfl,F⟩
   ·go_wp2_with fail
    (with_reducible refine (HR.out _).mono ?_); rintro e w8 ⟨rfl,hw⟩; replace hw := hw.symm; subst hw
    cases or
    ·go_wp2_with fail
     go_ret2
     exact ⟨by rw [HV.out.1,HV.out.2]; rfl,F⟩
    ·go_wp2_with fail
     go_ret2
     exact ⟨by rw [HV.out.1,HV.out.2]; rfl,F⟩
theorem ayi (a up by' : Nat) (more : Bool) (ha : a ≤ 4611686018427387904) (hup : up < 18446744073709551616) (hby : by' < 18446744073709551616) (hb : 0 < by') (w : World) :
  Calls Tryz.prog 29 #[.int .u64 (a : Int),.int .u64 (up : Int),.int .u64 (by' : Int),.bool more] w fun e w' => e = .returned (.tuple #[.int .u64 (ptA a up by' more : Nat),.int .i64 (ptE a up by' more)]) ∧ Fr F0 w w' := by
 have hx := ac0 a up (by omega) (by omega)
 have hx1 := al1 a up (by omega) (by omega)
 have hbw := acw by' (by omega)
 have hQ : a * up / by' + 1 < oz := Nat.lt_of_le_of_lt (Nat.add_le_add_right (Nat.div_le_self _ _) 1) hx1
 have hRW : a * up % by' < oz := Nat.lt_of_lt_of_le (Nat.mod_lt _ hb) (Nat.le_of_lt hbw)
 have h1W : 1 < oz := by
  have : 2 ^ 1 ≤ oz := Nat.pow_le_pow_right (by omega) (by omega)
  omega
 have hq : ptQ a up by' more < oz := by
  unfold ptQ
  split <;> omega
 have e1 : (a * up / by' + 1) % oz = a * up / by' + 1 := Nat.mod_eq_of_lt hQ
 have e2 : decide (oz ≤ a * up / by' + 1) = false := decide_eq_false (by omega)
 refine auv a up by' (a * up) (a * up / by') (a * up % by') (ptQ a up by' more) (if ptQ a up by' more < 18446744073709551616 then ptQ a up by' more else 0) _ _ (ae9 256 (a * up % by') 0) (decide (ptQ a up by' more < 18446744073709551616)) _ more
  (Lib.hid (iy a true (decide_eq_true ha)))
  (Lib.hid fun w => abv a up (by omega) (by omega) w)
  (Lib.hid fun w => ajr by' (by omega) w)
  (Lib.hid fun w => show Calls Tryz.prog 92 #[.int .u64 1] w _ from ajr 1 (by omega) w)
  (Lib.hid fun w => azj (a * up) by' hx hbw hb w)
  (Lib.hid fun w => by have := azk (a * up / by') 1 (by omega) h1W w; rwa [e1,e2] at this)
  rfl ?_ (Lib.hid fun w => awr _ hq w) (Lib.hid fun w => iy _ _ rfl w) ?_ ?_ w
 ·rw [aj9 _ 0 hRW (by omega)]
  unfold ptQ
  by_cases hm : more = true ∧ a * up % by' ≠ 0
  ·rw [if_pos hm,if_pos ⟨hm.1,decide_eq_false hm.2⟩]
  ·rw [if_neg hm,if_neg fun h => hm ⟨h.1,of_decide_eq_false h.2⟩]
 ·unfold ptA
  generalize ptQ a up by' more = q at *
  by_cases h1 : q ≤ 4611686018427387904
  ·have h2 : q < 18446744073709551616 := by omega
   rw [if_pos h1,if_pos h2,decide_eq_true h2,decide_eq_true h1]; rfl
  ·rw [if_neg h1]
   by_cases h2 : q < 18446744073709551616
   ·rw [if_pos h2,decide_eq_true h2,decide_eq_false h1]; rfl
   ·rw [if_neg h2,decide_eq_false h2]; rfl
 ·unfold ptE
  generalize ptQ a up by' more = q at *
  by_cases h1 : q ≤ 4611686018427387904
  ·have h2 : q < 18446744073709551616 := by omega
   rw [if_pos h1,if_pos h2,decide_eq_true h2,decide_eq_true h1]; rfl
  ·rw [if_neg h1]
   by_cases h2 : q < 18446744073709551616
   ·rw [if_pos h2,decide_eq_true h2,decide_eq_false h1]; rfl
   ·rw [if_neg h2,decide_eq_false h2]; rfl
def paV (a up by' : Nat) (more : Bool) : Nat := if a ≤ 4611686018427387904 ∧ 0 < by' then ptA a up by' more else 0
def paE (a up by' : Nat) (more : Bool) : Int := if a ≤ 4611686018427387904 then (if 0 < by' then ptE a up by' more else 5) else 1
theorem ae1 (a up by' : Nat) (more : Bool) (hup : up < 18446744073709551616) (hby : by' < 18446744073709551616) (w : World) :
  Calls Tryz.prog 29 #[.int .u64 (a : Int),.int .u64 (up : Int),.int .u64 (by' : Int),.bool more] w fun e w' => e = .returned (.tuple #[.int .u64 (paV a up by' more : Nat),.int .i64 (paE a up by' more)]) ∧ Fr F0 w w' := by
 unfold paV paE
 by_cases ha : a ≤ 4611686018427387904
 ·by_cases hb : 0 < by'
  ·rw [if_pos ⟨ha,hb⟩,if_pos ha,if_pos hb]
   exact ayi a up by' more ha hup hby hb w
  ·rw [if_neg fun h => hb h.2,if_pos ha,if_neg hb]
   exact auu a up by' more ha hup (by omega) w
 ·rw [if_neg fun h => ha h.1,if_neg ha]
  exact ayj a up by' more ha w
theorem aaw (p : Nat) (o : Bool) (ho : decide (1 ≤ p ∧ p ≤ 1099511627776) = o) (w : World) :
  Calls Tryz.prog 71 #[.int .u64 (p : Int)] w fun e w' => e = .returned (.bool o) ∧ w' = w := by
 by_cases h1 : 1 ≤ p
 ·by_cases h2 : p ≤ 1099511627776
  ·have l1 : (1 : Int) ≤ (p : Int) := by omega
   have l2 : (p : Int) ≤ 1099511627776 := by omega
   obtain rfl : true = o := by rw [← ho]; exact (decide_eq_true ⟨h1,h2⟩).symm
   clear ho h1 h2
   go_enter Tryz.func71,Tryz.ntmps71
   go_wp2
   go_ret
   exact ⟨rfl,rfl⟩
  ·have l1 : (1 : Int) ≤ (p : Int) := by omega
   have l2 : ¬ (p : Int) ≤ 1099511627776 := by omega
   obtain rfl : false = o := by rw [← ho]; exact (decide_eq_false fun h => h2 h.2).symm
   clear ho h1 h2
   go_enter Tryz.func71,Tryz.ntmps71
   go_wp2
   go_ret
   exact ⟨rfl,rfl⟩
 ·have l1 : ¬ (1 : Int) ≤ (p : Int) := by omega
  obtain rfl : false = o := by rw [← ho]; exact (decide_eq_false fun h => h1 h.1).symm
  clear ho h1
  go_enter Tryz.func71,Tryz.ntmps71
  go_wp2
  go_ret
  exact ⟨rfl,rfl⟩
theorem uw (p : Nat) (o : Bool) (ho : decide (1 ≤ p ∧ p ≤ 1000000) = o) (w : World) :
  Calls Tryz.prog 74 #[.int .u64 (p : Int)] w fun e w' => e = .returned (.bool o) ∧ w' = w := by
 by_cases h1 : 1 ≤ p
 ·by_cases h2 : p ≤ 1000000
  ·have l1 : (1 : Int) ≤ (p : Int) := by omega
   have l2 : (p : Int) ≤ 1000000 := by omega
   obtain rfl : true = o := by rw [← ho]; exact (decide_eq_true ⟨h1,h2⟩).symm
   clear ho h1 h2
   go_enter Tryz.func74,Tryz.ntmps74
   go_wp2
   go_ret
   exact ⟨rfl,rfl⟩
  ·have l1 : (1 : Int) ≤ (p : Int) := by omega
   have l2 : ¬ (p : Int) ≤ 1000000 := by omega
   obtain rfl : false = o := by rw [← ho]; exact (decide_eq_false fun h => h2 h.2).symm
   clear ho h1 h2
   go_enter Tryz.func74,Tryz.ntmps74
   go_wp2
   go_ret
   exact ⟨rfl,rfl⟩
 ·have l1 : ¬ (1 : Int) ≤ (p : Int) := by omega
  obtain rfl : false = o := by rw [← ho]; exact (decide_eq_false fun h => h1 h.1).symm
  clear ho h1
  go_enter Tryz.func74,Tryz.ntmps74
  go_wp2
  go_ret
  exact ⟨rfl,rfl⟩
theorem ajk {p t : Nat} (hp : p ≤ 1099511627776) (ht : t ≤ 1000000) : p * t ≤ 1099511627776000000 := Nat.mul_le_mul hp ht
theorem ato (p t : Nat) (hp : p ≤ 1099511627776) (ht : t ≤ 1000000) (w : World) :
  Calls Tryz.prog 75 #[.int .u64 (p : Int),.int .u64 (t : Int)] w fun e w' => e = .returned (.int .u64 ((p * t : Nat) : Int)) ∧ w' = w := by
 have hr := ajk hp ht
 have m : IntKind.u64.wrap ((p : Int) * (t : Int)) = ((p * t : Nat) : Int) := by rw [IntWalk.u64_in _ (by rw [← Int.natCast_mul]; omega),Int.natCast_mul]
 generalize p * t = s at *
 clear hp ht hr
 go_enter Tryz.func75,Tryz.ntmps75
 go_wp2
 go_ret
 exact ⟨rfl,rfl⟩
theorem ar0 {l : List Nat} {M i : Nat} (h : ∀ j,j < i → l.getD j 0 ≤ M) (hi : l.length ≤ i) : ∀ x ∈ l,x ≤ M := by
 intro x hx
 obtain ⟨j,hj,rfl⟩ := List.getElem_of_mem hx
 have := h j (by omega)
 simpa [List.getD,hj] using this
theorem aew {l : List Nat} {j : Nat} (h : j < l.length) : l.getD j 0 ∈ l := by
 simp [List.getD,h]
theorem aje (p : Nat) (l : List Nat) (a : Option Addr) (n c : Nat) (hn : n = l.length) (hl : l.length ≤ 100) (o : Bool) (ho : decide ((1 ≤ p ∧ p ≤ 1099511627776) ∧ ∀ x ∈ l,x ≤ 4611686018427387904) = o) (w : World) (h : Us w a c l) :
  Calls Tryz.prog 73 #[.int .u64 (p : Int),.slice a n c] w fun e w' => e = .returned (.bool o) ∧ w' = w := by
 have HX := Lib.hid h
 have HO := Lib.hid ho
 have HN := Lib.hid hn
 have hl : n ≤ 100 := by omega
 clear h ho hn
 go_enter Tryz.func73,Tryz.ntmps73
 go_wp2_with fail
 go_loopw [9] (fun iv wr => wr = w ∧ ∃ i : Nat,i ≤ n ∧ iv = .int .i64 i ∧ ∀ j,j < i → l.getD j 0 ≤ 4611686018427387904) (fun iv _ => n - (intOf iv).toNat)
 case atStart => exact ⟨rfl,0,by omega,rfl,fun j h => by omega⟩
 case round =>
  obtain ⟨rfl,i,hi,rfl,hall⟩ := hrel
  by_cases h1 : i < n
  ·have l1 : (i : Int) < (n : Int) := by omega
   obtain ⟨b,off,ea,hc⟩ := HX.out.get i (by rw [← HN.out]; exact h1)
   subst ea
   by_cases hx : l.getD i 0 ≤ 4611686018427387904
   ·have HA := Lib.hid (iy (l.getD i 0) true (decide_eq_true hx))
    have HI := Lib.hid (show ∀ j,j < i + 1 → l.getD j 0 ≤ 4611686018427387904 from fun j hj => by
     rcases Nat.lt_or_ge j i with h | h
     ·exact hall j h
     ·obtain rfl : j = i := by omega
      exact hx)
    clear hall hx
    generalize l.getD i 0 = x at *
    go_wp2_with fail
    (with_reducible refine (HA.out _).mono ?_); rintro e w1 ⟨rfl,hw⟩; replace hw := hw.symm; subst hw
    go_wp2_with fail
    go_roundw
    case rel => exact ⟨trivial,i + 1,h1,by go_num,HI.out⟩
    case measure => simp [intOf]; omega
   ·have HA := Lib.hid (iy (l.getD i 0) false (decide_eq_false hx))
    have HF := Lib.hid (show o = false by
     rw [← HO.out]
     exact decide_eq_false fun h => hx (h.2 _ (aew (by rw [← HN.out]; exact h1))))
    clear hall hx
    generalize l.getD i 0 = x at *
    go_wp2_with fail
    (with_reducible refine (HA.out _).mono ?_); rintro e w1 ⟨rfl,hw⟩; replace hw := hw.symm; subst hw
    go_wp2_with fail
    go_ret
    exact ⟨by rw [HF.out]; rfl,rfl⟩
  ·have l1 : ¬ (i : Int) < (n : Int) := by omega
   have HA := Lib.hid (aaw p o (by
    rw [← HO.out]
    have := ar0 hall (by rw [← HN.out]; omega)
    exact decide_eq_decide.2 ⟨fun h => ⟨h,this⟩,fun h => h.1⟩))
   clear hall
   go_wp2_with fail
   (with_reducible refine (HA.out _).mono ?_); rintro e w1 ⟨rfl,hw⟩; replace hw := hw.symm; subst hw
   go_wp2_with fail
   go_ret
   exact ⟨rfl,rfl⟩
theorem ahg (p t : Nat) (l : List Nat) (a : Option Addr) (n c : Nat) (hn : n = l.length) (hl : l.length ≤ 100) (o : Bool) (ho : decide (((1 ≤ p ∧ p ≤ 1099511627776) ∧ (1 ≤ t ∧ t ≤ 1000000)) ∧ ∀ x ∈ l,x ≤ 4611686018427387904) = o) (w : World) (h : Us w a c l) :
  Calls Tryz.prog 177 #[.int .u64 (p : Int),.int .u64 (t : Int),.slice a n c] w fun e w' => e = .returned (.bool o) ∧ w' = w := by
 have HX := Lib.hid h
 have HO := Lib.hid ho
 have HN := Lib.hid hn
 have hl : n ≤ 100 := by omega
 clear h ho hn
 go_enter Tryz.func177,Tryz.ntmps177
 go_wp2_with fail
 go_loopw [11] (fun iv wr => wr = w ∧ ∃ i : Nat,i ≤ n ∧ iv = .int .i64 i ∧ ∀ j,j < i → l.getD j 0 ≤ 4611686018427387904) (fun iv _ => n - (intOf iv).toNat)
 case atStart => exact ⟨rfl,0,by omega,rfl,fun j h => by omega⟩
 case round =>
  obtain ⟨rfl,i,hi,rfl,hall⟩ := hrel
  by_cases h1 : i < n
  ·have l1 : (i : Int) < (n : Int) := by omega
   obtain ⟨b,off,ea,hc⟩ := HX.out.get i (by rw [← HN.out]; exact h1)
   subst ea
   by_cases hx : l.getD i 0 ≤ 4611686018427387904
   ·have HI := Lib.hid (show ∀ j,j < i + 1 → l.getD j 0 ≤ 4611686018427387904 from fun j hj => by
     rcases Nat.lt_or_ge j i with h | h
     ·exact hall j h
     ·obtain rfl : j = i := by omega
      exact hx)
    have l2 : ¬ (4611686018427387904 : Int) < ((l.getD i 0 : Nat) : Int) := by omega
    clear hall hx
    generalize l.getD i 0 = x at *
    go_wp2_with fail
    go_roundw
    case rel => exact ⟨trivial,i + 1,h1,by go_num,HI.out⟩
    case measure => simp [intOf]; omega
   ·have HF := Lib.hid (show o = false by
     rw [← HO.out]
     exact decide_eq_false fun h => hx (h.2 _ (aew (by rw [← HN.out]; exact h1))))
    have l2 : (4611686018427387904 : Int) < ((l.getD i 0 : Nat) : Int) := by omega
    clear hall hx
    generalize l.getD i 0 = x at *
    go_wp2_with fail
    go_ret
    exact ⟨by rw [HF.out]; rfl,rfl⟩
  ·have l1 : ¬ (i : Int) < (n : Int) := by omega
   have hA := ar0 hall (by rw [← HN.out]; omega)
   have HE := Lib.hid (show o = decide ((1 ≤ p ∧ p ≤ 1099511627776) ∧ (1 ≤ t ∧ t ≤ 1000000)) by
    rw [← HO.out]
    exact decide_eq_decide.2 ⟨fun h => h.1,fun h => ⟨h,hA⟩⟩)
   clear hall hA
   have hcase : (¬ 1 ≤ p ∧ o = false) ∨ (1 ≤ p ∧ ¬ p ≤ 1099511627776 ∧ o = false) ∨ (1 ≤ p ∧ p ≤ 1099511627776 ∧ ¬ 1 ≤ t ∧ o = false) ∨ (1 ≤ p ∧ p ≤ 1099511627776 ∧ 1 ≤ t ∧ ¬ t ≤ 1000000 ∧ o = false) ∨ (1 ≤ p ∧ p ≤ 1099511627776 ∧ 1 ≤ t ∧ t ≤ 1000000 ∧ o = true) := by
    rw [HE.out,decide_eq_false_iff_not,decide_eq_true_iff]
    omega
   clear HE HO
   rcases hcase with ⟨h1,rfl⟩ | ⟨h1,h2,rfl⟩ | ⟨h1,h2,h3,rfl⟩ | ⟨h1,h2,h3,h4,rfl⟩ | ⟨h1,h2,h3,h4,rfl⟩
   ·have l1 : ¬ (1 : Int) ≤ (p : Int) := by omega
    clear h1
    go_wp2_with fail
    go_ret
    exact ⟨rfl,rfl⟩
   ·have l1 : (1 : Int) ≤ (p : Int) := by omega
    have l2 : ¬ (p : Int) ≤ 1099511627776 := by omega
    clear h1 h2
    go_wp2_with fail
    go_ret
    exact ⟨rfl,rfl⟩
   ·have l1 : (1 : Int) ≤ (p : Int) := by omega
    have l2 : (p : Int) ≤ 1099511627776 := by omega
    have l3 : ¬ (1 : Int) ≤ (t : Int) := by omega
    clear h1 h2 h3
    go_wp2_with fail
    go_ret
    exact ⟨rfl,rfl⟩
   ·have l1 : (1 : Int) ≤ (p : Int) := by omega
    have l2 : (p : Int) ≤ 1099511627776 := by omega
    have l3 : (1 : Int) ≤ (t : Int) := by omega
    have l4 : ¬ (t : Int) ≤ 1000000 := by omega
    clear h1 h2 h3 h4
    go_wp2_with fail
    go_ret
    exact ⟨rfl,rfl⟩
   ·have l1 : (1 : Int) ≤ (p : Int) := by omega
    have l2 : (p : Int) ≤ 1099511627776 := by omega
    have l3 : (1 : Int) ≤ (t : Int) := by omega
    have l4 : (t : Int) ≤ 1000000 := by omega
    clear h1 h2 h3 h4
    go_wp2_with fail
    go_ret
    exact ⟨rfl,rfl⟩
theorem av6 {x n : Nat} (h : x < pw n) : lg x ≤ n := afm h
theorem aAw {z : Nat} (h : z < oz * oz) : lg z ≤ 10000 := by
 have e16 : oz = pw 16 := rfl
 rw [e16,← aqt] at h
 exact Nat.le_trans (av6 h) (by omega)
theorem ab1 {z : Nat} (h : z < oz) : lg z ≤ 16 := av6 (show z < pw 16 from h)
theorem aww (a : Nat) (h : a < 18446744073709551616) : (ig .u64 64 4 0).setIfInBounds 0 (.int .u64 (a : Int)) = ig .u64 64 4 a := by
 have := abr 0 0 a h
 rw [aga _ _ _ _ (by simp)] at this
 simpa using this
theorem Us.av2 (w : World) (l : List Nat) (t : TypeId) (hl : l.length ≤ 1000) : Us (w.alloc (.cells (l.map U64).toArray t)) (some ⟨w.heap.size,0,none⟩) l.length l :=
 ⟨by simp,Nat.le_refl _,by unfold maxLen; omega,(fun e => by cases e),fun j u hj => ⟨w.heap.size,0,rfl,by
  rw [Nat.zero_add,cell_of_row _ _ j _ _ _ (heap_alloc_new w _)]
  simpa using hj⟩⟩
theorem Us.of2 (w : World) (x y : Nat) (t : TypeId) : Us (w.alloc (.cells #[.int .u64 (x : Int),.int .u64 (y : Int)] t)) (some ⟨w.heap.size,0,none⟩) 2 [x,y] := Us.av2 w [x,y] t (by simp)
theorem Us.of3 (w : World) (x y z : Nat) (t : TypeId) : Us (w.alloc (.cells #[.int .u64 (x : Int),.int .u64 (y : Int),.int .u64 (z : Int)] t)) (some ⟨w.heap.size,0,none⟩) 3 [x,y,z] := Us.av2 w [x,y,z] t (by simp)
theorem ags (x : Nat) (hx : x < 18446744073709551616) (w : World) :
  Calls Tryz.prog 152 #[.int .u64 (x : Int)] w fun e w' => NN x w e w' := by
 have hbn := aw3 0
 have hs := aww x hx
 have HO := Lib.hid (az7 x (acw x (by omega)))
 clear hx
 go_enter Tryz.func152,Tryz.ntmps152
 go_wp2_with fail
 (with_reducible refine (HO.out _).mono ?_); rintro e w1 ⟨p1,c1,rfl,n1,f1⟩
 go_wp2_with fail
 go_ret
 exact ⟨_,_,rfl,n1,f1⟩
def prd (l : List Nat) : Nat := l.foldl (· * ·) 1
theorem aq9 (l : List Nat) (i : Nat) (h : i < l.length) : prd (l.take (i + 1)) = prd (l.take i) * l.getD i 0 := by
 unfold prd
 rw [List.take_add_one,List.getElem?_eq_getElem h]
 simp only [Option.toList_some,List.foldl_append,List.foldl_cons,List.foldl_nil,List.getD,List.getElem?_eq_getElem h,Option.getD_some]
theorem aJn (l : List Nat) (hx : ∀ x ∈ l,x < 18446744073709551616) (i : Nat) (h : i ≤ l.length) : prd (l.take i) < 2 ^ (64 * i) ∨ i = 0 := by
 induction i with
 |zero => exact .inr rfl
 |succ i ih =>
  left
  rw [aq9 l i h]
  have h1 := hx _ (aew h)
  rcases ih (by omega) with h2 | h2
  ·have := Nat.mul_lt_mul'' h2 h1
   rw [show 64 * (i + 1) = 64 * i + 64 by omega,Nat.pow_add]
   exact this
  ·subst h2
   simpa [prd] using h1
theorem aJy (l : List Nat) (hx : ∀ x ∈ l,x < 18446744073709551616) (hl : l.length ≤ 100) (i : Nat) (h : i ≤ l.length) : lg (prd (l.take i)) ≤ 1000 := by
 rcases aJn l hx i h with h2 | h2
 ·have : lg (prd (l.take i)) ≤ 4 * i := afm (by rw [show 16 * (4 * i) = 64 * i by omega]; exact h2)
  omega
 ·subst h2
  have : lg (prd (l.take 0)) ≤ 1 := afm (by simp [prd])
  omega
theorem aat (l : List Nat) (a : Option Addr) (n c : Nat) (hn : n = l.length) (hl : l.length ≤ 100) (hx : ∀ x ∈ l,x < 18446744073709551616) (P : Nat) (hP : prd l = P) (w : World) (h : Us w a c l) :
  Calls Tryz.prog 134 #[.slice a n c] w fun e w' => NN P w e w' := by
 have HX := Lib.hid h
 have HN := Lib.hid hn
 have HL := Lib.hid (aJy l hx hl)
 have HW := Lib.hid hx
 have HP := Lib.hid (show prd (l.take n) = P by rw [hn,List.take_length]; exact hP)
 have hl : n ≤ 100 := by omega
 have H1 := Lib.hid (fun w => show Calls Tryz.prog 152 #[.int .u64 1] w fun e w' => NN 1 w e w' from ags 1 (by omega) w)
 clear h hn hx hP
 go_enter Tryz.func134,Tryz.ntmps134
 go_wp2_with fail
 (with_reducible refine (H1.out _).mono ?_); rintro e w1 ⟨p1,c1,rfl,n1,f1⟩
 go_wp2_with fail
 go_loopw [3,9] (fun ov iv wr => ∃ i : Nat,i ≤ n ∧ iv = .int .i64 i ∧ (∃ a' c',ov = .slice a' (lg (prd (l.take i))) c' ∧ Ns wr a' c' (prd (l.take i))) ∧ Fr F0 w wr) (fun _ iv _ => n - (intOf iv).toNat)
 case atStart => exact ⟨0,by omega,rfl,⟨_,_,rfl,n1⟩,f1⟩
 case round =>
  clear n1 f1
  obtain ⟨i,hi,rfl,⟨a1,c1,rfl,n1⟩,hf⟩ := hrel
  by_cases h1 : i < n
  ·have l1 : (i : Int) < (n : Int) := by omega
   have hil : i < l.length := by rw [← HN.out]; exact h1
   obtain ⟨b,off,ea,hc⟩ := (Us.fr HX.out hf).get i hil
   subst ea
   have hxw := HW.out _ (aew hil)
   have HNx := Lib.hid (ags _ hxw)
   have HM := Lib.hid (fun p2 c2 w h1 h2 => axd (prd (l.take i)) (l.getD i 0) a1 c1 p2 c2 (Nat.le_trans (HL.out i (by omega)) (by omega)) (Nat.le_trans (ab1 (acw _ (by omega))) (by omega)) w h1 h2)
   rw [← aq9 l i hil] at HM
   clear hxw hil
   generalize l.getD i 0 = x at *
   go_wp2_with fail
   (with_reducible refine (HNx.out _).mono ?_); rintro e w2 ⟨p2,c2,rfl,n2,f2⟩
   replace hf := hf.trans' f2
   replace n1 := Us.fr n1 f2
   clear f2 hc
   go_wp2_with fail
   (with_reducible refine (HM.out _ _ _ n1 n2).mono ?_); rintro e w3 ⟨p3,c3,rfl,n3,f3⟩
   replace hf := hf.trans' f3
   clear f3 n1 n2
   go_wp2_with fail
   go_roundw
   case rel => exact ⟨i + 1,h1,by go_num,⟨_,_,rfl,n3⟩,hf⟩
   case measure => simp [intOf]; omega
  ·have l1 : ¬ (i : Int) < (n : Int) := by omega
   obtain rfl : i = n := by omega
   rw [HP.out] at n1
   rw [HP.out]
   clear HP HL
   go_wp2_with fail
   go_ret
   exact ⟨_,_,rfl,n1,hf⟩
def rdQ (a b : Nat) (more : Bool) : Nat := if more = true ∧ a % b ≠ 0 then a / b + 1 else a / b
theorem anw (a b : Nat) (more : Bool) (p1 : Option Addr) (c1 : Nat) (p2 : Option Addr) (c2 : Nat) (q V : Nat) (o : Bool) (hb : 0 < b) (ha : a + 1 < oz) (hbw : b < oz)
  (hq : rdQ a b more = q) (hV : (if q ≤ 4611686018427387904 then q else 0) = V) (ho : decide (q ≤ 4611686018427387904) = o) (w : World) (h1 : Ns w p1 c1 a) (h2 : Ns w p2 c2 b) :
  Calls Tryz.prog 154 #[.slice p1 (lg a) c1,.slice p2 (lg b) c2,.bool more] w fun e w' => e = .returned (.tuple #[.int .u64 (V : Int),.bool o]) ∧ Fr F0 w w' := by
 have hQ : a / b + 1 < oz := Nat.lt_of_le_of_lt (Nat.add_le_add_right (Nat.div_le_self _ _) 1) ha
 have hR : a % b < oz := Nat.lt_of_lt_of_le (Nat.mod_lt _ hb) (Nat.le_of_lt hbw)
 have hqw : q < oz := by rw [← hq]; unfold rdQ; split <;> omega
 have hMw : 4611686018427387904 < oz := acw _ (by omega)
 have HOm := Lib.hid (fun w => show Calls Tryz.prog 152 #[.int .u64 4611686018427387904] w fun e w' => NN 4611686018427387904 w e w' from ags 4611686018427387904 (by omega) w)
 have HO1 := Lib.hid (fun w => show Calls Tryz.prog 152 #[.int .u64 1] w fun e w' => NN 1 w e w' from ags 1 (by omega) w)
 have HDv := Lib.hid (fun p1 c1 p2 c2 w h1 h2 => axe a b p1 c1 p2 c2 hb (Nat.le_trans (ab1 (by omega)) (by omega)) (fun z hz => aAw (z := z) (by
  have h2 : oz * 2 ≤ oz * oz := Nat.mul_le_mul_left _ (show 2 ≤ 2 ^ 256 from Nat.pow_le_pow_right (n := 2) (i := 1) (by omega) (by omega))
  omega)) w h1 h2)
 have HAd := Lib.hid (fun p1 c1 p2 c2 w h1 h2 => aer (a / b) 1 p1 c1 p2 c2 (Nat.le_trans (ab1 (z := a / b) (by omega)) (by omega)) (by rw [aqx]; omega) w h1 h2)
 have HCm := Lib.hid (fun p1 c1 p2 c2 w h1 h2 => acz q 4611686018427387904 p1 c1 p2 c2 (Nat.le_trans (ab1 hqw) (by omega)) (Nat.le_trans (ab1 hMw) (by omega)) w h1 h2)
 have HWo := Lib.hid (fun p1 c1 w h1 => apw q p1 c1 (Nat.le_trans (ab1 hqw) (by omega)) w h1)
 rw [Nat.mod_eq_of_lt hqw,decide_eq_false (Nat.not_le.2 hqw)] at HWo
 have hlR : (0 < lg (a % b)) ∨ a % b = 0 := by
  by_cases h : a % b = 0
  ·exact .inr h
  ·exact .inl (avj h)
 have hcase : (more = false ∧ q = a / b) ∨ (more = true ∧ lg (a % b) = 0 ∧ q = a / b) ∨ (more = true ∧ 0 < lg (a % b) ∧ q = a / b + 1) := by
  unfold rdQ at hq
  rcases hlR with h | h
  ·have hne : a % b ≠ 0 := fun e => by rw [e,ao0] at h; omega
   cases more
   ·exact .inl ⟨rfl,by rw [← hq]; exact if_neg fun h => by cases h.1⟩
   ·exact .inr (.inr ⟨rfl,h,by rw [← hq]; exact if_pos ⟨rfl,hne⟩⟩)
  ·cases more
   ·exact .inl ⟨rfl,by rw [← hq]; exact if_neg fun h => by cases h.1⟩
   ·exact .inr (.inl ⟨rfl,by rw [h]; rfl,by rw [← hq]; exact if_neg fun e => e.2 h⟩)
 have hz : (q ≤ 4611686018427387904 ∧ V = q ∧ o = true ∧ ¬ (0 : Int) < aea q 4611686018427387904 ∧ dgt 64 q 0 = q) ∨ (V = 0 ∧ o = false ∧ (0 : Int) < aea q 4611686018427387904) := by
  unfold aea
  rw [← hV,← ho]
  by_cases h : q ≤ 4611686018427387904
  ·refine .inl ⟨h,if_pos h,decide_eq_true h,?_,?_⟩
   ·split
    ·omega
    ·rw [if_neg (by omega)]; omega
   ·unfold dgt
    rw [Nat.mul_zero,Nat.pow_zero,Nat.div_one]
    exact Nat.mod_eq_of_lt (by omega)
  ·refine .inr ⟨if_neg h,decide_eq_false h,?_⟩
   rw [if_neg (by omega),if_pos (by omega)]; omega
 have N1 := Lib.hid h1
 have N2 := Lib.hid h2
 clear hQ hR hqw hMw ha hb hbw hq hV ho hlR h1 h2
 generalize aea q 4611686018427387904 = z at *
 generalize hlr : lg (a % b) = lr at *
 have HLR := Lib.hid hlr
 clear hlr
 generalize a % b = R at *
 generalize a / b = Q at *
 generalize hlq : lg Q = lQ at *
 have HLQ := Lib.hid hlq
 have HZ := Lib.hid hz
 clear hlq hz
 go_enter Tryz.func154,Tryz.ntmps154
 go_wp2_with fail
 (with_reducible refine (HDv.out _ _ _ _ _ N1.out N2.out).mono ?_); rintro e1 w1 ⟨p3,c3,p4,c4,rfl,n3,n4,F⟩
 clear n4
 rcases hcase with ⟨rfl,hq⟩ | ⟨rfl,hl0,hq⟩ | ⟨rfl,hl0,hq⟩
 ·have hq := hq.symm
  subst hq
  have e := HLQ.out
  go_wp2_with fail
  (with_reducible refine (HOm.out _).mono ?_); rintro e1 w2 ⟨p5,c5,rfl,n5,f⟩
  replace F := F.trans' f
  replace n3 := Us.fr n3 f
  clear f
  rw [e] at HCm HWo
  clear e
  go_wp2_with fail
  (with_reducible refine (HCm.out _ _ _ _ _ n3 n5).mono ?_); rintro e1 w11 ⟨rfl,hw⟩; replace hw := hw.symm; subst hw
  clear n5
  rcases HZ.out with ⟨hqm,rfl,rfl,hz,hd⟩ | ⟨rfl,rfl,hz⟩
  ·clear hqm
   go_wp2_with fail
   (with_reducible refine (HWo.out _ _ _ n3).mono ?_); rintro e1 w12 ⟨rfl,f⟩
   replace F := F.trans' f
   clear f n3
   go_wp2_with fail
   go_ret2
   exact ⟨rfl,(F.alloc _).setRow (fun h => by have := F.size; omega) _⟩
  ·go_wp2_with fail
   go_ret2
   exact ⟨rfl,F⟩
 ·have hq := hq.symm
  subst hq
  subst hl0
  have e := HLQ.out
  go_wp2_with fail
  (with_reducible refine (HOm.out _).mono ?_); rintro e1 w2 ⟨p5,c5,rfl,n5,f⟩
  replace F := F.trans' f
  replace n3 := Us.fr n3 f
  clear f
  rw [e] at HCm HWo
  clear e
  go_wp2_with fail
  (with_reducible refine (HCm.out _ _ _ _ _ n3 n5).mono ?_); rintro e1 w11 ⟨rfl,hw⟩; replace hw := hw.symm; subst hw
  clear n5
  rcases HZ.out with ⟨hqm,rfl,rfl,hz,hd⟩ | ⟨rfl,rfl,hz⟩
  ·clear hqm
   go_wp2_with fail
   (with_reducible refine (HWo.out _ _ _ n3).mono ?_); rintro e1 w12 ⟨rfl,f⟩
   replace F := F.trans' f
   clear f n3
   go_wp2_with fail
   go_ret2
   exact ⟨rfl,(F.alloc _).setRow (fun h => by have := F.size; omega) _⟩
  ·go_wp2_with fail
   go_ret2
   exact ⟨rfl,F⟩
 ·have l4 : (0 : Int) < (lr : Int) := by omega
  rw [← hq] at HAd
  clear hl0 hq
  go_wp2_with fail
  (with_reducible refine (HO1.out _).mono ?_); rintro e1 w9 ⟨p9,c9,rfl,n9,f⟩
  replace F := F.trans' f
  replace n3 := Us.fr n3 f
  clear f
  go_wp2_with fail
  (with_reducible refine (HAd.out _ _ _ _ _ n3 n9).mono ?_); rintro e1 w10 ⟨p3,c3,rfl,n3,f⟩
  replace F := F.trans' f
  clear f n9
  go_wp2_with fail
  (with_reducible refine (HOm.out _).mono ?_); rintro e1 w2 ⟨p5,c5,rfl,n5,f⟩
  replace F := F.trans' f
  replace n3 := Us.fr n3 f
  clear f
  go_wp2_with fail
  (with_reducible refine (HCm.out _ _ _ _ _ n3 n5).mono ?_); rintro e1 w11 ⟨rfl,hw⟩; replace hw := hw.symm; subst hw
  clear n5
  rcases HZ.out with ⟨hqm,rfl,rfl,hz,hd⟩ | ⟨rfl,rfl,hz⟩
  ·clear hqm
   go_wp2_with fail
   (with_reducible refine (HWo.out _ _ _ n3).mono ?_); rintro e1 w12 ⟨rfl,f⟩
   replace F := F.trans' f
   clear f n3
   go_wp2_with fail
   go_ret2
   exact ⟨rfl,(F.alloc _).setRow (fun h => by have := F.size; omega) _⟩
  ·go_wp2_with fail
   go_ret2
   exact ⟨rfl,F⟩
def riP (p t c q : Nat) : Prop := ((1 ≤ p ∧ p ≤ 1099511627776) ∧ (1 ≤ t ∧ t ≤ 1000000)) ∧ c ≤ 4611686018427387904 ∧ q ≤ 4611686018427387904
instance (p t c q : Nat) : Decidable (riP p t c q) := by unfold riP; infer_instance
def enP (c q p t : Nat) : Prop := riP p t c q ∧ q * p * t ≤ c * 100000000 * 1000
instance (c q p t : Nat) : Decidable (enP c q p t) := by unfold enP; infer_instance
theorem prd3 (x y z : Nat) : prd [x,y,z] = x * y * z := by simp [prd]
theorem avz {x y z : Nat} (hx : x < 18446744073709551616) (hy : y < 18446744073709551616) (hz : z < 18446744073709551616) : x * y * z + 1 < oz := by
 have h1 : x * y < 2 ^ 128 := Nat.mul_lt_mul'' (c := 2 ^ 64) (d := 2 ^ 64) (by omega) (by omega)
 have h2 : x * y * z < 2 ^ 192 := Nat.mul_lt_mul'' (c := 2 ^ 128) (d := 2 ^ 64) h1 (by omega)
 have h3 : 2 ^ 192 * 2 ≤ oz := by rw [show 2 ^ 192 * 2 = 2 ^ 193 from rfl]; exact Nat.pow_le_pow_right (by omega) (by omega)
 generalize 2 ^ 192 = P at *
 omega
theorem anv (c q p t : Nat) (hc : c < 18446744073709551616) (hq : q < 18446744073709551616) (hp : p < 18446744073709551616) (ht : t < 18446744073709551616) (o : Bool) (ho : decide (enP c q p t) = o) (w : World) :
  Calls Tryz.prog 156 #[.int .u64 (c : Int),.int .u64 (q : Int),.int .u64 (p : Int),.int .u64 (t : Int)] w fun e w' => e = .returned (.bool o) ∧ Fr F0 w w' := by
 have hR : decide (((1 ≤ p ∧ p ≤ 1099511627776) ∧ (1 ≤ t ∧ t ≤ 1000000)) ∧ ∀ x ∈ [c,q],x ≤ 4611686018427387904) = decide (riP p t c q) := by
  refine decide_eq_decide.2 ?_
  unfold riP
  simp
 by_cases hri : riP p t c q
 ·rw [decide_eq_true hri] at hR
  have hen : enP c q p t ↔ q * p * t ≤ c * 100000000 * 1000 := ⟨fun h => h.2,fun h => ⟨hri,h⟩⟩
  have wA := avz hc (show 100000000 < 18446744073709551616 by omega) (show 1000 < 18446744073709551616 by omega)
  have wB := avz hq hp ht
  have HR := Lib.hid (fun a w h => ahg p t [c,q] a 2 2 rfl (by simp) true hR w h)
  have HA := Lib.hid (fun a w h => aat [c,100000000,1000] a 3 3 rfl (by simp) (by simp [hc]) _ (prd3 c 100000000 1000) w h)
  have HB := Lib.hid (fun a w h => aat [q,p,t] a 3 3 rfl (by simp) (by simp [hq,hp,ht]) _ (prd3 q p t) w h)
  have HC := Lib.hid (fun a1 c1 a2 c2 w h1 h2 => acz (c * 100000000 * 1000) (q * p * t) a1 c1 a2 c2 (Nat.le_trans (ab1 (by omega)) (by omega)) (Nat.le_trans (ab1 (by omega)) (by omega)) w h1 h2)
  have hz : (o = true ∧ (0 : Int) ≤ aea (c * 100000000 * 1000) (q * p * t)) ∨ (o = false ∧ ¬ (0 : Int) ≤ aea (c * 100000000 * 1000) (q * p * t)) := by
   rw [← ho]
   unfold aea
   by_cases h : q * p * t ≤ c * 100000000 * 1000
   ·refine .inl ⟨decide_eq_true (hen.2 h),?_⟩
    rw [if_neg (by omega)]; split <;> omega
   ·refine .inr ⟨decide_eq_false fun e => h (hen.1 e),?_⟩
    rw [if_pos (by omega)]; omega
  clear ho hen hR hri wA wB
  generalize aea (c * 100000000 * 1000) (q * p * t) = z at *
  generalize c * 100000000 * 1000 = A at *
  generalize q * p * t = B at *
  have HZ := Lib.hid hz
  clear hz
  go_enter Tryz.func156,Tryz.ntmps156
  go_wp2_with fail
  obtain ⟨W1,hW1⟩ : ∃ W,W = w.alloc (.cells #[.int .u64 (c : Int),.int .u64 (q : Int)] 23) := ⟨_,rfl⟩
  refine Calls.abt W1 hW1 ?_
  have u1 : Us W1 (some ⟨w.heap.size,0,none⟩) 2 [c,q] := by rw [hW1]; exact Us.of2 _ _ _ _
  have F : Fr F0 w W1 := by rw [hW1]; exact (Fr.refl _ _).alloc _
  clear hW1
  (with_reducible refine (HR.out _ _ u1).mono ?_); rintro e w1 ⟨rfl,hw⟩; replace hw := hw.symm; subst hw
  clear u1
  go_wp2_with fail
  obtain ⟨W2,hW2⟩ : ∃ W,W = W1.alloc (.cells #[.int .u64 (c : Int),.int .u64 100000000,.int .u64 1000] 23) := ⟨_,rfl⟩
  refine Calls.abt W2 hW2 ?_
  have u2 : Us W2 (some ⟨W1.heap.size,0,none⟩) 3 [c,100000000,1000] := by rw [hW2]; exact Us.of3 _ c 100000000 1000 _
  replace F : Fr F0 w W2 := by rw [hW2]; exact F.alloc _
  clear hW2
  (with_reducible refine (HA.out _ _ u2).mono ?_); rintro e w3 ⟨p3,c3,rfl,n3,f⟩
  replace F := F.trans' f
  clear f u2
  go_wp2_with fail
  obtain ⟨W4,hW4⟩ : ∃ W,W = w3.alloc (.cells #[.int .u64 (q : Int),.int .u64 (p : Int),.int .u64 (t : Int)] 23) := ⟨_,rfl⟩
  refine Calls.abt W4 hW4 ?_
  have u4 : Us W4 (some ⟨w3.heap.size,0,none⟩) 3 [q,p,t] := by rw [hW4]; exact Us.of3 _ _ _ _ _
  have f : Fr F0 w3 W4 := by rw [hW4]; exact (Fr.refl _ _).alloc _
  replace F := F.trans' f
  replace n3 := Us.fr n3 f
  clear hW4 f
  (with_reducible refine (HB.out _ _ u4).mono ?_); rintro e w5 ⟨p5,c5,rfl,n5,f⟩
  replace F := F.trans' f
  replace n3 := Us.fr n3 f
  clear f u4
  go_wp2_with fail
  (with_reducible refine (HC.out _ _ _ _ _ n3 n5).mono ?_); rintro e w6 ⟨rfl,hw⟩; replace hw := hw.symm; subst hw
  rcases HZ.out with ⟨rfl,hz⟩ | ⟨rfl,hz⟩
  ·go_wp2_with fail
   go_ret
   exact ⟨rfl,F⟩
  ·go_wp2_with fail
   go_ret
   exact ⟨congrArg (fun b => Ending.returned (.bool b)) (decide_eq_false (p := (0 : Int) ≤ z) (by omega)),F⟩
 ·rw [decide_eq_false hri] at hR
  have HR := Lib.hid (fun a w h => ahg p t [c,q] a 2 2 rfl (by simp) false hR w h)
  obtain rfl : false = o := by rw [← ho]; exact (decide_eq_false fun h => hri h.1).symm
  clear ho hR hri hc hq hp ht
  go_enter Tryz.func156,Tryz.ntmps156
  go_wp2_with fail
  obtain ⟨W1,hW1⟩ : ∃ W,W = w.alloc (.cells #[.int .u64 (c : Int),.int .u64 (q : Int)] 23) := ⟨_,rfl⟩
  refine Calls.abt W1 hW1 ?_
  have u1 : Us W1 (some ⟨w.heap.size,0,none⟩) 2 [c,q] := by rw [hW1]; exact Us.of2 _ _ _ _
  have F : Fr F0 w W1 := by rw [hW1]; exact (Fr.refl _ _).alloc _
  clear hW1
  (with_reducible refine (HR.out _ _ u1).mono ?_); rintro e w1 ⟨rfl,hw⟩; replace hw := hw.symm; subst hw
  clear u1
  go_wp2_with fail
  go_ret
  exact ⟨rfl,F⟩
theorem ap3 (c q p t : Nat) (hc : c < 18446744073709551616) (hq : q < 18446744073709551616) (o : Bool) (ho : decide (enP c q p t) = o) (w : World) :
  Calls Tryz.prog 121 #[.int .u64 (c : Int),.int .u64 (q : Int),.int .u64 (p : Int),.int .u64 (t : Int)] w fun e w' => e = .returned (.bool o) ∧ Fr F0 w w' := by
 by_cases h1 : (1 ≤ p ∧ p ≤ 1099511627776) ∧ ∀ x ∈ [c,q],x ≤ 4611686018427387904
 ·have HR := Lib.hid (fun a w h => aje p [c,q] a 2 2 rfl (by simp) true (decide_eq_true h1) w h)
  by_cases h2 : 1 ≤ t ∧ t ≤ 1000000
  ·have HT := Lib.hid (uw t true (decide_eq_true h2))
   have hri : riP p t c q := ⟨⟨h1.1,h2⟩,h1.2 c (by simp),h1.2 q (by simp)⟩
   have hen : enP c q p t ↔ q * (p * t) ≤ c * 100000000000 := by
    rw [← Nat.mul_assoc,show c * 100000000000 = c * 100000000 * 1000 by rw [Nat.mul_assoc]]
    exact ⟨fun h => h.2,fun h => ⟨hri,h⟩⟩
   have hpt := ajk h1.1.2 h2.2
   have HK := Lib.hid (ato p t h1.1.2 h2.2)
   have HA := Lib.hid (fun w => show Calls Tryz.prog 90 #[.int .u64 (c : Int),.int .u64 100000000000] w _ from abv c 100000000000 (by omega) (by omega) w)
   have HB := Lib.hid (abv q (p * t) (by omega) (by omega))
   have HC := Lib.hid (aq1 (c * 100000000000) (q * (p * t)) (ac0 _ _ (by omega) (by omega)) (ac0 _ _ (by omega) (by omega)))
   have hz : (o = true ∧ (0 : Int) ≤ sgn (c * 100000000000) (q * (p * t))) ∨ (o = false ∧ ¬ (0 : Int) ≤ sgn (c * 100000000000) (q * (p * t))) := by
    rw [← ho]
    unfold sgn
    by_cases h : q * (p * t) ≤ c * 100000000000
    ·refine .inl ⟨decide_eq_true (hen.2 h),?_⟩
     rw [if_neg (by omega)]; split <;> omega
    ·refine .inr ⟨decide_eq_false fun e => h (hen.1 e),?_⟩
     rw [if_pos (by omega)]; omega
   clear ho hen hri h1 h2 hpt hc hq
   generalize sgn (c * 100000000000) (q * (p * t)) = z at *
   generalize q * (p * t) = B at *
   generalize p * t = k at *
   generalize c * 100000000000 = A at *
   have HZ := Lib.hid hz
   clear hz
   go_enter Tryz.func121,Tryz.ntmps121
   go_wp2_with fail
   obtain ⟨W1,hW1⟩ : ∃ W,W = w.alloc (.cells #[.int .u64 (c : Int),.int .u64 (q : Int)] 36) := ⟨_,rfl⟩
   refine Calls.abt W1 hW1 ?_
   have u1 : Us W1 (some ⟨w.heap.size,0,none⟩) 2 [c,q] := by rw [hW1]; exact Us.of2 _ _ _ _
   have F : Fr F0 w W1 := by rw [hW1]; exact (Fr.refl _ _).alloc _
   clear hW1
   (with_reducible refine (HR.out _ _ u1).mono ?_); rintro e w1 ⟨rfl,hw⟩; replace hw := hw.symm; subst hw
   clear u1
   go_wp2_with fail
   (with_reducible refine (HT.out _).mono ?_); rintro e w1 ⟨rfl,hw⟩; replace hw := hw.symm; subst hw
   go_wp2_with fail
   (with_reducible refine (HA.out _).mono ?_); rintro e w2 ⟨rfl,f⟩
   replace F := F.trans' f
   clear f
   go_wp2_with fail
   obtain ⟨W3,hW3⟩ : ∃ W,W = (w2.alloc (.cells (ig .u64 64 4 0) 134)).setRow w2.heap.size (ig .u64 64 4 A) := ⟨_,rfl⟩
   refine bg W3 hW3 ?_
   have N := afc w2 (ig .u64 64 4 0) (ig .u64 64 4 A) 134
   rw [← hW3] at N
   have r0 := N.new
   replace F := F.trans' N.fr
   clear N hW3
   generalize w2.heap.size = g at *
   refine zn (S := (fun w' => w'.heap[g]? = some (.cells (ig .u64 64 4 A) 134 (0,0)) ∧ Fr F0 w w')) ?_ fun aj => ?_
   ·exact(by ((try dsimp only) <;> (exact ⟨r0,F.drew⟩)))
   refine au 0 ?_
   refine au 1 ?_
   refine au 2 ?_
   refine au 3 ?_
   refine zi 4 fun K hK => ?_
   go_simp
   ((with_reducible refine (HK.out _).mono ?_); rintro e w5 ⟨rfl,hw⟩; replace hw := hw.symm; subst hw)
   refine rpu hK (by ((try dsimp only) <;> (first | exact aj | exact ⟨dn f5 aj.1,aj.2.trans' f5⟩))) fun aj => ?_
   clear hK K
   refine zi 5 fun K hK => ?_
   go_simp
   ((with_reducible refine (HB.out _).mono ?_); rintro e w5 ⟨rfl,f5⟩)
   refine rpu hK (by ((try dsimp only) <;> (first | exact aj | exact ⟨dn f5 aj.1,aj.2.trans' f5⟩))) fun aj => ?_
   clear hK K
   refine zi 6 fun K hK => ?_
   go_simp
   ((with_reducible refine (HC.out _).mono ?_); rintro e w5 ⟨rfl,f5⟩)
   refine rpu hK (by ((try dsimp only) <;> (first | exact aj | exact ⟨dn f5 aj.1,aj.2.trans' f5⟩))) fun aj => ?_
   clear hK K
   refine au 7 ?_
   refine au 8 ?_
   refine aap ?_
   all_goals
    rcases HZ.out with ⟨rfl,hz⟩ | ⟨rfl,hz⟩
    ·go_wp2
     go_ret
     exact ⟨rfl,aj.2⟩
    ·go_wp2
     go_ret
     exact ⟨congrArg (fun b => Ending.returned (.bool b)) (decide_eq_false (p := (0 : Int) ≤ z) (by omega)),aj.2⟩
  ·have HT := Lib.hid (uw t false (decide_eq_false h2))
   obtain rfl : false = o := by rw [← ho]; exact (decide_eq_false fun h => h2 h.1.1.2).symm
   clear ho h1 h2 hc hq
   go_enter Tryz.func121,Tryz.ntmps121
   go_wp2_with fail
   obtain ⟨W1,hW1⟩ : ∃ W,W = w.alloc (.cells #[.int .u64 (c : Int),.int .u64 (q : Int)] 36) := ⟨_,rfl⟩
   refine Calls.abt W1 hW1 ?_
   have u1 : Us W1 (some ⟨w.heap.size,0,none⟩) 2 [c,q] := by rw [hW1]; exact Us.of2 _ _ _ _
   have F : Fr F0 w W1 := by rw [hW1]; exact (Fr.refl _ _).alloc _
   clear hW1
   (with_reducible refine (HR.out _ _ u1).mono ?_); rintro e w1 ⟨rfl,hw⟩; replace hw := hw.symm; subst hw
   clear u1
   go_wp2_with fail
   (with_reducible refine (HT.out _).mono ?_); rintro e w1 ⟨rfl,hw⟩; replace hw := hw.symm; subst hw
   go_wp2_with fail
   go_ret
   exact ⟨rfl,F⟩
 ·have HR := Lib.hid (fun a w h => aje p [c,q] a 2 2 rfl (by simp) false (decide_eq_false h1) w h)
  obtain rfl : false = o := by
   rw [← ho]
   exact (decide_eq_false fun h => h1 ⟨h.1.1.1,by simpa using h.1.2⟩).symm
  clear ho h1 hc hq
  go_enter Tryz.func121,Tryz.ntmps121
  go_wp2_with fail
  obtain ⟨W1,hW1⟩ : ∃ W,W = w.alloc (.cells #[.int .u64 (c : Int),.int .u64 (q : Int)] 36) := ⟨_,rfl⟩
  refine Calls.abt W1 hW1 ?_
  have u1 : Us W1 (some ⟨w.heap.size,0,none⟩) 2 [c,q] := by rw [hW1]; exact Us.of2 _ _ _ _
  have F : Fr F0 w W1 := by rw [hW1]; exact (Fr.refl _ _).alloc _
  clear hW1
  (with_reducible refine (HR.out _ _ u1).mono ?_); rintro e w1 ⟨rfl,hw⟩; replace hw := hw.symm; subst hw
  clear u1
  go_wp2_with fail
  go_ret
  exact ⟨rfl,F⟩
end Go.Proofs.YtohckefafbhooaaGreat
namespace Go.Proofs.YtohckefafbhooaaGreat
set_option linter.unusedVariables false
set_option linter.unusedSimpArgs false
open Go.RowKit Go.Shelf
attribute [local go_sem] Oper.semAt_some
abbrev encA (x : Nat) : Array Value := #[.int .u64 (x : Int)]
theorem anu (n : Nat) (w : World) :
  CallsDIn Fence.wide n Tryz.prog 141 #[] .returning w fun e u' w' => (∃ v,e = .returned v) ∧ u' = .returning ∧ w' = w := by
 refine callsDIn_of_wpSIn Tryz.func141 rfl (by trivial) fun c₀ cs hu => ?_
 apply wpSIn_region
 simp [wpOpsSIn,go_sem,recoverD,hu,Tryz.ntmps141,Exit.thenS]
 cases c₀
 simp_all [bodyPostS,results,Tryz.results141]
end Go.Proofs.YtohckefafbhooaaGreat
namespace Go.Proofs.YtohckefafbhooaaGreat
set_option linter.unusedVariables false
set_option linter.unusedSimpArgs false
open Go.RowKit Go.Shelf
attribute [local go_sem] Oper.semAt_some
theorem aC8 {w : World} {g : Nat} {v : Value} {t : TypeId} {f : Nat × Nat} (h : w.heap[g]? = some (.cells #[v] t f)) : (w.setCell ⟨g,0,none⟩ v).heap[g]? = some (.cells #[v] t f) := by rw [cu,h]; rfl
theorem adl {w : World} {g g' i : Nat} {v : Value} {o : Obj} (hn : g ≠ g') (h : w.heap[g]? = some o) : (w.setCell ⟨g',i,none⟩ v).heap[g]? = some o := by rw [bn _ _ _ _ _ hn]; exact h
theorem aw9 {P : Program} {fn : Func} {p q : Tmp} {ty ty2 : TypeId} {k k2 : IntKind} (h : fn.results = #[.cell p ty,.cell q ty2]) (tmps : Array Value) (w : World) (g g' : Nat) (v v' : Value)
  (hp : tmps.getD p undef = .pointer (some ⟨g,0,none⟩)) (hq : tmps.getD q undef = .pointer (some ⟨g',0,none⟩)) (hc : w.cell? ⟨g,0,none⟩ = some v) (hc' : w.cell? ⟨g',0,none⟩ = some v')
  (hu : P.underlying ty = some (.int k)) (hu' : P.underlying ty2 = some (.int k2)) : (results fn tmps).run P w = .ok (.tuple #[v,v']) w := by
 have hp' : tmps[p]?.getD undef = .pointer (some ⟨g,0,none⟩) := by simpa using hp
 have hq' : tmps[q]?.getD undef = .pointer (some ⟨g',0,none⟩) := by simpa using hq
 have hagg : (isAgg ty).run P w = .ok false w := by
  unfold isAgg
  rw [Sem.run_bind,run_underlying hu w]
  rfl
 have hagg2 : (isAgg ty2).run P w = .ok false w := by
  unfold isAgg
  rw [Sem.run_bind,run_underlying hu' w]
  rfl
 simp [results,h,hp',hq',asAddr,loadVar,Sem.run_bind,hagg,hagg2,hc,hc']
theorem aCe {a b : Nat} (h : adE a b = 0) : a ≤ 4611686018427387904 ∧ b ≤ 4611686018427387904 ∧ a + b ≤ 4611686018427387904 := by
 unfold adE at h
 split at h
 ·rename_i h1
  split at h
  ·exact ⟨h1.1,h1.2,by assumption⟩
  ·cases h
 ·cases h
theorem aCc {a b : Nat} (h : adE a b = 0) : adV a b = a + b := if_pos (aCe h)
theorem aCd {a b : Nat} (h : ¬ adE a b = 0) : adV a b = 0 := by
 refine if_neg fun h1 => h ?_
 unfold adE
 rw [if_pos ⟨h1.1,h1.2.1⟩,if_pos h1.2.2]
end Go.Proofs.YtohckefafbhooaaGreat
namespace Go.Proofs.YtohckefafbhooaaGreat
set_option linter.unusedVariables false
set_option linter.unusedSimpArgs false
open Go.RowKit Go.Shelf
attribute [local go_sem] Oper.semAt_some
end Go.Proofs.YtohckefafbhooaaGreat
namespace Go.Proofs.YtohckefafbhooaaGreat
set_option linter.unusedVariables false
set_option linter.unusedSimpArgs false
open Go.RowKit
def bdP (x y z : Nat) : Prop := (y ≤ x ∧ z ≤ y) ∧ (1 ≤ z ∧ x ≤ 1000000)
instance (x y z : Nat) : Decidable (bdP x y z) := by unfold bdP; infer_instance
abbrev BV (x y z : Nat) : Array Value := #[.int .u64 (x : Int),.int .u64 (y : Int),.int .u64 (z : Int)]
theorem ap4 (x y z : Nat) (o : Bool) (ho : decide (bdP x y z) = o) (w : World) :
  Calls Tryz.prog 102 #[.agg (BV x y z)] w fun e w' => e = .returned (.bool o) ∧ Fr F0 w w' := by
 have hcase : (¬ y ≤ x ∧ o = false) ∨ (y ≤ x ∧ ¬ z ≤ y ∧ o = false) ∨ (y ≤ x ∧ z ≤ y ∧ decide (1 ≤ x ∧ x ≤ 1000000) = false ∧ o = false) ∨ (y ≤ x ∧ z ≤ y ∧ decide (1 ≤ x ∧ x ≤ 1000000) = true ∧ decide (1 ≤ y ∧ y ≤ 1000000) = false ∧ o = false) ∨
   (y ≤ x ∧ z ≤ y ∧ decide (1 ≤ x ∧ x ≤ 1000000) = true ∧ decide (1 ≤ y ∧ y ≤ 1000000) = true ∧ decide (1 ≤ z ∧ z ≤ 1000000) = o) := by
  rw [← ho]
  by_cases h1 : y ≤ x
  ·by_cases h2 : z ≤ y
   ·by_cases h3 : 1 ≤ x ∧ x ≤ 1000000
    ·by_cases h4 : 1 ≤ y ∧ y ≤ 1000000
     ·exact .inr (.inr (.inr (.inr ⟨h1,h2,decide_eq_true h3,decide_eq_true h4,decide_eq_decide.2 (by unfold bdP; omega)⟩)))
     ·exact .inr (.inr (.inr (.inl ⟨h1,h2,decide_eq_true h3,decide_eq_false h4,decide_eq_false (by unfold bdP; omega)⟩)))
    ·exact .inr (.inr (.inl ⟨h1,h2,decide_eq_false h3,decide_eq_false (by unfold bdP; omega)⟩))
   ·exact .inr (.inl ⟨h1,h2,decide_eq_false (by unfold bdP; omega)⟩)
  ·exact .inl ⟨h1,decide_eq_false (by unfold bdP; omega)⟩
 clear ho
 rcases hcase with ⟨h1,rfl⟩ | ⟨h1,h2,rfl⟩ | ⟨h1,h2,h3,rfl⟩ | ⟨h1,h2,h3,h4,rfl⟩ | ⟨h1,h2,h3,h4,h5⟩
 ·have l1 : ¬ (y : Int) ≤ (x : Int) := by omega
  clear h1
  go_enter Tryz.func102,Tryz.ntmps102
  go_wp2_with fail
  go_ret
  exact ⟨rfl,(Fr.refl _ _).alloc _⟩
 ·have l1 : (y : Int) ≤ (x : Int) := by omega
  have l2 : ¬ (z : Int) ≤ (y : Int) := by omega
  clear h1 h2
  go_enter Tryz.func102,Tryz.ntmps102
  go_wp2_with fail
  go_ret
  exact ⟨rfl,(Fr.refl _ _).alloc _⟩
 ·have l1 : (y : Int) ≤ (x : Int) := by omega
  have l2 : (z : Int) ≤ (y : Int) := by omega
  have T1 := Lib.hid (uw x _ h3)
  clear h1 h2 h3
  go_enter Tryz.func102,Tryz.ntmps102
  go_wp2_with fail
  (with_reducible refine (T1.out _).mono ?_); rintro e w1 ⟨rfl,rfl⟩
  go_wp2_with fail
  go_ret
  exact ⟨rfl,(Fr.refl _ _).alloc _⟩
 ·have l1 : (y : Int) ≤ (x : Int) := by omega
  have l2 : (z : Int) ≤ (y : Int) := by omega
  have T1 := Lib.hid (uw x _ h3)
  have T2 := Lib.hid (uw y _ h4)
  clear h1 h2 h3 h4
  go_enter Tryz.func102,Tryz.ntmps102
  go_wp2_with fail
  (with_reducible refine (T1.out _).mono ?_); rintro e w1 ⟨rfl,rfl⟩
  go_wp2_with fail
  (with_reducible refine (T2.out _).mono ?_); rintro e w1 ⟨rfl,rfl⟩
  go_wp2_with fail
  go_ret
  exact ⟨rfl,(Fr.refl _ _).alloc _⟩
 ·have l1 : (y : Int) ≤ (x : Int) := by omega
  have l2 : (z : Int) ≤ (y : Int) := by omega
  have T1 := Lib.hid (uw x _ h3)
  have T2 := Lib.hid (uw y _ h4)
  have T3 := Lib.hid (uw z _ h5)
  clear h1 h2 h3 h4 h5
  go_enter Tryz.func102,Tryz.ntmps102
  go_wp2_with fail
  (with_reducible refine (T1.out _).mono ?_); rintro e w1 ⟨rfl,rfl⟩
  go_wp2_with fail
  (with_reducible refine (T2.out _).mono ?_); rintro e w1 ⟨rfl,rfl⟩
  go_wp2_with fail
  (with_reducible refine (T3.out _).mono ?_); rintro e w1 ⟨rfl,rfl⟩
  go_wp2_with fail
  go_ret
  exact ⟨rfl,(Fr.refl _ _).alloc _⟩
end Go.Proofs.YtohckefafbhooaaGreat
namespace Go.Proofs.YtohckefafbhooaaGreat
set_option linter.unusedVariables false
set_option linter.unusedSimpArgs false
open Go.RowKit Go.ChangeShapes Go.WideShapes
section
variable {H : Type} {enc : TypeId × Value → H} {W : World} {base : Nat} {sp : Nat → Bool} {held : Bool}
end
end Go.Proofs.YtohckefafbhooaaGreat
namespace Go.Proofs.YtohckefafbhooaaGreat
set_option linter.unusedVariables false
set_option linter.unusedSimpArgs false
open Go.RowKit Go.ChangeShapes Go.WideShapes
section
variable {H : Type} {enc : TypeId × Value → H} {W : World} {base : Nat} {sp : Nat → Bool} {held : Bool}
end
end Go.Proofs.YtohckefafbhooaaGreat
