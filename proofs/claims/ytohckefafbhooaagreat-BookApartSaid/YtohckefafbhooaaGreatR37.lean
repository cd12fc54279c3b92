import Derived.Test.YtohckefafbhooaaGreatR7
import Derived.Test.YtohckefafbhooaaGreatR8
set_option maxRecDepth 100000
set_option maxHeartbeats 64000000
namespace Go.Proofs.YtohckefafbhooaaGreat
set_option linter.unusedVariables false
set_option linter.unusedSimpArgs false
open Go.RowKit
theorem Tryz.szPool : (Tryz.prog.info? 76).map (·.size) = some 2 := by kernel_rfl
@[go_sem ↓ high] theorem aKt (p : Value) : Instr.loadAt 76 p = gu 76 p := rfl
@[go_sem ↓ high] theorem aGc (p v : Value) : Instr.storeAt 76 p v = jd 76 p v := rfl
@[go_sem] theorem aBr (w : World) (g : Nat) : (gu 76 (.pointer (some ⟨g,0,none⟩))).run Tryz.prog w = abe Tryz.prog 76 (.pointer (some ⟨g,0,none⟩)) w 2 w.heap[g]? :=
 ku w _ g 2 _ Tryz.underlying76 rfl Tryz.szPool
@[go_sem] theorem ay6 (w : World) (g : Nat) (cells : Array Value) : (jd 76 (.pointer (some ⟨g,0,none⟩)) (.agg cells)).run Tryz.prog w = aec Tryz.prog 76 (.pointer (some ⟨g,0,none⟩)) cells g w 2 w.heap[g]? :=
 ou w _ g 2 cells Tryz.szPool
structure PL (w : World) (p c i : Nat) : Prop where
 at_ : w.heap[p]? = some (.cells #[.int .u64 (c : Int),.int .u64 (i : Int)] 76 (0,0))
 coll : c ≤ 4611686018427387904
 iss : i ≤ 4611686018427387904
section
variable {w w' : World} {p c i : Nat}
theorem PL.fr {S : Nat → Prop} (d : PL w p c i) (r : Fr S w w') (hp : ¬ S p) : PL w' p c i := ⟨r.keeps hp d.at_,d.coll,d.iss⟩
theorem PL.fr0 (d : PL w p c i) (r : Fr F0 w w') : PL w' p c i := d.fr r fun x => x
theorem PL.set {c' i' : Nat} (d : PL w p c i) (hc : c' ≤ 4611686018427387904) (hi : i' ≤ 4611686018427387904) :
  PL ((w.setCell ⟨p,0,none⟩ (.int .u64 (c' : Int))).setCell ⟨p,1,none⟩ (.int .u64 (i' : Int))) p c' i' ∧ Fr (fun k => k = p) w ((w.setCell ⟨p,0,none⟩ (.int .u64 (c' : Int))).setCell ⟨p,1,none⟩ (.int .u64 (i' : Int))) := by
 refine ⟨⟨?_,hc,hi⟩,((Fr.refl (fun k => k = p) w).setCell (p := ⟨p,0,none⟩) (fun _ => rfl) _).setCell (p := ⟨p,1,none⟩) (fun _ => rfl) _⟩
 rw [cu,cu,d.at_]
 rfl
theorem PL.set2 {c' i' : Nat} (d : PL w p c i) (hc : c' ≤ 4611686018427387904) (hi : i' ≤ 4611686018427387904) :
  PL ((w.setCell ⟨p,1,none⟩ (.int .u64 (i' : Int))).setCell ⟨p,0,none⟩ (.int .u64 (c' : Int))) p c' i' ∧ Fr (fun k => k = p) w ((w.setCell ⟨p,1,none⟩ (.int .u64 (i' : Int))).setCell ⟨p,0,none⟩ (.int .u64 (c' : Int))) := by
 refine ⟨⟨?_,hc,hi⟩,((Fr.refl (fun k => k = p) w).setCell (p := ⟨p,1,none⟩) (fun _ => rfl) _).setCell (p := ⟨p,0,none⟩) (fun _ => rfl) _⟩
 rw [cu,cu,d.at_]
 rfl
end
def shV (c i a : Nat) : Nat := if 1 ≤ a ∧ a ≤ i then c * a / i else 0
def shE (i a : Nat) : Int := if 1 ≤ a ∧ a ≤ 4611686018427387904 then (if a ≤ i then 0 else 16) else 1
theorem aBy {c i a : Nat} (h1 : 1 ≤ a) (h2 : a ≤ i) : shV c i a = c * a / i := if_pos ⟨h1,h2⟩
theorem avc {i a : Nat} (h1 : 1 ≤ a) (h2 : a ≤ i) (hi : i ≤ 4611686018427387904) : shE i a = 0 := by
 unfold shE
 rw [if_pos ⟨h1,by omega⟩,if_pos h2]
theorem aor {i a : Nat} (h1 : 1 ≤ a) (h2 : i < a) (h3 : a ≤ 4611686018427387904) : shE i a = 16 ∧ ∀ c,shV c i a = 0 := by
 refine ⟨?_,fun c => if_neg (by omega)⟩
 unfold shE
 rw [if_pos ⟨h1,h3⟩,if_neg (by omega)]
theorem aos {i a : Nat} (h : ¬ (1 ≤ a ∧ a ≤ 4611686018427387904)) (hi : i ≤ 4611686018427387904) : shE i a = 1 ∧ ∀ c,shV c i a = 0 := by
 refine ⟨?_,fun c => if_neg (by omega)⟩
 unfold shE
 rw [if_neg h]
theorem aeg {c i a : Nat} (h : a ≤ i) : c * a / i ≤ c := by
 rcases Nat.eq_zero_or_pos i with h0 | h0
 ·subst h0; simp
 ·exact Nat.div_le_of_le_mul (by rw [Nat.mul_comm i c]; exact Nat.mul_le_mul_left _ h)
theorem aJc (c i a : Nat) : shV c i a ≤ c := by
 unfold shV
 split
 ·rename_i h; exact aeg h.2
 ·omega
theorem al2 {c i a : Nat} (hc : c ≤ 4611686018427387904) (h1 : 1 ≤ a) (h2 : a ≤ i) : paV c a i false = c * a / i ∧ paE c a i false = 0 := by
 have hle := aeg (c := c) h2
 have hq : ptQ c a i false = c * a / i := by
  unfold ptQ
  rw [if_neg fun h => by cases h.1]
 unfold paV paE ptA ptE
 rw [hq,if_pos ⟨hc,by omega⟩,if_pos hc,if_pos (show 0 < i by omega),if_pos (by omega),if_pos (by omega)]
 exact ⟨rfl,rfl⟩
theorem ata (c i a : Nat) (hc : c ≤ 4611686018427387904) (hi : i ≤ 4611686018427387904) (ha : a < 18446744073709551616) (w : World) :
  Calls Tryz.prog 140 #[.agg #[.int .u64 (c : Int),.int .u64 (i : Int)],.int .u64 (a : Int)] w fun e w' => e = .returned (.tuple #[.int .u64 (shV c i a : Nat),.int .i64 (shE i a)]) ∧ Fr F0 w w' := by
 by_cases h0 : 1 ≤ a
 ·have l0 : ¬ (a : Int) < 1 := by omega
  have d0 : decide ((a : Int) < 1) = false := decide_eq_false l0
  by_cases h1 : a ≤ 4611686018427387904
  ·have HR := Lib.hid (iy a true (decide_eq_true h1))
   by_cases h2 : a ≤ i
   ·have HP := Lib.hid (fun w => ae1 c a i false ha (by omega) w)
    obtain ⟨e1,e2⟩ := al2 hc h0 h2
    rw [e1,e2] at HP
    rw [aBy h0 h2,avc h0 h2 hi]
    have l2 : ¬ (i : Int) < (a : Int) := by omega
    clear h0 h1 h2 e1 e2 hc hi ha
    generalize c * a / i = q at *
    go_enter Tryz.func140,Tryz.ntmps140
    go_wp2_with fail
    (with_reducible refine (HR.out _).mono ?_); rintro e w1 ⟨rfl,hw⟩; replace hw := hw.symm; subst hw
    go_wp2_with fail
    (with_reducible refine (HP.out _).mono ?_); rintro e w2 ⟨rfl,f2⟩
    have F2 := Lib.hid (((Fr.refl F0 w).alloc _).trans' f2)
    clear f2
    go_wp2_with fail
    go_ret2
    exact ⟨rfl,F2.out⟩
   ·obtain ⟨e1,e2⟩ := aor (i := i) h0 (by omega) h1
    rw [e1,e2 c]
    have l2 : (i : Int) < (a : Int) := by omega
    clear h0 h1 h2 e1 e2 hc hi ha
    go_enter Tryz.func140,Tryz.ntmps140
    go_wp2_with fail
    (with_reducible refine (HR.out _).mono ?_); rintro e w1 ⟨rfl,hw⟩; replace hw := hw.symm; subst hw
    go_wp2_with fail
    go_ret2
    exact ⟨rfl,(Fr.refl F0 w).alloc _⟩
  ·have HR := Lib.hid (iy a false (decide_eq_false h1))
   obtain ⟨e1,e2⟩ := aos (i := i) (a := a) (by omega) hi
   rw [e1,e2 c]
   clear h0 h1 e1 e2 hc hi ha
   go_enter Tryz.func140,Tryz.ntmps140
   go_wp2_with fail
   (with_reducible refine (HR.out _).mono ?_); rintro e w1 ⟨rfl,hw⟩; replace hw := hw.symm; subst hw
   go_wp2_with fail
   go_ret2
   exact ⟨rfl,(Fr.refl F0 w).alloc _⟩
 ·obtain rfl : a = 0 := by omega
  obtain ⟨e1,e2⟩ := aos (i := i) (a := 0) (by omega) hi
  rw [e1,e2 c]
  clear h0 e1 e2 hc hi ha
  go_enter Tryz.func140,Tryz.ntmps140
  go_wp2_with fail
  go_ret2
  exact ⟨rfl,(Fr.refl F0 w).alloc _⟩
def gnN (i a : Nat) : Nat := if 1 ≤ a ∧ a ≤ i then a else 0
theorem al3 {w : World} {p c i : Nat} (d : PL w p c i) (a : Nat) (ha : a < 18446744073709551616) :
  Calls Tryz.prog 113 #[.pointer (some ⟨p,0,none⟩),.int .u64 (a : Int)] w fun e w' => e = .returned (.tuple #[.int .u64 (shV c i a : Nat),.int .i64 (shE i a)]) ∧ PL w' p (c - shV c i a) (i - gnN i a) ∧ Fr (fun k => k = p) w w' := by
 have HS := Lib.hid (fun w => ata c i a d.coll d.iss ha w)
 have e0 := d.at_
 have HD := Lib.hid (fun (W : World) (F : Fr F0 w W) => (d.fr0 F))
 by_cases h : 1 ≤ a ∧ a ≤ i
 ·have hle := aJc c i a
  have hc := d.coll
  have hi := d.iss
  rw [avc h.1 h.2 hi] at HS ⊢
  rw [show gnN i a = a from if_pos h]
  generalize shV c i a = s at *
  obtain ⟨c',hc'⟩ : ∃ n,c - s = n := ⟨_,rfl⟩
  obtain ⟨i',hi'⟩ : ∃ n,i - a = n := ⟨_,rfl⟩
  rw [hc',hi']
  have k1 : IntKind.u64.wrap ((c : Int) - (s : Int)) = (c' : Int) := by rw [IntWalk.u64_in _ (by omega)]; omega
  have k2 : IntKind.u64.wrap ((i : Int) - (a : Int)) = (i' : Int) := by rw [IntWalk.u64_in _ (by omega)]; omega
  have HW := Lib.hid (fun (W : World) (F : Fr F0 w W) => (d.fr0 F).set (c' := c') (i' := i') (by omega) (by omega))
  clear d ha h hle hc hi hc' hi'
  go_enter Tryz.func113,Tryz.ntmps113
  go_wp2_with fail
  (with_reducible refine (HS.out _).mono ?_); rintro e w1 ⟨rfl,f1⟩
  have e1 := (HD.out w1 f1).at_
  have F1 := Lib.hid f1
  clear f1
  go_wp2_with fail
  go_ret2
  exact ⟨rfl,(HW.out w1 F1.out).1,F1.out.of0.trans' (HW.out w1 F1.out).2⟩
 ·have hE : (shE i a = 16 ∨ shE i a = 1) ∧ shV c i a = 0 := by
   by_cases h1 : 1 ≤ a ∧ a ≤ 4611686018427387904
   ·obtain ⟨x,y⟩ := aor (i := i) h1.1 (by omega) h1.2
    exact ⟨.inl x,y c⟩
   ·obtain ⟨x,y⟩ := aos (i := i) h1 d.iss
    exact ⟨.inr x,y c⟩
  rw [show gnN i a = 0 from if_neg h]
  rw [hE.2] at HS ⊢
  rw [Nat.sub_zero,Nat.sub_zero]
  obtain ⟨hE,-⟩ := hE
  clear d ha h
  rcases hE with hE | hE
  all_goals
   rw [hE] at HS ⊢
   clear hE
   go_enter Tryz.func113,Tryz.ntmps113
   go_wp2_with fail
   (with_reducible refine (HS.out _).mono ?_); rintro e w1 ⟨rfl,f1⟩
   have F1 := Lib.hid f1
   clear f1
   go_wp2_with fail
   go_ret2
   exact ⟨rfl,HD.out w1 F1.out,F1.out.of0⟩
def tkE (c i x y : Nat) : Int := if x ≤ 4611686018427387904 ∧ y ≤ 4611686018427387904 then (if c + x ≤ 4611686018427387904 ∧ i + y ≤ 4611686018427387904 then 0 else 4) else 1
def tkN (c i x y z n : Nat) : Nat := if (x ≤ 4611686018427387904 ∧ y ≤ 4611686018427387904) ∧ c + x ≤ 4611686018427387904 ∧ i + y ≤ 4611686018427387904 then z + n else z
theorem avt {c i x y : Nat} (h : ¬ (x ≤ 4611686018427387904 ∧ y ≤ 4611686018427387904)) : tkE c i x y = 1 ∧ ∀ z n,tkN c i x y z n = z := ⟨if_neg h,fun z n => if_neg fun e => h e.1⟩
theorem aj6 {c i x y : Nat} (h : x ≤ 4611686018427387904 ∧ y ≤ 4611686018427387904) (h2 : ¬ (c + x ≤ 4611686018427387904 ∧ i + y ≤ 4611686018427387904)) : tkE c i x y = 4 ∧ ∀ z n,tkN c i x y z n = z := ⟨by unfold tkE; rw [if_pos h,if_neg h2],fun z n => if_neg fun e => h2 e.2⟩
theorem aqp {c i x y : Nat} (h : x ≤ 4611686018427387904 ∧ y ≤ 4611686018427387904) (h2 : c + x ≤ 4611686018427387904 ∧ i + y ≤ 4611686018427387904) : tkE c i x y = 0 ∧ ∀ z n,tkN c i x y z n = z + n := ⟨by unfold tkE; rw [if_pos h,if_pos h2],fun z n => if_pos ⟨h,h2⟩⟩
theorem amm {a x : Nat} (h : a + x ≤ 4611686018427387904) : adE a x = 0 ∧ adV a x = a + x := by
 unfold adE adV
 rw [if_pos ⟨by omega,by omega⟩,if_pos h,if_pos ⟨by omega,by omega,h⟩]
 exact ⟨rfl,rfl⟩
theorem ajm {a x : Nat} (ha : a ≤ 4611686018427387904) (hx : x ≤ 4611686018427387904) (h : ¬ a + x ≤ 4611686018427387904) : adE a x = 4 ∧ adV a x = 0 := by
 unfold adE adV
 rw [if_pos ⟨ha,hx⟩,if_neg h,if_neg fun e => h e.2.2]
 exact ⟨rfl,rfl⟩
theorem aeu {w : World} {p c i : Nat} (d : PL w p c i) (x y : Nat) (hx : x < 18446744073709551616) (hy : y < 18446744073709551616) :
  Calls Tryz.prog 89 #[.pointer (some ⟨p,0,none⟩),.int .u64 (x : Int),.int .u64 (y : Int)] w fun e w' => e = .returned (.int .i64 (tkE c i x y)) ∧ PL w' p (tkN c i x y c x) (tkN c i x y i y) ∧ Fr (fun k => k = p) w w' := by
 have e0 := d.at_
 have HD := Lib.hid (fun (W : World) (F : Fr F0 w W) => (d.fr0 F))
 by_cases h1 : x ≤ 4611686018427387904
 ·have H1 := Lib.hid (iy x true (decide_eq_true h1))
  by_cases h2 : y ≤ 4611686018427387904
  ·have H2 := Lib.hid (iy y true (decide_eq_true h2))
   have hc := d.coll
   have hi := d.iss
   have HA := Lib.hid (fun w => aak c x (by omega) hx w)
   have HB := Lib.hid (fun w => aak i y (by omega) hy w)
   by_cases h3 : c + x ≤ 4611686018427387904
   ·obtain ⟨a1,a2⟩ := amm h3
    rw [a1,a2] at HA
    by_cases h4 : i + y ≤ 4611686018427387904
    ·obtain ⟨b1,b2⟩ := amm h4
     rw [b1,b2] at HB
     obtain ⟨t1,t2⟩ := aqp ⟨h1,h2⟩ ⟨h3,h4⟩
     rw [t1,t2,t2]
     have HW := Lib.hid (fun (W : World) (F : Fr F0 w W) => (d.fr0 F).set (c' := c + x) (i' := i + y) h3 h4)
     have HV := Lib.hid (fun (W : World) (F : Fr F0 w W) => (d.fr0 F).set2 (c' := c + x) (i' := i + y) h3 h4)
     clear d hx hy h1 h2 h3 h4 a1 a2 b1 b2 t1 t2 hc hi
     generalize c + x = c' at *
     generalize i + y = i' at *
     go_enter Tryz.func89,Tryz.ntmps89
     go_wp2_with fail
     (with_reducible refine (H1.out _).mono ?_); rintro e w1 ⟨rfl,hw⟩; replace hw := hw.symm; subst hw
     go_wp2_with fail
     (with_reducible refine (H2.out _).mono ?_); rintro e w1 ⟨rfl,hw⟩; replace hw := hw.symm; subst hw
     go_wp2_with fail
     (with_reducible refine (HA.out _).mono ?_); rintro e w1 ⟨rfl,f1⟩
     have e1 := (HD.out w1 f1).at_
     have F1 := Lib.hid f1
     clear f1
     go_wp2_with fail
     (with_reducible refine (HB.out _).mono ?_); rintro e w2 ⟨rfl,f2⟩
     have F2 := Lib.hid (F1.out.trans' f2)
     have e2 := (HD.out w2 F2.out).at_
     clear f2 e1
     go_wp2_with fail
     all_goals
      go_ret
      first
       |exact ⟨rfl,(HW.out w2 F2.out).1,F2.out.of0.trans' (HW.out w2 F2.out).2⟩
       |exact ⟨rfl,(HV.out w2 F2.out).1,F2.out.of0.trans' (HV.out w2 F2.out).2⟩
    ·obtain ⟨b1,b2⟩ := ajm hi h2 h4
     rw [b1,b2] at HB
     obtain ⟨t1,t2⟩ := aj6 (c := c) (i := i) ⟨h1,h2⟩ (fun e => h4 e.2)
     rw [t1,t2,t2]
     clear d hx hy h1 h2 h3 h4 a1 a2 b1 b2 t1 t2 hc hi
     generalize c + x = c' at *
     go_enter Tryz.func89,Tryz.ntmps89
     go_wp2_with fail
     (with_reducible refine (H1.out _).mono ?_); rintro e w1 ⟨rfl,hw⟩; replace hw := hw.symm; subst hw
     go_wp2_with fail
     (with_reducible refine (H2.out _).mono ?_); rintro e w1 ⟨rfl,hw⟩; replace hw := hw.symm; subst hw
     go_wp2_with fail
     (with_reducible refine (HA.out _).mono ?_); rintro e w1 ⟨rfl,f1⟩
     have e1 := (HD.out w1 f1).at_
     have F1 := Lib.hid f1
     clear f1
     go_wp2_with fail
     (with_reducible refine (HB.out _).mono ?_); rintro e w2 ⟨rfl,f2⟩
     have F2 := Lib.hid (F1.out.trans' f2)
     clear f2 e1
     go_wp2_with fail
     go_ret
     exact ⟨rfl,HD.out w2 F2.out,F2.out.of0⟩
   ·obtain ⟨a1,a2⟩ := ajm hc h1 h3
    rw [a1,a2] at HA
    obtain ⟨t1,t2⟩ := aj6 (c := c) (i := i) ⟨h1,h2⟩ (fun e => h3 e.1)
    rw [t1,t2,t2]
    clear d hx hy h1 h2 h3 a1 a2 t1 t2 hc hi
    go_enter Tryz.func89,Tryz.ntmps89
    go_wp2_with fail
    (with_reducible refine (H1.out _).mono ?_); rintro e w1 ⟨rfl,hw⟩; replace hw := hw.symm; subst hw
    go_wp2_with fail
    (with_reducible refine (H2.out _).mono ?_); rintro e w1 ⟨rfl,hw⟩; replace hw := hw.symm; subst hw
    go_wp2_with fail
    (with_reducible refine (HA.out _).mono ?_); rintro e w1 ⟨rfl,f1⟩
    have F1 := Lib.hid f1
    clear f1
    go_wp2_with fail
    go_ret
    exact ⟨rfl,HD.out w1 F1.out,F1.out.of0⟩
  ·have H2 := Lib.hid (iy y false (decide_eq_false h2))
   obtain ⟨t1,t2⟩ := avt (c := c) (i := i) (x := x) (y := y) (fun e => h2 e.2)
   rw [t1,t2,t2]
   clear d hx hy h1 h2 t1 t2
   go_enter Tryz.func89,Tryz.ntmps89
   go_wp2_with fail
   (with_reducible refine (H1.out _).mono ?_); rintro e w1 ⟨rfl,hw⟩; replace hw := hw.symm; subst hw
   go_wp2_with fail
   (with_reducible refine (H2.out _).mono ?_); rintro e w1 ⟨rfl,hw⟩; replace hw := hw.symm; subst hw
   go_wp2_with fail
   go_ret
   exact ⟨rfl,HD.out _ (Fr.refl _ _),Fr.refl _ _⟩
 ·have H1 := Lib.hid (iy x false (decide_eq_false h1))
  obtain ⟨t1,t2⟩ := avt (c := c) (i := i) (x := x) (y := y) (fun e => h1 e.1)
  rw [t1,t2,t2]
  clear d hx hy h1 t1 t2
  go_enter Tryz.func89,Tryz.ntmps89
  go_wp2_with fail
  (with_reducible refine (H1.out _).mono ?_); rintro e w1 ⟨rfl,hw⟩; replace hw := hw.symm; subst hw
  go_wp2_with fail
  go_ret
  exact ⟨rfl,HD.out _ (Fr.refl _ _),Fr.refl _ _⟩
end Go.Proofs.YtohckefafbhooaaGreat
