import Derived.Test.YtohckefafbhooaaGreatR7
import Derived.Test.YtohckefafbhooaaGreatR8
import Derived.Test.YtohckefafbhooaaGreatR1
set_option maxRecDepth 100000
set_option maxHeartbeats 64000000
namespace Go.Proofs.YtohckefafbhooaaGreat
set_option linter.unusedVariables false
set_option linter.unusedSimpArgs false
open Go.RowKit
theorem Tryz.szOFeed : (Tryz.prog.info? 117).map (·.size) = some 4 := by kernel_rfl
@[go_sem ↓ high] theorem aGg (p : Value) : Instr.loadAt 117 p = gu 117 p := rfl
@[go_sem ↓ high] theorem aFv (p v : Value) : Instr.storeAt 117 p v = jd 117 p v := rfl
@[go_sem] theorem ay9 (w : World) (g : Nat) : (gu 117 (.pointer (some ⟨g,0,none⟩))).run Tryz.prog w = abe Tryz.prog 117 (.pointer (some ⟨g,0,none⟩)) w 4 w.heap[g]? :=
 ku w _ g 4 _ Tryz.underlying117 rfl Tryz.szOFeed
@[go_sem] theorem ayn (w : World) (g : Nat) (cells : Array Value) : (jd 117 (.pointer (some ⟨g,0,none⟩)) (.agg cells)).run Tryz.prog w = aec Tryz.prog 117 (.pointer (some ⟨g,0,none⟩)) cells g w 4 w.heap[g]? :=
 ou w _ g 4 cells Tryz.szOFeed
theorem Tryz.szORules : (Tryz.prog.info? 35).map (·.size) = some 2 := by kernel_rfl
@[go_sem ↓ high] theorem aF0 (p : Value) : Instr.loadAt 35 p = gu 35 p := rfl
@[go_sem] theorem ayp (w : World) (g : Nat) : (gu 35 (.pointer (some ⟨g,0,none⟩))).run Tryz.prog w = abe Tryz.prog 35 (.pointer (some ⟨g,0,none⟩)) w 2 w.heap[g]? :=
 ku w _ g 2 _ Tryz.underlying35 rfl Tryz.szORules
structure FD (w : World) (p m a x t : Nat) : Prop where
 at_ : w.heap[p]? = some (.cells #[.int .u64 (m : Int),.int .u64 (a : Int),.int .u64 (x : Int),.int .u64 (t : Int)] 117 (0,0))
 move : m ≤ 1000
 age : a ≤ 1099511627776
 last : x ≤ 1099511627776
 told : t ≤ 1099511627776
section
variable {w w' : World} {p m a x t : Nat}
theorem FD.fr {S : Nat → Prop} (d : FD w p m a x t) (r : Fr S w w') (hp : ¬ S p) : FD w' p m a x t := ⟨r.keeps hp d.at_,d.move,d.age,d.last,d.told⟩
theorem FD.fr0 (d : FD w p m a x t) (r : Fr F0 w w') : FD w' p m a x t := d.fr r fun x => x
theorem FD.lt (d : FD w p m a x t) : p < w.heap.size := (Array.getElem?_eq_some_iff.1 d.at_).1
theorem FD.set {y s : Nat} (d : FD w p m a x t) (hy : y ≤ 1099511627776) (hs : s ≤ 1099511627776) :
  FD ((w.setCell ⟨p,2,none⟩ (.int .u64 (y : Int))).setCell ⟨p,3,none⟩ (.int .u64 (s : Int))) p m a y s ∧ Fr (fun k => k = p) w ((w.setCell ⟨p,2,none⟩ (.int .u64 (y : Int))).setCell ⟨p,3,none⟩ (.int .u64 (s : Int))) := by
 refine ⟨⟨?_,d.move,d.age,hy,hs⟩,((Fr.refl (fun k => k = p) w).setCell (p := ⟨p,2,none⟩) (fun _ => rfl) _).setCell (p := ⟨p,3,none⟩) (fun _ => rfl) _⟩
 rw [cu,cu,d.at_]
 rfl
end
theorem ap6 (m a : Nat) (w : World) : (Instr.build 117 #[(0,.agg #[.int .u64 (m : Int),.int .u64 (a : Int)])]).run Tryz.prog w = .ok (.agg #[.int .u64 (m : Int),.int .u64 (a : Int),.int .u64 0,.int .u64 0]) w := run_build w _ _ _ (by kernel_rfl)
theorem av3 (m a : Nat) (hm : m ≤ 1000) (ha : a ≤ 1099511627776) (w : World) :
  Calls Tryz.prog 38 #[.agg #[.int .u64 (m : Int),.int .u64 (a : Int)]] w fun e w' => ∃ p,e = .returned (.tuple #[.pointer (some ⟨p,0,none⟩),.int .i64 0]) ∧ FD w' p m a 0 0 ∧ Fr F0 w w' ∧ w.heap.size ≤ p := by
 have HM := Lib.hid hm
 have HA := Lib.hid ha
 have l1 : ¬ (1000 : Int) < (m : Int) := by omega
 have l2 : ¬ (1099511627776 : Int) < (a : Int) := by omega
 have d1 : decide ((1000 : Int) < (m : Int)) = false := decide_eq_false l1
 have d2 : decide ((1099511627776 : Int) < (a : Int)) = false := decide_eq_false l2
 have hb := ap6
 clear hm ha
 go_enter Tryz.func38,Tryz.ntmps38
 go_wp2_with fail
 go_ret2
 refine ⟨w.heap.size + 1,rfl,⟨?_,HM.out,HA.out,by omega,by omega⟩,((Fr.refl F0 w).alloc _).alloc _,by omega⟩
 rw [← zero4]
 have hs : (w.alloc (.cells #[.int .u64 (m : Int),.int .u64 (a : Int)] 35)).heap.size = w.heap.size + 1 := World.size_alloc _ _
 have e := heap_alloc_new (w.alloc (.cells #[.int .u64 (m : Int),.int .u64 (a : Int)] 35)) (.cells #[.int .u64 (m : Int),.int .u64 (a : Int),.int .u64 0,.int .u64 0] 117)
 rw [hs] at e
 exact e
theorem aa3 {w : World} {p m a x t : Nat} (d : FD w p m a x t) (b : Bool) (hb : decide (0 < x) = b) :
  Calls Tryz.prog 61 #[.pointer (some ⟨p,0,none⟩)] w fun e w' => e = .returned (.tuple #[.int .u64 (x : Int),.int .u64 (t : Int),.bool b]) ∧ Fr F0 w w' := by
 have e0 := d.at_
 have F := Lib.hid (Fr.refl F0 w).drew
 have q1 : ((x : Int) != 0) = b := by
  rw [← hb]
  by_cases h : 0 < x
  ·rw [decide_eq_true h,bne_iff_ne]; omega
  ·obtain rfl : x = 0 := by omega
   rfl
 clear d hb
 go_enter Tryz.func61,Tryz.ntmps61
 go_upto_region 3 with fail
 go_region
 go_wp2_with fail
 go_ret3
 exact ⟨rfl,F.out⟩
theorem axn {w : World} {p m a x t : Nat} (d : FD w p m a x t) :
  Calls Tryz.prog 69 #[.pointer (some ⟨p,0,none⟩)] w fun e w' => ∃ q,e = .returned (.pointer (some ⟨q,0,none⟩)) ∧ FD w' q m a x t ∧ Fr F0 w w' ∧ w.heap.size ≤ q := by
 have e0 := d.at_
 have HD := Lib.hid d
 have oS : yg #[Value.int .u64 (m : Int),.int .u64 (a : Int),.int .u64 (x : Int),.int .u64 (t : Int)] := by unfold yg; kernel_rfl
 clear d
 go_enter Tryz.func69,Tryz.ntmps69
 go_upto_region 4 with fail
 refine jc fun W N => ?_
 have r := Lib.hid (And.intro N.new N.fr)
 clear N
 obtain ⟨q,hq⟩ : ∃ q,w.heap.size = q := ⟨_,rfl⟩
 rw [hq] at r ⊢
 have HQ := Lib.hid hq
 clear hq e0
 go_wp2_with fail
 go_ret
 exact ⟨q,rfl,⟨r.out.1,HD.out.move,HD.out.age,HD.out.last,HD.out.told⟩,r.out.2,Nat.le_of_eq HQ.out⟩
def awN (x m : Nat) : Nat := x * m / 1000
def loN (m x : Nat) : Nat := if x = 0 then 1 else max (x - awN x m) 1
def hiN (m x : Nat) : Nat := if x = 0 then 1099511627776 else min (x + awN x m) 1099511627776
theorem aCb {x m : Nat} (hm : m ≤ 1000) : awN x m ≤ x := by
 unfold awN
 have : x * m ≤ x * 1000 := Nat.mul_le_mul_left _ hm
 omega
theorem aJo {x m : Nat} (hx : x ≤ 1099511627776) (hm : m ≤ 1000) : paV x m 1000 false = awN x m := by
 have h := aCb (x := x) hm
 unfold paV
 rw [if_pos ⟨by omega,by omega⟩]
 unfold ptA
 have e : ptQ x m 1000 false = awN x m := by
  unfold ptQ awN
  rw [if_neg fun h => by cases h.1]
 rw [e,if_pos (by omega)]
theorem aI1 (m : Nat) : loN m 0 = 1 := rfl
theorem aI5 (m : Nat) : hiN m 0 = 1099511627776 := rfl
theorem ax5 {m x q : Nat} (hx : 0 < x) (hq : 1 ≤ q) (hq2 : q ≤ 1099511627776) : (loN m x ≤ q ∧ q ≤ hiN m x) ↔ (max x q - min x q) * 1000 ≤ x * m := by
 unfold loN hiN awN
 rw [if_neg (by omega),if_neg (by omega)]
 generalize x * m = y
 constructor
 ·rintro ⟨h1,h2⟩
  omega
 ·intro h
  omega
theorem aD3 (x y z : Nat) (h : min x y = z) : (if (y : Int) < (x : Int) then (y : Int) else (x : Int)) = (z : Int) := by split <;> omega
theorem aD4 (x y z : Nat) (h : max x y = z) : (if (x : Int) < (y : Int) then (y : Int) else (x : Int)) = (z : Int) := by split <;> omega
theorem aeh (ts : Array TypeId) (t : TypeId) (x y z : Nat) (h : min x y = z) (w : World) : (Builtin.min_ ts t #[.int .u64 (x : Int),.int .u64 (y : Int)]).run Tryz.prog w = .ok (.int .u64 (z : Int)) w := by rw [run_min_int2,aD3 x y z h]
theorem aj7 (ts : Array TypeId) (t : TypeId) (x y z : Nat) (h : max x y = z) (w : World) : (Builtin.max_ ts t #[.int .u64 (x : Int),.int .u64 (y : Int)]).run Tryz.prog w = .ok (.int .u64 (z : Int)) w := by rw [run_max_int2,aD4 x y z h]
theorem ahh {w : World} {p m a x t : Nat} (d : FD w p m a x t) :
  Calls Tryz.prog 72 #[.pointer (some ⟨p,0,none⟩)] w fun e w' => e = .returned (.tuple #[.int .u64 (loN m x : Nat),.int .u64 (hiN m x : Nat)]) ∧ Fr F0 w w' := by
 have HD := Lib.hid (fun (W : World) (F : Fr F0 w W) => (d.fr0 F).at_)
 by_cases h : 0 < x
 ·have HL := Lib.hid (aa3 d true (decide_eq_true h))
  have hx := d.last
  have hm := d.move
  have haw := aCb (x := x) hm
  have HP := Lib.hid (fun W => show Calls Tryz.prog 29 #[.int .u64 (x : Int),.int .u64 (m : Int),.int .u64 1000,.bool false] W _ from ae1 x m 1000 false (by omega) (by omega) W)
  rw [aJo hx hm] at HP
  unfold loN hiN
  rw [if_neg (by omega),if_neg (by omega)]
  generalize awN x m = y at *
  generalize paE x m 1000 false = E at *
  have m1 : IntKind.u64.wrap ((x : Int) - (y : Int)) = ((x - y : Nat) : Int) := by rw [IntWalk.u64_in _ (by omega)]; omega
  have m2 : IntKind.u64.wrap ((x : Int) + (y : Int)) = ((x + y : Nat) : Int) := by rw [IntWalk.u64_in _ (by omega)]; omega
  obtain ⟨lo,h1⟩ : ∃ n,max (x - y) 1 = n := ⟨_,rfl⟩
  obtain ⟨hi,h2⟩ : ∃ n,min (x + y) 1099511627776 = n := ⟨_,rfl⟩
  rw [h1,h2]
  obtain ⟨s,hs⟩ : ∃ n,x - y = n := ⟨_,rfl⟩
  obtain ⟨s2,hs2⟩ : ∃ n,x + y = n := ⟨_,rfl⟩
  rw [hs] at m1 h1
  rw [hs2] at m2 h2
  have q1 := fun ts t w => show (Builtin.max_ ts t #[.int .u64 (s : Int),.int .u64 1]).run Tryz.prog w = _ from aj7 ts t s 1 lo h1 w
  have q2 := fun ts t w => show (Builtin.min_ ts t #[.int .u64 (s2 : Int),.int .u64 1099511627776]).run Tryz.prog w = _ from aeh ts t s2 1099511627776 hi h2 w
  clear d h hx hm haw h1 h2 hs hs2
  go_enter Tryz.func72,Tryz.ntmps72
  go_wp2_with fail
  (with_reducible refine HL.out.mono ?_); rintro e w1 ⟨rfl,f1⟩
  have e1 := HD.out w1 f1
  have F1 := Lib.hid f1
  clear f1
  go_wp2_with fail
  (with_reducible refine (HP.out _).mono ?_); rintro e w2 ⟨rfl,f2⟩
  have F2 := Lib.hid (F1.out.trans' f2)
  clear f2 e1
  go_wp2_with fail
  go_ret2
  exact ⟨rfl,F2.out⟩
 ·obtain rfl : x = 0 := by omega
  have HL := Lib.hid (aa3 d false rfl)
  rw [aI1,aI5]
  clear d h
  go_enter Tryz.func72,Tryz.ntmps72
  go_wp2_with fail
  (with_reducible refine HL.out.mono ?_); rintro e w1 ⟨rfl,f1⟩
  have F1 := Lib.hid f1
  clear f1
  go_wp2_with fail
  go_ret2
  exact ⟨rfl,F1.out⟩
def okT (q now : Nat) : Prop := (1 ≤ q ∧ q ≤ 1099511627776) ∧ now ≤ 1099511627776
def okW (x t now : Nat) : Prop := x = 0 ∨ t < now
def okM (m x q : Nat) : Prop := loN m x ≤ q ∧ q ≤ hiN m x
def OsQ (w : World) (p m a x t : Nat) (E : Int) : Ending → World → Prop := fun e w' => e = .returned (.int .i64 E) ∧ FD w' p m a x t ∧ Fr (fun k => k = p) w w'
theorem aAh {w : World} {p m a x t : Nat} (d : FD w p m a x t) (q now : Nat) (h : ¬ okT q now) :
  Calls Tryz.prog 18 #[.pointer (some ⟨p,0,none⟩),.int .u64 (q : Int),.int .u64 (now : Int)] w (OsQ w p m a x t 1) := by
 have HD := Lib.hid d
 unfold OsQ
 by_cases h1 : 1 ≤ q ∧ q ≤ 1099511627776
 ·have HR := Lib.hid (aaw q true (decide_eq_true h1))
  have l2 : (1099511627776 : Int) < (now : Int) := by
   have : ¬ now ≤ 1099511627776 := fun e => h ⟨h1,e⟩
   omega
  have d2 : decide ((1099511627776 : Int) < (now : Int)) = true := decide_eq_true l2
  clear d h h1
  go_enter Tryz.func18,Tryz.ntmps18
  go_wp2_with fail
  (with_reducible refine (HR.out _).mono ?_); rintro e w1 ⟨rfl,hw⟩; replace hw := hw.symm; subst hw
  go_wp2_with fail
  go_ret
  exact ⟨rfl,HD.out,Fr.refl _ _⟩
 ·have HR := Lib.hid (aaw q false (decide_eq_false h1))
  clear d h h1
  go_enter Tryz.func18,Tryz.ntmps18
  go_wp2_with fail
  (with_reducible refine (HR.out _).mono ?_); rintro e w1 ⟨rfl,hw⟩; replace hw := hw.symm; subst hw
  go_wp2_with fail
  go_ret
  exact ⟨rfl,HD.out,Fr.refl _ _⟩
theorem axl {w : World} {p m a x t : Nat} (d : FD w p m a x t) (q now : Nat) (h : okT q now) (hw : ¬ okW x t now) :
  Calls Tryz.prog 18 #[.pointer (some ⟨p,0,none⟩),.int .u64 (q : Int),.int .u64 (now : Int)] w (OsQ w p m a x t 11) := by
 have HD := Lib.hid d
 unfold OsQ
 have HR := Lib.hid (aaw q true (decide_eq_true h.1))
 have hx : 0 < x := by unfold okW at hw; omega
 have HL := Lib.hid (aa3 d true (decide_eq_true hx))
 have l2 : ¬ (1099511627776 : Int) < (now : Int) := by have := h.2; omega
 have d2 : decide ((1099511627776 : Int) < (now : Int)) = false := decide_eq_false l2
 have l3 : (now : Int) ≤ (t : Int) := by unfold okW at hw; omega
 have l4 : now ≤ t := by omega
 have d3 : decide ((now : Int) ≤ (t : Int)) = true := decide_eq_true l3
 have d4 : decide (now ≤ t) = true := decide_eq_true l4
 clear d h hw hx
 go_enter Tryz.func18,Tryz.ntmps18
 go_wp2_with fail
 (with_reducible refine (HR.out _).mono ?_); rintro e w1 ⟨rfl,hw⟩; replace hw := hw.symm; subst hw
 go_wp2_with fail
 (with_reducible refine HL.out.mono ?_); rintro e w1 ⟨rfl,f1⟩
 have F1 := Lib.hid f1
 clear f1
 go_wp2_with fail
 go_ret
 exact ⟨rfl,HD.out.fr0 F1.out,F1.out.of0⟩
theorem axm {w : World} {p m a x t : Nat} (d : FD w p m a x t) (q now : Nat) (h : okT q now) (hw : okW x t now) (hm : ¬ okM m x q) :
  Calls Tryz.prog 18 #[.pointer (some ⟨p,0,none⟩),.int .u64 (q : Int),.int .u64 (now : Int)] w (OsQ w p m a x t 17) := by
 have HD := Lib.hid d
 unfold OsQ
 have HR := Lib.hid (aaw q true (decide_eq_true h.1))
 obtain ⟨b,hb⟩ : ∃ b,decide (0 < x) = b := ⟨_,rfl⟩
 have HL := Lib.hid (aa3 d b hb)
 have HB := Lib.hid (fun (W : World) (F : Fr F0 w W) => ahh (d.fr0 F))
 have l2 : ¬ (1099511627776 : Int) < (now : Int) := by have := h.2; omega
 have d2 : decide ((1099511627776 : Int) < (now : Int)) = false := decide_eq_false l2
 have hc : b = false ∨ (b = true ∧ ¬ now ≤ t) := by
  rcases hw with hw | hw
  ·exact .inl (by rw [← hb]; exact decide_eq_false (by omega))
  ·by_cases hx : 0 < x
   ·exact .inr ⟨by rw [← hb]; exact decide_eq_true hx,by omega⟩
   ·exact .inl (by rw [← hb]; exact decide_eq_false hx)
 have hm2 : q < loN m x ∨ (¬ q < loN m x ∧ hiN m x < q) := by unfold okM at hm; omega
 clear d h hw hb hm
 generalize loN m x = lo at *
 generalize hiN m x = hi at *
 rcases hc with rfl | ⟨rfl,l3⟩ <;> rcases hm2 with k1 | ⟨k1,k2⟩
 all_goals
  go_enter Tryz.func18,Tryz.ntmps18
  go_wp2_with fail
  (with_reducible refine (HR.out _).mono ?_); rintro e w1 ⟨rfl,hw⟩; replace hw := hw.symm; subst hw
  go_wp2_with fail
  (with_reducible refine HL.out.mono ?_); rintro e w1 ⟨rfl,f1⟩
  have F1 := Lib.hid f1
  clear f1
  go_wp2_with fail
  (with_reducible refine (HB.out w1 F1.out).mono ?_); rintro e w2 ⟨rfl,f2⟩
  have F2 := Lib.hid (F1.out.trans' f2)
  clear f2
  go_wp2_with fail
  go_ret
  exact ⟨rfl,HD.out.fr0 F2.out,F2.out.of0⟩
theorem aD6 {w : World} {p m a x t : Nat} (d : FD w p m a x t) (q now : Nat) (h : okT q now) (hw : okW x t now) (hm : okM m x q) :
  Calls Tryz.prog 18 #[.pointer (some ⟨p,0,none⟩),.int .u64 (q : Int),.int .u64 (now : Int)] w (OsQ w p m a q now 0) := by
 have HD := Lib.hid (fun (W : World) (F : Fr F0 w W) => (d.fr0 F).at_)
 have HS := Lib.hid (fun (W : World) (F : Fr F0 w W) => (d.fr0 F).set h.1.2 h.2)
 unfold OsQ
 have HR := Lib.hid (aaw q true (decide_eq_true h.1))
 obtain ⟨b,hb⟩ : ∃ b,decide (0 < x) = b := ⟨_,rfl⟩
 have HL := Lib.hid (aa3 d b hb)
 have HB := Lib.hid (fun (W : World) (F : Fr F0 w W) => ahh (d.fr0 F))
 have l2 : ¬ (1099511627776 : Int) < (now : Int) := by have := h.2; omega
 have d2 : decide ((1099511627776 : Int) < (now : Int)) = false := decide_eq_false l2
 have hc : b = false ∨ (b = true ∧ ¬ now ≤ t) := by
  rcases hw with hw | hw
  ·exact .inl (by rw [← hb]; exact decide_eq_false (by omega))
  ·by_cases hx : 0 < x
   ·exact .inr ⟨by rw [← hb]; exact decide_eq_true hx,by omega⟩
   ·exact .inl (by rw [← hb]; exact decide_eq_false hx)
 have k1 : ¬ q < loN m x := by unfold okM at hm; omega
 have k2 : ¬ hiN m x < q := by unfold okM at hm; omega
 clear d h hw hb hm
 generalize loN m x = lo at *
 generalize hiN m x = hi at *
 rcases hc with rfl | ⟨rfl,l3⟩
 all_goals
  go_enter Tryz.func18,Tryz.ntmps18
  go_wp2_with fail
  (with_reducible refine (HR.out _).mono ?_); rintro e w1 ⟨rfl,hw⟩; replace hw := hw.symm; subst hw
  go_wp2_with fail
  (with_reducible refine HL.out.mono ?_); rintro e w1 ⟨rfl,f1⟩
  have F1 := Lib.hid f1
  clear f1
  go_wp2_with fail
  (with_reducible refine (HB.out w1 F1.out).mono ?_); rintro e w2 ⟨rfl,f2⟩
  have F2 := Lib.hid (F1.out.trans' f2)
  have e2 := HD.out w2 F2.out
  clear f2
  go_wp2_with fail
  go_ret
  exact ⟨rfl,(HS.out w2 F2.out).1,F2.out.of0.trans' (HS.out w2 F2.out).2⟩
def prE (a x t now : Nat) : Int := if x = 0 then 12 else if now < t then 11 else if a < now - t then 18 else 0
def prV (a x t now : Nat) : Nat := if prE a x t now = 0 then x else 0
theorem aju (a t now : Nat) : prE a 0 t now = 12 ∧ prV a 0 t now = 0 := by
 have : prE a 0 t now = 12 := by unfold prE; rw [if_pos rfl]
 exact ⟨this,by unfold prV; rw [this]; rfl⟩
theorem akd {a x t now : Nat} (h : 0 < x) (h1 : now < t) : prE a x t now = 11 ∧ prV a x t now = 0 := by
 have : prE a x t now = 11 := by unfold prE; rw [if_neg (by omega),if_pos h1]
 exact ⟨this,by unfold prV; rw [this]; rfl⟩
theorem ara {a x t now : Nat} (h : 0 < x) (h1 : ¬ now < t) (h2 : a < now - t) : prE a x t now = 18 ∧ prV a x t now = 0 := by
 have : prE a x t now = 18 := by unfold prE; rw [if_neg (by omega),if_neg h1,if_pos h2]
 exact ⟨this,by unfold prV; rw [this]; rfl⟩
theorem avy {a x t now : Nat} (h : 0 < x) (h1 : ¬ now < t) (h2 : ¬ a < now - t) : prE a x t now = 0 ∧ prV a x t now = x := by
 have : prE a x t now = 0 := by unfold prE; rw [if_neg (by omega),if_neg h1,if_neg h2]
 exact ⟨this,by unfold prV; rw [this,if_pos rfl]⟩
theorem atc {w : World} {p m a x t : Nat} (d : FD w p m a x t) (now : Nat) (hn : now < 18446744073709551616) :
  Calls Tryz.prog 95 #[.pointer (some ⟨p,0,none⟩),.int .u64 (now : Int)] w fun e w' => e = .returned (.tuple #[.int .u64 (prV a x t now : Nat),.int .i64 (prE a x t now)]) ∧ Fr F0 w w' := by
 have HD := Lib.hid (fun (W : World) (F : Fr F0 w W) => (d.fr0 F).at_)
 have hm : IntKind.u64.wrap ((now : Int) - (t : Int)) = ((now - t : Nat) : Int) ∨ now < t := by
  by_cases h : now < t
  ·exact .inr h
  ·exact .inl (by have := d.told; rw [IntWalk.u64_in _ (by omega)]; omega)
 by_cases h : 0 < x
 ·have HL := Lib.hid (aa3 d true (decide_eq_true h))
  by_cases h1 : now < t
  ·rw [(akd h h1).1,(akd h h1).2]
   have l1 : (now : Int) < (t : Int) := by omega
   have d1 : decide ((now : Int) < (t : Int)) = true := decide_eq_true l1
   have d3 : decide (now < t) = true := decide_eq_true h1
   clear d h hm
   go_enter Tryz.func95,Tryz.ntmps95
   go_wp2_with fail
   (with_reducible refine HL.out.mono ?_); rintro e w1 ⟨rfl,f1⟩
   have F1 := Lib.hid f1
   clear f1
   go_wp2_with fail
   go_ret2
   exact ⟨rfl,F1.out⟩
  ·have m1 := hm.resolve_right h1
   have HS := Lib.hid (fun h2 => ara (a := a) h h1 h2)
   have HG := Lib.hid (fun h2 => avy (a := a) h h1 h2)
   obtain ⟨g,hg⟩ : ∃ g,now - t = g := ⟨_,rfl⟩
   rw [hg] at m1 HS HG
   have d3 : decide (now < t) = false := decide_eq_false h1
   have l1 : ¬ (now : Int) < (t : Int) := by omega
   clear d h hm hg
   by_cases h2 : a < g
   ·rw [(HS.out h2).1,(HS.out h2).2]
    have d4 : decide (a < g) = true := decide_eq_true h2
    have l2 : (a : Int) < (g : Int) := by omega
    go_enter Tryz.func95,Tryz.ntmps95
    go_wp2_with fail
    (with_reducible refine HL.out.mono ?_); rintro e w1 ⟨rfl,f1⟩
    have e1 := HD.out w1 f1
    have F1 := Lib.hid f1
    clear f1
    go_wp2_with fail
    go_ret2
    exact ⟨rfl,F1.out⟩
   ·rw [(HG.out h2).1,(HG.out h2).2]
    have d4 : decide (a < g) = false := decide_eq_false h2
    have l2 : ¬ (a : Int) < (g : Int) := by omega
    go_enter Tryz.func95,Tryz.ntmps95
    go_wp2_with fail
    (with_reducible refine HL.out.mono ?_); rintro e w1 ⟨rfl,f1⟩
    have e1 := HD.out w1 f1
    have F1 := Lib.hid f1
    clear f1
    go_wp2_with fail
    go_ret2
    exact ⟨rfl,F1.out⟩
 ·obtain rfl : x = 0 := by omega
  have HL := Lib.hid (aa3 d false rfl)
  rw [(aju a t now).1,(aju a t now).2]
  clear d h hm
  go_enter Tryz.func95,Tryz.ntmps95
  go_wp2_with fail
  (with_reducible refine HL.out.mono ?_); rintro e w1 ⟨rfl,f1⟩
  have F1 := Lib.hid f1
  clear f1
  go_wp2_with fail
  go_ret2
  exact ⟨rfl,F1.out⟩
def seE (m x t q now : Nat) : Int := if (1 ≤ q ∧ q ≤ 1099511627776) ∧ now ≤ 1099511627776 then (if x = 0 ∨ t < now then (if loN m x ≤ q ∧ q ≤ hiN m x then 0 else 17) else 11) else 1
theorem awx (m x t q now : Nat) :
  (¬ okT q now ∧ seE m x t q now = 1) ∨ (okT q now ∧ ¬ okW x t now ∧ seE m x t q now = 11) ∨ (okT q now ∧ okW x t now ∧ ¬ okM m x q ∧ seE m x t q now = 17) ∨ (okT q now ∧ okW x t now ∧ okM m x q ∧ seE m x t q now = 0) := by
 unfold okT okW okM seE
 by_cases h1 : (1 ≤ q ∧ q ≤ 1099511627776) ∧ now ≤ 1099511627776
 ·rw [if_pos h1]
  by_cases h2 : x = 0 ∨ t < now
  ·rw [if_pos h2]
   by_cases h3 : loN m x ≤ q ∧ q ≤ hiN m x
   ·rw [if_pos h3]; exact .inr (.inr (.inr ⟨h1,h2,h3,rfl⟩))
   ·rw [if_neg h3]; exact .inr (.inr (.inl ⟨h1,h2,h3,rfl⟩))
  ·rw [if_neg h2]; exact .inr (.inl ⟨h1,h2,rfl⟩)
 ·rw [if_neg h1]; exact .inl ⟨h1,rfl⟩
theorem aAi {w : World} {p m a x t : Nat} (d : FD w p m a x t) (q now : Nat) : ∃ x' t' : Nat,
  ((seE m x t q now = 0 ∧ x' = q ∧ t' = now ∧ 1 ≤ q) ∨ (¬ seE m x t q now = 0 ∧ x' = x ∧ t' = t)) ∧
  Calls Tryz.prog 18 #[.pointer (some ⟨p,0,none⟩),.int .u64 (q : Int),.int .u64 (now : Int)] w (OsQ w p m a x' t' (seE m x t q now)) := by
 rcases awx m x t q now with ⟨h1,e⟩ | ⟨h1,h2,e⟩ | ⟨h1,h2,h3,e⟩ | ⟨h1,h2,h3,e⟩ <;> rw [e]
 ·exact ⟨x,t,.inr ⟨by decide,rfl,rfl⟩,aAh d q now h1⟩
 ·exact ⟨x,t,.inr ⟨by decide,rfl,rfl⟩,axl d q now h1 h2⟩
 ·exact ⟨x,t,.inr ⟨by decide,rfl,rfl⟩,axm d q now h1 h2 h3⟩
 ·exact ⟨q,now,.inl ⟨rfl,rfl,rfl,h1.1.1⟩,aD6 d q now h1 h2 h3⟩
theorem awq (m x t q now : Nat) : ∃ o : Bool,(decide ((max x q - min x q) * 1000 ≤ x * m) = o) ∧
  ((q < 1 ∧ seE m x t q now = 1) ∨ (¬ q < 1 ∧ 1099511627776 < q ∧ seE m x t q now = 1) ∨ (¬ q < 1 ∧ ¬ 1099511627776 < q ∧ 1099511627776 < now ∧ seE m x t q now = 1) ∨
   (¬ q < 1 ∧ ¬ 1099511627776 < q ∧ ¬ 1099511627776 < now ∧ ¬ 0 < x ∧ seE m x t q now = 0) ∨ (¬ q < 1 ∧ ¬ 1099511627776 < q ∧ ¬ 1099511627776 < now ∧ 0 < x ∧ now ≤ t ∧ seE m x t q now = 11) ∨
   (¬ q < 1 ∧ ¬ 1099511627776 < q ∧ ¬ 1099511627776 < now ∧ 0 < x ∧ ¬ now ≤ t ∧ o = false ∧ seE m x t q now = 17) ∨ (¬ q < 1 ∧ ¬ 1099511627776 < q ∧ ¬ 1099511627776 < now ∧ 0 < x ∧ ¬ now ≤ t ∧ o = true ∧ seE m x t q now = 0)) := by
 refine ⟨_,rfl,?_⟩
 by_cases h1 : q < 1
 ·refine .inl ⟨h1,?_⟩; unfold seE; rw [if_neg (by omega)]
 by_cases h2 : 1099511627776 < q
 ·refine .inr (.inl ⟨h1,h2,?_⟩); unfold seE; rw [if_neg (by omega)]
 by_cases h3 : 1099511627776 < now
 ·refine .inr (.inr (.inl ⟨h1,h2,h3,?_⟩)); unfold seE; rw [if_neg (by omega)]
 have k : (1 ≤ q ∧ q ≤ 1099511627776) ∧ now ≤ 1099511627776 := by omega
 by_cases h4 : 0 < x
 ·by_cases h5 : now ≤ t
  ·refine .inr (.inr (.inr (.inr (.inl ⟨h1,h2,h3,h4,h5,?_⟩)))); unfold seE; rw [if_pos k,if_neg (by omega)]
  ·have b := ax5 (m := m) h4 k.1.1 k.1.2
   by_cases h6 : (max x q - min x q) * 1000 ≤ x * m
   ·refine .inr (.inr (.inr (.inr (.inr (.inr ⟨h1,h2,h3,h4,h5,decide_eq_true h6,?_⟩))))); unfold seE; rw [if_pos k,if_pos (by omega),if_pos (b.2 h6)]
   ·refine .inr (.inr (.inr (.inr (.inr (.inl ⟨h1,h2,h3,h4,h5,decide_eq_false h6,?_⟩))))); unfold seE; rw [if_pos k,if_pos (by omega),if_neg (fun h => h6 (b.1 h))]
 ·have : x = 0 := by omega
  subst this
  refine .inr (.inr (.inr (.inl ⟨h1,h2,h3,h4,?_⟩))); unfold seE; rw [if_pos k,if_pos (.inl rfl),aI1,aI5,if_pos k.1]
end Go.Proofs.YtohckefafbhooaaGreat
