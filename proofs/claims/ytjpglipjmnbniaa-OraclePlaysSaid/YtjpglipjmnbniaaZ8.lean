import Derived.Test.YtjpglipjmnbniaaZ6
import Derived.Test.YtjpglipjmnbniaaZ7
import Derived.Test.YtjpglipjmnbniaaZ4
import Derived.Test.YtjpglipjmnbniaaZ1
/- Layer 17 (oracle): a feed in memory; New, Last, Copy, Bounds. -/
namespace Go.Proofs.Ytjpglipjmnbniaa
set_option maxRecDepth 100000
set_option linter.unusedVariables false
set_option linter.unusedSimpArgs false
open Go.RowKit

theorem Try.szOFeed : (Try.prog.info? 46).map (·.size) = some 4 := by kernel_rfl
@[go_sem ↓ high] theorem load_ofeed (p : Value) : Instr.loadAt 46 p = loadRowAt 46 p := rfl
@[go_sem ↓ high] theorem store_ofeed (p v : Value) : Instr.storeAt 46 p v = storeRowAt 46 p v := rfl
@[go_sem] theorem run_load_ofeed (w : World) (g : Nat) : (loadRowAt 46 (.pointer (some ⟨g, 0, none⟩))).run Try.prog w = rowOut Try.prog 46 (.pointer (some ⟨g, 0, none⟩)) w 4 w.heap[g]? :=
  run_loadRowAt w _ g 4 _ Try.underlying46 rfl Try.szOFeed
@[go_sem] theorem run_store_ofeed (w : World) (g : Nat) (cells : Array Value) : (storeRowAt 46 (.pointer (some ⟨g, 0, none⟩)) (.agg cells)).run Try.prog w = rowIn Try.prog 46 (.pointer (some ⟨g, 0, none⟩)) cells g w 4 w.heap[g]? :=
  run_storeRowAt w _ g 4 cells Try.szOFeed
theorem Try.szORules : (Try.prog.info? 30).map (·.size) = some 2 := by kernel_rfl
@[go_sem ↓ high] theorem load_orules (p : Value) : Instr.loadAt 30 p = loadRowAt 30 p := rfl
@[go_sem] theorem run_load_orules (w : World) (g : Nat) : (loadRowAt 30 (.pointer (some ⟨g, 0, none⟩))).run Try.prog w = rowOut Try.prog 30 (.pointer (some ⟨g, 0, none⟩)) w 2 w.heap[g]? :=
  run_loadRowAt w _ g 2 _ Try.underlying30 rfl Try.szORules

/-- A feed's cells: its rules, the last price, when it was told. -/
def fdC (m a x t : Nat) : Array Value := #[.int .u64 (m : Int), .int .u64 (a : Int), .int .u64 (x : Int), .int .u64 (t : Int)]
/-- A feed behind p. -/
structure FD (w : World) (p m a x t : Nat) : Prop where
  at_ : w.heap[p]? = some (.cells #[.int .u64 (m : Int), .int .u64 (a : Int), .int .u64 (x : Int), .int .u64 (t : Int)] 46 (0, 0))
  move : m ≤ 1000
  age : a ≤ 1099511627776
  last : x ≤ 1099511627776
  told : t ≤ 1099511627776
section
variable {w w' : World} {p m a x t : Nat}
theorem FD.fr {S : Nat → Prop} (d : FD w p m a x t) (r : Fr S w w') (hp : ¬ S p) : FD w' p m a x t := ⟨r.keeps hp d.at_, d.move, d.age, d.last, d.told⟩
theorem FD.fr0 (d : FD w p m a x t) (r : Fr F0 w w') : FD w' p m a x t := d.fr r fun x => x
theorem FD.lt (d : FD w p m a x t) : p < w.heap.size := (Array.getElem?_eq_some_iff.1 d.at_).1
theorem FD.set {y s : Nat} (d : FD w p m a x t) (hy : y ≤ 1099511627776) (hs : s ≤ 1099511627776) :
    FD ((w.setCell ⟨p, 2, none⟩ (.int .u64 (y : Int))).setCell ⟨p, 3, none⟩ (.int .u64 (s : Int))) p m a y s ∧ Fr (fun k => k = p) w ((w.setCell ⟨p, 2, none⟩ (.int .u64 (y : Int))).setCell ⟨p, 3, none⟩ (.int .u64 (s : Int))) := by
  refine ⟨⟨?_, d.move, d.age, hy, hs⟩, ((Fr.refl (fun k => k = p) w).setCell (p := ⟨p, 2, none⟩) (fun _ => rfl) _).setCell (p := ⟨p, 3, none⟩) (fun _ => rfl) _⟩
  rw [heap_setCell_at, heap_setCell_at, d.at_]
  rfl
theorem FD.set2 {y s : Nat} (d : FD w p m a x t) (hy : y ≤ 1099511627776) (hs : s ≤ 1099511627776) :
    FD ((w.setCell ⟨p, 3, none⟩ (.int .u64 (s : Int))).setCell ⟨p, 2, none⟩ (.int .u64 (y : Int))) p m a y s ∧ Fr (fun k => k = p) w ((w.setCell ⟨p, 3, none⟩ (.int .u64 (s : Int))).setCell ⟨p, 2, none⟩ (.int .u64 (y : Int))) := by
  refine ⟨⟨?_, d.move, d.age, hy, hs⟩, ((Fr.refl (fun k => k = p) w).setCell (p := ⟨p, 3, none⟩) (fun _ => rfl) _).setCell (p := ⟨p, 2, none⟩) (fun _ => rfl) _⟩
  rw [heap_setCell_at, heap_setCell_at, d.at_]
  rfl
end
theorem built_ofeed (m a : Nat) (w : World) : (Instr.build 46 #[(0, .agg #[.int .u64 (m : Int), .int .u64 (a : Int)])]).run Try.prog w = .ok (.agg #[.int .u64 (m : Int), .int .u64 (a : Int), .int .u64 0, .int .u64 0]) w := run_build w _ _ _ (by kernel_rfl)

set_option maxHeartbeats 4000000 in
theorem oNew_ok (m a : Nat) (hm : m ≤ 1000) (ha : a ≤ 1099511627776) (w : World) :
    Calls Try.prog 6 #[.agg #[.int .u64 (m : Int), .int .u64 (a : Int)]] w fun e w' => ∃ p, e = .returned (.tuple #[.pointer (some ⟨p, 0, none⟩), .int .i64 0]) ∧ FD w' p m a 0 0 ∧ Fr F0 w w' ∧ w.heap.size ≤ p := by
  have HM := Lib.hid hm
  have HA := Lib.hid ha
  have l1 : ¬ (1000 : Int) < (m : Int) := by omega
  have l2 : ¬ (1099511627776 : Int) < (a : Int) := by omega
  have d1 : decide ((1000 : Int) < (m : Int)) = false := decide_eq_false l1
  have d2 : decide ((1099511627776 : Int) < (a : Int)) = false := decide_eq_false l2
  have hb := built_ofeed
  clear hm ha
  go_enter Try.func6, Try.ntmps6
  go_wp2_with fail
  go_ret2
  refine ⟨w.heap.size + 1, rfl, ⟨?_, HM.out, HA.out, by omega, by omega⟩, ((Fr.refl F0 w).alloc _).alloc _, by omega⟩
  rw [← zero4]
  have hs : (w.alloc (.cells #[.int .u64 (m : Int), .int .u64 (a : Int)] 30)).heap.size = w.heap.size + 1 := World.size_alloc _ _
  have e := heap_alloc_new (w.alloc (.cells #[.int .u64 (m : Int), .int .u64 (a : Int)] 30)) (.cells #[.int .u64 (m : Int), .int .u64 (a : Int), .int .u64 0, .int .u64 0] 46)
  rw [hs] at e
  exact e
set_option maxHeartbeats 4000000 in
theorem oNew_no (m a : Nat) (h : ¬ (m ≤ 1000 ∧ a ≤ 1099511627776)) (w : World) :
    Calls Try.prog 6 #[.agg #[.int .u64 (m : Int), .int .u64 (a : Int)]] w fun e w' => e = .returned (.tuple #[.pointer none, .int .i64 1]) ∧ Fr F0 w w' := by
  by_cases hm : m ≤ 1000
  · have l1 : ¬ (1000 : Int) < (m : Int) := by omega
    have l2 : (1099511627776 : Int) < (a : Int) := by omega
    have d1 : decide ((1000 : Int) < (m : Int)) = false := decide_eq_false l1
    have d2 : decide ((1099511627776 : Int) < (a : Int)) = true := decide_eq_true l2
    clear hm h
    go_enter Try.func6, Try.ntmps6
    go_wp2_with fail
    go_ret2
    exact ⟨rfl, (Fr.refl F0 w).alloc _⟩
  · have l1 : (1000 : Int) < (m : Int) := by omega
    have d1 : decide ((1000 : Int) < (m : Int)) = true := decide_eq_true l1
    clear hm h
    go_enter Try.func6, Try.ntmps6
    go_wp2_with fail
    go_ret2
    exact ⟨rfl, (Fr.refl F0 w).alloc _⟩

set_option maxHeartbeats 4000000 in
theorem oLast_any {w : World} {p m a x t : Nat} (d : FD w p m a x t) (b : Bool) (hb : decide (0 < x) = b) :
    Calls Try.prog 9 #[.pointer (some ⟨p, 0, none⟩)] w fun e w' => e = .returned (.tuple #[.int .u64 (x : Int), .int .u64 (t : Int), .bool b]) ∧ Fr F0 w w' := by
  have e0 := d.at_
  have F := Lib.hid (Fr.refl F0 w).drew
  have q1 : ((x : Int) != 0) = b := by
    rw [← hb]
    by_cases h : 0 < x
    · rw [decide_eq_true h, bne_iff_ne]; omega
    · obtain rfl : x = 0 := by omega
      rfl
  clear d hb
  go_enter Try.func9, Try.ntmps9
  go_upto_region 3 with fail
  go_region
  go_wp2_with fail
  go_ret3
  exact ⟨rfl, F.out⟩
set_option maxHeartbeats 4000000 in
theorem oLast_nil (w : World) : Calls Try.prog 9 #[.pointer none] w fun e w' => e = .returned (.tuple #[.int .u64 0, .int .u64 0, .bool false]) ∧ w' = w := by
  go_enter Try.func9, Try.ntmps9
  go_wp2
  go_ret3
  exact ⟨rfl, rfl⟩
set_option maxHeartbeats 4000000 in
theorem oCopy_any {w : World} {p m a x t : Nat} (d : FD w p m a x t) :
    Calls Try.prog 12 #[.pointer (some ⟨p, 0, none⟩)] w fun e w' => ∃ q, e = .returned (.pointer (some ⟨q, 0, none⟩)) ∧ FD w' q m a x t ∧ Fr F0 w w' ∧ w.heap.size ≤ q := by
  have e0 := d.at_
  have HD := Lib.hid d
  have oS : rowOne #[Value.int .u64 (m : Int), .int .u64 (a : Int), .int .u64 (x : Int), .int .u64 (t : Int)] := by unfold rowOne; kernel_rfl
  clear d
  go_enter Try.func12, Try.ntmps12
  go_upto_region 4 with fail
  refine wp_put fun W N => ?_
  have r := Lib.hid (And.intro N.new N.fr)
  clear N
  obtain ⟨q, hq⟩ : ∃ q, w.heap.size = q := ⟨_, rfl⟩
  rw [hq] at r ⊢
  have HQ := Lib.hid hq
  clear hq e0
  go_wp2_with fail
  go_ret
  exact ⟨q, rfl, ⟨r.out.1, HD.out.move, HD.out.age, HD.out.last, HD.out.told⟩, r.out.2, Nat.le_of_eq HQ.out⟩
set_option maxHeartbeats 4000000 in
theorem oCopy_nil (w : World) : Calls Try.prog 12 #[.pointer none] w fun e w' => e = .returned (.pointer none) ∧ w' = w := by
  go_enter Try.func12, Try.ntmps12
  go_wp2
  go_ret
  exact ⟨rfl, rfl⟩
end Go.Proofs.Ytjpglipjmnbniaa

/- Layer 17 (oracle): between which the next price may be. -/
namespace Go.Proofs.Ytjpglipjmnbniaa
set_option maxRecDepth 100000
set_option linter.unusedVariables false
set_option linter.unusedSimpArgs false
open Go.RowKit

/-- By how much the next price may be away. -/
def awN (x m : Nat) : Nat := x * m / 1000
def loN (m x : Nat) : Nat := if x = 0 then 1 else max (x - awN x m) 1
def hiN (m x : Nat) : Nat := if x = 0 then 1099511627776 else min (x + awN x m) 1099511627776
theorem awN_le {x m : Nat} (hm : m ≤ 1000) : awN x m ≤ x := by
  unfold awN
  have : x * m ≤ x * 1000 := Nat.mul_le_mul_left _ hm
  omega
theorem paV_aw {x m : Nat} (hx : x ≤ 1099511627776) (hm : m ≤ 1000) : paV x m 1000 false = awN x m := by
  have h := awN_le (x := x) hm
  unfold paV
  rw [if_pos ⟨by omega, by omega⟩]
  unfold ptA
  have e : ptQ x m 1000 false = awN x m := by
    unfold ptQ awN
    rw [if_neg fun h => by cases h.1]
  rw [e, if_pos (by omega)]
theorem loN_0 (m : Nat) : loN m 0 = 1 := rfl
theorem hiN_0 (m : Nat) : hiN m 0 = 1099511627776 := rfl
theorem loN_pos (m x : Nat) : 1 ≤ loN m x := by unfold loN; split <;> omega
theorem hiN_le (m x : Nat) : hiN m x ≤ 1099511627776 := by unfold hiN; split <;> omega
theorem loN_le {m x : Nat} (h : 0 < x) : loN m x ≤ x := by unfold loN; rw [if_neg (by omega)]; omega
theorem hiN_ge {m x : Nat} (h : 0 < x) (h2 : x ≤ 1099511627776) : x ≤ hiN m x := by unfold hiN; rw [if_neg (by omega)]; omega
theorem loN_lt {m x : Nat} (h : x ≤ 1099511627776) : loN m x < 18446744073709551616 := by unfold loN; split <;> omega
/-- What the bounds say: so far away and no further. -/
theorem bounds_is {m x q : Nat} (hx : 0 < x) (hq : 1 ≤ q) (hq2 : q ≤ 1099511627776) : (loN m x ≤ q ∧ q ≤ hiN m x) ↔ (max x q - min x q) * 1000 ≤ x * m := by
  unfold loN hiN awN
  rw [if_neg (by omega), if_neg (by omega)]
  generalize x * m = y
  constructor
  · rintro ⟨h1, h2⟩
    omega
  · intro h
    omega

theorem omin_is (x y z : Nat) (h : min x y = z) : (if (y : Int) < (x : Int) then (y : Int) else (x : Int)) = (z : Int) := by split <;> omega
theorem omax_is (x y z : Nat) (h : max x y = z) : (if (x : Int) < (y : Int) then (y : Int) else (x : Int)) = (z : Int) := by split <;> omega
theorem run_omin (ts : Array TypeId) (t : TypeId) (x y z : Nat) (h : min x y = z) (w : World) : (Builtin.min_ ts t #[.int .u64 (x : Int), .int .u64 (y : Int)]).run Try.prog w = .ok (.int .u64 (z : Int)) w := by rw [run_min_int2, omin_is x y z h]
theorem run_omax (ts : Array TypeId) (t : TypeId) (x y z : Nat) (h : max x y = z) (w : World) : (Builtin.max_ ts t #[.int .u64 (x : Int), .int .u64 (y : Int)]).run Try.prog w = .ok (.int .u64 (z : Int)) w := by rw [run_max_int2, omax_is x y z h]

set_option maxHeartbeats 4000000 in
theorem oBounds_any {w : World} {p m a x t : Nat} (d : FD w p m a x t) :
    Calls Try.prog 8 #[.pointer (some ⟨p, 0, none⟩)] w fun e w' => e = .returned (.tuple #[.int .u64 (loN m x : Nat), .int .u64 (hiN m x : Nat)]) ∧ Fr F0 w w' := by
  have HD := Lib.hid (fun (W : World) (F : Fr F0 w W) => (d.fr0 F).at_)
  by_cases h : 0 < x
  · have HL := Lib.hid (oLast_any d true (decide_eq_true h))
    have hx := d.last
    have hm := d.move
    have haw := awN_le (x := x) hm
    have HP := Lib.hid (fun W => show Calls Try.prog 14 #[.int .u64 (x : Int), .int .u64 (m : Int), .int .u64 1000, .bool false] W _ from aPart_any x m 1000 false (by omega) (by omega) W)
    rw [paV_aw hx hm] at HP
    unfold loN hiN
    rw [if_neg (by omega), if_neg (by omega)]
    generalize awN x m = y at *
    generalize paE x m 1000 false = E at *
    have m1 : IntKind.u64.wrap ((x : Int) - (y : Int)) = ((x - y : Nat) : Int) := by rw [IntWalk.u64_in _ (by omega)]; omega
    have m2 : IntKind.u64.wrap ((x : Int) + (y : Int)) = ((x + y : Nat) : Int) := by rw [IntWalk.u64_in _ (by omega)]; omega
    obtain ⟨lo, h1⟩ : ∃ n, max (x - y) 1 = n := ⟨_, rfl⟩
    obtain ⟨hi, h2⟩ : ∃ n, min (x + y) 1099511627776 = n := ⟨_, rfl⟩
    rw [h1, h2]
    obtain ⟨s, hs⟩ : ∃ n, x - y = n := ⟨_, rfl⟩
    obtain ⟨s2, hs2⟩ : ∃ n, x + y = n := ⟨_, rfl⟩
    rw [hs] at m1 h1
    rw [hs2] at m2 h2
    have q1 := fun ts t w => show (Builtin.max_ ts t #[.int .u64 (s : Int), .int .u64 1]).run Try.prog w = _ from run_omax ts t s 1 lo h1 w
    have q2 := fun ts t w => show (Builtin.min_ ts t #[.int .u64 (s2 : Int), .int .u64 1099511627776]).run Try.prog w = _ from run_omin ts t s2 1099511627776 hi h2 w
    clear d h hx hm haw h1 h2 hs hs2
    go_enter Try.func8, Try.ntmps8
    go_wp2_with fail
    (with_reducible refine HL.out.mono ?_); rintro e w1 ⟨rfl, f1⟩
    have e1 := HD.out w1 f1
    have F1 := Lib.hid f1
    clear f1
    go_wp2_with fail
    (with_reducible refine (HP.out _).mono ?_); rintro e w2 ⟨rfl, f2⟩
    have F2 := Lib.hid (F1.out.trans' f2)
    clear f2 e1
    go_wp2_with fail
    go_ret2
    exact ⟨rfl, F2.out⟩
  · obtain rfl : x = 0 := by omega
    have HL := Lib.hid (oLast_any d false rfl)
    rw [loN_0, hiN_0]
    clear d h
    go_enter Try.func8, Try.ntmps8
    go_wp2_with fail
    (with_reducible refine HL.out.mono ?_); rintro e w1 ⟨rfl, f1⟩
    have F1 := Lib.hid f1
    clear f1
    go_wp2_with fail
    go_ret2
    exact ⟨rfl, F1.out⟩
set_option maxHeartbeats 4000000 in
theorem oBounds_nil (w : World) : Calls Try.prog 8 #[.pointer none] w fun e w' => e = .returned (.tuple #[.int .u64 0, .int .u64 0]) ∧ w' = w := by
  go_enter Try.func8, Try.ntmps8
  go_wp2
  go_ret2
  exact ⟨rfl, rfl⟩
end Go.Proofs.Ytjpglipjmnbniaa

/- Layer 17 (oracle): a price is told; a price is asked for. -/
namespace Go.Proofs.Ytjpglipjmnbniaa
set_option maxRecDepth 100000
set_option linter.unusedVariables false
set_option linter.unusedSimpArgs false
open Go.RowKit

/-- May this price be told at this tick? -/
def okT (q now : Nat) : Prop := (1 ≤ q ∧ q ≤ 1099511627776) ∧ now ≤ 1099511627776
def okW (x t now : Nat) : Prop := x = 0 ∨ t < now
def okM (m x q : Nat) : Prop := loN m x ≤ q ∧ q ≤ hiN m x
/-- What a call that changes nothing leaves. -/
def OsQ (w : World) (p m a x t : Nat) (E : Int) : Ending → World → Prop := fun e w' => e = .returned (.int .i64 E) ∧ FD w' p m a x t ∧ Fr (fun k => k = p) w w'

set_option maxHeartbeats 4000000 in
theorem oSet_arg {w : World} {p m a x t : Nat} (d : FD w p m a x t) (q now : Nat) (h : ¬ okT q now) :
    Calls Try.prog 7 #[.pointer (some ⟨p, 0, none⟩), .int .u64 (q : Int), .int .u64 (now : Int)] w (OsQ w p m a x t 1) := by
  have HD := Lib.hid d
  unfold OsQ
  by_cases h1 : 1 ≤ q ∧ q ≤ 1099511627776
  · have HR := Lib.hid (ePright_any q true (decide_eq_true h1))
    have l2 : (1099511627776 : Int) < (now : Int) := by
      have : ¬ now ≤ 1099511627776 := fun e => h ⟨h1, e⟩
      omega
    have d2 : decide ((1099511627776 : Int) < (now : Int)) = true := decide_eq_true l2
    clear d h h1
    go_enter Try.func7, Try.ntmps7
    go_wp2_with fail
    (with_reducible refine (HR.out _).mono ?_); rintro e w1 ⟨rfl, hw⟩; replace hw := hw.symm; subst hw
    go_wp2_with fail
    go_ret
    exact ⟨rfl, HD.out, Fr.refl _ _⟩
  · have HR := Lib.hid (ePright_any q false (decide_eq_false h1))
    clear d h h1
    go_enter Try.func7, Try.ntmps7
    go_wp2_with fail
    (with_reducible refine (HR.out _).mono ?_); rintro e w1 ⟨rfl, hw⟩; replace hw := hw.symm; subst hw
    go_wp2_with fail
    go_ret
    exact ⟨rfl, HD.out, Fr.refl _ _⟩
set_option maxHeartbeats 4000000 in
theorem oSet_time {w : World} {p m a x t : Nat} (d : FD w p m a x t) (q now : Nat) (h : okT q now) (hw : ¬ okW x t now) :
    Calls Try.prog 7 #[.pointer (some ⟨p, 0, none⟩), .int .u64 (q : Int), .int .u64 (now : Int)] w (OsQ w p m a x t 11) := by
  have HD := Lib.hid d
  unfold OsQ
  have HR := Lib.hid (ePright_any q true (decide_eq_true h.1))
  have hx : 0 < x := by unfold okW at hw; omega
  have HL := Lib.hid (oLast_any d true (decide_eq_true hx))
  have l2 : ¬ (1099511627776 : Int) < (now : Int) := by have := h.2; omega
  have d2 : decide ((1099511627776 : Int) < (now : Int)) = false := decide_eq_false l2
  have l3 : (now : Int) ≤ (t : Int) := by unfold okW at hw; omega
  have l4 : now ≤ t := by omega
  have d3 : decide ((now : Int) ≤ (t : Int)) = true := decide_eq_true l3
  have d4 : decide (now ≤ t) = true := decide_eq_true l4
  clear d h hw hx
  go_enter Try.func7, Try.ntmps7
  go_wp2_with fail
  (with_reducible refine (HR.out _).mono ?_); rintro e w1 ⟨rfl, hw⟩; replace hw := hw.symm; subst hw
  go_wp2_with fail
  (with_reducible refine HL.out.mono ?_); rintro e w1 ⟨rfl, f1⟩
  have F1 := Lib.hid f1
  clear f1
  go_wp2_with fail
  go_ret
  exact ⟨rfl, HD.out.fr0 F1.out, F1.out.of0⟩
set_option maxHeartbeats 8000000 in
theorem oSet_move {w : World} {p m a x t : Nat} (d : FD w p m a x t) (q now : Nat) (h : okT q now) (hw : okW x t now) (hm : ¬ okM m x q) :
    Calls Try.prog 7 #[.pointer (some ⟨p, 0, none⟩), .int .u64 (q : Int), .int .u64 (now : Int)] w (OsQ w p m a x t 17) := by
  have HD := Lib.hid d
  unfold OsQ
  have HR := Lib.hid (ePright_any q true (decide_eq_true h.1))
  obtain ⟨b, hb⟩ : ∃ b, decide (0 < x) = b := ⟨_, rfl⟩
  have HL := Lib.hid (oLast_any d b hb)
  have HB := Lib.hid (fun (W : World) (F : Fr F0 w W) => oBounds_any (d.fr0 F))
  have l2 : ¬ (1099511627776 : Int) < (now : Int) := by have := h.2; omega
  have d2 : decide ((1099511627776 : Int) < (now : Int)) = false := decide_eq_false l2
  have hc : b = false ∨ (b = true ∧ ¬ now ≤ t) := by
    rcases hw with hw | hw
    · exact .inl (by rw [← hb]; exact decide_eq_false (by omega))
    · by_cases hx : 0 < x
      · exact .inr ⟨by rw [← hb]; exact decide_eq_true hx, by omega⟩
      · exact .inl (by rw [← hb]; exact decide_eq_false hx)
  have hm2 : q < loN m x ∨ (¬ q < loN m x ∧ hiN m x < q) := by unfold okM at hm; omega
  clear d h hw hb hm
  generalize loN m x = lo at *
  generalize hiN m x = hi at *
  rcases hc with rfl | ⟨rfl, l3⟩ <;> rcases hm2 with k1 | ⟨k1, k2⟩
  all_goals
    go_enter Try.func7, Try.ntmps7
    go_wp2_with fail
    (with_reducible refine (HR.out _).mono ?_); rintro e w1 ⟨rfl, hw⟩; replace hw := hw.symm; subst hw
    go_wp2_with fail
    (with_reducible refine HL.out.mono ?_); rintro e w1 ⟨rfl, f1⟩
    have F1 := Lib.hid f1
    clear f1
    go_wp2_with fail
    (with_reducible refine (HB.out w1 F1.out).mono ?_); rintro e w2 ⟨rfl, f2⟩
    have F2 := Lib.hid (F1.out.trans' f2)
    clear f2
    go_wp2_with fail
    go_ret
    exact ⟨rfl, HD.out.fr0 F2.out, F2.out.of0⟩
set_option maxHeartbeats 8000000 in
theorem oSet_ok {w : World} {p m a x t : Nat} (d : FD w p m a x t) (q now : Nat) (h : okT q now) (hw : okW x t now) (hm : okM m x q) :
    Calls Try.prog 7 #[.pointer (some ⟨p, 0, none⟩), .int .u64 (q : Int), .int .u64 (now : Int)] w (OsQ w p m a q now 0) := by
  have HD := Lib.hid (fun (W : World) (F : Fr F0 w W) => (d.fr0 F).at_)
  have HS := Lib.hid (fun (W : World) (F : Fr F0 w W) => (d.fr0 F).set h.1.2 h.2)
  unfold OsQ
  have HR := Lib.hid (ePright_any q true (decide_eq_true h.1))
  obtain ⟨b, hb⟩ : ∃ b, decide (0 < x) = b := ⟨_, rfl⟩
  have HL := Lib.hid (oLast_any d b hb)
  have HB := Lib.hid (fun (W : World) (F : Fr F0 w W) => oBounds_any (d.fr0 F))
  have l2 : ¬ (1099511627776 : Int) < (now : Int) := by have := h.2; omega
  have d2 : decide ((1099511627776 : Int) < (now : Int)) = false := decide_eq_false l2
  have hc : b = false ∨ (b = true ∧ ¬ now ≤ t) := by
    rcases hw with hw | hw
    · exact .inl (by rw [← hb]; exact decide_eq_false (by omega))
    · by_cases hx : 0 < x
      · exact .inr ⟨by rw [← hb]; exact decide_eq_true hx, by omega⟩
      · exact .inl (by rw [← hb]; exact decide_eq_false hx)
  have k1 : ¬ q < loN m x := by unfold okM at hm; omega
  have k2 : ¬ hiN m x < q := by unfold okM at hm; omega
  clear d h hw hb hm
  generalize loN m x = lo at *
  generalize hiN m x = hi at *
  rcases hc with rfl | ⟨rfl, l3⟩
  all_goals
    go_enter Try.func7, Try.ntmps7
    go_wp2_with fail
    (with_reducible refine (HR.out _).mono ?_); rintro e w1 ⟨rfl, hw⟩; replace hw := hw.symm; subst hw
    go_wp2_with fail
    (with_reducible refine HL.out.mono ?_); rintro e w1 ⟨rfl, f1⟩
    have F1 := Lib.hid f1
    clear f1
    go_wp2_with fail
    (with_reducible refine (HB.out w1 F1.out).mono ?_); rintro e w2 ⟨rfl, f2⟩
    have F2 := Lib.hid (F1.out.trans' f2)
    have e2 := HD.out w2 F2.out
    clear f2
    go_wp2_with fail
    go_ret
    exact ⟨rfl, (HS.out w2 F2.out).1, F2.out.of0.trans' (HS.out w2 F2.out).2⟩
set_option maxHeartbeats 4000000 in
theorem oSet_nil (q now : Nat) (w : World) : Calls Try.prog 7 #[.pointer none, .int .u64 (q : Int), .int .u64 (now : Int)] w fun e w' => e = .returned (.int .i64 1) ∧ w' = w := by
  go_enter Try.func7, Try.ntmps7
  go_wp2
  go_ret
  exact ⟨rfl, rfl⟩

/-- What is told of the price at a tick. -/
def prE (a x t now : Nat) : Int := if x = 0 then 12 else if now < t then 11 else if a < now - t then 18 else 0
def prV (a x t now : Nat) : Nat := if prE a x t now = 0 then x else 0
theorem pr_none (a t now : Nat) : prE a 0 t now = 12 ∧ prV a 0 t now = 0 := by
  have : prE a 0 t now = 12 := by unfold prE; rw [if_pos rfl]
  exact ⟨this, by unfold prV; rw [this]; rfl⟩
theorem pr_early {a x t now : Nat} (h : 0 < x) (h1 : now < t) : prE a x t now = 11 ∧ prV a x t now = 0 := by
  have : prE a x t now = 11 := by unfold prE; rw [if_neg (by omega), if_pos h1]
  exact ⟨this, by unfold prV; rw [this]; rfl⟩
theorem pr_stale {a x t now : Nat} (h : 0 < x) (h1 : ¬ now < t) (h2 : a < now - t) : prE a x t now = 18 ∧ prV a x t now = 0 := by
  have : prE a x t now = 18 := by unfold prE; rw [if_neg (by omega), if_neg h1, if_pos h2]
  exact ⟨this, by unfold prV; rw [this]; rfl⟩
theorem pr_good {a x t now : Nat} (h : 0 < x) (h1 : ¬ now < t) (h2 : ¬ a < now - t) : prE a x t now = 0 ∧ prV a x t now = x := by
  have : prE a x t now = 0 := by unfold prE; rw [if_neg (by omega), if_neg h1, if_neg h2]
  exact ⟨this, by unfold prV; rw [this, if_pos rfl]⟩
set_option maxHeartbeats 8000000 in
theorem oPrice_any {w : World} {p m a x t : Nat} (d : FD w p m a x t) (now : Nat) (hn : now < 18446744073709551616) :
    Calls Try.prog 11 #[.pointer (some ⟨p, 0, none⟩), .int .u64 (now : Int)] w fun e w' => e = .returned (.tuple #[.int .u64 (prV a x t now : Nat), .int .i64 (prE a x t now)]) ∧ Fr F0 w w' := by
  have HD := Lib.hid (fun (W : World) (F : Fr F0 w W) => (d.fr0 F).at_)
  have hm : IntKind.u64.wrap ((now : Int) - (t : Int)) = ((now - t : Nat) : Int) ∨ now < t := by
    by_cases h : now < t
    · exact .inr h
    · exact .inl (by have := d.told; rw [IntWalk.u64_in _ (by omega)]; omega)
  by_cases h : 0 < x
  · have HL := Lib.hid (oLast_any d true (decide_eq_true h))
    by_cases h1 : now < t
    · rw [(pr_early h h1).1, (pr_early h h1).2]
      have l1 : (now : Int) < (t : Int) := by omega
      have d1 : decide ((now : Int) < (t : Int)) = true := decide_eq_true l1
      have d3 : decide (now < t) = true := decide_eq_true h1
      clear d h hm
      go_enter Try.func11, Try.ntmps11
      go_wp2_with fail
      (with_reducible refine HL.out.mono ?_); rintro e w1 ⟨rfl, f1⟩
      have F1 := Lib.hid f1
      clear f1
      go_wp2_with fail
      go_ret2
      exact ⟨rfl, F1.out⟩
    · have m1 := hm.resolve_right h1
      have HS := Lib.hid (fun h2 => pr_stale (a := a) h h1 h2)
      have HG := Lib.hid (fun h2 => pr_good (a := a) h h1 h2)
      obtain ⟨g, hg⟩ : ∃ g, now - t = g := ⟨_, rfl⟩
      rw [hg] at m1 HS HG
      have d3 : decide (now < t) = false := decide_eq_false h1
      have l1 : ¬ (now : Int) < (t : Int) := by omega
      clear d h hm hg
      by_cases h2 : a < g
      · rw [(HS.out h2).1, (HS.out h2).2]
        have d4 : decide (a < g) = true := decide_eq_true h2
        have l2 : (a : Int) < (g : Int) := by omega
        go_enter Try.func11, Try.ntmps11
        go_wp2_with fail
        (with_reducible refine HL.out.mono ?_); rintro e w1 ⟨rfl, f1⟩
        have e1 := HD.out w1 f1
        have F1 := Lib.hid f1
        clear f1
        go_wp2_with fail
        go_ret2
        exact ⟨rfl, F1.out⟩
      · rw [(HG.out h2).1, (HG.out h2).2]
        have d4 : decide (a < g) = false := decide_eq_false h2
        have l2 : ¬ (a : Int) < (g : Int) := by omega
        go_enter Try.func11, Try.ntmps11
        go_wp2_with fail
        (with_reducible refine HL.out.mono ?_); rintro e w1 ⟨rfl, f1⟩
        have e1 := HD.out w1 f1
        have F1 := Lib.hid f1
        clear f1
        go_wp2_with fail
        go_ret2
        exact ⟨rfl, F1.out⟩
  · obtain rfl : x = 0 := by omega
    have HL := Lib.hid (oLast_any d false rfl)
    rw [(pr_none a t now).1, (pr_none a t now).2]
    clear d h hm
    go_enter Try.func11, Try.ntmps11
    go_wp2_with fail
    (with_reducible refine HL.out.mono ?_); rintro e w1 ⟨rfl, f1⟩
    have F1 := Lib.hid f1
    clear f1
    go_wp2_with fail
    go_ret2
    exact ⟨rfl, F1.out⟩
set_option maxHeartbeats 4000000 in
theorem oPrice_nil (now : Nat) (w : World) : Calls Try.prog 11 #[.pointer none, .int .u64 (now : Int)] w fun e w' => e = .returned (.tuple #[.int .u64 0, .int .i64 1]) ∧ w' = w := by
  go_enter Try.func11, Try.ntmps11
  go_wp2
  go_ret2
  exact ⟨rfl, rfl⟩

theorem lo_live : loN 100 1000 = 900 := by decide
theorem hi_live : hiN 100 1000 = 1100 := by decide
set_option maxHeartbeats 8000000 in
theorem lives17_any (w : World) : Calls Try.prog 5 #[] w fun e w' => e = .returned (.bool true) ∧ Fr F0 w w' := by
  have HN := Lib.hid (fun W => show Calls Try.prog 6 #[.agg #[.int .u64 100, .int .u64 5]] W _ from oNew_ok 100 5 (by omega) (by omega) W)
  have HS := Lib.hid (fun (W : World) (p : Nat) (d : FD W p 100 5 0 0) => show Calls Try.prog 7 #[.pointer (some ⟨p, 0, none⟩), .int .u64 1000, .int .u64 0] W _ from oSet_ok d 1000 0 ⟨by omega, by omega⟩ (.inl rfl) ⟨by decide, by decide⟩)
  have HB := Lib.hid (fun (W : World) (p : Nat) (d : FD W p 100 5 1000 0) => oBounds_any d)
  rw [lo_live, hi_live] at HB
  go_enter Try.func5, Try.ntmps5
  go_wp2_with fail
  (with_reducible refine (HN.out _).mono ?_); rintro e w1 ⟨p, rfl, d1, f1, hp⟩
  have H1 := Lib.hid (And.intro d1 (And.intro f1 hp))
  clear d1 f1 hp
  go_wp2_with fail
  refine (HS.out _ p H1.out.1).mono ?_; rintro e w2 ⟨rfl, d2, f2⟩
  have H2 := Lib.hid (And.intro d2 (H1.out.2.1.trans f2 fun i hi e => absurd (show i = p from e) (Nat.ne_of_lt (Nat.lt_of_lt_of_le hi H1.out.2.2))))
  clear d2 f2
  go_wp2_with fail
  (with_reducible refine (HB.out _ p H2.out.1).mono ?_); rintro e w3 ⟨rfl, f3⟩
  have F3 := Lib.hid (H2.out.2.trans' f3)
  clear f3
  go_wp2_with fail
  go_ret
  exact ⟨rfl, F3.out⟩
end Go.Proofs.Ytjpglipjmnbniaa

/- Layer 17: may a price follow another one? -/
namespace Go.Proofs.Ytjpglipjmnbniaa
set_option maxRecDepth 100000
set_option linter.unusedVariables false
set_option linter.unusedSimpArgs false
open Go.RowKit

set_option maxHeartbeats 4000000 in
theorem moves17_any (x q m : Nat) (hx : x < 18446744073709551616) (hq : q < 18446744073709551616) (hm : m < 18446744073709551616) (o : Bool) (ho : decide ((max x q - min x q) * 1000 ≤ x * m) = o) (w : World) :
    Calls Try.prog 10 #[.int .u64 (x : Int), .int .u64 (q : Int), .int .u64 (m : Int)] w fun e w' => e = .returned (.bool o) ∧ Fr F0 w w' := by
  obtain ⟨hi, h1⟩ : ∃ n, max x q = n := ⟨_, rfl⟩
  obtain ⟨lo, h2⟩ : ∃ n, min x q = n := ⟨_, rfl⟩
  rw [h1, h2] at ho
  have q1 := fun ts t w => run_omax ts t x q hi h1 w
  have q2 := fun ts t w => run_omin ts t x q lo h2 w
  have m1 : IntKind.u64.wrap ((hi : Int) - (lo : Int)) = ((hi - lo : Nat) : Int) := by rw [IntWalk.u64_in _ (by omega)]; omega
  obtain ⟨d, hd⟩ : ∃ n, hi - lo = n := ⟨_, rfl⟩
  rw [hd] at m1 ho
  have hd2 : d < 18446744073709551616 := by omega
  have wA : d * 1000 < W256 := prod_wide d 1000 (by omega) (by omega)
  have wB : x * m < W256 := prod_wide x m (by omega) (by omega)
  have HA := Lib.hid (fun a w h => r5Product_any [d, 1000] a 2 2 rfl (by simp) (by simp; omega) (d * 1000) (by simp [prd]) w h)
  have HB := Lib.hid (fun a w h => r5Product_any [x, m] a 2 2 rfl (by simp) (by simp; omega) (x * m) (by simp [prd]) w h)
  have HC := Lib.hid (fun p1 c1 p2 c2 w h1 h2 => r3Cmp_any (d * 1000) (x * m) p1 c1 p2 c2 (Nat.le_trans (lg_word wA) (by omega)) (Nat.le_trans (lg_word wB) (by omega)) w h1 h2)
  have hz : (o = true ∧ cmpZ (d * 1000) (x * m) ≤ 0) ∨ (o = false ∧ ¬ cmpZ (d * 1000) (x * m) ≤ 0) := by
    unfold cmpZ
    rw [← ho]
    by_cases h : d * 1000 ≤ x * m
    · refine .inl ⟨decide_eq_true h, ?_⟩
      split
      · omega
      · rw [if_neg (by omega)]; omega
    · refine .inr ⟨decide_eq_false h, ?_⟩
      rw [if_neg (by omega), if_pos (by omega)]; omega
  clear ho hd hd2 wA wB h1 h2 hx hq hm
  generalize cmpZ (d * 1000) (x * m) = z at *
  generalize d * 1000 = A at *
  generalize x * m = B at *
  have HZ := Lib.hid hz
  clear hz
  go_enter Try.func10, Try.ntmps10
  go_wp2_with fail
  obtain ⟨W1, hW1⟩ : ∃ W, W = w.alloc (.cells #[.int .u64 (d : Int), .int .u64 1000] 22) := ⟨_, rfl⟩
  refine Calls.of_world W1 hW1 ?_
  have u1 : Us W1 (some ⟨w.heap.size, 0, none⟩) 2 [d, 1000] := by rw [hW1]; exact Us.of2 _ d 1000 _
  have F : Fr F0 w W1 := by rw [hW1]; exact (Fr.refl _ _).alloc _
  clear hW1
  (with_reducible refine (HA.out _ _ u1).mono ?_); rintro e w3 ⟨p3, c3, rfl, n3, f⟩
  replace F := F.trans' f
  clear f u1
  go_wp2_with fail
  obtain ⟨W2, hW2⟩ : ∃ W, W = w3.alloc (.cells #[.int .u64 (x : Int), .int .u64 (m : Int)] 22) := ⟨_, rfl⟩
  refine Calls.of_world W2 hW2 ?_
  have u2 : Us W2 (some ⟨w3.heap.size, 0, none⟩) 2 [x, m] := by rw [hW2]; exact Us.of2 _ x m _
  have f2 : Fr F0 w3 W2 := by rw [hW2]; exact (Fr.refl _ _).alloc _
  replace F := F.trans' f2
  replace n3 := Us.fr n3 f2
  clear hW2 f2
  (with_reducible refine (HB.out _ _ u2).mono ?_); rintro e w4 ⟨p4, c4, rfl, n4, f⟩
  replace F := F.trans' f
  replace n3 := Us.fr n3 f
  clear f u2
  go_wp2_with fail
  (with_reducible refine (HC.out _ _ _ _ _ n3 n4).mono ?_); rintro e w5 ⟨rfl, hw⟩; replace hw := hw.symm; subst hw
  clear n3 n4
  have F5 := Lib.hid F
  clear F
  go_wp2_with fail
  go_ret
  refine ⟨?_, F5.out⟩
  rcases HZ.out with ⟨rfl, h⟩ | ⟨rfl, h⟩
  · exact congrArg (fun b => Ending.returned (.bool b)) (decide_eq_true (p := z ≤ (0 : Int)) h)
  · exact congrArg (fun b => Ending.returned (.bool b)) (decide_eq_false (p := z ≤ (0 : Int)) (Int.not_le.2 h))
end Go.Proofs.Ytjpglipjmnbniaa

/- Layer 17 (oracle): what the document asks of a telling; pieces of OraclePlays: its two switches. -/
namespace Go.Proofs.Ytjpglipjmnbniaa
set_option maxRecDepth 100000
set_option linter.unusedVariables false
set_option linter.unusedSimpArgs false
open Go.RowKit

/-- What is told of a telling. -/
def seE (m x t q now : Nat) : Int := if (1 ≤ q ∧ q ≤ 1099511627776) ∧ now ≤ 1099511627776 then (if x = 0 ∨ t < now then (if loN m x ≤ q ∧ q ≤ hiN m x then 0 else 17) else 11) else 1
theorem seE_cases (m x t q now : Nat) :
    (¬ okT q now ∧ seE m x t q now = 1) ∨ (okT q now ∧ ¬ okW x t now ∧ seE m x t q now = 11) ∨ (okT q now ∧ okW x t now ∧ ¬ okM m x q ∧ seE m x t q now = 17) ∨ (okT q now ∧ okW x t now ∧ okM m x q ∧ seE m x t q now = 0) := by
  unfold okT okW okM seE
  by_cases h1 : (1 ≤ q ∧ q ≤ 1099511627776) ∧ now ≤ 1099511627776
  · rw [if_pos h1]
    by_cases h2 : x = 0 ∨ t < now
    · rw [if_pos h2]
      by_cases h3 : loN m x ≤ q ∧ q ≤ hiN m x
      · rw [if_pos h3]; exact .inr (.inr (.inr ⟨h1, h2, h3, rfl⟩))
      · rw [if_neg h3]; exact .inr (.inr (.inl ⟨h1, h2, h3, rfl⟩))
    · rw [if_neg h2]; exact .inr (.inl ⟨h1, h2, rfl⟩)
  · rw [if_neg h1]; exact .inl ⟨h1, rfl⟩
/-- Any telling: what it answers, and what it leaves. -/
theorem oSet_any {w : World} {p m a x t : Nat} (d : FD w p m a x t) (q now : Nat) : ∃ x' t' : Nat,
    ((seE m x t q now = 0 ∧ x' = q ∧ t' = now ∧ 1 ≤ q) ∨ (¬ seE m x t q now = 0 ∧ x' = x ∧ t' = t)) ∧
    Calls Try.prog 7 #[.pointer (some ⟨p, 0, none⟩), .int .u64 (q : Int), .int .u64 (now : Int)] w (OsQ w p m a x' t' (seE m x t q now)) := by
  rcases seE_cases m x t q now with ⟨h1, e⟩ | ⟨h1, h2, e⟩ | ⟨h1, h2, h3, e⟩ | ⟨h1, h2, h3, e⟩ <;> rw [e]
  · exact ⟨x, t, .inr ⟨by decide, rfl, rfl⟩, oSet_arg d q now h1⟩
  · exact ⟨x, t, .inr ⟨by decide, rfl, rfl⟩, oSet_time d q now h1 h2⟩
  · exact ⟨x, t, .inr ⟨by decide, rfl, rfl⟩, oSet_move d q now h1 h2 h3⟩
  · exact ⟨q, now, .inl ⟨rfl, rfl, rfl, h1.1.1⟩, oSet_ok d q now h1 h2 h3⟩

/-- Seven ways to what the document asks. -/
theorem want_ways (m x t q now : Nat) : ∃ o : Bool, (decide ((max x q - min x q) * 1000 ≤ x * m) = o) ∧
    ((q < 1 ∧ seE m x t q now = 1) ∨ (¬ q < 1 ∧ 1099511627776 < q ∧ seE m x t q now = 1) ∨ (¬ q < 1 ∧ ¬ 1099511627776 < q ∧ 1099511627776 < now ∧ seE m x t q now = 1) ∨
      (¬ q < 1 ∧ ¬ 1099511627776 < q ∧ ¬ 1099511627776 < now ∧ ¬ 0 < x ∧ seE m x t q now = 0) ∨ (¬ q < 1 ∧ ¬ 1099511627776 < q ∧ ¬ 1099511627776 < now ∧ 0 < x ∧ now ≤ t ∧ seE m x t q now = 11) ∨
      (¬ q < 1 ∧ ¬ 1099511627776 < q ∧ ¬ 1099511627776 < now ∧ 0 < x ∧ ¬ now ≤ t ∧ o = false ∧ seE m x t q now = 17) ∨ (¬ q < 1 ∧ ¬ 1099511627776 < q ∧ ¬ 1099511627776 < now ∧ 0 < x ∧ ¬ now ≤ t ∧ o = true ∧ seE m x t q now = 0)) := by
  refine ⟨_, rfl, ?_⟩
  by_cases h1 : q < 1
  · refine .inl ⟨h1, ?_⟩; unfold seE; rw [if_neg (by omega)]
  by_cases h2 : 1099511627776 < q
  · refine .inr (.inl ⟨h1, h2, ?_⟩); unfold seE; rw [if_neg (by omega)]
  by_cases h3 : 1099511627776 < now
  · refine .inr (.inr (.inl ⟨h1, h2, h3, ?_⟩)); unfold seE; rw [if_neg (by omega)]
  have k : (1 ≤ q ∧ q ≤ 1099511627776) ∧ now ≤ 1099511627776 := by omega
  by_cases h4 : 0 < x
  · by_cases h5 : now ≤ t
    · refine .inr (.inr (.inr (.inr (.inl ⟨h1, h2, h3, h4, h5, ?_⟩)))); unfold seE; rw [if_pos k, if_neg (by omega)]
    · have b := bounds_is (m := m) h4 k.1.1 k.1.2
      by_cases h6 : (max x q - min x q) * 1000 ≤ x * m
      · refine .inr (.inr (.inr (.inr (.inr (.inr ⟨h1, h2, h3, h4, h5, decide_eq_true h6, ?_⟩))))); unfold seE; rw [if_pos k, if_pos (by omega), if_pos (b.2 h6)]
      · refine .inr (.inr (.inr (.inr (.inr (.inl ⟨h1, h2, h3, h4, h5, decide_eq_false h6, ?_⟩))))); unfold seE; rw [if_pos k, if_pos (by omega), if_neg (fun h => h6 (b.1 h))]
  · have : x = 0 := by omega
    subst this
    refine .inr (.inr (.inr (.inl ⟨h1, h2, h3, h4, ?_⟩))); unfold seE; rw [if_pos k, if_pos (.inl rfl), loN_0, hiN_0, if_pos k.1]

set_option maxRecDepth 100000 in
set_option maxHeartbeats 16000000 in
theorem ob2 {s0 s1 s3 s4 s5 s6 s9 s12 s13 s14 s15 s16 s17 s18 s19 s20 s21 s22 s23 s24 s25 s26 s27 s28 s29 s30 s31 s32 s33 s34 s35 s36 s37 s38 s39 s40 s41 s42 s43 s44 s45 s46 s47 s48 s49 s50 s51 s52 s53 s54 s55 s56 s57 s58 s59 s60 s61 s62 s63 s64 s65 s66 s67 s68 s69 s70 s71 s72 s73 s74 s75 s76 s77 s78 s79 s80 s81 s82 s83 s84 s85 s86 s87 s88 s89 s90 s91 s92 s93 s94 s95 s96 s97 s98 s99 s100 s101 s102 s103 s104 s105 s106 s107 s108 s109 s110 s111 s112 s113 s114 s115 s116 s117 s118 s119 s120 s121 s122 s123 s124 s125 s126 s127 s128 s129 s130 s131 s132 s133 s134 s135 s136 s137 s138 s139 s140 s141 s142 s143 s144 s145 s146 s147 s148 s149 s150 s151 s152 s153 s154 s155 s156 s157 s158 s159 s160 s161 s162 s163 s164 s165 s166 s167 s168 s169 s170 s171 s172 s173 s174 s175 s176 s177 s178 s179 s180 s181 s182 s183 s184 s185 s186 s187 s188 s189 s190 s191 s192 s193 s194 s195 s196 s197 s198 s199 s200 s201 s202 s203 s204 s205 s206 s207 s208 s209 s210 s211 s212 s213 s214 s215 s216 s217 s218 s219 s220 s221 s222 s223 s224 s225 s226 s227 s228 s229 s230 s231 s232 s233 s234 s235 s236 s237 s238 s239 s240 s241 s242 s243 s244 s245 s246 s247 s248 s249 s250 s251 s252 s253 s254 s255 s256 s257 s258 s259 s260 s261 s262 s263 s264 s265 s266 s267 s268 s269 s270 s271 s272 s273 s274 s275 : Value} {K : Act → World → Prop} {Q : Exit → Act → World → Prop} (m a x t q now ask B rb : Nat) (hx : x < 18446744073709551616) (hq : q < 18446744073709551616) (hm : m < 18446744073709551616) (E : Int) (hE : seE m x t q now = E) (w : World) (rB : w.heap[B]? = some (.cells #[.int .u64 (q : Int), .int .u64 (now : Int), .int .u64 (ask : Int)] 39 (0, 0))) (rr : w.heap[rb]? = some (.cells #[.int .u64 (m : Int), .int .u64 (a : Int)] 30 (0, 0)))
    (hK : RowKit.Hid (∀ {u11 u67 u68 u69 u70 u71 u72 u73 u74 u75 u76 u77 u78 u79 u80 u81 u82 u83 u84 u85 u86 u87 u88 u89 u90 u91 u92 u93 u94 u95 u96 u97 u98 u99 u100 u101 : Value} {w' : World}, (u11 = .int .i64 E ∧ Fr F0 w w') → K ⟨#[s0, s1, .pointer (some ⟨rb, 0, none⟩), s3, s4, s5, s6, .int .u64 (x : Int), .int .u64 (t : Int), s9, .pointer (some ⟨B, 0, none⟩), u11, s12, s13, s14, s15, s16, s17, s18, s19, s20, s21, s22, s23, s24, s25, s26, s27, s28, s29, s30, s31, s32, s33, s34, s35, s36, s37, s38, s39, s40, s41, s42, s43, s44, s45, s46, s47, s48, s49, s50, s51, s52, s53, s54, s55, s56, s57, s58, s59, s60, s61, s62, s63, s64, s65, s66, u67, u68, u69, u70, u71, u72, u73, u74, u75, u76, u77, u78, u79, u80, u81, u82, u83, u84, u85, u86, u87, u88, u89, u90, u91, u92, u93, u94, u95, u96, u97, u98, u99, u100, u101, s102, s103, s104, s105, s106, s107, s108, s109, s110, s111, s112, s113, s114, s115, s116, s117, s118, s119, s120, s121, s122, s123, s124, s125, s126, s127, s128, s129, s130, s131, s132, s133, s134, s135, s136, s137, s138, s139, s140, s141, s142, s143, s144, s145, s146, s147, s148, s149, s150, s151, s152, s153, s154, s155, s156, s157, s158, s159, s160, s161, s162, s163, s164, s165, s166, s167, s168, s169, s170, s171, s172, s173, s174, s175, s176, s177, s178, s179, s180, s181, s182, s183, s184, s185, s186, s187, s188, s189, s190, s191, s192, s193, s194, s195, s196, s197, s198, s199, s200, s201, s202, s203, s204, s205, s206, s207, s208, s209, s210, s211, s212, s213, s214, s215, s216, s217, s218, s219, s220, s221, s222, s223, s224, s225, s226, s227, s228, s229, s230, s231, s232, s233, s234, s235, s236, s237, s238, s239, s240, s241, s242, s243, s244, s245, s246, s247, s248, s249, s250, s251, s252, s253, s254, s255, s256, s257, s258, s259, s260, s261, s262, s263, s264, s265, s266, s267, s268, s269, s270, s271, s272, s273, s274, s275], []⟩ w')) :
    Code.wp Try.prog ((((Try.f4.body.bind (findBlock 2)).getD .skip))) (Exit.then K Q) ⟨#[s0, s1, .pointer (some ⟨rb, 0, none⟩), s3, s4, s5, s6, .int .u64 (x : Int), .int .u64 (t : Int), s9, .pointer (some ⟨B, 0, none⟩), .int .i64 0, s12, s13, s14, s15, s16, s17, s18, s19, s20, s21, s22, s23, s24, s25, s26, s27, s28, s29, s30, s31, s32, s33, s34, s35, s36, s37, s38, s39, s40, s41, s42, s43, s44, s45, s46, s47, s48, s49, s50, s51, s52, s53, s54, s55, s56, s57, s58, s59, s60, s61, s62, s63, s64, s65, s66, s67, s68, s69, s70, s71, s72, s73, s74, s75, s76, s77, s78, s79, s80, s81, s82, s83, s84, s85, s86, s87, s88, s89, s90, s91, s92, s93, s94, s95, s96, s97, s98, s99, s100, s101, s102, s103, s104, s105, s106, s107, s108, s109, s110, s111, s112, s113, s114, s115, s116, s117, s118, s119, s120, s121, s122, s123, s124, s125, s126, s127, s128, s129, s130, s131, s132, s133, s134, s135, s136, s137, s138, s139, s140, s141, s142, s143, s144, s145, s146, s147, s148, s149, s150, s151, s152, s153, s154, s155, s156, s157, s158, s159, s160, s161, s162, s163, s164, s165, s166, s167, s168, s169, s170, s171, s172, s173, s174, s175, s176, s177, s178, s179, s180, s181, s182, s183, s184, s185, s186, s187, s188, s189, s190, s191, s192, s193, s194, s195, s196, s197, s198, s199, s200, s201, s202, s203, s204, s205, s206, s207, s208, s209, s210, s211, s212, s213, s214, s215, s216, s217, s218, s219, s220, s221, s222, s223, s224, s225, s226, s227, s228, s229, s230, s231, s232, s233, s234, s235, s236, s237, s238, s239, s240, s241, s242, s243, s244, s245, s246, s247, s248, s249, s250, s251, s252, s253, s254, s255, s256, s257, s258, s259, s260, s261, s262, s263, s264, s265, s266, s267, s268, s269, s270, s271, s272, s273, s274, s275], []⟩ w := by
  conv => arg 2; whnf
  obtain ⟨o, ho, hc⟩ := want_ways m x t q now
  have HM := Lib.hid (moves17_any x q m hx hq hm o ho)
  rw [hE] at hc
  have F := Lib.hid (Fr.refl F0 w)
  clear hE ho hx hq hm
  rcases hc with ⟨h1, rfl⟩ | ⟨h1, h2, rfl⟩ | ⟨h1, h2, h3, rfl⟩ | ⟨h1, h2, h3, h4, rfl⟩ | ⟨h1, h2, h3, h4, h5, rfl⟩ | ⟨h1, h2, h3, h4, h5, rfl, rfl⟩ | ⟨h1, h2, h3, h4, h5, rfl, rfl⟩
  · have l1 : (q : Int) < 1 := by omega
    go_wp2_with fail
    exact hK.out ⟨rfl, F.out⟩
  · have l1 : ¬ (q : Int) < 1 := by omega
    have l2 : (1099511627776 : Int) < (q : Int) := by omega
    go_wp2_with fail
    exact hK.out ⟨rfl, F.out⟩
  · have l1 : ¬ (q : Int) < 1 := by omega
    have l2 : ¬ (1099511627776 : Int) < (q : Int) := by omega
    have l3 : (1099511627776 : Int) < (now : Int) := by omega
    go_wp2_with fail
    exact hK.out ⟨rfl, F.out⟩
  · have l1 : ¬ (q : Int) < 1 := by omega
    have l2 : ¬ (1099511627776 : Int) < (q : Int) := by omega
    have l3 : ¬ (1099511627776 : Int) < (now : Int) := by omega
    have l4 : ¬ (0 : Int) < (x : Int) := by omega
    go_wp2_with fail
    exact hK.out ⟨rfl, F.out⟩
  · have l1 : ¬ (q : Int) < 1 := by omega
    have l2 : ¬ (1099511627776 : Int) < (q : Int) := by omega
    have l3 : ¬ (1099511627776 : Int) < (now : Int) := by omega
    have l4 : (0 : Int) < (x : Int) := by omega
    go_wp2_with fail
    exact hK.out ⟨rfl, F.out⟩
  · have l1 : ¬ (q : Int) < 1 := by omega
    have l2 : ¬ (1099511627776 : Int) < (q : Int) := by omega
    have l3 : ¬ (1099511627776 : Int) < (now : Int) := by omega
    have l4 : (0 : Int) < (x : Int) := by omega
    go_wp2_with fail
    (with_reducible refine (HM.out _).mono ?_); rintro e w1 ⟨rfl, f1⟩
    have F1 := Lib.hid f1
    clear f1
    go_wp2_with fail
    exact hK.out ⟨rfl, F1.out⟩
  · have l1 : ¬ (q : Int) < 1 := by omega
    have l2 : ¬ (1099511627776 : Int) < (q : Int) := by omega
    have l3 : ¬ (1099511627776 : Int) < (now : Int) := by omega
    have l4 : (0 : Int) < (x : Int) := by omega
    go_wp2_with fail
    (with_reducible refine (HM.out _).mono ?_); rintro e w1 ⟨rfl, f1⟩
    have F1 := Lib.hid f1
    clear f1
    go_wp2_with fail
    exact hK.out ⟨rfl, F1.out⟩

set_option maxRecDepth 100000 in
set_option maxHeartbeats 16000000 in
theorem ob3 {s0 s1 s3 s4 s5 s6 s9 s11 s12 s13 s14 s15 s17 s18 s19 s20 s21 s22 s23 s24 s25 s26 s27 s28 s29 s30 s31 s32 s33 s34 s35 s36 s37 s38 s39 s40 s41 s42 s43 s44 s45 s46 s47 s48 s49 s50 s51 s52 s53 s54 s55 s56 s57 s58 s59 s60 s61 s62 s63 s64 s65 s66 s67 s68 s69 s70 s71 s72 s73 s74 s75 s76 s77 s78 s79 s80 s81 s82 s83 s84 s85 s86 s87 s88 s89 s90 s91 s92 s93 s94 s95 s96 s97 s98 s99 s100 s101 s102 s103 s104 s105 s106 s107 s108 s109 s110 s111 s112 s113 s114 s115 s116 s117 s118 s119 s120 s121 s122 s123 s124 s125 s126 s127 s128 s129 s130 s131 s132 s133 s134 s135 s136 s137 s138 s139 s140 s141 s142 s143 s144 s145 s146 s147 s148 s149 s150 s151 s152 s153 s154 s155 s156 s157 s158 s159 s160 s161 s162 s163 s164 s165 s166 s167 s168 s169 s170 s171 s172 s173 s174 s175 s176 s177 s178 s179 s180 s181 s182 s183 s184 s185 s186 s187 s188 s189 s190 s191 s192 s193 s194 s195 s196 s197 s198 s199 s200 s201 s202 s203 s204 s205 s206 s207 s208 s209 s210 s211 s212 s213 s214 s215 s216 s217 s218 s219 s220 s221 s222 s223 s224 s225 s226 s227 s228 s229 s230 s231 s232 s233 s234 s235 s236 s237 s238 s239 s240 s241 s242 s243 s244 s245 s246 s247 s248 s249 s250 s251 s252 s253 s254 s255 s256 s257 s258 s259 s260 s261 s262 s263 s264 s265 s266 s267 s268 s269 s270 s271 s272 s273 s274 s275 : Value} {K : Act → World → Prop} {Q : Exit → Act → World → Prop} (m a x t q now ask B rb : Nat) (ht : t ≤ 1099511627776) (hk : ask < 18446744073709551616) (G : Int) (hG : prE a x t ask = G) (w : World) (rB : w.heap[B]? = some (.cells #[.int .u64 (q : Int), .int .u64 (now : Int), .int .u64 (ask : Int)] 39 (0, 0))) (rr : w.heap[rb]? = some (.cells #[.int .u64 (m : Int), .int .u64 (a : Int)] 30 (0, 0)))
    (hK : RowKit.Hid (∀ {u16 u159 u160 u161 u162 u163 u164 u165 u166 u167 u168 u169 u170 u171 u172 u173 u174 : Value} {w' : World}, (u16 = .int .i64 G ∧ w' = w) → K ⟨#[s0, s1, .pointer (some ⟨rb, 0, none⟩), s3, s4, s5, s6, .int .u64 (x : Int), .int .u64 (t : Int), s9, .pointer (some ⟨B, 0, none⟩), s11, s12, s13, s14, s15, u16, s17, s18, s19, s20, s21, s22, s23, s24, s25, s26, s27, s28, s29, s30, s31, s32, s33, s34, s35, s36, s37, s38, s39, s40, s41, s42, s43, s44, s45, s46, s47, s48, s49, s50, s51, s52, s53, s54, s55, s56, s57, s58, s59, s60, s61, s62, s63, s64, s65, s66, s67, s68, s69, s70, s71, s72, s73, s74, s75, s76, s77, s78, s79, s80, s81, s82, s83, s84, s85, s86, s87, s88, s89, s90, s91, s92, s93, s94, s95, s96, s97, s98, s99, s100, s101, s102, s103, s104, s105, s106, s107, s108, s109, s110, s111, s112, s113, s114, s115, s116, s117, s118, s119, s120, s121, s122, s123, s124, s125, s126, s127, s128, s129, s130, s131, s132, s133, s134, s135, s136, s137, s138, s139, s140, s141, s142, s143, s144, s145, s146, s147, s148, s149, s150, s151, s152, s153, s154, s155, s156, s157, s158, u159, u160, u161, u162, u163, u164, u165, u166, u167, u168, u169, u170, u171, u172, u173, u174, s175, s176, s177, s178, s179, s180, s181, s182, s183, s184, s185, s186, s187, s188, s189, s190, s191, s192, s193, s194, s195, s196, s197, s198, s199, s200, s201, s202, s203, s204, s205, s206, s207, s208, s209, s210, s211, s212, s213, s214, s215, s216, s217, s218, s219, s220, s221, s222, s223, s224, s225, s226, s227, s228, s229, s230, s231, s232, s233, s234, s235, s236, s237, s238, s239, s240, s241, s242, s243, s244, s245, s246, s247, s248, s249, s250, s251, s252, s253, s254, s255, s256, s257, s258, s259, s260, s261, s262, s263, s264, s265, s266, s267, s268, s269, s270, s271, s272, s273, s274, s275], []⟩ w')) :
    Code.wp Try.prog ((((Try.f4.body.bind (findBlock 3)).getD .skip))) (Exit.then K Q) ⟨#[s0, s1, .pointer (some ⟨rb, 0, none⟩), s3, s4, s5, s6, .int .u64 (x : Int), .int .u64 (t : Int), s9, .pointer (some ⟨B, 0, none⟩), s11, s12, s13, s14, s15, .int .i64 0, s17, s18, s19, s20, s21, s22, s23, s24, s25, s26, s27, s28, s29, s30, s31, s32, s33, s34, s35, s36, s37, s38, s39, s40, s41, s42, s43, s44, s45, s46, s47, s48, s49, s50, s51, s52, s53, s54, s55, s56, s57, s58, s59, s60, s61, s62, s63, s64, s65, s66, s67, s68, s69, s70, s71, s72, s73, s74, s75, s76, s77, s78, s79, s80, s81, s82, s83, s84, s85, s86, s87, s88, s89, s90, s91, s92, s93, s94, s95, s96, s97, s98, s99, s100, s101, s102, s103, s104, s105, s106, s107, s108, s109, s110, s111, s112, s113, s114, s115, s116, s117, s118, s119, s120, s121, s122, s123, s124, s125, s126, s127, s128, s129, s130, s131, s132, s133, s134, s135, s136, s137, s138, s139, s140, s141, s142, s143, s144, s145, s146, s147, s148, s149, s150, s151, s152, s153, s154, s155, s156, s157, s158, s159, s160, s161, s162, s163, s164, s165, s166, s167, s168, s169, s170, s171, s172, s173, s174, s175, s176, s177, s178, s179, s180, s181, s182, s183, s184, s185, s186, s187, s188, s189, s190, s191, s192, s193, s194, s195, s196, s197, s198, s199, s200, s201, s202, s203, s204, s205, s206, s207, s208, s209, s210, s211, s212, s213, s214, s215, s216, s217, s218, s219, s220, s221, s222, s223, s224, s225, s226, s227, s228, s229, s230, s231, s232, s233, s234, s235, s236, s237, s238, s239, s240, s241, s242, s243, s244, s245, s246, s247, s248, s249, s250, s251, s252, s253, s254, s255, s256, s257, s258, s259, s260, s261, s262, s263, s264, s265, s266, s267, s268, s269, s270, s271, s272, s273, s274, s275], []⟩ w := by
  conv => arg 2; whnf
  by_cases h : 0 < x
  · have l1 : ((x : Int) == 0) = false := by rw [beq_eq_false_iff_ne]; omega
    have l1' : ¬ x = 0 := by omega
    by_cases h1 : ask < t
    · rw [(pr_early h h1).1] at hG
      subst hG
      have l2 : (ask : Int) < (t : Int) := by omega
      clear h ht hk
      go_wp2_with fail
      exact hK.out ⟨rfl, rfl⟩
    · have l2 : ¬ (ask : Int) < (t : Int) := by omega
      have m1 : IntKind.u64.wrap ((ask : Int) - (t : Int)) = ((ask - t : Nat) : Int) := by rw [IntWalk.u64_in _ (by omega)]; omega
      have HS := Lib.hid (fun h2 => pr_stale (a := a) h h1 h2)
      have HG := Lib.hid (fun h2 => pr_good (a := a) h h1 h2)
      obtain ⟨g, hg⟩ : ∃ g, ask - t = g := ⟨_, rfl⟩
      rw [hg] at m1 HS HG
      clear h ht hk hg
      by_cases h2 : a < g
      · rw [(HS.out h2).1] at hG
        subst hG
        have l3 : (a : Int) < (g : Int) := by omega
        go_wp2_with fail
        exact hK.out ⟨rfl, rfl⟩
      · rw [(HG.out h2).1] at hG
        subst hG
        have l3 : ¬ (a : Int) < (g : Int) := by omega
        go_wp2_with fail
        exact hK.out ⟨rfl, rfl⟩
  · obtain rfl : x = 0 := by omega
    rw [(pr_none a t ask).1] at hG
    subst hG
    clear h ht hk
    go_wp2_with fail
    exact hK.out ⟨rfl, rfl⟩
end Go.Proofs.Ytjpglipjmnbniaa

/- Layer 17 (oracle): a piece of OraclePlays: the bounds say what may be. -/
namespace Go.Proofs.Ytjpglipjmnbniaa
set_option maxRecDepth 100000
set_option linter.unusedVariables false
set_option linter.unusedSimpArgs false
open Go.RowKit

set_option maxRecDepth 100000 in
set_option maxHeartbeats 16000000 in
theorem oga {s0 s1 s3 s4 s5 s6 s8 s9 s11 s14 s15 s16 s17 s18 s19 s20 s21 s22 s23 s24 s25 s26 s27 s28 s29 s30 s31 s32 s33 s34 s35 s36 s37 s38 s39 s40 s41 s42 s43 s44 s45 s46 s47 s48 s49 s50 s51 s52 s53 s54 s55 s56 s57 s58 s59 s60 s61 s62 s63 s64 s65 s66 s67 s68 s69 s70 s71 s72 s73 s74 s75 s76 s77 s78 s79 s80 s81 s82 s83 s84 s85 s86 s87 s88 s89 s90 s91 s92 s93 s94 s95 s96 s97 s98 s99 s100 s101 s102 s103 s104 s105 s106 s107 s108 s109 s110 s111 s112 s113 s114 s115 s116 s117 s118 s119 s120 s121 s122 s123 s124 s125 s126 s127 s128 s129 s130 s131 s132 s133 s134 s135 s136 s137 s138 s139 s140 s141 s142 s143 s144 s145 s146 s147 s148 s149 s150 s151 s152 s153 s154 s155 s156 s157 s158 s159 s160 s161 s162 s163 s164 s165 s166 s167 s168 s169 s170 s171 s172 s173 s174 s175 s176 s177 s178 s179 s180 s181 s182 s183 s184 s185 s186 s187 s188 s189 s190 s191 s192 s193 s194 s195 s196 s197 s198 s199 s200 s201 s202 s203 s204 s205 s206 s207 s208 s209 s210 s211 s212 s213 s214 s215 s216 s217 s218 s219 s220 s221 s222 s223 s224 s225 s226 s227 s228 s229 s230 s231 s232 s233 s234 s235 s236 s237 s238 s239 s240 s241 s242 s243 s244 s245 s246 s247 s248 s249 s250 s251 s252 s253 s254 s255 s256 s257 s258 s259 s260 s261 s262 s263 s264 s265 s266 s267 s268 s269 s270 s271 s272 s273 s274 s275 : Value} {K : Act → World → Prop} {Q : Exit → Act → World → Prop} (m a x q now ask B rb lo hi : Nat) (h1 : q < 1) (w : World) (rB : w.heap[B]? = some (.cells #[.int .u64 (q : Int), .int .u64 (now : Int), .int .u64 (ask : Int)] 39 (0, 0))) (rr : w.heap[rb]? = some (.cells #[.int .u64 (m : Int), .int .u64 (a : Int)] 30 (0, 0)))
    (hK : RowKit.Hid (∀ {u107 u108 u109 u110 u111 u112 u113 u114 u115 u116 u117 u118 u119 u120 u121 u122 u123 u124 u125 u126 u127 u128 u129 u130 u131 u132 u133 u134 u135 u136 u137 : Value} {w' : World}, (u137 = .bool false ∧ Fr F0 w w') → K ⟨#[s0, s1, .pointer (some ⟨rb, 0, none⟩), s3, s4, s5, s6, .int .u64 (x : Int), s8, s9, .pointer (some ⟨B, 0, none⟩), s11, .int .u64 (lo : Int), .int .u64 (hi : Int), s14, s15, s16, s17, s18, s19, s20, s21, s22, s23, s24, s25, s26, s27, s28, s29, s30, s31, s32, s33, s34, s35, s36, s37, s38, s39, s40, s41, s42, s43, s44, s45, s46, s47, s48, s49, s50, s51, s52, s53, s54, s55, s56, s57, s58, s59, s60, s61, s62, s63, s64, s65, s66, s67, s68, s69, s70, s71, s72, s73, s74, s75, s76, s77, s78, s79, s80, s81, s82, s83, s84, s85, s86, s87, s88, s89, s90, s91, s92, s93, s94, s95, s96, s97, s98, s99, s100, s101, s102, s103, s104, s105, s106, u107, u108, u109, u110, u111, u112, u113, u114, u115, u116, u117, u118, u119, u120, u121, u122, u123, u124, u125, u126, u127, u128, u129, u130, u131, u132, u133, u134, u135, u136, u137, s138, s139, s140, s141, s142, s143, s144, s145, s146, s147, s148, s149, s150, s151, s152, s153, s154, s155, s156, s157, s158, s159, s160, s161, s162, s163, s164, s165, s166, s167, s168, s169, s170, s171, s172, s173, s174, s175, s176, s177, s178, s179, s180, s181, s182, s183, s184, s185, s186, s187, s188, s189, s190, s191, s192, s193, s194, s195, s196, s197, s198, s199, s200, s201, s202, s203, s204, s205, s206, s207, s208, s209, s210, s211, s212, s213, s214, s215, s216, s217, s218, s219, s220, s221, s222, s223, s224, s225, s226, s227, s228, s229, s230, s231, s232, s233, s234, s235, s236, s237, s238, s239, s240, s241, s242, s243, s244, s245, s246, s247, s248, s249, s250, s251, s252, s253, s254, s255, s256, s257, s258, s259, s260, s261, s262, s263, s264, s265, s266, s267, s268, s269, s270, s271, s272, s273, s274, s275], []⟩ w')) :
    Code.wp Try.prog ((((Try.f4.body.bind (findRegion 21)).getD .skip))) (Exit.then K Q) ⟨#[s0, s1, .pointer (some ⟨rb, 0, none⟩), s3, s4, s5, s6, .int .u64 (x : Int), s8, s9, .pointer (some ⟨B, 0, none⟩), s11, .int .u64 (lo : Int), .int .u64 (hi : Int), s14, s15, s16, s17, s18, s19, s20, s21, s22, s23, s24, s25, s26, s27, s28, s29, s30, s31, s32, s33, s34, s35, s36, s37, s38, s39, s40, s41, s42, s43, s44, s45, s46, s47, s48, s49, s50, s51, s52, s53, s54, s55, s56, s57, s58, s59, s60, s61, s62, s63, s64, s65, s66, s67, s68, s69, s70, s71, s72, s73, s74, s75, s76, s77, s78, s79, s80, s81, s82, s83, s84, s85, s86, s87, s88, s89, s90, s91, s92, s93, s94, s95, s96, s97, s98, s99, s100, s101, s102, s103, s104, s105, s106, s107, s108, s109, s110, s111, s112, s113, s114, s115, s116, s117, s118, s119, s120, s121, s122, s123, s124, s125, s126, s127, s128, s129, s130, s131, s132, s133, s134, s135, s136, s137, s138, s139, s140, s141, s142, s143, s144, s145, s146, s147, s148, s149, s150, s151, s152, s153, s154, s155, s156, s157, s158, s159, s160, s161, s162, s163, s164, s165, s166, s167, s168, s169, s170, s171, s172, s173, s174, s175, s176, s177, s178, s179, s180, s181, s182, s183, s184, s185, s186, s187, s188, s189, s190, s191, s192, s193, s194, s195, s196, s197, s198, s199, s200, s201, s202, s203, s204, s205, s206, s207, s208, s209, s210, s211, s212, s213, s214, s215, s216, s217, s218, s219, s220, s221, s222, s223, s224, s225, s226, s227, s228, s229, s230, s231, s232, s233, s234, s235, s236, s237, s238, s239, s240, s241, s242, s243, s244, s245, s246, s247, s248, s249, s250, s251, s252, s253, s254, s255, s256, s257, s258, s259, s260, s261, s262, s263, s264, s265, s266, s267, s268, s269, s270, s271, s272, s273, s274, s275], []⟩ w := by
  conv => arg 2; whnf
  have F := Fr.refl F0 w
  have k1 : ¬ (1 : Int) ≤ (q : Int) := by omega
  have d1 : decide ((1 : Int) ≤ (q : Int)) = false := decide_eq_false k1
  have n1 : ¬ 1 ≤ q := by omega
  have b1 : decide (1 ≤ q) = false := decide_eq_false n1
  clear h1
  refine rbegin (S := (fun w' => (w'.heap[B]? = some (.cells #[.int .u64 (q : Int), .int .u64 (now : Int), .int .u64 (ask : Int)] 39 (0, 0)) ∧ w'.heap[rb]? = some (.cells #[.int .u64 (m : Int), .int .u64 (a : Int)] 30 (0, 0))) ∧ Fr F0 w w')) ?_ fun hHeld => ?_
  · ((try dsimp only) <;> (exact ⟨⟨rB, rr⟩, F.drew⟩))
  refine rtake 0 ?_
  refine rtake 1 ?_
  refine rtake 2 ?_
  refine rtake 3 ?_
  refine rleave 4 ?_
  refine rleave 5 ?_
  refine rleave 6 ?_
  refine rtake 7 ?_
  refine rtake 8 ?_
  refine rleave 9 ?_
  refine rleave 10 ?_
  refine rleave 11 ?_
  refine rleave 12 ?_
  refine rleave 13 ?_
  refine rleave 14 ?_
  refine rleave 15 ?_
  refine rleave 16 ?_
  refine rleave 17 ?_
  refine rleave 18 ?_
  refine rleave 19 ?_
  refine rleave 20 ?_
  refine rleave 21 ?_
  refine rleave 22 ?_
  refine rleave 23 ?_
  refine rleave 24 ?_
  refine rleave 25 ?_
  refine rleave 26 ?_
  refine rleave 27 ?_
  refine rleave 28 ?_
  refine rleave 29 ?_
  refine rtake 30 ?_
  refine rdone ?_
  all_goals exact hK.out ⟨rfl, hHeld.2⟩

set_option maxRecDepth 100000 in
set_option maxHeartbeats 16000000 in
theorem ogb {s0 s1 s3 s4 s5 s6 s8 s9 s11 s14 s15 s16 s17 s18 s19 s20 s21 s22 s23 s24 s25 s26 s27 s28 s29 s30 s31 s32 s33 s34 s35 s36 s37 s38 s39 s40 s41 s42 s43 s44 s45 s46 s47 s48 s49 s50 s51 s52 s53 s54 s55 s56 s57 s58 s59 s60 s61 s62 s63 s64 s65 s66 s67 s68 s69 s70 s71 s72 s73 s74 s75 s76 s77 s78 s79 s80 s81 s82 s83 s84 s85 s86 s87 s88 s89 s90 s91 s92 s93 s94 s95 s96 s97 s98 s99 s100 s101 s102 s103 s104 s105 s106 s107 s108 s109 s110 s111 s112 s113 s114 s115 s116 s117 s118 s119 s120 s121 s122 s123 s124 s125 s126 s127 s128 s129 s130 s131 s132 s133 s134 s135 s136 s137 s138 s139 s140 s141 s142 s143 s144 s145 s146 s147 s148 s149 s150 s151 s152 s153 s154 s155 s156 s157 s158 s159 s160 s161 s162 s163 s164 s165 s166 s167 s168 s169 s170 s171 s172 s173 s174 s175 s176 s177 s178 s179 s180 s181 s182 s183 s184 s185 s186 s187 s188 s189 s190 s191 s192 s193 s194 s195 s196 s197 s198 s199 s200 s201 s202 s203 s204 s205 s206 s207 s208 s209 s210 s211 s212 s213 s214 s215 s216 s217 s218 s219 s220 s221 s222 s223 s224 s225 s226 s227 s228 s229 s230 s231 s232 s233 s234 s235 s236 s237 s238 s239 s240 s241 s242 s243 s244 s245 s246 s247 s248 s249 s250 s251 s252 s253 s254 s255 s256 s257 s258 s259 s260 s261 s262 s263 s264 s265 s266 s267 s268 s269 s270 s271 s272 s273 s274 s275 : Value} {K : Act → World → Prop} {Q : Exit → Act → World → Prop} (m a x q now ask B rb lo hi : Nat) (h1 : ¬ q < 1) (h2 : 1099511627776 < q) (w : World) (rB : w.heap[B]? = some (.cells #[.int .u64 (q : Int), .int .u64 (now : Int), .int .u64 (ask : Int)] 39 (0, 0))) (rr : w.heap[rb]? = some (.cells #[.int .u64 (m : Int), .int .u64 (a : Int)] 30 (0, 0)))
    (hK : RowKit.Hid (∀ {u107 u108 u109 u110 u111 u112 u113 u114 u115 u116 u117 u118 u119 u120 u121 u122 u123 u124 u125 u126 u127 u128 u129 u130 u131 u132 u133 u134 u135 u136 u137 : Value} {w' : World}, (u137 = .bool false ∧ Fr F0 w w') → K ⟨#[s0, s1, .pointer (some ⟨rb, 0, none⟩), s3, s4, s5, s6, .int .u64 (x : Int), s8, s9, .pointer (some ⟨B, 0, none⟩), s11, .int .u64 (lo : Int), .int .u64 (hi : Int), s14, s15, s16, s17, s18, s19, s20, s21, s22, s23, s24, s25, s26, s27, s28, s29, s30, s31, s32, s33, s34, s35, s36, s37, s38, s39, s40, s41, s42, s43, s44, s45, s46, s47, s48, s49, s50, s51, s52, s53, s54, s55, s56, s57, s58, s59, s60, s61, s62, s63, s64, s65, s66, s67, s68, s69, s70, s71, s72, s73, s74, s75, s76, s77, s78, s79, s80, s81, s82, s83, s84, s85, s86, s87, s88, s89, s90, s91, s92, s93, s94, s95, s96, s97, s98, s99, s100, s101, s102, s103, s104, s105, s106, u107, u108, u109, u110, u111, u112, u113, u114, u115, u116, u117, u118, u119, u120, u121, u122, u123, u124, u125, u126, u127, u128, u129, u130, u131, u132, u133, u134, u135, u136, u137, s138, s139, s140, s141, s142, s143, s144, s145, s146, s147, s148, s149, s150, s151, s152, s153, s154, s155, s156, s157, s158, s159, s160, s161, s162, s163, s164, s165, s166, s167, s168, s169, s170, s171, s172, s173, s174, s175, s176, s177, s178, s179, s180, s181, s182, s183, s184, s185, s186, s187, s188, s189, s190, s191, s192, s193, s194, s195, s196, s197, s198, s199, s200, s201, s202, s203, s204, s205, s206, s207, s208, s209, s210, s211, s212, s213, s214, s215, s216, s217, s218, s219, s220, s221, s222, s223, s224, s225, s226, s227, s228, s229, s230, s231, s232, s233, s234, s235, s236, s237, s238, s239, s240, s241, s242, s243, s244, s245, s246, s247, s248, s249, s250, s251, s252, s253, s254, s255, s256, s257, s258, s259, s260, s261, s262, s263, s264, s265, s266, s267, s268, s269, s270, s271, s272, s273, s274, s275], []⟩ w')) :
    Code.wp Try.prog ((((Try.f4.body.bind (findRegion 21)).getD .skip))) (Exit.then K Q) ⟨#[s0, s1, .pointer (some ⟨rb, 0, none⟩), s3, s4, s5, s6, .int .u64 (x : Int), s8, s9, .pointer (some ⟨B, 0, none⟩), s11, .int .u64 (lo : Int), .int .u64 (hi : Int), s14, s15, s16, s17, s18, s19, s20, s21, s22, s23, s24, s25, s26, s27, s28, s29, s30, s31, s32, s33, s34, s35, s36, s37, s38, s39, s40, s41, s42, s43, s44, s45, s46, s47, s48, s49, s50, s51, s52, s53, s54, s55, s56, s57, s58, s59, s60, s61, s62, s63, s64, s65, s66, s67, s68, s69, s70, s71, s72, s73, s74, s75, s76, s77, s78, s79, s80, s81, s82, s83, s84, s85, s86, s87, s88, s89, s90, s91, s92, s93, s94, s95, s96, s97, s98, s99, s100, s101, s102, s103, s104, s105, s106, s107, s108, s109, s110, s111, s112, s113, s114, s115, s116, s117, s118, s119, s120, s121, s122, s123, s124, s125, s126, s127, s128, s129, s130, s131, s132, s133, s134, s135, s136, s137, s138, s139, s140, s141, s142, s143, s144, s145, s146, s147, s148, s149, s150, s151, s152, s153, s154, s155, s156, s157, s158, s159, s160, s161, s162, s163, s164, s165, s166, s167, s168, s169, s170, s171, s172, s173, s174, s175, s176, s177, s178, s179, s180, s181, s182, s183, s184, s185, s186, s187, s188, s189, s190, s191, s192, s193, s194, s195, s196, s197, s198, s199, s200, s201, s202, s203, s204, s205, s206, s207, s208, s209, s210, s211, s212, s213, s214, s215, s216, s217, s218, s219, s220, s221, s222, s223, s224, s225, s226, s227, s228, s229, s230, s231, s232, s233, s234, s235, s236, s237, s238, s239, s240, s241, s242, s243, s244, s245, s246, s247, s248, s249, s250, s251, s252, s253, s254, s255, s256, s257, s258, s259, s260, s261, s262, s263, s264, s265, s266, s267, s268, s269, s270, s271, s272, s273, s274, s275], []⟩ w := by
  conv => arg 2; whnf
  have F := Fr.refl F0 w
  have k1 : (1 : Int) ≤ (q : Int) := by omega
  have d1 : decide ((1 : Int) ≤ (q : Int)) = true := decide_eq_true k1
  have n1 : 1 ≤ q := by omega
  have b1 : decide (1 ≤ q) = true := decide_eq_true n1
  have k2 : ¬ (q : Int) ≤ 1099511627776 := by omega
  have d2 : decide ((q : Int) ≤ 1099511627776) = false := decide_eq_false k2
  have n2 : ¬ q ≤ 1099511627776 := by omega
  have b2 : decide (q ≤ 1099511627776) = false := decide_eq_false n2
  clear h1 h2
  refine rbegin (S := (fun w' => (w'.heap[B]? = some (.cells #[.int .u64 (q : Int), .int .u64 (now : Int), .int .u64 (ask : Int)] 39 (0, 0)) ∧ w'.heap[rb]? = some (.cells #[.int .u64 (m : Int), .int .u64 (a : Int)] 30 (0, 0))) ∧ Fr F0 w w')) ?_ fun hHeld => ?_
  · ((try dsimp only) <;> (exact ⟨⟨rB, rr⟩, F.drew⟩))
  refine rtake 0 ?_
  refine rtake 1 ?_
  refine rtake 2 ?_
  refine rtake 3 ?_
  refine rtake 4 ?_
  refine rtake 5 ?_
  refine rtake 6 ?_
  refine rtake 7 ?_
  refine rtake 8 ?_
  refine rleave 9 ?_
  refine rleave 10 ?_
  refine rleave 11 ?_
  refine rleave 12 ?_
  refine rleave 13 ?_
  refine rleave 14 ?_
  refine rleave 15 ?_
  refine rleave 16 ?_
  refine rleave 17 ?_
  refine rleave 18 ?_
  refine rleave 19 ?_
  refine rleave 20 ?_
  refine rleave 21 ?_
  refine rleave 22 ?_
  refine rleave 23 ?_
  refine rleave 24 ?_
  refine rleave 25 ?_
  refine rleave 26 ?_
  refine rleave 27 ?_
  refine rleave 28 ?_
  refine rleave 29 ?_
  refine rtake 30 ?_
  refine rdone ?_
  all_goals exact hK.out ⟨rfl, hHeld.2⟩

set_option maxRecDepth 100000 in
set_option maxHeartbeats 16000000 in
theorem ogc {s0 s1 s3 s4 s5 s6 s8 s9 s11 s14 s15 s16 s17 s18 s19 s20 s21 s22 s23 s24 s25 s26 s27 s28 s29 s30 s31 s32 s33 s34 s35 s36 s37 s38 s39 s40 s41 s42 s43 s44 s45 s46 s47 s48 s49 s50 s51 s52 s53 s54 s55 s56 s57 s58 s59 s60 s61 s62 s63 s64 s65 s66 s67 s68 s69 s70 s71 s72 s73 s74 s75 s76 s77 s78 s79 s80 s81 s82 s83 s84 s85 s86 s87 s88 s89 s90 s91 s92 s93 s94 s95 s96 s97 s98 s99 s100 s101 s102 s103 s104 s105 s106 s107 s108 s109 s110 s111 s112 s113 s114 s115 s116 s117 s118 s119 s120 s121 s122 s123 s124 s125 s126 s127 s128 s129 s130 s131 s132 s133 s134 s135 s136 s137 s138 s139 s140 s141 s142 s143 s144 s145 s146 s147 s148 s149 s150 s151 s152 s153 s154 s155 s156 s157 s158 s159 s160 s161 s162 s163 s164 s165 s166 s167 s168 s169 s170 s171 s172 s173 s174 s175 s176 s177 s178 s179 s180 s181 s182 s183 s184 s185 s186 s187 s188 s189 s190 s191 s192 s193 s194 s195 s196 s197 s198 s199 s200 s201 s202 s203 s204 s205 s206 s207 s208 s209 s210 s211 s212 s213 s214 s215 s216 s217 s218 s219 s220 s221 s222 s223 s224 s225 s226 s227 s228 s229 s230 s231 s232 s233 s234 s235 s236 s237 s238 s239 s240 s241 s242 s243 s244 s245 s246 s247 s248 s249 s250 s251 s252 s253 s254 s255 s256 s257 s258 s259 s260 s261 s262 s263 s264 s265 s266 s267 s268 s269 s270 s271 s272 s273 s274 s275 : Value} {K : Act → World → Prop} {Q : Exit → Act → World → Prop} (m a x q now ask B rb lo hi : Nat) (h1 : ¬ q < 1) (h2 : ¬ 1099511627776 < q) (h3 : lo ≤ q) (h4 : q ≤ hi) (h5 : x = 0) (w : World) (rB : w.heap[B]? = some (.cells #[.int .u64 (q : Int), .int .u64 (now : Int), .int .u64 (ask : Int)] 39 (0, 0))) (rr : w.heap[rb]? = some (.cells #[.int .u64 (m : Int), .int .u64 (a : Int)] 30 (0, 0)))
    (hK : RowKit.Hid (∀ {u107 u108 u109 u110 u111 u112 u113 u114 u115 u116 u117 u118 u119 u120 u121 u122 u123 u124 u125 u126 u127 u128 u129 u130 u131 u132 u133 u134 u135 u136 u137 : Value} {w' : World}, (u137 = .bool false ∧ Fr F0 w w') → K ⟨#[s0, s1, .pointer (some ⟨rb, 0, none⟩), s3, s4, s5, s6, .int .u64 (x : Int), s8, s9, .pointer (some ⟨B, 0, none⟩), s11, .int .u64 (lo : Int), .int .u64 (hi : Int), s14, s15, s16, s17, s18, s19, s20, s21, s22, s23, s24, s25, s26, s27, s28, s29, s30, s31, s32, s33, s34, s35, s36, s37, s38, s39, s40, s41, s42, s43, s44, s45, s46, s47, s48, s49, s50, s51, s52, s53, s54, s55, s56, s57, s58, s59, s60, s61, s62, s63, s64, s65, s66, s67, s68, s69, s70, s71, s72, s73, s74, s75, s76, s77, s78, s79, s80, s81, s82, s83, s84, s85, s86, s87, s88, s89, s90, s91, s92, s93, s94, s95, s96, s97, s98, s99, s100, s101, s102, s103, s104, s105, s106, u107, u108, u109, u110, u111, u112, u113, u114, u115, u116, u117, u118, u119, u120, u121, u122, u123, u124, u125, u126, u127, u128, u129, u130, u131, u132, u133, u134, u135, u136, u137, s138, s139, s140, s141, s142, s143, s144, s145, s146, s147, s148, s149, s150, s151, s152, s153, s154, s155, s156, s157, s158, s159, s160, s161, s162, s163, s164, s165, s166, s167, s168, s169, s170, s171, s172, s173, s174, s175, s176, s177, s178, s179, s180, s181, s182, s183, s184, s185, s186, s187, s188, s189, s190, s191, s192, s193, s194, s195, s196, s197, s198, s199, s200, s201, s202, s203, s204, s205, s206, s207, s208, s209, s210, s211, s212, s213, s214, s215, s216, s217, s218, s219, s220, s221, s222, s223, s224, s225, s226, s227, s228, s229, s230, s231, s232, s233, s234, s235, s236, s237, s238, s239, s240, s241, s242, s243, s244, s245, s246, s247, s248, s249, s250, s251, s252, s253, s254, s255, s256, s257, s258, s259, s260, s261, s262, s263, s264, s265, s266, s267, s268, s269, s270, s271, s272, s273, s274, s275], []⟩ w')) :
    Code.wp Try.prog ((((Try.f4.body.bind (findRegion 21)).getD .skip))) (Exit.then K Q) ⟨#[s0, s1, .pointer (some ⟨rb, 0, none⟩), s3, s4, s5, s6, .int .u64 (x : Int), s8, s9, .pointer (some ⟨B, 0, none⟩), s11, .int .u64 (lo : Int), .int .u64 (hi : Int), s14, s15, s16, s17, s18, s19, s20, s21, s22, s23, s24, s25, s26, s27, s28, s29, s30, s31, s32, s33, s34, s35, s36, s37, s38, s39, s40, s41, s42, s43, s44, s45, s46, s47, s48, s49, s50, s51, s52, s53, s54, s55, s56, s57, s58, s59, s60, s61, s62, s63, s64, s65, s66, s67, s68, s69, s70, s71, s72, s73, s74, s75, s76, s77, s78, s79, s80, s81, s82, s83, s84, s85, s86, s87, s88, s89, s90, s91, s92, s93, s94, s95, s96, s97, s98, s99, s100, s101, s102, s103, s104, s105, s106, s107, s108, s109, s110, s111, s112, s113, s114, s115, s116, s117, s118, s119, s120, s121, s122, s123, s124, s125, s126, s127, s128, s129, s130, s131, s132, s133, s134, s135, s136, s137, s138, s139, s140, s141, s142, s143, s144, s145, s146, s147, s148, s149, s150, s151, s152, s153, s154, s155, s156, s157, s158, s159, s160, s161, s162, s163, s164, s165, s166, s167, s168, s169, s170, s171, s172, s173, s174, s175, s176, s177, s178, s179, s180, s181, s182, s183, s184, s185, s186, s187, s188, s189, s190, s191, s192, s193, s194, s195, s196, s197, s198, s199, s200, s201, s202, s203, s204, s205, s206, s207, s208, s209, s210, s211, s212, s213, s214, s215, s216, s217, s218, s219, s220, s221, s222, s223, s224, s225, s226, s227, s228, s229, s230, s231, s232, s233, s234, s235, s236, s237, s238, s239, s240, s241, s242, s243, s244, s245, s246, s247, s248, s249, s250, s251, s252, s253, s254, s255, s256, s257, s258, s259, s260, s261, s262, s263, s264, s265, s266, s267, s268, s269, s270, s271, s272, s273, s274, s275], []⟩ w := by
  conv => arg 2; whnf
  have F := Fr.refl F0 w
  have k1 : (1 : Int) ≤ (q : Int) := by omega
  have d1 : decide ((1 : Int) ≤ (q : Int)) = true := decide_eq_true k1
  have n1 : 1 ≤ q := by omega
  have b1 : decide (1 ≤ q) = true := decide_eq_true n1
  have k2 : (q : Int) ≤ 1099511627776 := by omega
  have d2 : decide ((q : Int) ≤ 1099511627776) = true := decide_eq_true k2
  have n2 : q ≤ 1099511627776 := by omega
  have b2 : decide (q ≤ 1099511627776) = true := decide_eq_true n2
  have k3 : (lo : Int) ≤ (q : Int) := by omega
  have d3 : decide ((lo : Int) ≤ (q : Int)) = true := decide_eq_true k3
  have n3 : lo ≤ q := by omega
  have b3 : decide (lo ≤ q) = true := decide_eq_true n3
  have k4 : (q : Int) ≤ (hi : Int) := by omega
  have d4 : decide ((q : Int) ≤ (hi : Int)) = true := decide_eq_true k4
  have n4 : q ≤ hi := by omega
  have b4 : decide (q ≤ hi) = true := decide_eq_true n4
  have k5 : ((x : Int) == 0) = true := by rw [h5]; rfl
  have k6 : (x == 0) = true := by rw [h5]; rfl
  clear h1 h2 h3 h4 h5
  refine rbegin (S := (fun w' => (w'.heap[B]? = some (.cells #[.int .u64 (q : Int), .int .u64 (now : Int), .int .u64 (ask : Int)] 39 (0, 0)) ∧ w'.heap[rb]? = some (.cells #[.int .u64 (m : Int), .int .u64 (a : Int)] 30 (0, 0))) ∧ Fr F0 w w')) ?_ fun hHeld => ?_
  · ((try dsimp only) <;> (exact ⟨⟨rB, rr⟩, F.drew⟩))
  refine rtake 0 ?_
  refine rtake 1 ?_
  refine rtake 2 ?_
  refine rtake 3 ?_
  refine rtake 4 ?_
  refine rtake 5 ?_
  refine rtake 6 ?_
  refine rtake 7 ?_
  refine rtake 8 ?_
  refine rtake 9 ?_
  refine rtake 10 ?_
  refine rtake 11 ?_
  refine rtake 12 ?_
  refine rtake 13 ?_
  refine rtake 14 ?_
  refine rtake 15 ?_
  refine rtake 16 ?_
  refine rtake 17 ?_
  refine rtake 18 ?_
  refine rtake 19 ?_
  refine rtake 20 ?_
  refine rtake 21 ?_
  refine rleave 22 ?_
  refine rleave 23 ?_
  refine rleave 24 ?_
  refine rleave 25 ?_
  refine rleave 26 ?_
  refine rleave 27 ?_
  refine rtake 28 ?_
  refine rtake 29 ?_
  refine rtake 30 ?_
  refine rdone ?_
  all_goals exact hK.out ⟨rfl, hHeld.2⟩

set_option maxRecDepth 100000 in
set_option maxHeartbeats 16000000 in
theorem ogd {s0 s1 s3 s4 s5 s6 s8 s9 s11 s14 s15 s16 s17 s18 s19 s20 s21 s22 s23 s24 s25 s26 s27 s28 s29 s30 s31 s32 s33 s34 s35 s36 s37 s38 s39 s40 s41 s42 s43 s44 s45 s46 s47 s48 s49 s50 s51 s52 s53 s54 s55 s56 s57 s58 s59 s60 s61 s62 s63 s64 s65 s66 s67 s68 s69 s70 s71 s72 s73 s74 s75 s76 s77 s78 s79 s80 s81 s82 s83 s84 s85 s86 s87 s88 s89 s90 s91 s92 s93 s94 s95 s96 s97 s98 s99 s100 s101 s102 s103 s104 s105 s106 s107 s108 s109 s110 s111 s112 s113 s114 s115 s116 s117 s118 s119 s120 s121 s122 s123 s124 s125 s126 s127 s128 s129 s130 s131 s132 s133 s134 s135 s136 s137 s138 s139 s140 s141 s142 s143 s144 s145 s146 s147 s148 s149 s150 s151 s152 s153 s154 s155 s156 s157 s158 s159 s160 s161 s162 s163 s164 s165 s166 s167 s168 s169 s170 s171 s172 s173 s174 s175 s176 s177 s178 s179 s180 s181 s182 s183 s184 s185 s186 s187 s188 s189 s190 s191 s192 s193 s194 s195 s196 s197 s198 s199 s200 s201 s202 s203 s204 s205 s206 s207 s208 s209 s210 s211 s212 s213 s214 s215 s216 s217 s218 s219 s220 s221 s222 s223 s224 s225 s226 s227 s228 s229 s230 s231 s232 s233 s234 s235 s236 s237 s238 s239 s240 s241 s242 s243 s244 s245 s246 s247 s248 s249 s250 s251 s252 s253 s254 s255 s256 s257 s258 s259 s260 s261 s262 s263 s264 s265 s266 s267 s268 s269 s270 s271 s272 s273 s274 s275 : Value} {K : Act → World → Prop} {Q : Exit → Act → World → Prop} (m a x q now ask B rb lo hi : Nat) (h1 : ¬ q < 1) (h2 : ¬ 1099511627776 < q) (h3 : ¬ lo ≤ q) (h5 : ¬ x = 0) (HM : RowKit.Hid (∀ W, Calls Try.prog 10 #[.int .u64 (x : Int), .int .u64 (q : Int), .int .u64 (m : Int)] W fun e w' => e = .returned (.bool false) ∧ Fr F0 W w')) (w : World) (rB : w.heap[B]? = some (.cells #[.int .u64 (q : Int), .int .u64 (now : Int), .int .u64 (ask : Int)] 39 (0, 0))) (rr : w.heap[rb]? = some (.cells #[.int .u64 (m : Int), .int .u64 (a : Int)] 30 (0, 0)))
    (hK : RowKit.Hid (∀ {u107 u108 u109 u110 u111 u112 u113 u114 u115 u116 u117 u118 u119 u120 u121 u122 u123 u124 u125 u126 u127 u128 u129 u130 u131 u132 u133 u134 u135 u136 u137 : Value} {w' : World}, (u137 = .bool false ∧ Fr F0 w w') → K ⟨#[s0, s1, .pointer (some ⟨rb, 0, none⟩), s3, s4, s5, s6, .int .u64 (x : Int), s8, s9, .pointer (some ⟨B, 0, none⟩), s11, .int .u64 (lo : Int), .int .u64 (hi : Int), s14, s15, s16, s17, s18, s19, s20, s21, s22, s23, s24, s25, s26, s27, s28, s29, s30, s31, s32, s33, s34, s35, s36, s37, s38, s39, s40, s41, s42, s43, s44, s45, s46, s47, s48, s49, s50, s51, s52, s53, s54, s55, s56, s57, s58, s59, s60, s61, s62, s63, s64, s65, s66, s67, s68, s69, s70, s71, s72, s73, s74, s75, s76, s77, s78, s79, s80, s81, s82, s83, s84, s85, s86, s87, s88, s89, s90, s91, s92, s93, s94, s95, s96, s97, s98, s99, s100, s101, s102, s103, s104, s105, s106, u107, u108, u109, u110, u111, u112, u113, u114, u115, u116, u117, u118, u119, u120, u121, u122, u123, u124, u125, u126, u127, u128, u129, u130, u131, u132, u133, u134, u135, u136, u137, s138, s139, s140, s141, s142, s143, s144, s145, s146, s147, s148, s149, s150, s151, s152, s153, s154, s155, s156, s157, s158, s159, s160, s161, s162, s163, s164, s165, s166, s167, s168, s169, s170, s171, s172, s173, s174, s175, s176, s177, s178, s179, s180, s181, s182, s183, s184, s185, s186, s187, s188, s189, s190, s191, s192, s193, s194, s195, s196, s197, s198, s199, s200, s201, s202, s203, s204, s205, s206, s207, s208, s209, s210, s211, s212, s213, s214, s215, s216, s217, s218, s219, s220, s221, s222, s223, s224, s225, s226, s227, s228, s229, s230, s231, s232, s233, s234, s235, s236, s237, s238, s239, s240, s241, s242, s243, s244, s245, s246, s247, s248, s249, s250, s251, s252, s253, s254, s255, s256, s257, s258, s259, s260, s261, s262, s263, s264, s265, s266, s267, s268, s269, s270, s271, s272, s273, s274, s275], []⟩ w')) :
    Code.wp Try.prog ((((Try.f4.body.bind (findRegion 21)).getD .skip))) (Exit.then K Q) ⟨#[s0, s1, .pointer (some ⟨rb, 0, none⟩), s3, s4, s5, s6, .int .u64 (x : Int), s8, s9, .pointer (some ⟨B, 0, none⟩), s11, .int .u64 (lo : Int), .int .u64 (hi : Int), s14, s15, s16, s17, s18, s19, s20, s21, s22, s23, s24, s25, s26, s27, s28, s29, s30, s31, s32, s33, s34, s35, s36, s37, s38, s39, s40, s41, s42, s43, s44, s45, s46, s47, s48, s49, s50, s51, s52, s53, s54, s55, s56, s57, s58, s59, s60, s61, s62, s63, s64, s65, s66, s67, s68, s69, s70, s71, s72, s73, s74, s75, s76, s77, s78, s79, s80, s81, s82, s83, s84, s85, s86, s87, s88, s89, s90, s91, s92, s93, s94, s95, s96, s97, s98, s99, s100, s101, s102, s103, s104, s105, s106, s107, s108, s109, s110, s111, s112, s113, s114, s115, s116, s117, s118, s119, s120, s121, s122, s123, s124, s125, s126, s127, s128, s129, s130, s131, s132, s133, s134, s135, s136, s137, s138, s139, s140, s141, s142, s143, s144, s145, s146, s147, s148, s149, s150, s151, s152, s153, s154, s155, s156, s157, s158, s159, s160, s161, s162, s163, s164, s165, s166, s167, s168, s169, s170, s171, s172, s173, s174, s175, s176, s177, s178, s179, s180, s181, s182, s183, s184, s185, s186, s187, s188, s189, s190, s191, s192, s193, s194, s195, s196, s197, s198, s199, s200, s201, s202, s203, s204, s205, s206, s207, s208, s209, s210, s211, s212, s213, s214, s215, s216, s217, s218, s219, s220, s221, s222, s223, s224, s225, s226, s227, s228, s229, s230, s231, s232, s233, s234, s235, s236, s237, s238, s239, s240, s241, s242, s243, s244, s245, s246, s247, s248, s249, s250, s251, s252, s253, s254, s255, s256, s257, s258, s259, s260, s261, s262, s263, s264, s265, s266, s267, s268, s269, s270, s271, s272, s273, s274, s275], []⟩ w := by
  conv => arg 2; whnf
  have F := Fr.refl F0 w
  have k1 : (1 : Int) ≤ (q : Int) := by omega
  have d1 : decide ((1 : Int) ≤ (q : Int)) = true := decide_eq_true k1
  have n1 : 1 ≤ q := by omega
  have b1 : decide (1 ≤ q) = true := decide_eq_true n1
  have k2 : (q : Int) ≤ 1099511627776 := by omega
  have d2 : decide ((q : Int) ≤ 1099511627776) = true := decide_eq_true k2
  have n2 : q ≤ 1099511627776 := by omega
  have b2 : decide (q ≤ 1099511627776) = true := decide_eq_true n2
  have k3 : ¬ (lo : Int) ≤ (q : Int) := by omega
  have d3 : decide ((lo : Int) ≤ (q : Int)) = false := decide_eq_false k3
  have n3 : ¬ lo ≤ q := by omega
  have b3 : decide (lo ≤ q) = false := decide_eq_false n3
  have k5 : ((x : Int) == 0) = false := by rw [beq_eq_false_iff_ne]; omega
  have k6 : (x == 0) = false := by rw [beq_eq_false_iff_ne]; omega
  clear h1 h2 h3 h5
  refine rbegin (S := (fun w' => (w'.heap[B]? = some (.cells #[.int .u64 (q : Int), .int .u64 (now : Int), .int .u64 (ask : Int)] 39 (0, 0)) ∧ w'.heap[rb]? = some (.cells #[.int .u64 (m : Int), .int .u64 (a : Int)] 30 (0, 0))) ∧ Fr F0 w w')) ?_ fun hHeld => ?_
  · ((try dsimp only) <;> (exact ⟨⟨rB, rr⟩, F.drew⟩))
  refine rtake 0 ?_
  refine rtake 1 ?_
  refine rtake 2 ?_
  refine rtake 3 ?_
  refine rtake 4 ?_
  refine rtake 5 ?_
  refine rtake 6 ?_
  refine rtake 7 ?_
  refine rtake 8 ?_
  refine rtake 9 ?_
  refine rtake 10 ?_
  refine rtake 11 ?_
  refine rtake 12 ?_
  refine rtake 13 ?_
  refine rleave 14 ?_
  refine rleave 15 ?_
  refine rleave 16 ?_
  refine rleave 17 ?_
  refine rtake 18 ?_
  refine rtake 19 ?_
  refine rtake 20 ?_
  refine rtake 21 ?_
  refine rtake 22 ?_
  refine rtake 23 ?_
  refine rtake 24 ?_
  refine rtake 25 ?_
  refine rtake 26 ?_
  refine rone 27 fun K hK => ?_
  go_simp
  ((with_reducible refine (HM.out _).mono ?_); rintro e w5 ⟨rfl, f5⟩)
  refine hK.out _ _ ?_ (fun hHeld => ?_)
  · ((try dsimp only) <;> (first | exact hHeld | exact ⟨⟨keep_fr f5 hHeld.1.1, keep_fr f5 hHeld.1.2⟩, hHeld.2.trans' f5⟩))
  clear hK K
  try (simp only [Act.put, aST]; dsimp only [aS0, aS1])
  refine rtake 28 ?_
  refine rtake 29 ?_
  refine rtake 30 ?_
  refine rdone ?_
  all_goals exact hK.out ⟨rfl, hHeld.2⟩

set_option maxRecDepth 100000 in
set_option maxHeartbeats 16000000 in
theorem oge {s0 s1 s3 s4 s5 s6 s8 s9 s11 s14 s15 s16 s17 s18 s19 s20 s21 s22 s23 s24 s25 s26 s27 s28 s29 s30 s31 s32 s33 s34 s35 s36 s37 s38 s39 s40 s41 s42 s43 s44 s45 s46 s47 s48 s49 s50 s51 s52 s53 s54 s55 s56 s57 s58 s59 s60 s61 s62 s63 s64 s65 s66 s67 s68 s69 s70 s71 s72 s73 s74 s75 s76 s77 s78 s79 s80 s81 s82 s83 s84 s85 s86 s87 s88 s89 s90 s91 s92 s93 s94 s95 s96 s97 s98 s99 s100 s101 s102 s103 s104 s105 s106 s107 s108 s109 s110 s111 s112 s113 s114 s115 s116 s117 s118 s119 s120 s121 s122 s123 s124 s125 s126 s127 s128 s129 s130 s131 s132 s133 s134 s135 s136 s137 s138 s139 s140 s141 s142 s143 s144 s145 s146 s147 s148 s149 s150 s151 s152 s153 s154 s155 s156 s157 s158 s159 s160 s161 s162 s163 s164 s165 s166 s167 s168 s169 s170 s171 s172 s173 s174 s175 s176 s177 s178 s179 s180 s181 s182 s183 s184 s185 s186 s187 s188 s189 s190 s191 s192 s193 s194 s195 s196 s197 s198 s199 s200 s201 s202 s203 s204 s205 s206 s207 s208 s209 s210 s211 s212 s213 s214 s215 s216 s217 s218 s219 s220 s221 s222 s223 s224 s225 s226 s227 s228 s229 s230 s231 s232 s233 s234 s235 s236 s237 s238 s239 s240 s241 s242 s243 s244 s245 s246 s247 s248 s249 s250 s251 s252 s253 s254 s255 s256 s257 s258 s259 s260 s261 s262 s263 s264 s265 s266 s267 s268 s269 s270 s271 s272 s273 s274 s275 : Value} {K : Act → World → Prop} {Q : Exit → Act → World → Prop} (m a x q now ask B rb lo hi : Nat) (h1 : ¬ q < 1) (h2 : ¬ 1099511627776 < q) (h3 : lo ≤ q) (h4 : ¬ q ≤ hi) (h5 : ¬ x = 0) (HM : RowKit.Hid (∀ W, Calls Try.prog 10 #[.int .u64 (x : Int), .int .u64 (q : Int), .int .u64 (m : Int)] W fun e w' => e = .returned (.bool false) ∧ Fr F0 W w')) (w : World) (rB : w.heap[B]? = some (.cells #[.int .u64 (q : Int), .int .u64 (now : Int), .int .u64 (ask : Int)] 39 (0, 0))) (rr : w.heap[rb]? = some (.cells #[.int .u64 (m : Int), .int .u64 (a : Int)] 30 (0, 0)))
    (hK : RowKit.Hid (∀ {u107 u108 u109 u110 u111 u112 u113 u114 u115 u116 u117 u118 u119 u120 u121 u122 u123 u124 u125 u126 u127 u128 u129 u130 u131 u132 u133 u134 u135 u136 u137 : Value} {w' : World}, (u137 = .bool false ∧ Fr F0 w w') → K ⟨#[s0, s1, .pointer (some ⟨rb, 0, none⟩), s3, s4, s5, s6, .int .u64 (x : Int), s8, s9, .pointer (some ⟨B, 0, none⟩), s11, .int .u64 (lo : Int), .int .u64 (hi : Int), s14, s15, s16, s17, s18, s19, s20, s21, s22, s23, s24, s25, s26, s27, s28, s29, s30, s31, s32, s33, s34, s35, s36, s37, s38, s39, s40, s41, s42, s43, s44, s45, s46, s47, s48, s49, s50, s51, s52, s53, s54, s55, s56, s57, s58, s59, s60, s61, s62, s63, s64, s65, s66, s67, s68, s69, s70, s71, s72, s73, s74, s75, s76, s77, s78, s79, s80, s81, s82, s83, s84, s85, s86, s87, s88, s89, s90, s91, s92, s93, s94, s95, s96, s97, s98, s99, s100, s101, s102, s103, s104, s105, s106, u107, u108, u109, u110, u111, u112, u113, u114, u115, u116, u117, u118, u119, u120, u121, u122, u123, u124, u125, u126, u127, u128, u129, u130, u131, u132, u133, u134, u135, u136, u137, s138, s139, s140, s141, s142, s143, s144, s145, s146, s147, s148, s149, s150, s151, s152, s153, s154, s155, s156, s157, s158, s159, s160, s161, s162, s163, s164, s165, s166, s167, s168, s169, s170, s171, s172, s173, s174, s175, s176, s177, s178, s179, s180, s181, s182, s183, s184, s185, s186, s187, s188, s189, s190, s191, s192, s193, s194, s195, s196, s197, s198, s199, s200, s201, s202, s203, s204, s205, s206, s207, s208, s209, s210, s211, s212, s213, s214, s215, s216, s217, s218, s219, s220, s221, s222, s223, s224, s225, s226, s227, s228, s229, s230, s231, s232, s233, s234, s235, s236, s237, s238, s239, s240, s241, s242, s243, s244, s245, s246, s247, s248, s249, s250, s251, s252, s253, s254, s255, s256, s257, s258, s259, s260, s261, s262, s263, s264, s265, s266, s267, s268, s269, s270, s271, s272, s273, s274, s275], []⟩ w')) :
    Code.wp Try.prog ((((Try.f4.body.bind (findRegion 21)).getD .skip))) (Exit.then K Q) ⟨#[s0, s1, .pointer (some ⟨rb, 0, none⟩), s3, s4, s5, s6, .int .u64 (x : Int), s8, s9, .pointer (some ⟨B, 0, none⟩), s11, .int .u64 (lo : Int), .int .u64 (hi : Int), s14, s15, s16, s17, s18, s19, s20, s21, s22, s23, s24, s25, s26, s27, s28, s29, s30, s31, s32, s33, s34, s35, s36, s37, s38, s39, s40, s41, s42, s43, s44, s45, s46, s47, s48, s49, s50, s51, s52, s53, s54, s55, s56, s57, s58, s59, s60, s61, s62, s63, s64, s65, s66, s67, s68, s69, s70, s71, s72, s73, s74, s75, s76, s77, s78, s79, s80, s81, s82, s83, s84, s85, s86, s87, s88, s89, s90, s91, s92, s93, s94, s95, s96, s97, s98, s99, s100, s101, s102, s103, s104, s105, s106, s107, s108, s109, s110, s111, s112, s113, s114, s115, s116, s117, s118, s119, s120, s121, s122, s123, s124, s125, s126, s127, s128, s129, s130, s131, s132, s133, s134, s135, s136, s137, s138, s139, s140, s141, s142, s143, s144, s145, s146, s147, s148, s149, s150, s151, s152, s153, s154, s155, s156, s157, s158, s159, s160, s161, s162, s163, s164, s165, s166, s167, s168, s169, s170, s171, s172, s173, s174, s175, s176, s177, s178, s179, s180, s181, s182, s183, s184, s185, s186, s187, s188, s189, s190, s191, s192, s193, s194, s195, s196, s197, s198, s199, s200, s201, s202, s203, s204, s205, s206, s207, s208, s209, s210, s211, s212, s213, s214, s215, s216, s217, s218, s219, s220, s221, s222, s223, s224, s225, s226, s227, s228, s229, s230, s231, s232, s233, s234, s235, s236, s237, s238, s239, s240, s241, s242, s243, s244, s245, s246, s247, s248, s249, s250, s251, s252, s253, s254, s255, s256, s257, s258, s259, s260, s261, s262, s263, s264, s265, s266, s267, s268, s269, s270, s271, s272, s273, s274, s275], []⟩ w := by
  conv => arg 2; whnf
  have F := Fr.refl F0 w
  have k1 : (1 : Int) ≤ (q : Int) := by omega
  have d1 : decide ((1 : Int) ≤ (q : Int)) = true := decide_eq_true k1
  have n1 : 1 ≤ q := by omega
  have b1 : decide (1 ≤ q) = true := decide_eq_true n1
  have k2 : (q : Int) ≤ 1099511627776 := by omega
  have d2 : decide ((q : Int) ≤ 1099511627776) = true := decide_eq_true k2
  have n2 : q ≤ 1099511627776 := by omega
  have b2 : decide (q ≤ 1099511627776) = true := decide_eq_true n2
  have k3 : (lo : Int) ≤ (q : Int) := by omega
  have d3 : decide ((lo : Int) ≤ (q : Int)) = true := decide_eq_true k3
  have n3 : lo ≤ q := by omega
  have b3 : decide (lo ≤ q) = true := decide_eq_true n3
  have k4 : ¬ (q : Int) ≤ (hi : Int) := by omega
  have d4 : decide ((q : Int) ≤ (hi : Int)) = false := decide_eq_false k4
  have n4 : ¬ q ≤ hi := by omega
  have b4 : decide (q ≤ hi) = false := decide_eq_false n4
  have k5 : ((x : Int) == 0) = false := by rw [beq_eq_false_iff_ne]; omega
  have k6 : (x == 0) = false := by rw [beq_eq_false_iff_ne]; omega
  clear h1 h2 h3 h4 h5
  refine rbegin (S := (fun w' => (w'.heap[B]? = some (.cells #[.int .u64 (q : Int), .int .u64 (now : Int), .int .u64 (ask : Int)] 39 (0, 0)) ∧ w'.heap[rb]? = some (.cells #[.int .u64 (m : Int), .int .u64 (a : Int)] 30 (0, 0))) ∧ Fr F0 w w')) ?_ fun hHeld => ?_
  · ((try dsimp only) <;> (exact ⟨⟨rB, rr⟩, F.drew⟩))
  refine rtake 0 ?_
  refine rtake 1 ?_
  refine rtake 2 ?_
  refine rtake 3 ?_
  refine rtake 4 ?_
  refine rtake 5 ?_
  refine rtake 6 ?_
  refine rtake 7 ?_
  refine rtake 8 ?_
  refine rtake 9 ?_
  refine rtake 10 ?_
  refine rtake 11 ?_
  refine rtake 12 ?_
  refine rtake 13 ?_
  refine rtake 14 ?_
  refine rtake 15 ?_
  refine rtake 16 ?_
  refine rtake 17 ?_
  refine rtake 18 ?_
  refine rtake 19 ?_
  refine rtake 20 ?_
  refine rtake 21 ?_
  refine rtake 22 ?_
  refine rtake 23 ?_
  refine rtake 24 ?_
  refine rtake 25 ?_
  refine rtake 26 ?_
  refine rone 27 fun K hK => ?_
  go_simp
  ((with_reducible refine (HM.out _).mono ?_); rintro e w5 ⟨rfl, f5⟩)
  refine hK.out _ _ ?_ (fun hHeld => ?_)
  · ((try dsimp only) <;> (first | exact hHeld | exact ⟨⟨keep_fr f5 hHeld.1.1, keep_fr f5 hHeld.1.2⟩, hHeld.2.trans' f5⟩))
  clear hK K
  try (simp only [Act.put, aST]; dsimp only [aS0, aS1])
  refine rtake 28 ?_
  refine rtake 29 ?_
  refine rtake 30 ?_
  refine rdone ?_
  all_goals exact hK.out ⟨rfl, hHeld.2⟩

set_option maxRecDepth 100000 in
set_option maxHeartbeats 16000000 in
theorem ogf {s0 s1 s3 s4 s5 s6 s8 s9 s11 s14 s15 s16 s17 s18 s19 s20 s21 s22 s23 s24 s25 s26 s27 s28 s29 s30 s31 s32 s33 s34 s35 s36 s37 s38 s39 s40 s41 s42 s43 s44 s45 s46 s47 s48 s49 s50 s51 s52 s53 s54 s55 s56 s57 s58 s59 s60 s61 s62 s63 s64 s65 s66 s67 s68 s69 s70 s71 s72 s73 s74 s75 s76 s77 s78 s79 s80 s81 s82 s83 s84 s85 s86 s87 s88 s89 s90 s91 s92 s93 s94 s95 s96 s97 s98 s99 s100 s101 s102 s103 s104 s105 s106 s107 s108 s109 s110 s111 s112 s113 s114 s115 s116 s117 s118 s119 s120 s121 s122 s123 s124 s125 s126 s127 s128 s129 s130 s131 s132 s133 s134 s135 s136 s137 s138 s139 s140 s141 s142 s143 s144 s145 s146 s147 s148 s149 s150 s151 s152 s153 s154 s155 s156 s157 s158 s159 s160 s161 s162 s163 s164 s165 s166 s167 s168 s169 s170 s171 s172 s173 s174 s175 s176 s177 s178 s179 s180 s181 s182 s183 s184 s185 s186 s187 s188 s189 s190 s191 s192 s193 s194 s195 s196 s197 s198 s199 s200 s201 s202 s203 s204 s205 s206 s207 s208 s209 s210 s211 s212 s213 s214 s215 s216 s217 s218 s219 s220 s221 s222 s223 s224 s225 s226 s227 s228 s229 s230 s231 s232 s233 s234 s235 s236 s237 s238 s239 s240 s241 s242 s243 s244 s245 s246 s247 s248 s249 s250 s251 s252 s253 s254 s255 s256 s257 s258 s259 s260 s261 s262 s263 s264 s265 s266 s267 s268 s269 s270 s271 s272 s273 s274 s275 : Value} {K : Act → World → Prop} {Q : Exit → Act → World → Prop} (m a x q now ask B rb lo hi : Nat) (h1 : ¬ q < 1) (h2 : ¬ 1099511627776 < q) (h3 : lo ≤ q) (h4 : q ≤ hi) (h5 : ¬ x = 0) (HM : RowKit.Hid (∀ W, Calls Try.prog 10 #[.int .u64 (x : Int), .int .u64 (q : Int), .int .u64 (m : Int)] W fun e w' => e = .returned (.bool true) ∧ Fr F0 W w')) (w : World) (rB : w.heap[B]? = some (.cells #[.int .u64 (q : Int), .int .u64 (now : Int), .int .u64 (ask : Int)] 39 (0, 0))) (rr : w.heap[rb]? = some (.cells #[.int .u64 (m : Int), .int .u64 (a : Int)] 30 (0, 0)))
    (hK : RowKit.Hid (∀ {u107 u108 u109 u110 u111 u112 u113 u114 u115 u116 u117 u118 u119 u120 u121 u122 u123 u124 u125 u126 u127 u128 u129 u130 u131 u132 u133 u134 u135 u136 u137 : Value} {w' : World}, (u137 = .bool false ∧ Fr F0 w w') → K ⟨#[s0, s1, .pointer (some ⟨rb, 0, none⟩), s3, s4, s5, s6, .int .u64 (x : Int), s8, s9, .pointer (some ⟨B, 0, none⟩), s11, .int .u64 (lo : Int), .int .u64 (hi : Int), s14, s15, s16, s17, s18, s19, s20, s21, s22, s23, s24, s25, s26, s27, s28, s29, s30, s31, s32, s33, s34, s35, s36, s37, s38, s39, s40, s41, s42, s43, s44, s45, s46, s47, s48, s49, s50, s51, s52, s53, s54, s55, s56, s57, s58, s59, s60, s61, s62, s63, s64, s65, s66, s67, s68, s69, s70, s71, s72, s73, s74, s75, s76, s77, s78, s79, s80, s81, s82, s83, s84, s85, s86, s87, s88, s89, s90, s91, s92, s93, s94, s95, s96, s97, s98, s99, s100, s101, s102, s103, s104, s105, s106, u107, u108, u109, u110, u111, u112, u113, u114, u115, u116, u117, u118, u119, u120, u121, u122, u123, u124, u125, u126, u127, u128, u129, u130, u131, u132, u133, u134, u135, u136, u137, s138, s139, s140, s141, s142, s143, s144, s145, s146, s147, s148, s149, s150, s151, s152, s153, s154, s155, s156, s157, s158, s159, s160, s161, s162, s163, s164, s165, s166, s167, s168, s169, s170, s171, s172, s173, s174, s175, s176, s177, s178, s179, s180, s181, s182, s183, s184, s185, s186, s187, s188, s189, s190, s191, s192, s193, s194, s195, s196, s197, s198, s199, s200, s201, s202, s203, s204, s205, s206, s207, s208, s209, s210, s211, s212, s213, s214, s215, s216, s217, s218, s219, s220, s221, s222, s223, s224, s225, s226, s227, s228, s229, s230, s231, s232, s233, s234, s235, s236, s237, s238, s239, s240, s241, s242, s243, s244, s245, s246, s247, s248, s249, s250, s251, s252, s253, s254, s255, s256, s257, s258, s259, s260, s261, s262, s263, s264, s265, s266, s267, s268, s269, s270, s271, s272, s273, s274, s275], []⟩ w')) :
    Code.wp Try.prog ((((Try.f4.body.bind (findRegion 21)).getD .skip))) (Exit.then K Q) ⟨#[s0, s1, .pointer (some ⟨rb, 0, none⟩), s3, s4, s5, s6, .int .u64 (x : Int), s8, s9, .pointer (some ⟨B, 0, none⟩), s11, .int .u64 (lo : Int), .int .u64 (hi : Int), s14, s15, s16, s17, s18, s19, s20, s21, s22, s23, s24, s25, s26, s27, s28, s29, s30, s31, s32, s33, s34, s35, s36, s37, s38, s39, s40, s41, s42, s43, s44, s45, s46, s47, s48, s49, s50, s51, s52, s53, s54, s55, s56, s57, s58, s59, s60, s61, s62, s63, s64, s65, s66, s67, s68, s69, s70, s71, s72, s73, s74, s75, s76, s77, s78, s79, s80, s81, s82, s83, s84, s85, s86, s87, s88, s89, s90, s91, s92, s93, s94, s95, s96, s97, s98, s99, s100, s101, s102, s103, s104, s105, s106, s107, s108, s109, s110, s111, s112, s113, s114, s115, s116, s117, s118, s119, s120, s121, s122, s123, s124, s125, s126, s127, s128, s129, s130, s131, s132, s133, s134, s135, s136, s137, s138, s139, s140, s141, s142, s143, s144, s145, s146, s147, s148, s149, s150, s151, s152, s153, s154, s155, s156, s157, s158, s159, s160, s161, s162, s163, s164, s165, s166, s167, s168, s169, s170, s171, s172, s173, s174, s175, s176, s177, s178, s179, s180, s181, s182, s183, s184, s185, s186, s187, s188, s189, s190, s191, s192, s193, s194, s195, s196, s197, s198, s199, s200, s201, s202, s203, s204, s205, s206, s207, s208, s209, s210, s211, s212, s213, s214, s215, s216, s217, s218, s219, s220, s221, s222, s223, s224, s225, s226, s227, s228, s229, s230, s231, s232, s233, s234, s235, s236, s237, s238, s239, s240, s241, s242, s243, s244, s245, s246, s247, s248, s249, s250, s251, s252, s253, s254, s255, s256, s257, s258, s259, s260, s261, s262, s263, s264, s265, s266, s267, s268, s269, s270, s271, s272, s273, s274, s275], []⟩ w := by
  conv => arg 2; whnf
  have F := Fr.refl F0 w
  have k1 : (1 : Int) ≤ (q : Int) := by omega
  have d1 : decide ((1 : Int) ≤ (q : Int)) = true := decide_eq_true k1
  have n1 : 1 ≤ q := by omega
  have b1 : decide (1 ≤ q) = true := decide_eq_true n1
  have k2 : (q : Int) ≤ 1099511627776 := by omega
  have d2 : decide ((q : Int) ≤ 1099511627776) = true := decide_eq_true k2
  have n2 : q ≤ 1099511627776 := by omega
  have b2 : decide (q ≤ 1099511627776) = true := decide_eq_true n2
  have k3 : (lo : Int) ≤ (q : Int) := by omega
  have d3 : decide ((lo : Int) ≤ (q : Int)) = true := decide_eq_true k3
  have n3 : lo ≤ q := by omega
  have b3 : decide (lo ≤ q) = true := decide_eq_true n3
  have k4 : (q : Int) ≤ (hi : Int) := by omega
  have d4 : decide ((q : Int) ≤ (hi : Int)) = true := decide_eq_true k4
  have n4 : q ≤ hi := by omega
  have b4 : decide (q ≤ hi) = true := decide_eq_true n4
  have k5 : ((x : Int) == 0) = false := by rw [beq_eq_false_iff_ne]; omega
  have k6 : (x == 0) = false := by rw [beq_eq_false_iff_ne]; omega
  clear h1 h2 h3 h4 h5
  refine rbegin (S := (fun w' => (w'.heap[B]? = some (.cells #[.int .u64 (q : Int), .int .u64 (now : Int), .int .u64 (ask : Int)] 39 (0, 0)) ∧ w'.heap[rb]? = some (.cells #[.int .u64 (m : Int), .int .u64 (a : Int)] 30 (0, 0))) ∧ Fr F0 w w')) ?_ fun hHeld => ?_
  · ((try dsimp only) <;> (exact ⟨⟨rB, rr⟩, F.drew⟩))
  refine rtake 0 ?_
  refine rtake 1 ?_
  refine rtake 2 ?_
  refine rtake 3 ?_
  refine rtake 4 ?_
  refine rtake 5 ?_
  refine rtake 6 ?_
  refine rtake 7 ?_
  refine rtake 8 ?_
  refine rtake 9 ?_
  refine rtake 10 ?_
  refine rtake 11 ?_
  refine rtake 12 ?_
  refine rtake 13 ?_
  refine rtake 14 ?_
  refine rtake 15 ?_
  refine rtake 16 ?_
  refine rtake 17 ?_
  refine rtake 18 ?_
  refine rtake 19 ?_
  refine rtake 20 ?_
  refine rtake 21 ?_
  refine rtake 22 ?_
  refine rtake 23 ?_
  refine rtake 24 ?_
  refine rtake 25 ?_
  refine rtake 26 ?_
  refine rone 27 fun K hK => ?_
  go_simp
  ((with_reducible refine (HM.out _).mono ?_); rintro e w5 ⟨rfl, f5⟩)
  refine hK.out _ _ ?_ (fun hHeld => ?_)
  · ((try dsimp only) <;> (first | exact hHeld | exact ⟨⟨keep_fr f5 hHeld.1.1, keep_fr f5 hHeld.1.2⟩, hHeld.2.trans' f5⟩))
  clear hK K
  try (simp only [Act.put, aST]; dsimp only [aS0, aS1])
  refine rtake 28 ?_
  refine rtake 29 ?_
  refine rtake 30 ?_
  refine rdone ?_
  all_goals exact hK.out ⟨rfl, hHeld.2⟩

end Go.Proofs.Ytjpglipjmnbniaa

/- Layer 17's law OracleBounds, walked. -/
namespace Go.Proofs.Ytjpglipjmnbniaa
set_option maxRecDepth 100000
set_option linter.unusedVariables false
set_option linter.unusedSimpArgs false
open Go.RowKit

theorem okM_sure {m p : Nat} (hp : 1 ≤ p) (hp2 : p ≤ 1099511627776) : okM m p p := ⟨loN_le hp, hiN_ge hp hp2⟩
/-- What the second telling leaves. -/
theorem oSet_two {W : World} {g m p t q nx lo hi : Nat} (d : FD W g m 5 p t) (hp : 1 ≤ p) (hn : t < nx ∧ nx ≤ 1099511627776) (hlo : loN m p = lo) (hhi : hiN m p = hi) :
    (lo ≤ q ∧ q ≤ hi ∧ Calls Try.prog 7 #[.pointer (some ⟨g, 0, none⟩), .int .u64 (q : Int), .int .u64 (nx : Int)] W (OsQ W g m 5 q nx 0)) ∨
    (∃ E : Int, (q < lo ∨ (¬ q < lo ∧ hi < q)) ∧ (E = 17 ∨ E = 1) ∧ Calls Try.prog 7 #[.pointer (some ⟨g, 0, none⟩), .int .u64 (q : Int), .int .u64 (nx : Int)] W (OsQ W g m 5 p t E)) := by
  have h1 := loN_pos m p
  have h2 := hiN_le m p
  by_cases hq : lo ≤ q ∧ q ≤ hi
  · exact .inl ⟨hq.1, hq.2, oSet_ok d q nx ⟨by omega, hn.2⟩ (.inr hn.1) ⟨by omega, by omega⟩⟩
  · refine .inr ?_
    by_cases ho : okT q nx
    · exact ⟨17, by omega, .inl rfl, oSet_move d q nx ho (.inr hn.1) (by rintro ⟨a, b⟩; omega)⟩
    · exact ⟨1, by omega, .inr rfl, oSet_arg d q nx ho⟩

set_option maxRecDepth 100000 in
set_option maxHeartbeats 16000000 in
theorem oracleBounds_core (m0 p0 q a0 n0 m p at_ nx r s b : Nat) (hm : m0 % 1001 = m) (hr : p0 % 1099511627776 = r) (hp : 1 + r = p) (ha : a0 % 549755813888 = at_) (hs : n0 % 1000 = s) (hb : at_ + 1 = b) (hn : b + s = nx) (w : World) :
    Calls Try.prog 3 #[.int .u64 (m0 : Int), .int .u64 (p0 : Int), .int .u64 (q : Int), .int .u64 (a0 : Int), .int .u64 (n0 : Int)] w fun e w' => e = .returned (.bool true) ∧ Fr F0 w w' := by
  have hL := Lib.hid lives17_any
  have hm2 : m ≤ 1000 := by omega
  have hp2 : 1 ≤ p ∧ p ≤ 1099511627776 := by omega
  have ha2 : at_ ≤ 549755813887 := by omega
  have hn2 : at_ < nx ∧ nx ≤ 1099511627776 := by omega
  have HN := Lib.hid (oNew_ok m 5 hm2 (by omega))
  have HS := Lib.hid (fun (W : World) (g : Nat) (d : FD W g m 5 0 0) => oSet_ok d p at_ ⟨hp2, by omega⟩ (.inl rfl) ⟨hp2.1, hp2.2⟩)
  have HB := Lib.hid (fun (W : World) (g : Nat) (d : FD W g m 5 p at_) => oBounds_any d)
  obtain ⟨lo, hlo⟩ : ∃ n, loN m p = n := ⟨_, rfl⟩
  obtain ⟨hi, hhi⟩ : ∃ n, hiN m p = n := ⟨_, rfl⟩
  have H2 := Lib.hid (fun (W : World) (g : Nat) (d : FD W g m 5 p at_) => oSet_two (q := q) d hp2.1 hn2 hlo hhi)
  have HL := Lib.hid (fun (W : World) (g x t : Nat) (h : 0 < x) (d : FD W g m 5 x t) => oLast_any d true (decide_eq_true h))
  have j1 : ¬ lo < 1 := by have := loN_pos m p; omega
  have j2 : ¬ 1099511627776 < hi := by have := hiN_le m p; omega
  have j3 : ¬ p < lo := by have := loN_le (m := m) hp2.1; omega
  have j4 : ¬ hi < p := by have := hiN_ge (m := m) hp2.1 hp2.2; omega
  have j5 : ¬ (lo : Int) < 1 := by omega
  have j6 : ¬ (1099511627776 : Int) < (hi : Int) := by omega
  rw [hlo, hhi] at HB
  have g1 : (m0 : Int) % 1001 = (m : Int) := by omega
  have g2 : (p0 : Int) % 1099511627776 = (r : Int) := by omega
  have g3 : IntKind.u64.wrap (1 + (r : Int)) = (p : Int) := by rw [IntWalk.u64_in _ (by omega)]; omega
  have g4 : (a0 : Int) % 549755813888 = (at_ : Int) := by omega
  have g5 : (n0 : Int) % 1000 = (s : Int) := by omega
  have g6 : IntKind.u64.wrap ((at_ : Int) + 1) = (b : Int) := by rw [IntWalk.u64_in _ (by omega)]; omega
  have g7 : IntKind.u64.wrap ((b : Int) + (s : Int)) = (nx : Int) := by rw [IntWalk.u64_in _ (by omega)]; omega
  have HP := Lib.hid (show 0 < p by omega)
  have HQ := Lib.hid (fun (h : lo ≤ q) => show 0 < q by omega)
  clear hm hr hp ha hs hb hn hm2 hp2 ha2 hn2 hlo hhi
  go_enter Try.func3, Try.ntmps3
  go_wp2_with fail
  (with_reducible refine (hL.out _).mono ?_); rintro e w1 ⟨rfl, f1⟩
  have F1 := Lib.hid f1
  clear f1
  go_wp2_with fail
  refine (HN.out _).mono ?_; rintro e w2 ⟨g, rfl, d2, f2, hg⟩
  have H3 := Lib.hid (And.intro d2 (And.intro (F1.out.trans' f2) (Nat.le_trans F1.out.size hg)))
  clear d2 f2 hg
  go_wp2_with fail
  refine (HS.out _ g H3.out.1).mono ?_; rintro e w3 ⟨rfl, d3, f3⟩
  have H4 := Lib.hid (And.intro d3 (H3.out.2.1.trans f3 fun i hi e => absurd (show i = g from e) (Nat.ne_of_lt (Nat.lt_of_lt_of_le hi H3.out.2.2))))
  clear d3 f3
  go_wp2_with fail
  (with_reducible refine (HB.out _ g H4.out.1).mono ?_); rintro e w4 ⟨rfl, f4⟩
  have H5 := Lib.hid (And.intro (H4.out.1.fr0 f4) (H4.out.2.trans' f4))
  clear f4
  rcases H2.out _ g H5.out.1 with ⟨k1, k2, hc⟩ | ⟨E, hk, hE, hc⟩
  · have l1 : ¬ q < lo := by omega
    have HC := Lib.hid hc
    clear hc
    go_wp2_with fail
    refine HC.out.mono ?_; rintro e w5 ⟨rfl, d5, f5⟩
    have H6 := Lib.hid (And.intro d5 (H5.out.2.trans f5 fun i hi e => absurd (show i = g from e) (Nat.ne_of_lt (Nat.lt_of_lt_of_le hi H3.out.2.2))))
    clear d5 f5
    go_wp2_with fail
    (with_reducible refine (HL.out _ g q nx (HQ.out k1) H6.out.1).mono ?_); rintro e w6 ⟨rfl, f6⟩
    have F6 := Lib.hid (H6.out.2.trans' f6)
    clear f6
    go_wp2_with fail
    go_ret
    exact ⟨rfl, F6.out⟩
  · have HC := Lib.hid hc
    clear hc
    rcases hk with k1 | ⟨k1, k2⟩
    all_goals
      go_wp2_with fail
      refine HC.out.mono ?_; rintro e w5 ⟨rfl, d5, f5⟩
      have H6 := Lib.hid (And.intro d5 (H5.out.2.trans f5 fun i hi e => absurd (show i = g from e) (Nat.ne_of_lt (Nat.lt_of_lt_of_le hi H3.out.2.2))))
      clear d5 f5
      go_wp2_with fail
      (with_reducible refine (HL.out _ g p at_ HP.out H6.out.1).mono ?_); rintro e w6 ⟨rfl, f6⟩
      have F6 := Lib.hid (H6.out.2.trans' f6)
      clear f6
      rcases hE with rfl | rfl <;> (go_wp2_with fail; go_ret; exact ⟨rfl, F6.out⟩)
theorem oracleBounds_any (m0 p0 q a0 n0 : Nat) (h0 : m0 < 18446744073709551616) (h1 : p0 < 18446744073709551616) (h2 : q < 18446744073709551616) (h3 : a0 < 18446744073709551616) (h4 : n0 < 18446744073709551616) (w : World) :
    Calls Try.prog 3 #[.int .u64 (m0 : Int), .int .u64 (p0 : Int), .int .u64 (q : Int), .int .u64 (a0 : Int), .int .u64 (n0 : Int)] w fun e w' => e = .returned (.bool true) ∧ Fr F0 w w' :=
  oracleBounds_core m0 p0 q a0 n0 _ _ _ _ _ _ _ rfl rfl rfl rfl rfl rfl rfl w
end Go.Proofs.Ytjpglipjmnbniaa
