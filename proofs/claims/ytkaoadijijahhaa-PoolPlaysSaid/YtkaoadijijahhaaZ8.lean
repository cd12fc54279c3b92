import Derived.Test.YtkaoadijijahhaaZ6
import Derived.Test.YtkaoadijijahhaaZ7
import Derived.Test.YtkaoadijijahhaaZ1
import Derived.Test.YtkaoadijijahhaaZ4
import Derived.Deep.Cut
import Derived.Deep.CutBlock
import Derived.ProofKit
import Derived.Deep.Slices
import Derived.Deep.Fields
import Derived.OpenShut
import Derived.Below
/- Layer 19 (pool): a pool in memory; Share, Burn, Take. -/
namespace Go.Proofs.Ytkaoadijijahhaa
set_option maxRecDepth 100000
set_option linter.unusedVariables false
set_option linter.unusedSimpArgs false
open Go.RowKit

theorem Try.szPool : (Try.prog.info? 28).map (·.size) = some 2 := by kernel_rfl
@[go_sem ↓ high] theorem load_pool (p : Value) : Instr.loadAt 28 p = loadRowAt 28 p := rfl
@[go_sem ↓ high] theorem store_pool (p v : Value) : Instr.storeAt 28 p v = storeRowAt 28 p v := rfl
@[go_sem] theorem run_load_pool (w : World) (g : Nat) : (loadRowAt 28 (.pointer (some ⟨g, 0, none⟩))).run Try.prog w = rowOut Try.prog 28 (.pointer (some ⟨g, 0, none⟩)) w 2 w.heap[g]? :=
  run_loadRowAt w _ g 2 _ Try.underlying28 rfl Try.szPool
@[go_sem] theorem run_store_pool (w : World) (g : Nat) (cells : Array Value) : (storeRowAt 28 (.pointer (some ⟨g, 0, none⟩)) (.agg cells)).run Try.prog w = rowIn Try.prog 28 (.pointer (some ⟨g, 0, none⟩)) cells g w 2 w.heap[g]? :=
  run_storeRowAt w _ g 2 cells Try.szPool

/-- A pool behind p: its collateral, for how many tokens. -/
structure PL (w : World) (p c i : Nat) : Prop where
  at_ : w.heap[p]? = some (.cells #[.int .u64 (c : Int), .int .u64 (i : Int)] 28 (0, 0))
  coll : c ≤ 4611686018427387904
  iss : i ≤ 4611686018427387904
section
variable {w w' : World} {p c i : Nat}
theorem PL.fr {S : Nat → Prop} (d : PL w p c i) (r : Fr S w w') (hp : ¬ S p) : PL w' p c i := ⟨r.keeps hp d.at_, d.coll, d.iss⟩
theorem PL.fr0 (d : PL w p c i) (r : Fr F0 w w') : PL w' p c i := d.fr r fun x => x
theorem PL.lt (d : PL w p c i) : p < w.heap.size := (Array.getElem?_eq_some_iff.1 d.at_).1
theorem PL.set {c' i' : Nat} (d : PL w p c i) (hc : c' ≤ 4611686018427387904) (hi : i' ≤ 4611686018427387904) :
    PL ((w.setCell ⟨p, 0, none⟩ (.int .u64 (c' : Int))).setCell ⟨p, 1, none⟩ (.int .u64 (i' : Int))) p c' i' ∧ Fr (fun k => k = p) w ((w.setCell ⟨p, 0, none⟩ (.int .u64 (c' : Int))).setCell ⟨p, 1, none⟩ (.int .u64 (i' : Int))) := by
  refine ⟨⟨?_, hc, hi⟩, ((Fr.refl (fun k => k = p) w).setCell (p := ⟨p, 0, none⟩) (fun _ => rfl) _).setCell (p := ⟨p, 1, none⟩) (fun _ => rfl) _⟩
  rw [heap_setCell_at, heap_setCell_at, d.at_]
  rfl
theorem PL.set2 {c' i' : Nat} (d : PL w p c i) (hc : c' ≤ 4611686018427387904) (hi : i' ≤ 4611686018427387904) :
    PL ((w.setCell ⟨p, 1, none⟩ (.int .u64 (i' : Int))).setCell ⟨p, 0, none⟩ (.int .u64 (c' : Int))) p c' i' ∧ Fr (fun k => k = p) w ((w.setCell ⟨p, 1, none⟩ (.int .u64 (i' : Int))).setCell ⟨p, 0, none⟩ (.int .u64 (c' : Int))) := by
  refine ⟨⟨?_, hc, hi⟩, ((Fr.refl (fun k => k = p) w).setCell (p := ⟨p, 1, none⟩) (fun _ => rfl) _).setCell (p := ⟨p, 0, none⟩) (fun _ => rfl) _⟩
  rw [heap_setCell_at, heap_setCell_at, d.at_]
  rfl
end

/-- What burning a of i brings. -/
def shV (c i a : Nat) : Nat := if 1 ≤ a ∧ a ≤ i then c * a / i else 0
def shE (i a : Nat) : Int := if 1 ≤ a ∧ a ≤ 4611686018427387904 then (if a ≤ i then 0 else 16) else 1
theorem shV_ok {c i a : Nat} (h1 : 1 ≤ a) (h2 : a ≤ i) : shV c i a = c * a / i := if_pos ⟨h1, h2⟩
theorem shE_ok {i a : Nat} (h1 : 1 ≤ a) (h2 : a ≤ i) (hi : i ≤ 4611686018427387904) : shE i a = 0 := by
  unfold shE
  rw [if_pos ⟨h1, by omega⟩, if_pos h2]
theorem shE_few {i a : Nat} (h1 : 1 ≤ a) (h2 : i < a) (h3 : a ≤ 4611686018427387904) : shE i a = 16 ∧ ∀ c, shV c i a = 0 := by
  refine ⟨?_, fun c => if_neg (by omega)⟩
  unfold shE
  rw [if_pos ⟨h1, h3⟩, if_neg (by omega)]
theorem shE_arg {i a : Nat} (h : ¬ (1 ≤ a ∧ a ≤ 4611686018427387904)) (hi : i ≤ 4611686018427387904) : shE i a = 1 ∧ ∀ c, shV c i a = 0 := by
  refine ⟨?_, fun c => if_neg (by omega)⟩
  unfold shE
  rw [if_neg h]
theorem share_le {c i a : Nat} (h : a ≤ i) : c * a / i ≤ c := by
  rcases Nat.eq_zero_or_pos i with h0 | h0
  · subst h0; simp
  · exact Nat.div_le_of_le_mul (by rw [Nat.mul_comm i c]; exact Nat.mul_le_mul_left _ h)
theorem shV_le (c i a : Nat) : shV c i a ≤ c := by
  unfold shV
  split
  · rename_i h; exact share_le h.2
  · omega
theorem paV_share {c i a : Nat} (hc : c ≤ 4611686018427387904) (h1 : 1 ≤ a) (h2 : a ≤ i) : paV c a i false = c * a / i ∧ paE c a i false = 0 := by
  have hle := share_le (c := c) h2
  have hq : ptQ c a i false = c * a / i := by
    unfold ptQ
    rw [if_neg fun h => by cases h.1]
  unfold paV paE ptA ptE
  rw [hq, if_pos ⟨hc, by omega⟩, if_pos hc, if_pos (show 0 < i by omega), if_pos (by omega), if_pos (by omega)]
  exact ⟨rfl, rfl⟩

set_option maxHeartbeats 4000000 in
theorem pShare_any (c i a : Nat) (hc : c ≤ 4611686018427387904) (hi : i ≤ 4611686018427387904) (ha : a < 18446744073709551616) (w : World) :
    Calls Try.prog 7 #[.agg #[.int .u64 (c : Int), .int .u64 (i : Int)], .int .u64 (a : Int)] w fun e w' => e = .returned (.tuple #[.int .u64 (shV c i a : Nat), .int .i64 (shE i a)]) ∧ Fr F0 w w' := by
  by_cases h0 : 1 ≤ a
  · have l0 : ¬ (a : Int) < 1 := by omega
    have d0 : decide ((a : Int) < 1) = false := decide_eq_false l0
    by_cases h1 : a ≤ 4611686018427387904
    · have HR := Lib.hid (aRight_any a true (decide_eq_true h1))
      by_cases h2 : a ≤ i
      · have HP := Lib.hid (fun w => aPart_any c a i false ha (by omega) w)
        obtain ⟨e1, e2⟩ := paV_share hc h0 h2
        rw [e1, e2] at HP
        rw [shV_ok h0 h2, shE_ok h0 h2 hi]
        have l2 : ¬ (i : Int) < (a : Int) := by omega
        clear h0 h1 h2 e1 e2 hc hi ha
        generalize c * a / i = q at *
        go_enter Try.func7, Try.ntmps7
        go_wp2_with fail
        (with_reducible refine (HR.out _).mono ?_); rintro e w1 ⟨rfl, hw⟩; replace hw := hw.symm; subst hw
        go_wp2_with fail
        (with_reducible refine (HP.out _).mono ?_); rintro e w2 ⟨rfl, f2⟩
        have F2 := Lib.hid (((Fr.refl F0 w).alloc _).trans' f2)
        clear f2
        go_wp2_with fail
        go_ret2
        exact ⟨rfl, F2.out⟩
      · obtain ⟨e1, e2⟩ := shE_few (i := i) h0 (by omega) h1
        rw [e1, e2 c]
        have l2 : (i : Int) < (a : Int) := by omega
        clear h0 h1 h2 e1 e2 hc hi ha
        go_enter Try.func7, Try.ntmps7
        go_wp2_with fail
        (with_reducible refine (HR.out _).mono ?_); rintro e w1 ⟨rfl, hw⟩; replace hw := hw.symm; subst hw
        go_wp2_with fail
        go_ret2
        exact ⟨rfl, (Fr.refl F0 w).alloc _⟩
    · have HR := Lib.hid (aRight_any a false (decide_eq_false h1))
      obtain ⟨e1, e2⟩ := shE_arg (i := i) (a := a) (by omega) hi
      rw [e1, e2 c]
      clear h0 h1 e1 e2 hc hi ha
      go_enter Try.func7, Try.ntmps7
      go_wp2_with fail
      (with_reducible refine (HR.out _).mono ?_); rintro e w1 ⟨rfl, hw⟩; replace hw := hw.symm; subst hw
      go_wp2_with fail
      go_ret2
      exact ⟨rfl, (Fr.refl F0 w).alloc _⟩
  · obtain rfl : a = 0 := by omega
    obtain ⟨e1, e2⟩ := shE_arg (i := i) (a := 0) (by omega) hi
    rw [e1, e2 c]
    clear h0 e1 e2 hc hi ha
    go_enter Try.func7, Try.ntmps7
    go_wp2_with fail
    go_ret2
    exact ⟨rfl, (Fr.refl F0 w).alloc _⟩

/-- What of the tokens goes. -/
def gnN (i a : Nat) : Nat := if 1 ≤ a ∧ a ≤ i then a else 0
set_option maxHeartbeats 4000000 in
theorem pBurn_any {w : World} {p c i : Nat} (d : PL w p c i) (a : Nat) (ha : a < 18446744073709551616) :
    Calls Try.prog 8 #[.pointer (some ⟨p, 0, none⟩), .int .u64 (a : Int)] w fun e w' => e = .returned (.tuple #[.int .u64 (shV c i a : Nat), .int .i64 (shE i a)]) ∧ PL w' p (c - shV c i a) (i - gnN i a) ∧ Fr (fun k => k = p) w w' := by
  have HS := Lib.hid (fun w => pShare_any c i a d.coll d.iss ha w)
  have e0 := d.at_
  have HD := Lib.hid (fun (W : World) (F : Fr F0 w W) => (d.fr0 F))
  by_cases h : 1 ≤ a ∧ a ≤ i
  · have hle := shV_le c i a
    have hc := d.coll
    have hi := d.iss
    rw [shE_ok h.1 h.2 hi] at HS ⊢
    rw [show gnN i a = a from if_pos h]
    generalize shV c i a = s at *
    obtain ⟨c', hc'⟩ : ∃ n, c - s = n := ⟨_, rfl⟩
    obtain ⟨i', hi'⟩ : ∃ n, i - a = n := ⟨_, rfl⟩
    rw [hc', hi']
    have k1 : IntKind.u64.wrap ((c : Int) - (s : Int)) = (c' : Int) := by rw [IntWalk.u64_in _ (by omega)]; omega
    have k2 : IntKind.u64.wrap ((i : Int) - (a : Int)) = (i' : Int) := by rw [IntWalk.u64_in _ (by omega)]; omega
    have HW := Lib.hid (fun (W : World) (F : Fr F0 w W) => (d.fr0 F).set (c' := c') (i' := i') (by omega) (by omega))
    clear d ha h hle hc hi hc' hi'
    go_enter Try.func8, Try.ntmps8
    go_wp2_with fail
    (with_reducible refine (HS.out _).mono ?_); rintro e w1 ⟨rfl, f1⟩
    have e1 := (HD.out w1 f1).at_
    have F1 := Lib.hid f1
    clear f1
    go_wp2_with fail
    go_ret2
    exact ⟨rfl, (HW.out w1 F1.out).1, F1.out.of0.trans' (HW.out w1 F1.out).2⟩
  · have hE : (shE i a = 16 ∨ shE i a = 1) ∧ shV c i a = 0 := by
      by_cases h1 : 1 ≤ a ∧ a ≤ 4611686018427387904
      · obtain ⟨x, y⟩ := shE_few (i := i) h1.1 (by omega) h1.2
        exact ⟨.inl x, y c⟩
      · obtain ⟨x, y⟩ := shE_arg (i := i) h1 d.iss
        exact ⟨.inr x, y c⟩
    rw [show gnN i a = 0 from if_neg h]
    rw [hE.2] at HS ⊢
    rw [Nat.sub_zero, Nat.sub_zero]
    obtain ⟨hE, -⟩ := hE
    clear d ha h
    rcases hE with hE | hE
    all_goals
      rw [hE] at HS ⊢
      clear hE
      go_enter Try.func8, Try.ntmps8
      go_wp2_with fail
      (with_reducible refine (HS.out _).mono ?_); rintro e w1 ⟨rfl, f1⟩
      have F1 := Lib.hid f1
      clear f1
      go_wp2_with fail
      go_ret2
      exact ⟨rfl, HD.out w1 F1.out, F1.out.of0⟩
set_option maxHeartbeats 4000000 in
theorem pBurn_nil (a : Nat) (w : World) : Calls Try.prog 8 #[.pointer none, .int .u64 (a : Int)] w fun e w' => e = .returned (.tuple #[.int .u64 0, .int .i64 1]) ∧ w' = w := by
  go_enter Try.func8, Try.ntmps8
  go_wp2
  go_ret2
  exact ⟨rfl, rfl⟩

/-- What may be taken. -/
def tkE (c i x y : Nat) : Int := if x ≤ 4611686018427387904 ∧ y ≤ 4611686018427387904 then (if c + x ≤ 4611686018427387904 ∧ i + y ≤ 4611686018427387904 then 0 else 4) else 1
def tkN (c i x y z n : Nat) : Nat := if (x ≤ 4611686018427387904 ∧ y ≤ 4611686018427387904) ∧ c + x ≤ 4611686018427387904 ∧ i + y ≤ 4611686018427387904 then z + n else z
theorem tkE_arg {c i x y : Nat} (h : ¬ (x ≤ 4611686018427387904 ∧ y ≤ 4611686018427387904)) : tkE c i x y = 1 ∧ ∀ z n, tkN c i x y z n = z := ⟨if_neg h, fun z n => if_neg fun e => h e.1⟩
theorem tkE_over {c i x y : Nat} (h : x ≤ 4611686018427387904 ∧ y ≤ 4611686018427387904) (h2 : ¬ (c + x ≤ 4611686018427387904 ∧ i + y ≤ 4611686018427387904)) : tkE c i x y = 4 ∧ ∀ z n, tkN c i x y z n = z := ⟨by unfold tkE; rw [if_pos h, if_neg h2], fun z n => if_neg fun e => h2 e.2⟩
theorem tkE_ok {c i x y : Nat} (h : x ≤ 4611686018427387904 ∧ y ≤ 4611686018427387904) (h2 : c + x ≤ 4611686018427387904 ∧ i + y ≤ 4611686018427387904) : tkE c i x y = 0 ∧ ∀ z n, tkN c i x y z n = z + n := ⟨by unfold tkE; rw [if_pos h, if_pos h2], fun z n => if_pos ⟨h, h2⟩⟩

theorem adE_fit19 {a x : Nat} (h : a + x ≤ 4611686018427387904) : adE a x = 0 ∧ adV a x = a + x := by
  unfold adE adV
  rw [if_pos ⟨by omega, by omega⟩, if_pos h, if_pos ⟨by omega, by omega, h⟩]
  exact ⟨rfl, rfl⟩
theorem adE_over19 {a x : Nat} (ha : a ≤ 4611686018427387904) (hx : x ≤ 4611686018427387904) (h : ¬ a + x ≤ 4611686018427387904) : adE a x = 4 ∧ adV a x = 0 := by
  unfold adE adV
  rw [if_pos ⟨ha, hx⟩, if_neg h, if_neg fun e => h e.2.2]
  exact ⟨rfl, rfl⟩

set_option maxHeartbeats 8000000 in
theorem pTake_any {w : World} {p c i : Nat} (d : PL w p c i) (x y : Nat) (hx : x < 18446744073709551616) (hy : y < 18446744073709551616) :
    Calls Try.prog 6 #[.pointer (some ⟨p, 0, none⟩), .int .u64 (x : Int), .int .u64 (y : Int)] w fun e w' => e = .returned (.int .i64 (tkE c i x y)) ∧ PL w' p (tkN c i x y c x) (tkN c i x y i y) ∧ Fr (fun k => k = p) w w' := by
  have e0 := d.at_
  have HD := Lib.hid (fun (W : World) (F : Fr F0 w W) => (d.fr0 F))
  by_cases h1 : x ≤ 4611686018427387904
  · have H1 := Lib.hid (aRight_any x true (decide_eq_true h1))
    by_cases h2 : y ≤ 4611686018427387904
    · have H2 := Lib.hid (aRight_any y true (decide_eq_true h2))
      have hc := d.coll
      have hi := d.iss
      have HA := Lib.hid (fun w => aAdd_any c x (by omega) hx w)
      have HB := Lib.hid (fun w => aAdd_any i y (by omega) hy w)
      by_cases h3 : c + x ≤ 4611686018427387904
      · obtain ⟨a1, a2⟩ := adE_fit19 h3
        rw [a1, a2] at HA
        by_cases h4 : i + y ≤ 4611686018427387904
        · obtain ⟨b1, b2⟩ := adE_fit19 h4
          rw [b1, b2] at HB
          obtain ⟨t1, t2⟩ := tkE_ok ⟨h1, h2⟩ ⟨h3, h4⟩
          rw [t1, t2, t2]
          have HW := Lib.hid (fun (W : World) (F : Fr F0 w W) => (d.fr0 F).set (c' := c + x) (i' := i + y) h3 h4)
          have HV := Lib.hid (fun (W : World) (F : Fr F0 w W) => (d.fr0 F).set2 (c' := c + x) (i' := i + y) h3 h4)
          clear d hx hy h1 h2 h3 h4 a1 a2 b1 b2 t1 t2 hc hi
          generalize c + x = c' at *
          generalize i + y = i' at *
          go_enter Try.func6, Try.ntmps6
          go_wp2_with fail
          (with_reducible refine (H1.out _).mono ?_); rintro e w1 ⟨rfl, hw⟩; replace hw := hw.symm; subst hw
          go_wp2_with fail
          (with_reducible refine (H2.out _).mono ?_); rintro e w1 ⟨rfl, hw⟩; replace hw := hw.symm; subst hw
          go_wp2_with fail
          (with_reducible refine (HA.out _).mono ?_); rintro e w1 ⟨rfl, f1⟩
          have e1 := (HD.out w1 f1).at_
          have F1 := Lib.hid f1
          clear f1
          go_wp2_with fail
          (with_reducible refine (HB.out _).mono ?_); rintro e w2 ⟨rfl, f2⟩
          have F2 := Lib.hid (F1.out.trans' f2)
          have e2 := (HD.out w2 F2.out).at_
          clear f2 e1
          go_wp2_with fail
          all_goals
            go_ret
            first
              | exact ⟨rfl, (HW.out w2 F2.out).1, F2.out.of0.trans' (HW.out w2 F2.out).2⟩
              | exact ⟨rfl, (HV.out w2 F2.out).1, F2.out.of0.trans' (HV.out w2 F2.out).2⟩
        · obtain ⟨b1, b2⟩ := adE_over19 hi h2 h4
          rw [b1, b2] at HB
          obtain ⟨t1, t2⟩ := tkE_over (c := c) (i := i) ⟨h1, h2⟩ (fun e => h4 e.2)
          rw [t1, t2, t2]
          clear d hx hy h1 h2 h3 h4 a1 a2 b1 b2 t1 t2 hc hi
          generalize c + x = c' at *
          go_enter Try.func6, Try.ntmps6
          go_wp2_with fail
          (with_reducible refine (H1.out _).mono ?_); rintro e w1 ⟨rfl, hw⟩; replace hw := hw.symm; subst hw
          go_wp2_with fail
          (with_reducible refine (H2.out _).mono ?_); rintro e w1 ⟨rfl, hw⟩; replace hw := hw.symm; subst hw
          go_wp2_with fail
          (with_reducible refine (HA.out _).mono ?_); rintro e w1 ⟨rfl, f1⟩
          have e1 := (HD.out w1 f1).at_
          have F1 := Lib.hid f1
          clear f1
          go_wp2_with fail
          (with_reducible refine (HB.out _).mono ?_); rintro e w2 ⟨rfl, f2⟩
          have F2 := Lib.hid (F1.out.trans' f2)
          clear f2 e1
          go_wp2_with fail
          go_ret
          exact ⟨rfl, HD.out w2 F2.out, F2.out.of0⟩
      · obtain ⟨a1, a2⟩ := adE_over19 hc h1 h3
        rw [a1, a2] at HA
        obtain ⟨t1, t2⟩ := tkE_over (c := c) (i := i) ⟨h1, h2⟩ (fun e => h3 e.1)
        rw [t1, t2, t2]
        clear d hx hy h1 h2 h3 a1 a2 t1 t2 hc hi
        go_enter Try.func6, Try.ntmps6
        go_wp2_with fail
        (with_reducible refine (H1.out _).mono ?_); rintro e w1 ⟨rfl, hw⟩; replace hw := hw.symm; subst hw
        go_wp2_with fail
        (with_reducible refine (H2.out _).mono ?_); rintro e w1 ⟨rfl, hw⟩; replace hw := hw.symm; subst hw
        go_wp2_with fail
        (with_reducible refine (HA.out _).mono ?_); rintro e w1 ⟨rfl, f1⟩
        have F1 := Lib.hid f1
        clear f1
        go_wp2_with fail
        go_ret
        exact ⟨rfl, HD.out w1 F1.out, F1.out.of0⟩
    · have H2 := Lib.hid (aRight_any y false (decide_eq_false h2))
      obtain ⟨t1, t2⟩ := tkE_arg (c := c) (i := i) (x := x) (y := y) (fun e => h2 e.2)
      rw [t1, t2, t2]
      clear d hx hy h1 h2 t1 t2
      go_enter Try.func6, Try.ntmps6
      go_wp2_with fail
      (with_reducible refine (H1.out _).mono ?_); rintro e w1 ⟨rfl, hw⟩; replace hw := hw.symm; subst hw
      go_wp2_with fail
      (with_reducible refine (H2.out _).mono ?_); rintro e w1 ⟨rfl, hw⟩; replace hw := hw.symm; subst hw
      go_wp2_with fail
      go_ret
      exact ⟨rfl, HD.out _ (Fr.refl _ _), Fr.refl _ _⟩
  · have H1 := Lib.hid (aRight_any x false (decide_eq_false h1))
    obtain ⟨t1, t2⟩ := tkE_arg (c := c) (i := i) (x := x) (y := y) (fun e => h1 e.1)
    rw [t1, t2, t2]
    clear d hx hy h1 t1 t2
    go_enter Try.func6, Try.ntmps6
    go_wp2_with fail
    (with_reducible refine (H1.out _).mono ?_); rintro e w1 ⟨rfl, hw⟩; replace hw := hw.symm; subst hw
    go_wp2_with fail
    go_ret
    exact ⟨rfl, HD.out _ (Fr.refl _ _), Fr.refl _ _⟩
set_option maxHeartbeats 4000000 in
theorem pTake_nil (x y : Nat) (w : World) : Calls Try.prog 6 #[.pointer none, .int .u64 (x : Int), .int .u64 (y : Int)] w fun e w' => e = .returned (.int .i64 1) ∧ w' = w := by
  go_enter Try.func6, Try.ntmps6
  go_wp2
  go_ret
  exact ⟨rfl, rfl⟩
end Go.Proofs.Ytkaoadijijahhaa

/- Layer 19 (pool): the chapter's example; shares in parts; the law PoolShares, walked. -/
namespace Go.Proofs.Ytkaoadijijahhaa
set_option maxRecDepth 100000
set_option linter.unusedVariables false
set_option linter.unusedSimpArgs false
open Go.RowKit

/-- A share that there is. -/
theorem pBurn_ok {w : World} {p c i : Nat} (d : PL w p c i) {a x c' i' : Nat} (h : 1 ≤ a ∧ a ≤ i) (hx : c * a / i = x) (hc : c - x = c') (hi : i - a = i') :
    Calls Try.prog 8 #[.pointer (some ⟨p, 0, none⟩), .int .u64 (a : Int)] w fun e w' => e = .returned (.tuple #[.int .u64 (x : Int), .int .i64 0]) ∧ PL w' p c' i' ∧ Fr (fun k => k = p) w w' := by
  have := pBurn_any d a (by have := d.iss; omega)
  rwa [shV_ok h.1 h.2, shE_ok h.1 h.2 d.iss, show gnN i a = a from if_pos h, hx, hc, hi] at this

set_option maxHeartbeats 4000000 in
theorem lives19_any (w : World) : Calls Try.prog 5 #[] w fun e w' => e = .returned (.bool true) ∧ Fr F0 w w' := by
  have hb : ∀ w : World, (Instr.build 28 #[(0, .int .u64 10), (1, .int .u64 4)]).run Try.prog w = .ok (.agg #[.int .u64 10, .int .u64 4]) w := fun w => run_build w _ _ _ (by kernel_rfl)
  have HB := Lib.hid (fun (W : World) (g : Nat) (d : PL W g 10 4) => show Calls Try.prog 8 #[.pointer (some ⟨g, 0, none⟩), .int .u64 1] W _ from pBurn_ok d (a := 1) (x := 2) (c' := 8) (i' := 3) (by omega) rfl rfl rfl)
  have oS : rowOne #[Value.int .u64 10, .int .u64 4] := by unfold rowOne; kernel_rfl
  go_enter Try.func5, Try.ntmps5
  go_upto_region 2 with fail
  refine wp_put fun W N => ?_
  have P1 := Lib.hid (show PL W w.heap.size 10 4 from ⟨N.new, by omega, by omega⟩)
  have F1 := Lib.hid N.fr
  clear N
  obtain ⟨g, hg⟩ : ∃ g, w.heap.size = g := ⟨_, rfl⟩
  rw [hg] at P1 ⊢
  replace hg := Lib.hid hg
  go_wp2_with fail
  (with_reducible refine (HB.out _ g P1.out).mono ?_); rintro e w2 ⟨rfl, d2, f2⟩
  have e2 := d2.at_
  have F2 := Lib.hid (F1.out.trans f2 fun i hi e => absurd (show i = g from e) (by have := hg.out; omega))
  clear d2 f2
  go_wp2_with fail
  go_ret
  exact ⟨rfl, F2.out⟩

/-- What two parts bring, beside both at once: no more, and less by at most one. -/
theorem parts_is {c1 x y a b d r s : Nat} (h1 : c1 * a = x * (b + d) + r) (h2 : c1 * b = y * (b + d) + s) :
    (x + y) * (b + d + a) * (b + d) + s * (b + d + a) + r * d = (c1 + x) * (a + b) * (b + d) := by
  have e1 : c1 * a * d = x * (b + d) * d + r * d := by rw [h1, Nat.add_mul]
  have e2 : c1 * b * (b + d + a) = y * (b + d) * (b + d + a) + s * (b + d + a) := by rw [h2, Nat.add_mul]
  simp only [Nat.mul_add, Nat.add_mul, Nat.mul_assoc, Nat.mul_comm, Nat.mul_left_comm] at e1 e2 ⊢
  omega
theorem parts_near {c i a b x y z : Nat} (ha : 1 ≤ a) (hb : 1 ≤ b) (hab : a + b ≤ i) (hx : c * a / i = x) (hy : (c - x) * b / (i - a) = y) (hz : c * (a + b) / i = z) :
    x + y ≤ z ∧ z ≤ x + y + 1 := by
  obtain ⟨d, rfl⟩ : ∃ d, i = b + d + a := ⟨i - a - b, by omega⟩
  have hxc : x ≤ c := by rw [← hx]; exact share_le (by omega)
  obtain ⟨c1, rfl⟩ : ∃ c1, c = c1 + x := ⟨c - x, by omega⟩
  rw [Nat.add_sub_cancel, Nat.add_sub_cancel] at hy
  have p1 : 0 < b + d + a := by omega
  have p2 : 0 < b + d := by omega
  obtain ⟨r, hr⟩ : ∃ r, (c1 + x) * a % (b + d + a) = r := ⟨_, rfl⟩
  obtain ⟨s, hs⟩ : ∃ s, c1 * b % (b + d) = s := ⟨_, rfl⟩
  have lr : r < b + d + a := by rw [← hr]; exact Nat.mod_lt _ p1
  have ls : s < b + d := by rw [← hs]; exact Nat.mod_lt _ p2
  have q1 : (c1 + x) * a = x * (b + d + a) + r := by
    have := Nat.div_add_mod ((c1 + x) * a) (b + d + a)
    rw [hx, hr, Nat.mul_comm] at this
    exact this.symm
  have q2 : c1 * b = y * (b + d) + s := by
    have := Nat.div_add_mod (c1 * b) (b + d)
    rw [hy, hs, Nat.mul_comm] at this
    exact this.symm
  have q3 : c1 * a = x * (b + d) + r := by
    rw [Nat.add_mul, Nat.mul_add x (b + d) a] at q1
    omega
  have E := parts_is q3 q2
  constructor
  · rw [← hz, Nat.le_div_iff_mul_le p1]
    refine Nat.le_of_mul_le_mul_right ?_ p2
    rw [← E]
    omega
  · have : z < x + y + 2 := by
      rw [← hz, Nat.div_lt_iff_lt_mul p1]
      refine Nat.lt_of_mul_lt_mul_right (a := b + d) ?_
      rw [← E]
      have t1 : s * (b + d + a) < (b + d) * (b + d + a) := Nat.mul_lt_mul_of_pos_right ls p1
      have t2 : r * d ≤ (b + d + a) * (b + d) := Nat.mul_le_mul (Nat.le_of_lt lr) (by omega)
      have t3 : (x + y + 2) * (b + d + a) * (b + d) = (x + y) * (b + d + a) * (b + d) + 2 * ((b + d + a) * (b + d)) := by
        rw [Nat.add_mul, Nat.add_mul, Nat.mul_assoc 2]
      rw [t3]
      rw [Nat.mul_comm (b + d) (b + d + a)] at t1
      omega
    omega
theorem part_all {c i : Nat} (h : 0 < i) : c * i / i = c := Nat.mul_div_cancel _ h

set_option maxRecDepth 100000 in
theorem run_eqlPool (w : World) : (binOp .eql 28 (.agg #[.int .u64 0, .int .u64 0]) (.agg #[.int .u64 0, .int .u64 0])).run Try.prog w = .ok (.bool true) w := by
  have hf : Try.prog.fieldsOf 28 = (match Try.prog.underlying 28 with | some (.struct fs) => fs | _ => #[]) := rfl
  rw [Try.underlying28] at hf
  have hu : Try.prog.underlying 28 = some (.struct (Try.prog.fieldsOf 28)) := by rw [hf, Try.underlying28]
  have he : (Op.equalIn 10000 28 (.agg #[.int .u64 0, .int .u64 0]) (.agg #[.int .u64 0, .int .u64 0])).run Try.prog w = .ok true w := by
    rw [run_equalIn_struct w 9999 28 _ _ hu (by kernel_rfl), hf]
    have pk : Try.prog.plainKey 26 = true := by kernel_rfl
    have A1 : (part 26 #[Value.int .u64 0, .int .u64 0] 0).run Try.prog w = .ok (.int .u64 0) w := run_part_plain w pk rfl
    have A2 : (part 26 #[Value.int .u64 0, .int .u64 0] 1).run Try.prog w = .ok (.int .u64 0) w := run_part_plain w pk rfl
    simp only [Op.eqFields, Sem.run_bind, A1, A2, run_equalIn_int w 9998 26 .u64 .u64 _ _ Try.underlying26, Result.andThen_ok, Sem.run_ite, Sem.run_pure]
    simp
  simp only [binOp]
  simp [show Op.equal 28 (.agg #[.int .u64 0, .int .u64 0]) (.agg #[.int .u64 0, .int .u64 0]) = Op.equalIn 10000 28 (.agg #[.int .u64 0, .int .u64 0]) (.agg #[.int .u64 0, .int .u64 0]) from rfl, he]
end Go.Proofs.Ytkaoadijijahhaa

/- Layer 19 (pool): the law PoolShares, walked. -/
namespace Go.Proofs.Ytkaoadijijahhaa
set_option maxRecDepth 100000
set_option linter.unusedVariables false
set_option linter.unusedSimpArgs false
open Go.RowKit

set_option maxRecDepth 100000 in
set_option maxHeartbeats 32000000 in
theorem poolShares_core (c0 i0 a0 b0 c i q r a q2 r2 b : Nat) (hc : c0 % 4611686018427387905 = c) (hi : i0 % 4611686018427387905 = i) (hq : i - 1 = q) (hr : a0 % q = r) (ha : 1 + r = a) (hq2 : i - a = q2) (hr2 : b0 % q2 = r2) (hb : 1 + r2 = b) (w : World) :
    Calls Try.prog 4 #[.int .u64 (c0 : Int), .int .u64 (i0 : Int), .int .u64 (a0 : Int), .int .u64 (b0 : Int)] w fun e w' => e = .returned (.bool true) ∧ Fr F0 w w' := by
  have hL := Lib.hid lives19_any
  have g1 : (c0 : Int) % 4611686018427387905 = (c : Int) := by omega
  have g2 : (i0 : Int) % 4611686018427387905 = (i : Int) := by omega
  have hc2 : c ≤ 4611686018427387904 := by omega
  have hi2 : i ≤ 4611686018427387904 := by omega
  by_cases h2 : i < 2
  · have l2 : (i : Int) < 2 := by omega
    clear hc hi hq hr ha hq2 hr2 hb hc2 hi2
    go_enter Try.func4, Try.ntmps4
    go_wp2_with fail
    (with_reducible refine (hL.out _).mono ?_); rintro e w1 ⟨rfl, f1⟩
    have F1 := Lib.hid f1
    clear f1
    go_wp2_with fail
    go_ret
    exact ⟨rfl, F1.out⟩
  · have l2 : ¬ (i : Int) < 2 := by omega
    have hq0 : 0 < q := by omega
    have hrq : r < q := by rw [← hr]; exact Nat.mod_lt _ hq0
    have hq20 : 0 < q2 := by omega
    have hr2q : r2 < q2 := by rw [← hr2]; exact Nat.mod_lt _ hq20
    have g3 : IntKind.u64.wrap ((i : Int) - 1) = (q : Int) := by rw [IntWalk.u64_in _ (by omega)]; omega
    have g4 : (a0 : Int) % (q : Int) = (r : Int) := by rw [← hr]; rfl
    have g5 : IntKind.u64.wrap (1 + (r : Int)) = (a : Int) := by rw [IntWalk.u64_in _ (by omega)]; omega
    have g6 : IntKind.u64.wrap ((i : Int) - (a : Int)) = (q2 : Int) := by rw [IntWalk.u64_in _ (by omega)]; omega
    have g7 : (b0 : Int) % (q2 : Int) = (r2 : Int) := by rw [← hr2]; rfl
    have g8 : IntKind.u64.wrap (1 + (r2 : Int)) = (b : Int) := by rw [IntWalk.u64_in _ (by omega)]; omega
    have n1 : ¬ (q : Int) = 0 := by omega
    have n2 : ¬ (q2 : Int) = 0 := by omega
    have n3 : ¬ q = 0 := by omega
    have n4 : ¬ q2 = 0 := by omega
    obtain ⟨ab, hab⟩ : ∃ n, a + b = n := ⟨_, rfl⟩
    have g9 : IntKind.u64.wrap ((a : Int) + (b : Int)) = (ab : Int) := by rw [IntWalk.u64_in _ (by omega)]; omega
    obtain ⟨x, hx⟩ : ∃ n, c * a / i = n := ⟨_, rfl⟩
    obtain ⟨c1, hc1⟩ : ∃ n, c - x = n := ⟨_, rfl⟩
    obtain ⟨y, hy⟩ : ∃ n, c1 * b / q2 = n := ⟨_, rfl⟩
    obtain ⟨z, hz⟩ : ∃ n, c * ab / i = n := ⟨_, rfl⟩
    obtain ⟨c2, hc2'⟩ : ∃ n, c1 - y = n := ⟨_, rfl⟩
    obtain ⟨c3, hc3⟩ : ∃ n, c - z = n := ⟨_, rfl⟩
    obtain ⟨rs, hrs⟩ : ∃ n, q2 - b = n := ⟨_, rfl⟩
    have near := parts_near (c := c) (i := i) (a := a) (b := b) (x := x) (y := y) (z := z) (by omega) (by omega) (by omega) hx (by rw [hc1, hq2]; exact hy) (by rw [hab]; exact hz)
    have xc : x ≤ c := by rw [← hx]; exact share_le (by omega)
    have yc : y ≤ c1 := by rw [← hy]; exact share_le (by omega)
    have zc : z ≤ c := by rw [← hz]; exact share_le (by omega)
    have last : rs = 0 → c2 = 0 ∧ c3 = 0 := fun e => by
      obtain rfl : b = q2 := by omega
      have e1 : y = c1 := by rw [← hy]; exact part_all hq20
      obtain rfl : ab = i := by omega
      have e2 : z = c := by rw [← hz]; exact part_all (by omega)
      omega
    have H1 := Lib.hid (fun (W : World) (g : Nat) (d : PL W g c i) => pBurn_ok d (a := a) (by omega) hx hc1 hq2)
    have H2 := Lib.hid (fun (W : World) (g : Nat) (d : PL W g c1 q2) => pBurn_ok d (a := b) (by omega) hy hc2' hrs)
    have H3 := Lib.hid (fun (W : World) (g : Nat) (d : PL W g c i) => pBurn_ok d (a := ab) (i' := rs) (by omega) hz hc3 (by omega))
    have H4 := Lib.hid (fun (h : 0 < rs) (W : World) (g : Nat) (d : PL W g c2 rs) => pBurn_ok d (a := rs) (c' := 0) (i' := 0) (by omega) (part_all h) (Nat.sub_self _) (Nat.sub_self _))
    obtain ⟨s, hs⟩ : ∃ n, x + y = n := ⟨_, rfl⟩
    have k1 : IntKind.u64.wrap ((x : Int) + (y : Int)) = (s : Int) := by rw [IntWalk.u64_in _ (by omega)]; omega
    obtain ⟨z1, hz1⟩ : ∃ n, z + 1 = n := ⟨_, rfl⟩
    have k2 : IntKind.u64.wrap ((z : Int) + 1) = (z1 : Int) := by rw [IntWalk.u64_in _ (by omega)]; omega
    have m1 : ¬ z1 < s := by omega
    have m2 : ¬ (z1 : Int) < (s : Int) := by omega
    have hcase : (¬ s < z) ∨ (s < z ∧ (z : Int) - (x : Int) = ((z - x : Nat) : Int) ∧ ((z - x : Nat) : Int) - (y : Int) = 1 ∧ z - x < 18446744073709551616) := by omega
    have HC := Lib.hid (And.intro hc2 hi2)
    have HR := Lib.hid last
    have ob : rowOne #[Value.int .u64 (c : Int), .int .u64 (i : Int)] := by unfold rowOne; kernel_rfl
    clear hc hi hq hr ha hq2 hr2 hb hc2 hi2 hq0 hrq hq20 hr2q hab hx hc1 hy hz hc2' hc3 hrs near xc yc zc last hs hz1 h2
    go_enter Try.func4, Try.ntmps4
    go_wp2_with fail
    (with_reducible refine (hL.out _).mono ?_); rintro e w1 ⟨rfl, f1⟩
    have F1 := Lib.hid f1
    clear f1
    go_upto_region 9 with fail
    refine wp_put fun W2 N => ?_
    have P1 := Lib.hid (show PL W2 w1.heap.size c i from ⟨N.new, HC.out.1, HC.out.2⟩)
    have e1 := N.new
    have F2 := Lib.hid (F1.out.trans' N.fr)
    clear N
    obtain ⟨g1, hg1⟩ : ∃ g, w1.heap.size = g := ⟨_, rfl⟩
    rw [hg1] at P1 e1 ⊢
    have G1 := Lib.hid (show w.heap.size ≤ g1 by rw [← hg1]; exact F1.out.size)
    clear hg1
    go_upto_region 10 with fail
    refine wp_put fun W3 N => ?_
    have P2 := Lib.hid (show PL W3 W2.heap.size c i from ⟨N.new, HC.out.1, HC.out.2⟩)
    have P3 := Lib.hid (P1.out.fr0 N.fr)
    have F3 := Lib.hid (F2.out.trans' N.fr)
    have G2 := Lib.hid (show w.heap.size ≤ W2.heap.size ∧ g1 < W2.heap.size from ⟨F2.out.size, P1.out.lt⟩)
    clear N e1
    obtain ⟨g2, hg2⟩ : ∃ g, W2.heap.size = g := ⟨_, rfl⟩
    rw [hg2] at P2 G2 ⊢
    clear hg2
    go_wp2_with fail
    (with_reducible refine (H1.out _ g1 P3.out).mono ?_); rintro e w4 ⟨rfl, d4, f4⟩
    have P4 := Lib.hid (And.intro d4 (And.intro (P2.out.fr f4 (fun e => by have := G2.out.2; omega)) (F3.out.trans f4 fun i hi e => absurd (show i = g1 from e) (by have := G1.out; omega))))
    clear d4 f4 H1
    go_wp2_with fail
    (with_reducible refine (H2.out _ g1 P4.out.1).mono ?_); rintro e w5 ⟨rfl, d5, f5⟩
    have P5 := Lib.hid (And.intro d5 (And.intro (P4.out.2.1.fr f5 (fun e => by have := G2.out.2; omega)) (P4.out.2.2.trans f5 fun i hi e => absurd (show i = g1 from e) (by have := G1.out; omega))))
    clear d5 f5 H2
    go_wp2_with fail
    (with_reducible refine (H3.out _ g2 P5.out.2.1).mono ?_); rintro e w6 ⟨rfl, d6, f6⟩
    have P6 := Lib.hid (And.intro d6 (And.intro (P5.out.1.fr f6 (fun e => by have := G2.out.2; omega)) (P5.out.2.2.trans f6 fun i hi e => absurd (show i = g2 from e) (by have := G2.out.1; omega))))
    clear d6 f6 H3
    have e1 := P6.out.1.at_
    have e2 := P6.out.2.1.at_
    by_cases hrs : 0 < rs
    · have j1 : ((rs : Int) == 0) = false := beq_eq_false_iff_ne.2 (by omega)
      have j2 : (rs == 0) = false := beq_eq_false_iff_ne.2 (by omega)
      have HF := Lib.hid (H4.out hrs w6 g1 P6.out.2.1)
      have hE := run_eqlPool
      clear H4 HR hrs HC
      rcases hcase with h | ⟨h, h3, h4, h5⟩
      · have h6 : ¬ (s : Int) < (z : Int) := by omega
        go_wp2_with fail
        (with_reducible refine HF.out.mono ?_); rintro e w7 ⟨rfl, d7, f7⟩
        have e7 := d7.at_
        have P7 := Lib.hid (P6.out.2.2.trans f7 fun i hi e => absurd (show i = g1 from e) (by have := G1.out; omega))
        clear d7 f7 e1 e2
        go_wp2_with fail
        go_ret
        exact ⟨rfl, P7.out⟩
      · have h6 : (s : Int) < (z : Int) := by omega
        have h7 : IntKind.u64.wrap ((z : Int) - (x : Int)) = ((z - x : Nat) : Int) := by rw [h3, IntWalk.u64_in _ (by omega)]
        obtain ⟨zx, hzx⟩ : ∃ n, z - x = n := ⟨_, rfl⟩
        rw [hzx] at h4 h7
        have h8 : IntKind.u64.wrap ((zx : Int) - (y : Int)) = 1 := by rw [h4]; rfl
        clear h3 h4 h5 hzx
        go_wp2_with fail
        (with_reducible refine HF.out.mono ?_); rintro e w7 ⟨rfl, d7, f7⟩
        have e7 := d7.at_
        have P7 := Lib.hid (P6.out.2.2.trans f7 fun i hi e => absurd (show i = g1 from e) (by have := G1.out; omega))
        clear d7 f7 e1 e2
        go_wp2_with fail
        go_ret
        exact ⟨rfl, P7.out⟩
    · obtain rfl : rs = 0 := by omega
      obtain ⟨rfl, rfl⟩ := HR.out rfl
      clear H4 HR hrs HC
      rcases hcase with h | ⟨h, h3, h4, h5⟩
      · have h6 : ¬ (s : Int) < (z : Int) := by omega
        go_wp2_with fail
        go_ret
        exact ⟨rfl, P6.out.2.2⟩
      · have h6 : (s : Int) < (z : Int) := by omega
        have h7 : IntKind.u64.wrap ((z : Int) - (x : Int)) = ((z - x : Nat) : Int) := by rw [h3, IntWalk.u64_in _ (by omega)]
        obtain ⟨zx, hzx⟩ : ∃ n, z - x = n := ⟨_, rfl⟩
        rw [hzx] at h4 h7
        have h8 : IntKind.u64.wrap ((zx : Int) - (y : Int)) = 1 := by rw [h4]; rfl
        clear h3 h4 h5 hzx
        go_wp2_with fail
        go_ret
        exact ⟨rfl, P6.out.2.2⟩
theorem poolShares_any (c0 i0 a0 b0 : Nat) (h0 : c0 < 18446744073709551616) (h1 : i0 < 18446744073709551616) (h2 : a0 < 18446744073709551616) (h3 : b0 < 18446744073709551616) (w : World) :
    Calls Try.prog 4 #[.int .u64 (c0 : Int), .int .u64 (i0 : Int), .int .u64 (a0 : Int), .int .u64 (b0 : Int)] w fun e w' => e = .returned (.bool true) ∧ Fr F0 w w' :=
  poolShares_core c0 i0 a0 b0 _ _ _ _ _ _ _ _ rfl rfl rfl rfl rfl rfl rfl rfl w
end Go.Proofs.Ytkaoadijijahhaa

/- Layer 19's law PoolPlays: what is to be done, in memory; the law's two switches. -/
namespace Go.Proofs.Ytkaoadijijahhaa
set_option maxRecDepth 100000
set_option linter.unusedVariables false
set_option linter.unusedSimpArgs false
open Go.RowKit

theorem Try.szAct19 : (Try.prog.info? 30).map (·.size) = some 3 := by kernel_rfl
@[go_sem ↓ high] theorem load_act19 (p : Value) : Instr.loadAt 30 p = loadRowAt 30 p := rfl
@[go_sem ↓ high] theorem store_act19 (p v : Value) : Instr.storeAt 30 p v = storeRowAt 30 p v := rfl
@[go_sem] theorem run_load_act19 (w : World) (g : Nat) : (loadRowAt 30 (.pointer (some ⟨g, 0, none⟩))).run Try.prog w = rowOut Try.prog 30 (.pointer (some ⟨g, 0, none⟩)) w 3 w.heap[g]? :=
  run_loadRowAt w _ g 3 _ Try.underlying30 rfl Try.szAct19
@[go_sem] theorem run_store_act19 (w : World) (g : Nat) (cells : Array Value) : (storeRowAt 30 (.pointer (some ⟨g, 0, none⟩)) (.agg cells)).run Try.prog w = rowIn Try.prog 30 (.pointer (some ⟨g, 0, none⟩)) cells g w 3 w.heap[g]? :=
  run_storeRowAt w _ g 3 cells Try.szAct19
/-- What is to be done with a pool. -/
structure ActsP (w : World) (a : Option Addr) (n : Nat) : Prop where
  at_ : ∀ k, k < n → ∃ b off kd x y, a = some ⟨b, off, none⟩ ∧ x < 18446744073709551616 ∧ y < 18446744073709551616 ∧ ∀ W, Fr F0 w W → (loadRowAt 30 (.pointer (some ⟨b, off + k * 3, none⟩))).run Try.prog W = .ok (.agg #[.int .i64 kd, .int .u64 (x : Nat), .int .u64 (y : Nat)]) W

/-- Five ways to take. -/
theorem take_ways {c i x y : Nat} (hc : c ≤ 4611686018427387904) (hi : i ≤ 4611686018427387904) :
    ((4611686018427387904 : Int) < (x : Int) ∧ tkE c i x y = 1 ∧ ∀ z n, tkN c i x y z n = z) ∨
    (¬ (4611686018427387904 : Int) < (x : Int) ∧ (4611686018427387904 : Int) < (y : Int) ∧ tkE c i x y = 1 ∧ ∀ z n, tkN c i x y z n = z) ∨
    (¬ (4611686018427387904 : Int) < (x : Int) ∧ ¬ (4611686018427387904 : Int) < (y : Int) ∧ ¬ c + x ≤ 4611686018427387904 ∧ tkE c i x y = 4 ∧ ∀ z n, tkN c i x y z n = z) ∨
    (¬ (4611686018427387904 : Int) < (x : Int) ∧ ¬ (4611686018427387904 : Int) < (y : Int) ∧ c + x ≤ 4611686018427387904 ∧ ¬ i + y ≤ 4611686018427387904 ∧ tkE c i x y = 4 ∧ ∀ z n, tkN c i x y z n = z) ∨
    (¬ (4611686018427387904 : Int) < (x : Int) ∧ ¬ (4611686018427387904 : Int) < (y : Int) ∧ c + x ≤ 4611686018427387904 ∧ i + y ≤ 4611686018427387904 ∧ tkE c i x y = 0 ∧ ∀ z n, tkN c i x y z n = z + n) := by
  by_cases h1 : x ≤ 4611686018427387904
  · by_cases h2 : y ≤ 4611686018427387904
    · by_cases h3 : c + x ≤ 4611686018427387904
      · by_cases h4 : i + y ≤ 4611686018427387904
        · obtain ⟨t1, t2⟩ := tkE_ok ⟨h1, h2⟩ ⟨h3, h4⟩
          exact .inr (.inr (.inr (.inr ⟨by omega, by omega, h3, h4, t1, t2⟩)))
        · obtain ⟨t1, t2⟩ := tkE_over (c := c) (i := i) ⟨h1, h2⟩ (fun e => h4 e.2)
          exact .inr (.inr (.inr (.inl ⟨by omega, by omega, h3, h4, t1, t2⟩)))
      · obtain ⟨t1, t2⟩ := tkE_over (c := c) (i := i) ⟨h1, h2⟩ (fun e => h3 e.1)
        exact .inr (.inr (.inl ⟨by omega, by omega, h3, t1, t2⟩))
    · obtain ⟨t1, t2⟩ := tkE_arg (c := c) (i := i) (x := x) (y := y) (fun e => h2 e.2)
      exact .inr (.inl ⟨by omega, by omega, t1, t2⟩)
  · obtain ⟨t1, t2⟩ := tkE_arg (c := c) (i := i) (x := x) (y := y) (fun e => h1 e.1)
    exact .inl ⟨by omega, t1, t2⟩

set_option maxRecDepth 100000 in
set_option maxHeartbeats 16000000 in
theorem pq2 {s0 s1 s2 s3 s6 s9 s10 s11 s12 s13 s14 s15 s16 s17 s18 s19 s20 s21 s22 s23 s24 s25 s26 s27 s28 s29 s30 s31 s32 s33 s34 s35 s36 s37 s38 s39 s40 s41 s42 s43 s44 s45 s46 s47 s48 s49 s50 s51 s52 s53 s54 s55 s56 s57 s58 s59 s60 s61 s62 s63 s64 s65 s66 s67 s68 s69 s70 s71 s72 s73 s74 s75 s76 s77 s78 s79 s80 s81 s82 s83 s84 s85 s86 s87 s88 s89 s90 s91 s92 s93 s94 s95 s96 s97 s98 s99 s100 s101 s102 s103 s104 s105 s106 s107 s108 s109 s110 s111 s112 s113 s114 s115 s116 s117 s118 s119 s120 s121 s122 s123 s124 s125 s126 s127 s128 s129 s130 s131 s132 s133 s134 s135 s136 s137 s138 s139 s140 s141 s142 s143 s144 s145 s146 s147 s148 s149 s150 s151 s152 s153 s154 s155 s156 s157 s158 s159 s160 s161 s162 s163 s164 s165 s166 s167 s168 s169 s170 s171 s172 s173 s174 s175 s176 s177 s178 s179 s180 s181 s182 s183 s184 s185 s186 s187 s188 s189 s190 s191 s192 : Value} {K : Act → World → Prop} {Q : Exit → Act → World → Prop} (c i x y g E c' i' : Nat) (hc : c ≤ 4611686018427387904) (hi : i ≤ 4611686018427387904) (e : Int) (he : tkE c i x y = e) (h1 : tkN c i x y c x = c') (h2 : tkN c i x y i y = i') (w : World) (rB : w.heap[g]? = some (.cells #[.int .i64 0, .int .u64 (x : Int), .int .u64 (y : Int)] 30 (0, 0)))
    (hK : RowKit.Hid (∀ {u4 u5 u8 u37 u38 u39 u40 u41 u42 u43 u44 u45 u46 u47 u48 u49 u50 u51 u52 u53 u54 u55 u56 u57 u58 u59 u60 u61 u62 u63 u64 u65 u66 : Value} {w' : World}, (u4 = .int .u64 (c' : Int) ∧ u5 = .int .u64 (i' : Int) ∧ u8 = .int .i64 e ∧ Fr F0 w w') → K ⟨#[s0, s1, s2, s3, u4, u5, s6, .pointer (some ⟨g, 0, none⟩), u8, s9, s10, s11, s12, s13, s14, s15, s16, s17, s18, s19, s20, s21, s22, s23, s24, s25, s26, s27, s28, s29, s30, s31, s32, s33, s34, s35, s36, u37, u38, u39, u40, u41, u42, u43, u44, u45, u46, u47, u48, u49, u50, u51, u52, u53, u54, u55, u56, u57, u58, u59, u60, u61, u62, u63, u64, u65, u66, s67, s68, s69, s70, s71, s72, s73, s74, s75, s76, s77, s78, s79, s80, s81, s82, s83, s84, s85, s86, s87, s88, s89, s90, s91, s92, s93, s94, s95, s96, s97, s98, s99, s100, s101, s102, s103, s104, s105, s106, s107, s108, s109, s110, s111, s112, s113, s114, s115, s116, s117, s118, s119, s120, s121, s122, s123, s124, s125, s126, s127, s128, s129, s130, s131, s132, s133, s134, s135, s136, s137, s138, s139, s140, s141, s142, s143, s144, s145, s146, s147, s148, s149, s150, s151, s152, s153, s154, s155, s156, s157, s158, s159, s160, s161, s162, s163, s164, s165, s166, s167, s168, s169, s170, s171, s172, s173, s174, s175, s176, s177, s178, s179, s180, s181, s182, s183, s184, s185, s186, s187, s188, s189, s190, s191, s192], []⟩ w')) :
    Code.wp Try.prog ((((Try.f3.body.bind (findBlock 2)).getD .skip))) (Exit.then K Q) ⟨#[s0, s1, s2, s3, .int .u64 (c : Int), .int .u64 (i : Int), s6, .pointer (some ⟨g, 0, none⟩), .int .i64 0, s9, s10, s11, s12, s13, s14, s15, s16, s17, s18, s19, s20, s21, s22, s23, s24, s25, s26, s27, s28, s29, s30, s31, s32, s33, s34, s35, s36, s37, s38, s39, s40, s41, s42, s43, s44, s45, s46, s47, s48, s49, s50, s51, s52, s53, s54, s55, s56, s57, s58, s59, s60, s61, s62, s63, s64, s65, s66, s67, s68, s69, s70, s71, s72, s73, s74, s75, s76, s77, s78, s79, s80, s81, s82, s83, s84, s85, s86, s87, s88, s89, s90, s91, s92, s93, s94, s95, s96, s97, s98, s99, s100, s101, s102, s103, s104, s105, s106, s107, s108, s109, s110, s111, s112, s113, s114, s115, s116, s117, s118, s119, s120, s121, s122, s123, s124, s125, s126, s127, s128, s129, s130, s131, s132, s133, s134, s135, s136, s137, s138, s139, s140, s141, s142, s143, s144, s145, s146, s147, s148, s149, s150, s151, s152, s153, s154, s155, s156, s157, s158, s159, s160, s161, s162, s163, s164, s165, s166, s167, s168, s169, s170, s171, s172, s173, s174, s175, s176, s177, s178, s179, s180, s181, s182, s183, s184, s185, s186, s187, s188, s189, s190, s191, s192], []⟩ w := by
  conv => arg 2; whnf
  rcases take_ways (c := c) (i := i) (x := x) (y := y) hc hi with ⟨l1, t1, t2⟩ | ⟨l1, l2, t1, t2⟩ | ⟨l1, l2, h3, t1, t2⟩ | ⟨l1, l2, h3, h4, t1, t2⟩ | ⟨l1, l2, h3, h4, t1, t2⟩
  · rw [t1] at he; rw [t2] at h1 h2
    subst he h1 h2
    clear t1 t2 hc hi
    go_wp2_with fail
    exact hK.out ⟨rfl, rfl, rfl, Fr.refl _ _⟩
  · rw [t1] at he; rw [t2] at h1 h2
    subst he h1 h2
    clear t1 t2 hc hi
    go_wp2_with fail
    exact hK.out ⟨rfl, rfl, rfl, Fr.refl _ _⟩
  · rw [t1] at he; rw [t2] at h1 h2
    subst he h1 h2
    have k1 : IntKind.u64.wrap (4611686018427387904 - (x : Int)) = ((4611686018427387904 - x : Nat) : Int) := by rw [IntWalk.u64_in _ (by omega)]; omega
    have hs : 4611686018427387904 - x < c := by omega
    obtain ⟨s, hse⟩ : ∃ s, 4611686018427387904 - x = s := ⟨_, rfl⟩
    rw [hse] at k1 hs
    have l3 : (s : Int) < (c : Int) := by omega
    clear t1 t2 hc hi h3 hse
    go_wp2_with fail
    exact hK.out ⟨rfl, rfl, rfl, Fr.refl _ _⟩
  · rw [t1] at he; rw [t2] at h1 h2
    subst he h1 h2
    have k1 : IntKind.u64.wrap (4611686018427387904 - (x : Int)) = ((4611686018427387904 - x : Nat) : Int) := by rw [IntWalk.u64_in _ (by omega)]; omega
    have k2 : IntKind.u64.wrap (4611686018427387904 - (y : Int)) = ((4611686018427387904 - y : Nat) : Int) := by rw [IntWalk.u64_in _ (by omega)]; omega
    have hs : ¬ 4611686018427387904 - x < c := by omega
    have hs2 : 4611686018427387904 - y < i := by omega
    obtain ⟨s, hse⟩ : ∃ s, 4611686018427387904 - x = s := ⟨_, rfl⟩
    obtain ⟨s2, hse2⟩ : ∃ s, 4611686018427387904 - y = s := ⟨_, rfl⟩
    rw [hse] at k1 hs
    rw [hse2] at k2 hs2
    have l3 : ¬ (s : Int) < (c : Int) := by omega
    have l4 : (s2 : Int) < (i : Int) := by omega
    clear t1 t2 hc hi h3 h4 hse hse2
    go_wp2_with fail
    exact hK.out ⟨rfl, rfl, rfl, Fr.refl _ _⟩
  · rw [t1] at he; rw [t2] at h1 h2
    subst he
    have k1 : IntKind.u64.wrap (4611686018427387904 - (x : Int)) = ((4611686018427387904 - x : Nat) : Int) := by rw [IntWalk.u64_in _ (by omega)]; omega
    have k2 : IntKind.u64.wrap (4611686018427387904 - (y : Int)) = ((4611686018427387904 - y : Nat) : Int) := by rw [IntWalk.u64_in _ (by omega)]; omega
    have k3 : IntKind.u64.wrap ((c : Int) + (x : Int)) = (c' : Int) := by rw [IntWalk.u64_in _ (by omega)]; omega
    have k4 : IntKind.u64.wrap ((i : Int) + (y : Int)) = (i' : Int) := by rw [IntWalk.u64_in _ (by omega)]; omega
    have hs : ¬ 4611686018427387904 - x < c := by omega
    have hs2 : ¬ 4611686018427387904 - y < i := by omega
    obtain ⟨s, hse⟩ : ∃ s, 4611686018427387904 - x = s := ⟨_, rfl⟩
    obtain ⟨s2, hse2⟩ : ∃ s, 4611686018427387904 - y = s := ⟨_, rfl⟩
    rw [hse] at k1 hs
    rw [hse2] at k2 hs2
    have l3 : ¬ (s : Int) < (c : Int) := by omega
    have l4 : ¬ (s2 : Int) < (i : Int) := by omega
    clear t1 t2 hc hi h1 h2 h3 h4 hse hse2
    go_wp2_with fail
    refine rbegin (S := (fun w' => w'.heap[g]? = some (.cells #[.int .i64 0, .int .u64 (x : Int), .int .u64 (y : Int)] 30 (0, 0)) ∧ Fr F0 w w')) ?_ fun hHeld => ?_
    · ((try dsimp only) <;> (exact ⟨rB, (Fr.refl F0 w).drew⟩))
    refine rtake 0 ?_
    refine rtake 1 ?_
    refine rtake 2 ?_
    refine rtake 3 ?_
    refine rtake 4 ?_
    refine rtake 5 ?_
    refine rtake 6 ?_
    refine rtake 7 ?_
    refine rtake 8 ?_
    refine rtake 9 ?_
    refine rdone ?_
    go_wp2_with fail
    exact hK.out ⟨rfl, rfl, rfl, hHeld.2⟩

set_option maxRecDepth 100000 in
set_option maxHeartbeats 16000000 in
theorem pq3 {s0 s1 s2 s3 s6 s8 s13 s14 s15 s16 s17 s18 s19 s20 s21 s22 s23 s24 s25 s26 s27 s28 s29 s30 s31 s32 s33 s34 s35 s36 s37 s38 s39 s40 s41 s42 s43 s44 s45 s46 s47 s48 s49 s50 s51 s52 s53 s54 s55 s56 s57 s58 s59 s60 s61 s62 s63 s64 s65 s66 s67 s68 s69 s70 s71 s72 s73 s74 s75 s76 s77 s78 s79 s80 s81 s82 s83 s84 s85 s86 s87 s88 s89 s90 s91 s92 s93 s94 s95 s96 s97 s98 s99 s100 s101 s102 s103 s104 s105 s106 s107 s108 s109 s110 s111 s112 s113 s114 s115 s116 s117 s118 s119 s120 s121 s122 s123 s124 s125 s126 s127 s128 s129 s130 s131 s132 s133 s134 s135 s136 s137 s138 s139 s140 s141 s142 s143 s144 s145 s146 s147 s148 s149 s150 s151 s152 s153 s154 s155 s156 s157 s158 s159 s160 s161 s162 s163 s164 s165 s166 s167 s168 s169 s170 s171 s172 s173 s174 s175 s176 s177 s178 s179 s180 s181 s182 s183 s184 s185 s186 s187 s188 s189 s190 s191 s192 : Value} {K : Act → World → Prop} {Q : Exit → Act → World → Prop} (c i x y g s c' i' : Nat) (kd : Int) (hc : c ≤ 4611686018427387904) (hi : i ≤ 4611686018427387904) (hx : x < 18446744073709551616) (e : Int) (he : shE i x = e) (hs : shV c i x = s) (h1 : c - s = c') (h2 : i - gnN i x = i') (w : World) (rB : w.heap[g]? = some (.cells #[.int .i64 kd, .int .u64 (x : Int), .int .u64 (y : Int)] 30 (0, 0)))
    (hK : RowKit.Hid (∀ {u2 u4 u5 u13 u14 u99 u100 u101 u102 u103 u104 u105 u106 u107 u108 u109 u110 u111 u112 u113 u114 u115 u116 u117 u118 u119 u120 u121 u122 u123 u124 u125 u126 u127 u128 u129 u130 u131 u132 u133 u134 u135 u136 u137 u138 u139 u140 u141 u142 u143 u144 u145 u146 u147 u148 u149 : Value} {w' : World}, (u4 = .int .u64 (c' : Int) ∧ u5 = .int .u64 (i' : Int) ∧ Fr F0 w w') → K ⟨#[s0, s1, u2, s3, u4, u5, s6, .pointer (some ⟨g, 0, none⟩), s8, .int .u64 (s : Int), .int .i64 e, .int .u64 (s : Int), .int .i64 e, u13, u14, s15, s16, s17, s18, s19, s20, s21, s22, s23, s24, s25, s26, s27, s28, s29, s30, s31, s32, s33, s34, s35, s36, s37, s38, s39, s40, s41, s42, s43, s44, s45, s46, s47, s48, s49, s50, s51, s52, s53, s54, s55, s56, s57, s58, s59, s60, s61, s62, s63, s64, s65, s66, s67, s68, s69, s70, s71, s72, s73, s74, s75, s76, s77, s78, s79, s80, s81, s82, s83, s84, s85, s86, s87, s88, s89, s90, s91, s92, s93, s94, s95, s96, s97, s98, u99, u100, u101, u102, u103, u104, u105, u106, u107, u108, u109, u110, u111, u112, u113, u114, u115, u116, u117, u118, u119, u120, u121, u122, u123, u124, u125, u126, u127, u128, u129, u130, u131, u132, u133, u134, u135, u136, u137, u138, u139, u140, u141, u142, u143, u144, u145, u146, u147, u148, u149, s150, s151, s152, s153, s154, s155, s156, s157, s158, s159, s160, s161, s162, s163, s164, s165, s166, s167, s168, s169, s170, s171, s172, s173, s174, s175, s176, s177, s178, s179, s180, s181, s182, s183, s184, s185, s186, s187, s188, s189, s190, s191, s192], []⟩ w')) :
    Code.wp Try.prog ((((Try.f3.body.bind (findBlock 3)).getD .skip))) (Exit.then K Q) ⟨#[s0, s1, s2, s3, .int .u64 (c : Int), .int .u64 (i : Int), s6, .pointer (some ⟨g, 0, none⟩), s8, .int .u64 (s : Int), .int .i64 e, .int .u64 (s : Int), .int .i64 e, s13, s14, s15, s16, s17, s18, s19, s20, s21, s22, s23, s24, s25, s26, s27, s28, s29, s30, s31, s32, s33, s34, s35, s36, s37, s38, s39, s40, s41, s42, s43, s44, s45, s46, s47, s48, s49, s50, s51, s52, s53, s54, s55, s56, s57, s58, s59, s60, s61, s62, s63, s64, s65, s66, s67, s68, s69, s70, s71, s72, s73, s74, s75, s76, s77, s78, s79, s80, s81, s82, s83, s84, s85, s86, s87, s88, s89, s90, s91, s92, s93, s94, s95, s96, s97, s98, s99, s100, s101, s102, s103, s104, s105, s106, s107, s108, s109, s110, s111, s112, s113, s114, s115, s116, s117, s118, s119, s120, s121, s122, s123, s124, s125, s126, s127, s128, s129, s130, s131, s132, s133, s134, s135, s136, s137, s138, s139, s140, s141, s142, s143, s144, s145, s146, s147, s148, s149, s150, s151, s152, s153, s154, s155, s156, s157, s158, s159, s160, s161, s162, s163, s164, s165, s166, s167, s168, s169, s170, s171, s172, s173, s174, s175, s176, s177, s178, s179, s180, s181, s182, s183, s184, s185, s186, s187, s188, s189, s190, s191, s192], []⟩ w := by
  conv => arg 2; whnf
  by_cases hz : 1 ≤ x ∧ x ≤ 4611686018427387904
  · have l1 : ((x : Int) == 0) = false := beq_eq_false_iff_ne.2 (by omega)
    have l1' : (x == 0) = false := beq_eq_false_iff_ne.2 (by omega)
    have l1n : ¬ x = 0 := by omega
    have l2 : ¬ (4611686018427387904 : Int) < (x : Int) := by omega
    by_cases hxi : x ≤ i
    · have l3 : ¬ (i : Int) < (x : Int) := by omega
      rw [shE_ok hz.1 hxi hi] at he
      rw [shV_ok hz.1 hxi] at hs
      rw [show gnN i x = x from if_pos ⟨hz.1, hxi⟩] at h2
      subst he
      have hle := share_le (c := c) hxi
      rw [hs] at hle
      have HA := Lib.hid (fun a w h => r5Product_any [c, x] a 2 2 rfl (by simp) (by simp; omega) (c * x) (by simp [prd]) w h)
      have HN := Lib.hid (r5N_any i (by omega))
      have HDv := Lib.hid (fun p1 c1 p2 c2 w h1 h2 => r5Divide_any (c * x) i false p1 c1 p2 c2 s s true (by omega) (prod_room c x (by omega) (by omega)) (word_wide i (by omega)) (by unfold rdQ; rw [if_neg fun h => by cases h.1]; exact hs) (if_pos (by omega)) (decide_eq_true (by omega)) w h1 h2)
      have k1 : IntKind.u64.wrap ((c : Int) - (s : Int)) = (c' : Int) := by rw [IntWalk.u64_in _ (by omega)]; omega
      have k2 : IntKind.u64.wrap ((i : Int) - (x : Int)) = (i' : Int) := by rw [IntWalk.u64_in _ (by omega)]; omega
      clear hz hxi hc hi hx hs h1 h2 hle
      generalize c * x = A at *
      go_wp2_with fail
      obtain ⟨W1, hW1⟩ : ∃ W, W = w.alloc (.cells #[.int .u64 (c : Int), .int .u64 (x : Int)] 25) := ⟨_, rfl⟩
      refine Calls.of_world W1 hW1 ?_
      have u1 : Us W1 (some ⟨w.heap.size, 0, none⟩) 2 [c, x] := by rw [hW1]; exact Us.of2 _ c x _
      have F1 : Fr F0 w W1 := by rw [hW1]; exact (Fr.refl _ _).alloc _
      clear hW1
      (with_reducible refine (HA.out _ _ u1).mono ?_); rintro e w3 ⟨p3, c3, rfl, n3, f⟩
      replace rB := keep_fr (F1.trans' f) rB
      have F3 := Lib.hid (F1.trans' f)
      clear f u1 F1
      go_wp2_with fail
      (with_reducible refine (HN.out _).mono ?_); rintro e w4 ⟨p4, c4, rfl, n4, f⟩
      replace rB := keep_fr f rB
      replace n3 := Us.fr n3 f
      have F4 := Lib.hid (F3.out.trans' f)
      clear f F3
      go_wp2_with fail
      (with_reducible refine (HDv.out _ _ _ _ _ n3 n4).mono ?_); rintro e w5 ⟨rfl, f⟩
      replace rB := keep_fr f rB
      have F5 := Lib.hid (F4.out.trans' f)
      clear f F4 n3 n4
      go_wp2_with fail
      refine rbegin (S := (fun w' => w'.heap[g]? = some (.cells #[.int .i64 kd, .int .u64 (x : Int), .int .u64 (y : Int)] 30 (0, 0)) ∧ Fr F0 w w')) ?_ fun hHeld => ?_
      · ((try dsimp only) <;> (exact ⟨rB, F5.out.drew⟩))
      refine rtake 0 ?_
      refine rtake 1 ?_
      refine rtake 2 ?_
      refine rtake 3 ?_
      refine rtake 4 ?_
      refine rtake 5 ?_
      refine rtake 6 ?_
      refine rtake 7 ?_
      refine rtake 8 ?_
      refine rdone ?_
      go_wp2_with fail
      exact hK.out ⟨rfl, rfl, hHeld.2⟩
    · obtain ⟨e1, e2⟩ := shE_few (i := i) hz.1 (by omega) hz.2
      rw [e1] at he
      rw [e2] at hs
      rw [show gnN i x = 0 from if_neg fun h => hxi h.2] at h2
      have l3 : (i : Int) < (x : Int) := by omega
      subst he hs h1 h2
      clear hz hxi hc hi hx e1 e2
      go_wp2_with fail
      exact hK.out ⟨rfl, rfl, Fr.refl _ _⟩
  · obtain ⟨e1, e2⟩ := shE_arg (i := i) hz hi
    rw [e1] at he
    rw [e2] at hs
    rw [show gnN i x = 0 from if_neg (by omega)] at h2
    subst he hs h1 h2
    by_cases h0 : x = 0
    · subst h0
      clear hz hc hi hx e1 e2
      go_wp2_with fail
      exact hK.out ⟨rfl, rfl, Fr.refl _ _⟩
    · have l1 : ((x : Int) == 0) = false := beq_eq_false_iff_ne.2 (by omega)
      have l1' : (x == 0) = false := beq_eq_false_iff_ne.2 (by omega)
      have l2 : (4611686018427387904 : Int) < (x : Int) := by omega
      clear hz hc hi hx e1 e2
      go_wp2_with fail
      exact hK.out ⟨rfl, rfl, Fr.refl _ _⟩
end Go.Proofs.Ytkaoadijijahhaa

/- Layer 19's law PoolPlays, walked. -/
namespace Go.Proofs.Ytkaoadijijahhaa
set_option maxRecDepth 100000
set_option linter.unusedVariables false
set_option linter.unusedSimpArgs false
open Go.RowKit

/-- A pool's own block is none of the caller's. -/
theorem Fr.pool {w W W' : World} {g : Nat} (f : Fr F0 w W) (k : Fr (fun k => k = g) W W') (h : w.heap.size ≤ g) : Fr F0 w W' :=
  f.trans k fun i hi e => absurd (show i = g from e) (Nat.ne_of_lt (Nat.lt_of_lt_of_le hi h))

set_option maxRecDepth 100000 in
set_option maxHeartbeats 64000000 in
theorem poolPlays_any {w : World} {ad : Option Addr} {n c : Nat} (h1 : ActsP w ad n) :
    Calls Try.prog 3 #[.slice ad n c] w fun e w' => e = .returned (.bool true) ∧ Fr F0 w w' := by
  have HT := Lib.hid h1
  have HL := Lib.hid (fun W => lives19_any W)
  clear h1
  by_cases hb1 : 60 < n
  · have l1 : (60 : Int) < (n : Int) := by omega
    go_enter Try.func3, Try.ntmps3
    go_wp2_with fail
    (with_reducible refine (HL.out _).mono ?_); rintro e w1 ⟨rfl, f1⟩
    have F1 := Lib.hid f1
    clear f1
    go_wp2_with fail
    (with_reducible refine (HL.out w1).mono ?_); rintro e w2 ⟨rfl, f2⟩
    have F2 := Lib.hid (F1.out.trans' f2)
    clear f2
    go_wp2_with fail
    go_ret
    exact ⟨rfl, F2.out⟩
  have b1 : n ≤ 60 := by omega
  have l1 : ¬ (60 : Int) < (n : Int) := by omega
  clear hb1
  go_enter Try.func3, Try.ntmps3
  go_wp2_with fail
  (with_reducible refine (HL.out _).mono ?_); rintro e w1 ⟨rfl, f1⟩
  have F1 := Lib.hid f1
  clear f1
  go_upto_region 4 with fail
  refine wp_new fun W2 N => ?_
  have P2 := Lib.hid (show PL W2 w1.heap.size 0 0 from ⟨N.new, by omega, by omega⟩)
  have F2 := Lib.hid (F1.out.trans' N.fr)
  clear N
  obtain ⟨p, hp⟩ : ∃ p, w1.heap.size = p := ⟨_, rfl⟩
  rw [hp] at P2 ⊢
  have HP := Lib.hid (show w.heap.size ≤ p by rw [← hp]; exact F1.out.size)
  clear hp
  go_wp2_with fail
  go_loopw [4, 5, 30] (fun cv zv iv wr => ∃ k c i : Nat, iv = .int .i64 (k : Int) ∧ cv = .int .u64 (c : Int) ∧ zv = .int .u64 (i : Int) ∧ k ≤ n ∧ PL wr p c i ∧ Fr F0 w wr) (fun _ _ iv _ => n - (intOf iv).toNat)
  case atStart => exact ⟨0, 0, 0, rfl, rfl, rfl, Nat.zero_le _, P2.out, F2.out⟩
  case round =>
    clear P2 F2
    obtain ⟨k, c, i, rfl, rfl, rfl, hk, D, F⟩ := hrel
    by_cases h1 : k < n
    · have l1 : (k : Int) < (n : Int) := by omega
      obtain ⟨b, off, kd, x, y, rfl, hx, hy, hld⟩ := HT.out.at_ k h1
      have lds := hld wr F
      have oS : rowOne #[Value.int .i64 kd, .int .u64 (x : Int), .int .u64 (y : Int)] := by unfold rowOne; kernel_rfl
      have k1 : IntKind.i64.wrap ((k : Int) + 1) = ((k + 1 : Nat) : Int) := by rw [IntWalk.i64_in _ (by omega)]; omega
      have HD := Lib.hid D
      have HX := Lib.hid (And.intro hx hy)
      have HF := Lib.hid (And.intro F h1)
      clear hld hx hy D F h1 hk
      go_upto_region 8 with fail
      refine wp_put fun W3 N => ?_
      have rB := N.new
      have nB := N.ne HD.out.at_
      have F3 := N.fr
      clear N lds
      obtain ⟨B, hB⟩ : ∃ g, wr.heap.size = g := ⟨_, rfl⟩
      rw [hB] at rB nB ⊢
      have H3 := Lib.hid (And.intro (HD.out.fr0 F3) (And.intro (HF.out.1.trans' F3) nB))
      clear hB F3 nB HD
      by_cases e0 : kd = 0
      · subst e0
        go_upto_block 2 with fail
        obtain ⟨E, hE⟩ : ∃ E, tkE c i x y = E := ⟨_, rfl⟩
        obtain ⟨c', hc'⟩ : ∃ n, tkN c i x y c x = n := ⟨_, rfl⟩
        obtain ⟨i', hi'⟩ : ∃ n, tkN c i x y i y = n := ⟨_, rfl⟩
        have HK := Lib.hid (And.intro hE (And.intro hc' hi'))
        refine pq2 c i x y B 0 c' i' H3.out.1.coll H3.out.1.iss E hE hc' hi' W3 rB (Lib.hid ?_)
        rename_i w4
        rintro ⟨rfl, rfl, rfl, f4⟩
        replace rB := keep_fr f4 rB
        have H4 := Lib.hid (And.intro (H3.out.1.fr0 f4) (And.intro (H3.out.2.1.trans' f4) H3.out.2.2))
        have HT4 := Lib.hid (pTake_any H4.out.1 x y HX.out.1 HX.out.2)
        rw [hE, hc', hi'] at HT4
        clear f4 H3 hE hc' hi'
        go_wp2_with fail
        (with_reducible refine HT4.out.mono ?_); rintro e w5 ⟨rfl, d5, f5⟩
        have H5 := Lib.hid (And.intro d5 (H4.out.2.1.pool f5 HP.out))
        clear d5 f5 HT4 H4 rB
        go_wp2_with fail
        go_roundw
        case rel => exact ⟨k + 1, c', i', rfl, rfl, rfl, by have := HF.out.2; omega, H5.out.1, H5.out.2⟩
        case measure => have := HF.out.2; simp [intOf]; omega
      · have q0 : (kd == 0) = false := beq_eq_false_iff_ne.2 e0
        obtain ⟨E, hE⟩ : ∃ E, shE i x = E := ⟨_, rfl⟩
        obtain ⟨s, hs⟩ : ∃ n, shV c i x = n := ⟨_, rfl⟩
        obtain ⟨c', hc'⟩ : ∃ n, c - s = n := ⟨_, rfl⟩
        obtain ⟨i', hi'⟩ : ∃ n, i - gnN i x = n := ⟨_, rfl⟩
        have HK := Lib.hid (And.intro hE (And.intro hs (And.intro hc' hi')))
        have HS := Lib.hid (fun W => pShare_any c i x H3.out.1.coll H3.out.1.iss HX.out.1 W)
        have HB := Lib.hid (fun W (f : Fr F0 W3 W) => pBurn_any (H3.out.1.fr0 f) x HX.out.1)
        rw [hE, hs] at HS
        rw [hE, hs, hc', hi'] at HB
        clear hE hs hc' hi' e0
        have e3 := H3.out.1.at_
        go_upto_region 17 with fail
        refine rbegin (S := (fun w' => (w'.heap[B]? = some (.cells #[.int .i64 kd, .int .u64 (x : Int), .int .u64 (y : Int)] 30 (0, 0)) ∧ w'.heap[p]? = some (.cells #[.int .u64 (c : Int), .int .u64 (i : Int)] 28 (0, 0))) ∧ Fr F0 W3 w')) ?_ fun hHeld => ?_
        · ((try dsimp only) <;> (exact ⟨⟨rB, e3⟩, (Fr.refl F0 W3).drew⟩))
        refine rtake 0 ?_
        refine rtake 1 ?_
        refine rtake 2 ?_
        refine rtake 3 ?_
        refine rtake 4 ?_
        refine rone 5 fun K hK => ?_
        go_simp
        ((with_reducible refine (HS.out _).mono ?_); rintro e w5 ⟨rfl, f5⟩)
        refine hK.out _ _ ?_ (fun hHeld => ?_)
        · ((try dsimp only) <;> (first | exact ⟨⟨keep_fr f5 hHeld.1.1, keep_fr f5 hHeld.1.2⟩, hHeld.2.trans' f5⟩ | exact hHeld))
        clear hK K
        try (simp only [Act.put, aST]; dsimp only [aS0, aS1])
        refine rtake 6 ?_
        refine rtake 7 ?_
        refine rtake 8 ?_
        refine rtake 9 ?_
        refine rtake 10 ?_
        refine rdone ?_
        obtain ⟨⟨rB4, -⟩, F4⟩ := hHeld
        have H4 := Lib.hid (And.intro F4 (HB.out _ F4))
        clear F4 rB e3 HS HB
        go_wp2_with fail
        (with_reducible refine H4.out.2.mono ?_); rintro e w5 ⟨rfl, d5, f5⟩
        have rB5 := f5.keeps (fun e => H3.out.2.2 (Eq.symm e)) rB4
        have H5 := Lib.hid (And.intro d5 ((H3.out.2.1.trans' H4.out.1).pool f5 HP.out))
        clear d5 f5 H4 rB4
        go_upto_block 3 with fail
        refine pq3 c i x y B s c' i' kd H3.out.1.coll H3.out.1.iss HX.out.1 E HK.out.1 HK.out.2.1 HK.out.2.2.1 HK.out.2.2.2 w5 rB5 (Lib.hid ?_)
        rename_i w6
        rintro ⟨rfl, rfl, f6⟩
        have H6 := Lib.hid (And.intro (H5.out.1.fr0 f6) (H5.out.2.trans' f6))
        have e6 := H6.out.1.at_
        clear f6 H5 rB5
        go_wp2_with fail
        go_roundw
        case rel => exact ⟨k + 1, c', i', rfl, rfl, rfl, by have := HF.out.2; omega, H6.out.1, H6.out.2⟩
        case measure => have := HF.out.2; simp [intOf]; omega
    · obtain rfl : k = n := by omega
      have l1 : ¬ (k : Int) < (k : Int) := by omega
      have HN := Lib.hid (fun W => show Calls Try.prog 8 #[.pointer none, .int .u64 1] W _ from pBurn_nil 1 W)
      have HM := Lib.hid (fun W => show Calls Try.prog 6 #[.pointer none, .int .u64 1, .int .u64 1] W _ from pTake_nil 1 1 W)
      have e0 := D.at_
      have FF := Lib.hid F
      clear D F h1 hk HL HT
      generalize wr = wq at *
      go_wp2_with fail
      (with_reducible refine (HN.out _).mono ?_); rintro e w3 ⟨rfl, hw⟩; replace hw := hw.symm; subst hw
      go_wp2_with fail
      (with_reducible refine (HM.out _).mono ?_); rintro e w3 ⟨rfl, hw⟩; replace hw := hw.symm; subst hw
      go_wp2_with fail
      go_ret
      exact ⟨rfl, FF.out⟩
end Go.Proofs.Ytkaoadijijahhaa

/- Arguments that are what is done to a pool, opened. -/
namespace Go.Proofs.Ytkaoadijijahhaa
set_option maxRecDepth 100000
set_option linter.unusedVariables false
set_option linter.unusedSimpArgs false
open Go.RowKit Go.ChangeShapes Go.WideShapes Go.Deep

theorem split3p (cs : List Value) (h : cs.length = 3) : cs = (cs.drop 0).take 1 ++ ((cs.drop 1).take 1 ++ (cs.drop 2).take 1) := by
  match cs, h with
  | [a, b, c], _ => rfl
section
variable {H : Type} {enc : TypeId × Value → H} {w : World} {base : Nat} {spare : Nat → Bool} {held : Bool}

set_option maxRecDepth 100000 in
theorem cells_actP {fuel : Nat} {cs : List Value} {y : DataW H × List MemPlace} (hf : DataW.trod enc Try.prog w base spare held fuel 30 cs = some y) : ∃ (kd : Int) (x z : Nat), x < 18446744073709551616 ∧ z < 18446744073709551616 ∧ cs = [.int .i64 kd, .int .u64 (x : Int), .int .u64 (z : Int)] := by
  obtain ⟨xs, n, _, _, hl, hlen, hc⟩ := DataW.trod_struct Try.underlying30 hf
  have h4 : Try.prog.cellsOf 30 = 3 := by kernel_rfl
  have h1 : Try.prog.cellsOf 3 = 1 := by kernel_rfl
  have h2 : Try.prog.cellsOf 26 = 1 := by kernel_rfl
  match xs, hlen with
  | [y0, y1, y2], _ =>
    have k0 : DataW.trod enc Try.prog w base spare held n 3 ((cs.drop 0).take (Try.prog.cellsOf 3)) = some y0 := hc 0 _ rfl
    have k1 : DataW.trod enc Try.prog w base spare held n 26 ((cs.drop 1).take (Try.prog.cellsOf 26)) = some y1 := hc 1 _ rfl
    have k3 : DataW.trod enc Try.prog w base spare held n 26 ((cs.drop 2).take (Try.prog.cellsOf 26)) = some y2 := hc 2 _ rfl
    rw [h1] at k0
    rw [h2] at k1 k3
    have hl' : cs.length = 3 := by rw [← h4, ← hl]
    obtain ⟨x0, e0, _, _⟩ := DataW.trod_int Try.underlying3 k0
    obtain ⟨x1, e1, _, w1⟩ := DataW.trod_int Try.underlying26 k1
    obtain ⟨x3, e3, _, w3⟩ := DataW.trod_int Try.underlying26 k3
    have b1 : 0 ≤ x1 ∧ x1 ≤ 18446744073709551615 := bounds_u64 w1
    have b3 : 0 ≤ x3 ∧ x3 ≤ 18446744073709551615 := bounds_u64 w3
    obtain ⟨n1, rfl⟩ := Int.eq_ofNat_of_zero_le b1.1
    obtain ⟨n3, rfl⟩ := Int.eq_ofNat_of_zero_le b3.1
    refine ⟨x0, n1, n3, by omega, by omega, ?_⟩
    have := split3p cs hl'
    rw [e0, e1, e3] at this
    rw [this]
    rfl
set_option maxRecDepth 100000 in
theorem open_actsP {fuel : Nat} {a : Option Addr} {n c : Nat} {x : DataW H × List MemPlace} (h : DataW.trod enc Try.prog w base spare held fuel 22 [.slice a n c] = some x) : ActsP w a n := by
  rcases open_slice Try.underlying22 h with ⟨hcs, _⟩ | ⟨ad, len, cap, m, k, D, Pl, hcs, _, hl, hm, hmm, _, hi⟩
  · simp only [List.cons.injEq, Value.slice.injEq, and_true] at hcs
    obtain ⟨rfl, rfl, rfl⟩ := hcs
    exact ⟨fun k hk => absurd hk (by omega)⟩
  · simp only [List.cons.injEq, Value.slice.injEq, and_true] at hcs
    obtain ⟨rfl, rfl, rfl⟩ := hcs
    have hnm : n ≤ m := by rw [hmm]; split <;> omega
    have hC : Try.prog.cellsOf 30 = 3 := by kernel_rfl
    refine ⟨fun k hk => ?_⟩
    obtain ⟨cs, h1, h2⟩ := hi k (by omega)
    rw [hC] at h1
    obtain ⟨_, hlen, hat⟩ := World.cells?_some h1
    obtain ⟨kd, x, z, hx, hz, rfl⟩ := cells_actP h2
    obtain ⟨cs0, g1, g2⟩ := hi 0 (by omega)
    rw [hC] at g1
    obtain ⟨_, glen, gat⟩ := World.cells?_some g1
    have hs0 := World.cell?_spot ((gat 0 (by omega)).trans (List.getElem?_eq_getElem (show 0 < cs0.length by omega)))
    obtain ⟨b, off, spot⟩ := ad
    simp [Addr.add] at hs0
    subst hs0
    refine ⟨b, off, kd, x, z, rfl, hx, hz, fun W f => ?_⟩
    exact run_loadAt_mid (P := Try.prog) W b (off + k * 3) 30 [.int .i64 kd, .int .u64 (x : Int), .int .u64 (z : Int)] _ (fun j u hj => by
      have hj' : j < 3 := by have := (List.getElem?_eq_some_iff.1 hj).1; simpa using this
      have := (hat j hj').trans hj
      rw [Addr.add_lit, Addr.add_lit] at this
      exact f.cell (fun e => e) this) Try.underlying30 rfl (by rw [Try.szAct19]; rfl)
end
theorem poolPlays_at (a : Option Addr) (n c : Nat) (w : World) (h : ActsP w a n) : Calls Try.prog 3 #[.slice a n c] w fun e w' => e = .returned (.bool true) ∧ Fr F0 w w' := poolPlays_any h
end Go.Proofs.Ytkaoadijijahhaa

/- Layer 19 (pool): all that its two laws need. -/
namespace Go.Proofs.Ytkaoadijijahhaa
set_option maxRecDepth 100000
end Go.Proofs.Ytkaoadijijahhaa
