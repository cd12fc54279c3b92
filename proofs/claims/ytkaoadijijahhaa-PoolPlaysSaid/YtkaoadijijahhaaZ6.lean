import Derived.Test.YtkaoadijijahhaaZ5
import Derived.Test.YtkaoadijijahhaaZ4
import Derived.ProofKit
import Derived.OpenShut
import Derived.WideKeyArr2
import Derived.Below
import Derived.Test.YtkaoadijijahhaaZ1
import Derived.Test.YtkaoadijijahhaaZ2
import Derived.Deep.Slices
import Derived.Deep.Fields
/- Layer 3's fixed fact. -/
namespace Go.Proofs.Ytkaoadijijahhaa
set_option maxRecDepth 100000
set_option linter.unusedVariables false
set_option linter.unusedSimpArgs false
open Go.RowKit

@[simp high] theorem rowEq_self (m x : Nat) : rowEq m x x = true := decide_eq_true rfl

theorem rowN_nil4 (x : Nat) : (rowN .u64 64 4 x = #[]) = False := by
  apply eq_false
  intro h
  have := congrArg Array.size h
  rw [rowN_size] at this
  simp at this
theorem set_0 : (rowN .u64 64 4 0).setIfInBounds 0 (.int .u64 0) = rowN .u64 64 4 0 := by
  have := set_word 0 0 0 (by omega)
  rw [putw_zero0] at this
  exact this
theorem set_2 : (rowN .u64 64 4 0).setIfInBounds 1 (.int .u64 2) = rowN .u64 64 4 36893488147419103232 := by
  have := set_word 0 1 2 (by omega)
  rw [putw_one _ _ (by omega)] at this
  exact this


end Go.Proofs.Ytkaoadijijahhaa

/- An argument that is four words, opened. -/
namespace Go.Proofs.Ytkaoadijijahhaa
set_option maxRecDepth 100000
set_option linter.unusedVariables false
set_option linter.unusedSimpArgs false
open Go.RowKit Go.ChangeShapes Go.WideShapes


theorem four_words (cs : List Value) (z0 z1 z2 z3 : Int) (h0 : (cs.drop 0).take 1 = [.int .u64 z0]) (h1 : (cs.drop 1).take 1 = [.int .u64 z1]) (h2 : (cs.drop 2).take 1 = [.int .u64 z2]) (h3 : (cs.drop 3).take 1 = [.int .u64 z3]) (hl : cs.length = 4)
    (b0 : 0 ≤ z0 ∧ z0 < 18446744073709551616) (b1 : 0 ≤ z1 ∧ z1 < 18446744073709551616) (b2 : 0 ≤ z2 ∧ z2 < 18446744073709551616) (b3 : 0 ≤ z3 ∧ z3 < 18446744073709551616) : ∃ x : Nat, x < W256 ∧ cs.toArray = rowN .u64 64 4 x := by
  match cs, hl with
  | [c0, c1, c2, c3], _ =>
    simp at h0 h1 h2 h3
    subst h0 h1 h2 h3
    obtain ⟨x0, rfl⟩ := Int.eq_ofNat_of_zero_le b0.1
    obtain ⟨x1, rfl⟩ := Int.eq_ofNat_of_zero_le b1.1
    obtain ⟨x2, rfl⟩ := Int.eq_ofNat_of_zero_le b2.1
    obtain ⟨x3, rfl⟩ := Int.eq_ofNat_of_zero_le b3.1
    let f : Nat → Nat := fun i => if i = 0 then x0 else if i = 1 then x1 else if i = 2 then x2 else x3
    have hf : ∀ i, i < 4 → f i < 2 ^ 64 := fun i hi => by
      have : i = 0 ∨ i = 1 ∨ i = 2 ∨ i = 3 := by omega
      rcases this with rfl | rfl | rfl | rfl <;> simp [f] <;> omega
    refine ⟨ofDgts 64 f 4, ofDgts_lt 64 f 4 hf, ?_⟩
    have e : rowN .u64 64 4 (ofDgts 64 f 4) = ((List.range 4).map fun i => Value.int .u64 (f i : Nat)).toArray := by
      unfold rowN
      congr 1
      apply List.map_congr_left
      intro i hi
      rw [dgt_ofDgts 64 f 4 hf i (List.mem_range.1 hi)]
    rw [e]
    rfl

set_option maxRecDepth 100000 in
theorem bounds_u64' {a : Int} (h : (Lit.int .u64 a).wf = true) : 0 ≤ a ∧ a < 18446744073709551616 := by
  have := bounds_u64 h
  omega

section
variable {H : Type} {enc : TypeId × Value → H} {W : World} {base : Nat} {sp : Nat → Bool} {held : Bool}

set_option maxRecDepth 100000 in
theorem open_wide {r : Reach} {b0 : Nat} {v : Value} {d : DataW H} {ps : List MemPlace} (hd : DataW.Trod enc Try.prog W base sp held 52 v d ps) (hv : Value.okWide Try.prog W r b0 52 v) :
    ∃ x : Nat, x < W256 ∧ v = .agg (rowN .u64 64 4 x) := by
  simp only [Value.okWide, Try.underlying52] at hv
  obtain ⟨cs, rfl, hs, _⟩ := hv
  obtain ⟨fuel, hf⟩ := hd
  cases fuel with
  | zero => simp [DataW.trod] at hf
  | succ m =>
    rw [DataW.trod_step] at hf
    unfold DataW.trodStep at hf
    simp only [Try.underlying52, Value.cells] at hf
    have hc4 : Try.prog.cellsOf 52 = 4 := by kernel_rfl
    have hc1 : Try.prog.cellsOf 25 = 1 := by kernel_rfl
    rw [hc4] at hs
    rw [if_pos (by rw [hc4]; simpa using hs), hc1] at hf
    simp only [Option.map_eq_some_iff] at hf
    obtain ⟨ys, hy, _⟩ := hf
    rw [show List.range 4 = [0, 1, 2, 3] from rfl] at hy
    simp only [List.mapM_cons, List.mapM_nil, bind, Option.bind_eq_some_iff, pure, Option.some.injEq, Nat.mul_one] at hy
    obtain ⟨y0, h0, _, ⟨y1, h1, _, ⟨y2, h2, _, ⟨y3, h3, _⟩, _⟩, _⟩, _⟩ := hy
    obtain ⟨z0, e0, _, w0⟩ := DataW.trod_int Try.underlying25 h0
    obtain ⟨z1, e1, _, w1⟩ := DataW.trod_int Try.underlying25 h1
    obtain ⟨z2, e2, _, w2⟩ := DataW.trod_int Try.underlying25 h2
    obtain ⟨z3, e3, _, w3⟩ := DataW.trod_int Try.underlying25 h3
    obtain ⟨x, hx, ex⟩ := four_words cs.toList z0 z1 z2 z3 e0 e1 e2 e3 (by simpa using hs) (bounds_u64' w0) (bounds_u64' w1) (bounds_u64' w2) (bounds_u64' w3)
    exact ⟨x, hx, by rw [← ex]⟩

set_option maxRecDepth 100000 in
theorem open_word {r : Reach} {b0 : Nat} {v : Value} {d : DataW H} {ps : List MemPlace} (hd : DataW.Trod enc Try.prog W base sp held 25 v d ps) (hv : Value.okWide Try.prog W r b0 25 v) :
    ∃ x : Nat, x < 2 ^ 64 ∧ v = .int .u64 (x : Int) := by
  obtain ⟨n, rfl⟩ := okWide_int Try.underlying25 hv
  obtain ⟨fuel, hf⟩ := hd
  obtain ⟨z, e, _, wf⟩ := DataW.trod_int Try.underlying25 (by simpa [Value.cells] using hf)
  have hb := bounds_u64' wf
  simp at e
  subst e
  obtain ⟨x, rfl⟩ := Int.eq_ofNat_of_zero_le hb.1
  exact ⟨x, by omega, rfl⟩
end
end Go.Proofs.Ytkaoadijijahhaa

/- Arguments that are amounts, bools, integers, opened. -/
namespace Go.Proofs.Ytkaoadijijahhaa
set_option maxRecDepth 100000
set_option linter.unusedVariables false
set_option linter.unusedSimpArgs false
open Go.RowKit Go.ChangeShapes Go.WideShapes

section
variable {H : Type} {enc : TypeId × Value → H} {W : World} {base : Nat} {sp : Nat → Bool} {held : Bool}

theorem open_amt {r : Reach} {b0 : Nat} {v : Value} {d : DataW H} {ps : List MemPlace} (hd : DataW.Trod enc Try.prog W base sp held 26 v d ps) (hv : Value.okWide Try.prog W r b0 26 v) :
    ∃ x : Nat, x < 18446744073709551616 ∧ v = .int .u64 (x : Int) := by
  obtain ⟨n, rfl⟩ := okWide_int Try.underlying26 hv
  obtain ⟨fuel, hf⟩ := hd
  obtain ⟨z, e, _, wf⟩ := DataW.trod_int Try.underlying26 (by simpa [Value.cells] using hf)
  have hb := bounds_u64' wf
  simp at e
  subst e
  obtain ⟨x, rfl⟩ := Int.eq_ofNat_of_zero_le hb.1
  exact ⟨x, by omega, rfl⟩
theorem open_bool {r : Reach} {b0 : Nat} {v : Value} {d : DataW H} {ps : List MemPlace} (hd : DataW.Trod enc Try.prog W base sp held 4 v d ps) (hv : Value.okWide Try.prog W r b0 4 v) :
    ∃ b : Bool, v = .bool b := okWide_bool Try.underlying4 hv
theorem open_int {r : Reach} {b0 : Nat} {v : Value} {d : DataW H} {ps : List MemPlace} (hd : DataW.Trod enc Try.prog W base sp held 3 v d ps) (hv : Value.okWide Try.prog W r b0 3 v) :
    ∃ n : Int, (Lit.int .i64 n).wf = true ∧ v = .int .i64 n := by
  obtain ⟨n, rfl⟩ := okWide_int Try.underlying3 hv
  obtain ⟨fuel, hf⟩ := hd
  obtain ⟨z, e, _, wf⟩ := DataW.trod_int Try.underlying3 (by simpa [Value.cells] using hf)
  simp at e
  subst e
  exact ⟨n, wf, rfl⟩
end
end Go.Proofs.Ytkaoadijijahhaa

/- Layer 4 (money): parts; its fixed fact. -/
namespace Go.Proofs.Ytkaoadijijahhaa
set_option maxRecDepth 100000
set_option linter.unusedVariables false
set_option linter.unusedSimpArgs false
open Go.RowKit

theorem aPart_arg (a up by' : Nat) (more : Bool) (ha : ¬ a ≤ 4611686018427387904) (w : World) :
    Calls Try.prog 14 #[.int .u64 (a : Int), .int .u64 (up : Int), .int .u64 (by' : Int), .bool more] w fun e w' => e = .returned (.tuple #[.int .u64 0, .int .i64 1]) ∧ Fr F0 w w' := by
  have HA := Lib.hid (aRight_any a false (decide_eq_false ha))
  clear ha
  go_enter Try.func14, Try.ntmps14
  go_wp2_with fail
  (with_reducible refine (HA.out _).mono ?_); rintro e w1 ⟨rfl, rfl⟩
  go_wp2_with fail
  go_ret2
  exact ⟨rfl, Fr.refl _ _⟩

theorem word_wide (x : Nat) (h : x < 2 ^ 64) : x < W256 := Nat.lt_of_lt_of_le h (Nat.pow_le_pow_right (by omega) (by omega))
theorem prod_wide (x y : Nat) (hx : x < 2 ^ 64) (hy : y < 2 ^ 64) : x * y < W256 := Nat.lt_of_lt_of_le (Nat.mul_lt_mul'' hx hy) (by rw [← Nat.pow_add]; exact Nat.pow_le_pow_right (by omega) (by omega))
theorem prod_room (x y : Nat) (hx : x < 2 ^ 64) (hy : y < 2 ^ 64) : x * y + 1 < W256 := by
  have h1 := Nat.mul_lt_mul'' hx hy
  rw [← Nat.pow_add] at h1
  have h2 : 2 ^ (64 + 64) * 2 ≤ W256 := by rw [show 2 ^ (64 + 64) * 2 = 2 ^ 129 from rfl]; exact Nat.pow_le_pow_right (by omega) (by omega)
  generalize 2 ^ (64 + 64) = p at *
  omega

set_option maxRecDepth 100000 in
set_option maxHeartbeats 4000000 in
theorem aPart_zero (a up by' : Nat) (more : Bool) (ha : a ≤ 4611686018427387904) (hup : up < 18446744073709551616) (hb : by' = 0) (w : World) :
    Calls Try.prog 14 #[.int .u64 (a : Int), .int .u64 (up : Int), .int .u64 (by' : Int), .bool more] w fun e w' => e = .returned (.tuple #[.int .u64 0, .int .i64 5]) ∧ Fr F0 w w' := by
  have HA := Lib.hid (aRight_any a true (decide_eq_true ha))
  have HP := Lib.hid (fun w => show Calls Try.prog 21 #[.int .u64 (a : Int), .int .u64 (up : Int)] w _ from wProduct_any a up (by omega) (by omega) w)
  have HO := Lib.hid (fun w => show Calls Try.prog 23 #[.int .u64 (by' : Int)] w _ from wOf_any by' (by omega) w)
  have HD := Lib.hid (fun w => wDiv_zero (a * up) by' hb w)
  clear ha hup hb
  go_enter Try.func14, Try.ntmps14
  go_wp2_with fail
  (with_reducible refine (HA.out _).mono ?_); rintro e w1 ⟨rfl, hw⟩; replace hw := hw.symm; subst hw
  go_wp2_with fail
  (with_reducible refine (HP.out _).mono ?_); rintro e w2 ⟨rfl, f1⟩
  go_wp2_with fail
  (with_reducible refine (HO.out _).mono ?_); rintro e w3 ⟨rfl, f2⟩
  go_wp2_with fail
  (with_reducible refine (HD.out _).mono ?_); rintro e w4 ⟨rfl, f3⟩
  have F := (f1.trans' f2).trans' f3
  clear f1 f2 f3
  go_upto_region 4 with fail
  obtain ⟨W5, hW5⟩ : ∃ W, W = (((w4.alloc (.cells (rowN .u64 64 4 0) 52)).alloc (.cells (rowN .u64 64 4 0) 52)).setRow w4.heap.size (rowN .u64 64 4 0)).setRow (w4.heap.size + 1) (rowN .u64 64 4 0) := ⟨_, rfl⟩
  refine wp_of_world W5 hW5 ?_
  replace F : Fr F0 w W5 := by rw [hW5]; exact ((F.alloc _).alloc _ |>.setRow (fun h => by have := F.size; omega) _).setRow (fun h => by have := F.size; omega) _
  clear hW5
  go_wp2_with fail
  go_ret2
  exact ⟨rfl, F⟩

/-- A part, rounded as asked, of whatever size. -/
def ptQ (a up by' : Nat) (more : Bool) : Nat := if more = true ∧ a * up % by' ≠ 0 then a * up / by' + 1 else a * up / by'
def ptA (a up by' : Nat) (more : Bool) : Nat := if ptQ a up by' more ≤ 4611686018427387904 then ptQ a up by' more else 0
def ptE (a up by' : Nat) (more : Bool) : Int := if ptQ a up by' more ≤ 4611686018427387904 then 0 else 4

set_option maxRecDepth 100000 in
set_option maxHeartbeats 8000000 in
theorem aPart_core (a up by' x Q R q v V : Nat) (E : Int) (ob os or : Bool) (more : Bool)
    (HA : Hid (∀ w, Calls Try.prog 12 #[.int .u64 (a : Int)] w fun e w' => e = .returned (.bool true) ∧ w' = w))
    (HP : Hid (∀ w, Calls Try.prog 21 #[.int .u64 (a : Int), .int .u64 (up : Int)] w fun e w' => e = .returned (.agg (rowN .u64 64 4 x)) ∧ Fr F0 w w'))
    (HO : Hid (∀ w, Calls Try.prog 23 #[.int .u64 (by' : Int)] w fun e w' => e = .returned (.agg (rowN .u64 64 4 by')) ∧ Fr F0 w w'))
    (HO1 : Hid (∀ w, Calls Try.prog 23 #[.int .u64 1] w fun e w' => e = .returned (.agg (rowN .u64 64 4 1)) ∧ Fr F0 w w'))
    (HD : Hid (∀ w, Calls Try.prog 22 #[.agg (rowN .u64 64 4 x), .agg (rowN .u64 64 4 by')] w fun e w' => e = .returned (.tuple #[.agg (rowN .u64 64 4 Q), .agg (rowN .u64 64 4 R), .int .i64 0]) ∧ Fr F0 w w'))
    (HQ : Hid (∀ w, Calls Try.prog 24 #[.agg (rowN .u64 64 4 Q), .agg (rowN .u64 64 4 1)] w fun e w' => e = .returned (.tuple #[.agg (rowN .u64 64 4 (Q + 1)), .bool false]) ∧ Fr F0 w w'))
    (hR : rowEq 256 R 0 = ob) (hq : q = if more = true ∧ ob = false then Q + 1 else Q)
    (HU : Hid (∀ w, Calls Try.prog 25 #[.agg (rowN .u64 64 4 q)] w fun e w' => e = .returned (.tuple #[.int .u64 (v : Int), .bool os]) ∧ Fr F0 w w'))
    (HR : Hid (∀ w, Calls Try.prog 12 #[.int .u64 (v : Int)] w fun e w' => e = .returned (.bool or) ∧ w' = w))
    (hV : V = if (os && or) = true then v else 0) (hE : E = if (os && or) = true then 0 else 4) (w : World) :
    Calls Try.prog 14 #[.int .u64 (a : Int), .int .u64 (up : Int), .int .u64 (by' : Int), .bool more] w fun e w' => e = .returned (.tuple #[.int .u64 (V : Int), .int .i64 E]) ∧ Fr F0 w w' := by
  have HV := Lib.hid (And.intro hV hE)
  clear hV hE
  have Hq := Lib.hid hq
  clear hq
  go_enter Try.func14, Try.ntmps14
  go_wp2_with fail
  (with_reducible refine (HA.out _).mono ?_); rintro e w1 ⟨rfl, hw⟩; replace hw := hw.symm; subst hw
  go_wp2_with fail
  (with_reducible refine (HP.out _).mono ?_); rintro e w2 ⟨rfl, f1⟩
  go_wp2_with fail
  (with_reducible refine (HO.out _).mono ?_); rintro e w3 ⟨rfl, f2⟩
  go_wp2_with fail
  (with_reducible refine (HD.out _).mono ?_); rintro e w4 ⟨rfl, f3⟩
  have F := (f1.trans' f2).trans' f3
  clear f1 f2 f3
  go_upto_region 4 with fail
  obtain ⟨W5, hW5⟩ : ∃ W, W = (((w4.alloc (.cells (rowN .u64 64 4 0) 52)).alloc (.cells (rowN .u64 64 4 0) 52)).setRow w4.heap.size (rowN .u64 64 4 Q)).setRow (w4.heap.size + 1) (rowN .u64 64 4 R) := ⟨_, rfl⟩
  refine wp_of_world W5 hW5 ?_
  have hs := F.size
  replace F : Fr F0 w W5 := by rw [hW5]; exact ((F.alloc _).alloc _ |>.setRow (fun h => by omega) _).setRow (fun h => by omega) _
  obtain ⟨r1, r2⟩ := heap2 w4 (.cells (rowN .u64 64 4 0) 52) (.cells (rowN .u64 64 4 0) 52)
  replace r1 : W5.heap[w4.heap.size]? = some (.cells (rowN .u64 64 4 Q) 52 (0, 0)) := by rw [hW5, heap_setRow_ne _ _ _ _ (by omega), heap_setRow_at, r1]; rfl
  replace r2 : W5.heap[w4.heap.size + 1]? = some (.cells (rowN .u64 64 4 R) 52 (0, 0)) := by rw [hW5, heap_setRow_at, heap_setRow_ne _ _ _ _ (by omega), r2]; rfl
  clear hW5
  generalize hg1 : w4.heap.size = g1 at *
  generalize hg2 : g1 + 1 = g2 at *
  have HG := Lib.hid (show w.heap.size ≤ g1 ∧ g2 ≠ g1 by omega)
  clear hg1 hg2 hs
  cases more
  · have e : q = Q := by rw [Hq.out]; exact if_neg fun h => by cases h.1
    clear Hq
    subst e
    go_wp2_with fail
    (with_reducible refine (HU.out _).mono ?_); rintro e w7 ⟨rfl, f⟩
    replace F := F.trans' f
    clear f r1
    cases os
    · go_wp2_with fail
      go_ret2
      exact ⟨by rw [HV.out.1, HV.out.2]; rfl, F⟩
    · go_wp2_with fail
      (with_reducible refine (HR.out _).mono ?_); rintro e w8 ⟨rfl, hw⟩; replace hw := hw.symm; subst hw
      cases or
      · go_wp2_with fail
        go_ret2
        exact ⟨by rw [HV.out.1, HV.out.2]; rfl, F⟩
      · go_wp2_with fail
        go_ret2
        exact ⟨by rw [HV.out.1, HV.out.2]; rfl, F⟩
  · cases ob
    · have e : q = Q + 1 := by rw [Hq.out]; exact if_pos ⟨rfl, rfl⟩
      rw [← e] at HQ
      clear Hq e
      go_wp2_with fail
      refine rbegin (S := (fun w' => w'.heap[g2]? = some (.cells (rowN .u64 64 4 R) 52 (0, 0)) ∧ Fr F0 w w')) ?_ fun hHeld => ?_
      · ((try dsimp only) <;> (exact ⟨r2, F.drew⟩))
      refine wpAnyH_ready (rs := [0, 1]) (by kernel_rfl) (by simp) ?_
      refine AllReadyH.cons (o := ⟨_, _, _, _, _, _⟩) rfl (fun K hK => ?_) (AllReadyH.cons (o := ⟨_, _, _, _, _, _⟩) rfl (fun K hK => ?_) AllReadyH.nil)
      go_simp
      refine hK.out _ _ ?_ (fun hHeld => ?_)
      · ((try dsimp only) <;> (first | exact ⟨keep_row HG.out.2 hHeld.1, hHeld.2.setRow (fun h => by have := HG.out.1; omega) _⟩ | exact hHeld))
      clear hK K
      try (simp only [Act.put, aST]; dsimp only [aS0, aS1])
      refine rone 1 fun K hK => ?_
      go_simp
      ((with_reducible refine (HO1.out _).mono ?_); rintro e w5 ⟨rfl, f5⟩; replace r1 := keep_fr f5 r1)
      refine hK.out _ _ ?_ (fun hHeld => ?_)
      · ((try dsimp only) <;> (first | exact ⟨keep_fr f5 hHeld.1, hHeld.2.trans' f5⟩ | exact hHeld))
      clear hK K
      try (simp only [Act.put, aST]; dsimp only [aS0, aS1])
      refine rone 2 fun K hK => ?_
      go_simp
      ((with_reducible refine (HQ.out _).mono ?_); rintro e w6 ⟨rfl, f5⟩; replace r1 := keep_fr f5 r1)
      refine hK.out _ _ ?_ (fun hHeld => ?_)
      · ((try dsimp only) <;> (first | exact ⟨keep_fr f5 hHeld.1, hHeld.2.trans' f5⟩ | exact hHeld))
      clear hK K
      try (simp only [Act.put, aST]; dsimp only [aS0, aS1])
      refine rtake 3 ?_
      refine rtake 4 ?_
      refine rtake 5 ?_
      refine rone 6 fun K hK => ?_
      go_simp
      refine hK.out _ _ ?_ (fun hHeld => ?_)
      · ((try dsimp only) <;> (first | exact ⟨keep_row HG.out.2 hHeld.1, hHeld.2.setRow (fun h => by have := HG.out.1; omega) _⟩ | exact hHeld))
      clear hK K
      try (simp only [Act.put, aST]; dsimp only [aS0, aS1])
      refine rdone ?_
      rotate_left
      go_simp
      ((with_reducible refine (HO1.out _).mono ?_); rintro e w5 ⟨rfl, f5⟩; replace r1 := keep_fr f5 r1)
      refine hK.out _ _ ?_ (fun hHeld => ?_)
      · ((try dsimp only) <;> (first | exact ⟨keep_fr f5 hHeld.1, hHeld.2.trans' f5⟩ | exact hHeld))
      clear hK K
      try (simp only [Act.put, aST]; dsimp only [aS0, aS1])
      refine rone 0 fun K hK => ?_
      go_simp
      refine hK.out _ _ ?_ (fun hHeld => ?_)
      · ((try dsimp only) <;> (first | exact ⟨keep_row HG.out.2 hHeld.1, hHeld.2.setRow (fun h => by have := HG.out.1; omega) _⟩ | exact hHeld))
      clear hK K
      try (simp only [Act.put, aST]; dsimp only [aS0, aS1])
      refine rone 2 fun K hK => ?_
      go_simp
      ((with_reducible refine (HQ.out _).mono ?_); rintro e w6 ⟨rfl, f5⟩; replace r1 := keep_fr f5 r1)
      refine hK.out _ _ ?_ (fun hHeld => ?_)
      · ((try dsimp only) <;> (first | exact ⟨keep_fr f5 hHeld.1, hHeld.2.trans' f5⟩ | exact hHeld))
      clear hK K
      try (simp only [Act.put, aST]; dsimp only [aS0, aS1])
      refine rtake 3 ?_
      refine rtake 4 ?_
      refine rtake 5 ?_
      refine rone 6 fun K hK => ?_
      go_simp
      refine hK.out _ _ ?_ (fun hHeld => ?_)
      · ((try dsimp only) <;> (first | exact ⟨keep_row HG.out.2 hHeld.1, hHeld.2.setRow (fun h => by have := HG.out.1; omega) _⟩ | exact hHeld))
      clear hK K
      try (simp only [Act.put, aST]; dsimp only [aS0, aS1])
      refine rdone ?_
      rotate_left
      all_goals
        clear F
        obtain ⟨_, F⟩ := hHeld
        replace r1 := new_row (c := rowN .u64 64 4 q) r1
        generalize World.setRow _ g1 (rowN .u64 64 4 q) = W8 at *
        go_wp2_with fail
        (with_reducible refine (HU.out _).mono ?_); rintro e w7 ⟨rfl, f⟩
        replace F := F.trans' f
        clear f r1
        cases os
        · go_wp2_with fail
          go_ret2
          exact ⟨by rw [HV.out.1, HV.out.2]; rfl, F⟩
        · go_wp2_with fail
          (with_reducible refine (HR.out _).mono ?_); rintro e w8 ⟨rfl, hw⟩; replace hw := hw.symm; subst hw
          cases or
          · go_wp2_with fail
            go_ret2
            exact ⟨by rw [HV.out.1, HV.out.2]; rfl, F⟩
          · go_wp2_with fail
            go_ret2
            exact ⟨by rw [HV.out.1, HV.out.2]; rfl, F⟩
    · have e : q = Q := by rw [Hq.out]; exact if_neg fun h => by cases h.2
      clear Hq
      subst e
      go_wp2_with fail
      (with_reducible refine (HU.out _).mono ?_); rintro e w7 ⟨rfl, f⟩
      replace F := F.trans' f
      clear f r1
      cases os
      · go_wp2_with fail
        go_ret2
        exact ⟨by rw [HV.out.1, HV.out.2]; rfl, F⟩
      · go_wp2_with fail
        (with_reducible refine (HR.out _).mono ?_); rintro e w8 ⟨rfl, hw⟩; replace hw := hw.symm; subst hw
        cases or
        · go_wp2_with fail
          go_ret2
          exact ⟨by rw [HV.out.1, HV.out.2]; rfl, F⟩
        · go_wp2_with fail
          go_ret2
          exact ⟨by rw [HV.out.1, HV.out.2]; rfl, F⟩
end Go.Proofs.Ytkaoadijijahhaa

/- Layer 4 (money): parts; its fixed fact. -/
namespace Go.Proofs.Ytkaoadijijahhaa
set_option maxRecDepth 100000
set_option linter.unusedVariables false
set_option linter.unusedSimpArgs false
open Go.RowKit

set_option maxRecDepth 100000 in
theorem aPart_val (a up by' : Nat) (more : Bool) (ha : a ≤ 4611686018427387904) (hup : up < 18446744073709551616) (hby : by' < 18446744073709551616) (hb : 0 < by') (w : World) :
    Calls Try.prog 14 #[.int .u64 (a : Int), .int .u64 (up : Int), .int .u64 (by' : Int), .bool more] w fun e w' => e = .returned (.tuple #[.int .u64 (ptA a up by' more : Nat), .int .i64 (ptE a up by' more)]) ∧ Fr F0 w w' := by
  have hx := prod_wide a up (by omega) (by omega)
  have hx1 := prod_room a up (by omega) (by omega)
  have hbw := word_wide by' (by omega)
  have hQ : a * up / by' + 1 < W256 := Nat.lt_of_le_of_lt (Nat.add_le_add_right (Nat.div_le_self _ _) 1) hx1
  have hRW : a * up % by' < W256 := Nat.lt_of_lt_of_le (Nat.mod_lt _ hb) (Nat.le_of_lt hbw)
  have h1W : 1 < W256 := by
    have : 2 ^ 1 ≤ W256 := Nat.pow_le_pow_right (by omega) (by omega)
    omega
  have hq : ptQ a up by' more < W256 := by
    unfold ptQ
    split <;> omega
  have e1 : (a * up / by' + 1) % W256 = a * up / by' + 1 := Nat.mod_eq_of_lt hQ
  have e2 : decide (W256 ≤ a * up / by' + 1) = false := decide_eq_false (by omega)
  refine aPart_core a up by' (a * up) (a * up / by') (a * up % by') (ptQ a up by' more) (if ptQ a up by' more < 18446744073709551616 then ptQ a up by' more else 0) _ _ (rowEq 256 (a * up % by') 0) (decide (ptQ a up by' more < 18446744073709551616)) _ more
    (Lib.hid (aRight_any a true (decide_eq_true ha)))
    (Lib.hid fun w => wProduct_any a up (by omega) (by omega) w)
    (Lib.hid fun w => wOf_any by' (by omega) w)
    (Lib.hid fun w => show Calls Try.prog 23 #[.int .u64 1] w _ from wOf_any 1 (by omega) w)
    (Lib.hid fun w => wDiv_any (a * up) by' hx hbw hb w)
    (Lib.hid fun w => by have := wAdd_any (a * up / by') 1 (by omega) h1W w; rwa [e1, e2] at this)
    rfl ?_ (Lib.hid fun w => wUint_any _ hq w) (Lib.hid fun w => aRight_any _ _ rfl w) ?_ ?_ w
  · rw [rowEq_of _ 0 hRW (by omega)]
    unfold ptQ
    by_cases hm : more = true ∧ a * up % by' ≠ 0
    · rw [if_pos hm, if_pos ⟨hm.1, decide_eq_false hm.2⟩]
    · rw [if_neg hm, if_neg fun h => hm ⟨h.1, of_decide_eq_false h.2⟩]
  · unfold ptA
    generalize ptQ a up by' more = q at *
    by_cases h1 : q ≤ 4611686018427387904
    · have h2 : q < 18446744073709551616 := by omega
      rw [if_pos h1, if_pos h2, decide_eq_true h2, decide_eq_true h1]; rfl
    · rw [if_neg h1]
      by_cases h2 : q < 18446744073709551616
      · rw [if_pos h2, decide_eq_true h2, decide_eq_false h1]; rfl
      · rw [if_neg h2, decide_eq_false h2]; rfl
  · unfold ptE
    generalize ptQ a up by' more = q at *
    by_cases h1 : q ≤ 4611686018427387904
    · have h2 : q < 18446744073709551616 := by omega
      rw [if_pos h1, if_pos h2, decide_eq_true h2, decide_eq_true h1]; rfl
    · rw [if_neg h1]
      by_cases h2 : q < 18446744073709551616
      · rw [if_pos h2, decide_eq_true h2, decide_eq_false h1]; rfl
      · rw [if_neg h2, decide_eq_false h2]; rfl

/-- What a part is, and what is told beside it. -/
def paV (a up by' : Nat) (more : Bool) : Nat := if a ≤ 4611686018427387904 ∧ 0 < by' then ptA a up by' more else 0
def paE (a up by' : Nat) (more : Bool) : Int := if a ≤ 4611686018427387904 then (if 0 < by' then ptE a up by' more else 5) else 1

theorem aPart_any (a up by' : Nat) (more : Bool) (hup : up < 18446744073709551616) (hby : by' < 18446744073709551616) (w : World) :
    Calls Try.prog 14 #[.int .u64 (a : Int), .int .u64 (up : Int), .int .u64 (by' : Int), .bool more] w fun e w' => e = .returned (.tuple #[.int .u64 (paV a up by' more : Nat), .int .i64 (paE a up by' more)]) ∧ Fr F0 w w' := by
  unfold paV paE
  by_cases ha : a ≤ 4611686018427387904
  · by_cases hb : 0 < by'
    · rw [if_pos ⟨ha, hb⟩, if_pos ha, if_pos hb]
      exact aPart_val a up by' more ha hup hby hb w
    · rw [if_neg fun h => hb h.2, if_pos ha, if_neg hb]
      exact aPart_zero a up by' more ha hup (by omega) w
  · rw [if_neg fun h => ha h.1, if_neg ha]
    exact aPart_arg a up by' more ha w

theorem paV_10f : paV 10 2 3 false = 6 := by decide
theorem paV_10t : paV 10 2 3 true = 7 := by decide
theorem paE_10f : paE 10 2 3 false = 0 := by decide
theorem paE_10t : paE 10 2 3 true = 0 := by decide


end Go.Proofs.Ytkaoadijijahhaa

/- Layer 5 (rate): what is right; the document's Right, N and Product. -/
namespace Go.Proofs.Ytkaoadijijahhaa
set_option maxRecDepth 100000
set_option linter.unusedVariables false
set_option linter.unusedSimpArgs false
open Go.RowKit



theorem asked_room {p t : Nat} (hp : p ≤ 1099511627776) (ht : t ≤ 1000000) : p * t ≤ 1099511627776000000 := Nat.mul_le_mul hp ht


theorem all_take {l : List Nat} {M i : Nat} (h : ∀ j, j < i → l.getD j 0 ≤ M) (hi : l.length ≤ i) : ∀ x ∈ l, x ≤ M := by
  intro x hx
  obtain ⟨j, hj, rfl⟩ := List.getElem_of_mem hx
  have := h j (by omega)
  simpa [List.getD, hj] using this
theorem getD_memU {l : List Nat} {j : Nat} (h : j < l.length) : l.getD j 0 ∈ l := by
  simp [List.getD, h]



end Go.Proofs.Ytkaoadijijahhaa

/- Lengths of the document's numbers; rows and slices that were just made. -/
namespace Go.Proofs.Ytkaoadijijahhaa
set_option maxRecDepth 100000
set_option linter.unusedVariables false
set_option linter.unusedSimpArgs false
open Go.RowKit

theorem lg_minp {x n : Nat} (h : x < pw n) : lg x ≤ n := lg_min h
theorem lg_small {z : Nat} (h : z < W256 * W256) : lg z ≤ 10000 := by
  have e16 : W256 = pw 16 := rfl
  rw [e16, ← pw_add] at h
  exact Nat.le_trans (lg_minp h) (by omega)
theorem lg_word {z : Nat} (h : z < W256) : lg z ≤ 16 := lg_minp (show z < pw 16 from h)

theorem set_first (a : Nat) (h : a < 18446744073709551616) : (rowN .u64 64 4 0).setIfInBounds 0 (.int .u64 (a : Int)) = rowN .u64 64 4 a := by
  have := set_word 0 0 a h
  rw [putw_new _ _ _ _ (by simp)] at this
  simpa using this

/-- A slice that was just built. -/
theorem Us.of_list (w : World) (l : List Nat) (t : TypeId) (hl : l.length ≤ 1000) : Us (w.alloc (.cells (l.map U64).toArray t)) (some ⟨w.heap.size, 0, none⟩) l.length l :=
  ⟨by simp, Nat.le_refl _, by unfold maxLen; omega, (fun e => by cases e), fun j u hj => ⟨w.heap.size, 0, rfl, by
    rw [Nat.zero_add, cell_of_row _ _ j _ _ _ (heap_alloc_new w _)]
    simpa using hj⟩⟩
theorem Us.of1 (w : World) (x : Nat) (t : TypeId) : Us (w.alloc (.cells #[.int .u64 (x : Int)] t)) (some ⟨w.heap.size, 0, none⟩) 1 [x] := Us.of_list w [x] t (by simp)
theorem Us.of2 (w : World) (x y : Nat) (t : TypeId) : Us (w.alloc (.cells #[.int .u64 (x : Int), .int .u64 (y : Int)] t)) (some ⟨w.heap.size, 0, none⟩) 2 [x, y] := Us.of_list w [x, y] t (by simp)
theorem Us.of3 (w : World) (x y z : Nat) (t : TypeId) : Us (w.alloc (.cells #[.int .u64 (x : Int), .int .u64 (y : Int), .int .u64 (z : Int)] t)) (some ⟨w.heap.size, 0, none⟩) 3 [x, y, z] := Us.of_list w [x, y, z] t (by simp)
end Go.Proofs.Ytkaoadijijahhaa

/- Layer 5 (rate): the document's N, Product, Divide. -/
namespace Go.Proofs.Ytkaoadijijahhaa
set_option maxRecDepth 100000
set_option linter.unusedVariables false
set_option linter.unusedSimpArgs false
open Go.RowKit

theorem r5N_any (x : Nat) (hx : x < 18446744073709551616) (w : World) :
    Calls Try.prog 11 #[.int .u64 (x : Int)] w fun e w' => NN x w e w' := by
  have hbn := rowN_nil4 0
  have hs := set_first x hx
  have HO := Lib.hid (r3Of_any x (word_wide x (by omega)))
  clear hx
  go_enter Try.func11, Try.ntmps11
  go_wp2_with fail
  (with_reducible refine (HO.out _).mono ?_); rintro e w1 ⟨p1, c1, rfl, n1, f1⟩
  go_wp2_with fail
  go_ret
  exact ⟨_, _, rfl, n1, f1⟩

/-- A product, one by one. -/
def prd (l : List Nat) : Nat := l.foldl (· * ·) 1
theorem prd_succ (l : List Nat) (i : Nat) (h : i < l.length) : prd (l.take (i + 1)) = prd (l.take i) * l.getD i 0 := by
  unfold prd
  rw [List.take_add_one, List.getElem?_eq_getElem h]
  simp only [Option.toList_some, List.foldl_append, List.foldl_cons, List.foldl_nil, List.getD, List.getElem?_eq_getElem h, Option.getD_some]
theorem prd_lt (l : List Nat) (hx : ∀ x ∈ l, x < 18446744073709551616) (i : Nat) (h : i ≤ l.length) : prd (l.take i) < 2 ^ (64 * i) ∨ i = 0 := by
  induction i with
  | zero => exact .inr rfl
  | succ i ih =>
    left
    rw [prd_succ l i h]
    have h1 := hx _ (getD_memU h)
    rcases ih (by omega) with h2 | h2
    · have := Nat.mul_lt_mul'' h2 h1
      rw [show 64 * (i + 1) = 64 * i + 64 by omega, Nat.pow_add]
      exact this
    · subst h2
      simpa [prd] using h1
theorem lg_prd (l : List Nat) (hx : ∀ x ∈ l, x < 18446744073709551616) (hl : l.length ≤ 100) (i : Nat) (h : i ≤ l.length) : lg (prd (l.take i)) ≤ 1000 := by
  rcases prd_lt l hx i h with h2 | h2
  · have : lg (prd (l.take i)) ≤ 4 * i := lg_min (by rw [show 16 * (4 * i) = 64 * i by omega]; exact h2)
    omega
  · subst h2
    have : lg (prd (l.take 0)) ≤ 1 := lg_min (by simp [prd])
    omega

set_option maxRecDepth 100000 in
set_option maxHeartbeats 4000000 in
theorem r5Product_any (l : List Nat) (a : Option Addr) (n c : Nat) (hn : n = l.length) (hl : l.length ≤ 100) (hx : ∀ x ∈ l, x < 18446744073709551616) (P : Nat) (hP : prd l = P) (w : World) (h : Us w a c l) :
    Calls Try.prog 10 #[.slice a n c] w fun e w' => NN P w e w' := by
  have HX := Lib.hid h
  have HN := Lib.hid hn
  have HL := Lib.hid (lg_prd l hx hl)
  have HW := Lib.hid hx
  have HP := Lib.hid (show prd (l.take n) = P by rw [hn, List.take_length]; exact hP)
  have hl : n ≤ 100 := by omega
  have H1 := Lib.hid (fun w => show Calls Try.prog 11 #[.int .u64 1] w fun e w' => NN 1 w e w' from r5N_any 1 (by omega) w)
  clear h hn hx hP
  go_enter Try.func10, Try.ntmps10
  go_wp2_with fail
  (with_reducible refine (H1.out _).mono ?_); rintro e w1 ⟨p1, c1, rfl, n1, f1⟩
  go_wp2_with fail
  go_loopw [3, 9] (fun ov iv wr => ∃ i : Nat, i ≤ n ∧ iv = .int .i64 i ∧ (∃ a' c', ov = .slice a' (lg (prd (l.take i))) c' ∧ Ns wr a' c' (prd (l.take i))) ∧ Fr F0 w wr) (fun _ iv _ => n - (intOf iv).toNat)
  case atStart => exact ⟨0, by omega, rfl, ⟨_, _, rfl, n1⟩, f1⟩
  case round =>
    clear n1 f1
    obtain ⟨i, hi, rfl, ⟨a1, c1, rfl, n1⟩, hf⟩ := hrel
    by_cases h1 : i < n
    · have l1 : (i : Int) < (n : Int) := by omega
      have hil : i < l.length := by rw [← HN.out]; exact h1
      obtain ⟨b, off, ea, hc⟩ := (Us.fr HX.out hf).get i hil
      subst ea
      have hxw := HW.out _ (getD_memU hil)
      have HNx := Lib.hid (r5N_any _ hxw)
      have HM := Lib.hid (fun p2 c2 w h1 h2 => r3Mul_any (prd (l.take i)) (l.getD i 0) a1 c1 p2 c2 (Nat.le_trans (HL.out i (by omega)) (by omega)) (Nat.le_trans (lg_word (word_wide _ (by omega))) (by omega)) w h1 h2)
      rw [← prd_succ l i hil] at HM
      clear hxw hil
      generalize l.getD i 0 = x at *
      go_wp2_with fail
      (with_reducible refine (HNx.out _).mono ?_); rintro e w2 ⟨p2, c2, rfl, n2, f2⟩
      replace hf := hf.trans' f2
      replace n1 := Us.fr n1 f2
      clear f2 hc
      go_wp2_with fail
      (with_reducible refine (HM.out _ _ _ n1 n2).mono ?_); rintro e w3 ⟨p3, c3, rfl, n3, f3⟩
      replace hf := hf.trans' f3
      clear f3 n1 n2
      go_wp2_with fail
      go_roundw
      case rel => exact ⟨i + 1, h1, by go_num, ⟨_, _, rfl, n3⟩, hf⟩
      case measure => simp [intOf]; omega
    · have l1 : ¬ (i : Int) < (n : Int) := by omega
      obtain rfl : i = n := by omega
      rw [HP.out] at n1
      rw [HP.out]
      clear HP HL
      go_wp2_with fail
      go_ret
      exact ⟨_, _, rfl, n1, hf⟩

/-- A quotient, rounded as asked. -/
def rdQ (a b : Nat) (more : Bool) : Nat := if more = true ∧ a % b ≠ 0 then a / b + 1 else a / b

set_option maxRecDepth 100000 in
set_option maxHeartbeats 16000000 in
theorem r5Divide_any (a b : Nat) (more : Bool) (p1 : Option Addr) (c1 : Nat) (p2 : Option Addr) (c2 : Nat) (q V : Nat) (o : Bool) (hb : 0 < b) (ha : a + 1 < W256) (hbw : b < W256)
    (hq : rdQ a b more = q) (hV : (if q ≤ 4611686018427387904 then q else 0) = V) (ho : decide (q ≤ 4611686018427387904) = o) (w : World) (h1 : Ns w p1 c1 a) (h2 : Ns w p2 c2 b) :
    Calls Try.prog 9 #[.slice p1 (lg a) c1, .slice p2 (lg b) c2, .bool more] w fun e w' => e = .returned (.tuple #[.int .u64 (V : Int), .bool o]) ∧ Fr F0 w w' := by
  have hQ : a / b + 1 < W256 := Nat.lt_of_le_of_lt (Nat.add_le_add_right (Nat.div_le_self _ _) 1) ha
  have hR : a % b < W256 := Nat.lt_of_lt_of_le (Nat.mod_lt _ hb) (Nat.le_of_lt hbw)
  have hqw : q < W256 := by rw [← hq]; unfold rdQ; split <;> omega
  have hMw : 4611686018427387904 < W256 := word_wide _ (by omega)
  have HOm := Lib.hid (fun w => show Calls Try.prog 11 #[.int .u64 4611686018427387904] w fun e w' => NN 4611686018427387904 w e w' from r5N_any 4611686018427387904 (by omega) w)
  have HO1 := Lib.hid (fun w => show Calls Try.prog 11 #[.int .u64 1] w fun e w' => NN 1 w e w' from r5N_any 1 (by omega) w)
  have HDv := Lib.hid (fun p1 c1 p2 c2 w h1 h2 => r3Div_any a b p1 c1 p2 c2 hb (Nat.le_trans (lg_word (by omega)) (by omega)) (fun z hz => lg_small (z := z) (by
    have h2 : W256 * 2 ≤ W256 * W256 := Nat.mul_le_mul_left _ (show 2 ≤ 2 ^ 256 from Nat.pow_le_pow_right (n := 2) (i := 1) (by omega) (by omega))
    omega)) w h1 h2)
  have HAd := Lib.hid (fun p1 c1 p2 c2 w h1 h2 => r3Add_any (a / b) 1 p1 c1 p2 c2 (Nat.le_trans (lg_word (z := a / b) (by omega)) (by omega)) (by rw [lg_one]; omega) w h1 h2)
  have HCm := Lib.hid (fun p1 c1 p2 c2 w h1 h2 => r3Cmp_any q 4611686018427387904 p1 c1 p2 c2 (Nat.le_trans (lg_word hqw) (by omega)) (Nat.le_trans (lg_word hMw) (by omega)) w h1 h2)
  have HWo := Lib.hid (fun p1 c1 w h1 => r3Words_any q p1 c1 (Nat.le_trans (lg_word hqw) (by omega)) w h1)
  rw [Nat.mod_eq_of_lt hqw, decide_eq_false (Nat.not_le.2 hqw)] at HWo
  have hlR : (0 < lg (a % b)) ∨ a % b = 0 := by
    by_cases h : a % b = 0
    · exact .inr h
    · exact .inl (lg_pos h)
  have hcase : (more = false ∧ q = a / b) ∨ (more = true ∧ lg (a % b) = 0 ∧ q = a / b) ∨ (more = true ∧ 0 < lg (a % b) ∧ q = a / b + 1) := by
    unfold rdQ at hq
    rcases hlR with h | h
    · have hne : a % b ≠ 0 := fun e => by rw [e, lg_zero] at h; omega
      cases more
      · exact .inl ⟨rfl, by rw [← hq]; exact if_neg fun h => by cases h.1⟩
      · exact .inr (.inr ⟨rfl, h, by rw [← hq]; exact if_pos ⟨rfl, hne⟩⟩)
    · cases more
      · exact .inl ⟨rfl, by rw [← hq]; exact if_neg fun h => by cases h.1⟩
      · exact .inr (.inl ⟨rfl, by rw [h]; rfl, by rw [← hq]; exact if_neg fun e => e.2 h⟩)
  have hz : (q ≤ 4611686018427387904 ∧ V = q ∧ o = true ∧ ¬ (0 : Int) < cmpZ q 4611686018427387904 ∧ dgt 64 q 0 = q) ∨ (V = 0 ∧ o = false ∧ (0 : Int) < cmpZ q 4611686018427387904) := by
    unfold cmpZ
    rw [← hV, ← ho]
    by_cases h : q ≤ 4611686018427387904
    · refine .inl ⟨h, if_pos h, decide_eq_true h, ?_, ?_⟩
      · split
        · omega
        · rw [if_neg (by omega)]; omega
      · unfold dgt
        rw [Nat.mul_zero, Nat.pow_zero, Nat.div_one]
        exact Nat.mod_eq_of_lt (by omega)
    · refine .inr ⟨if_neg h, decide_eq_false h, ?_⟩
      rw [if_neg (by omega), if_pos (by omega)]; omega
  have N1 := Lib.hid h1
  have N2 := Lib.hid h2
  clear hQ hR hqw hMw ha hb hbw hq hV ho hlR h1 h2
  generalize cmpZ q 4611686018427387904 = z at *
  generalize hlr : lg (a % b) = lr at *
  have HLR := Lib.hid hlr
  clear hlr
  generalize a % b = R at *
  generalize a / b = Q at *
  generalize hlq : lg Q = lQ at *
  have HLQ := Lib.hid hlq
  have HZ := Lib.hid hz
  clear hlq hz
  go_enter Try.func9, Try.ntmps9
  go_wp2_with fail
  (with_reducible refine (HDv.out _ _ _ _ _ N1.out N2.out).mono ?_); rintro e1 w1 ⟨p3, c3, p4, c4, rfl, n3, n4, F⟩
  clear n4
  rcases hcase with ⟨rfl, hq⟩ | ⟨rfl, hl0, hq⟩ | ⟨rfl, hl0, hq⟩
  · have hq := hq.symm
    subst hq
    have e := HLQ.out
    go_wp2_with fail
    (with_reducible refine (HOm.out _).mono ?_); rintro e1 w2 ⟨p5, c5, rfl, n5, f⟩
    replace F := F.trans' f
    replace n3 := Us.fr n3 f
    clear f
    rw [e] at HCm HWo
    clear e
    go_wp2_with fail
    (with_reducible refine (HCm.out _ _ _ _ _ n3 n5).mono ?_); rintro e1 w11 ⟨rfl, hw⟩; replace hw := hw.symm; subst hw
    clear n5
    rcases HZ.out with ⟨hqm, rfl, rfl, hz, hd⟩ | ⟨rfl, rfl, hz⟩
    · clear hqm
      go_wp2_with fail
      (with_reducible refine (HWo.out _ _ _ n3).mono ?_); rintro e1 w12 ⟨rfl, f⟩
      replace F := F.trans' f
      clear f n3
      go_wp2_with fail
      go_ret2
      exact ⟨rfl, (F.alloc _).setRow (fun h => by have := F.size; omega) _⟩
    · go_wp2_with fail
      go_ret2
      exact ⟨rfl, F⟩
  · have hq := hq.symm
    subst hq
    subst hl0
    have e := HLQ.out
    go_wp2_with fail
    (with_reducible refine (HOm.out _).mono ?_); rintro e1 w2 ⟨p5, c5, rfl, n5, f⟩
    replace F := F.trans' f
    replace n3 := Us.fr n3 f
    clear f
    rw [e] at HCm HWo
    clear e
    go_wp2_with fail
    (with_reducible refine (HCm.out _ _ _ _ _ n3 n5).mono ?_); rintro e1 w11 ⟨rfl, hw⟩; replace hw := hw.symm; subst hw
    clear n5
    rcases HZ.out with ⟨hqm, rfl, rfl, hz, hd⟩ | ⟨rfl, rfl, hz⟩
    · clear hqm
      go_wp2_with fail
      (with_reducible refine (HWo.out _ _ _ n3).mono ?_); rintro e1 w12 ⟨rfl, f⟩
      replace F := F.trans' f
      clear f n3
      go_wp2_with fail
      go_ret2
      exact ⟨rfl, (F.alloc _).setRow (fun h => by have := F.size; omega) _⟩
    · go_wp2_with fail
      go_ret2
      exact ⟨rfl, F⟩
  · have l4 : (0 : Int) < (lr : Int) := by omega
    rw [← hq] at HAd
    clear hl0 hq
    go_wp2_with fail
    (with_reducible refine (HO1.out _).mono ?_); rintro e1 w9 ⟨p9, c9, rfl, n9, f⟩
    replace F := F.trans' f
    replace n3 := Us.fr n3 f
    clear f
    go_wp2_with fail
    (with_reducible refine (HAd.out _ _ _ _ _ n3 n9).mono ?_); rintro e1 w10 ⟨p3, c3, rfl, n3, f⟩
    replace F := F.trans' f
    clear f n9
    go_wp2_with fail
    (with_reducible refine (HOm.out _).mono ?_); rintro e1 w2 ⟨p5, c5, rfl, n5, f⟩
    replace F := F.trans' f
    replace n3 := Us.fr n3 f
    clear f
    go_wp2_with fail
    (with_reducible refine (HCm.out _ _ _ _ _ n3 n5).mono ?_); rintro e1 w11 ⟨rfl, hw⟩; replace hw := hw.symm; subst hw
    clear n5
    rcases HZ.out with ⟨hqm, rfl, rfl, hz, hd⟩ | ⟨rfl, rfl, hz⟩
    · clear hqm
      go_wp2_with fail
      (with_reducible refine (HWo.out _ _ _ n3).mono ?_); rintro e1 w12 ⟨rfl, f⟩
      replace F := F.trans' f
      clear f n3
      go_wp2_with fail
      go_ret2
      exact ⟨rfl, (F.alloc _).setRow (fun h => by have := F.size; omega) _⟩
    · go_wp2_with fail
      go_ret2
      exact ⟨rfl, F⟩
end Go.Proofs.Ytkaoadijijahhaa

/- An argument that is a slice of amounts, opened. -/
namespace Go.Proofs.Ytkaoadijijahhaa
set_option maxRecDepth 100000
set_option linter.unusedVariables false
set_option linter.unusedSimpArgs false
open Go.RowKit Go.ChangeShapes Go.WideShapes Go.Deep

section
variable {H : Type} {enc : TypeId × Value → H} {w : World} {base : Nat} {spare : Nat → Bool} {held : Bool}


end
end Go.Proofs.Ytkaoadijijahhaa
