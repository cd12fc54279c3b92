import Derived.Test.YtjkeoameebdefaaZ3
import Derived.Test.YtjkeoameebdefaaZ1
import Derived.ProofKit
import Derived.OpenShut
import Derived.WideKeyArr2
import Derived.Below
import Derived.Test.YtjkeoameebdefaaZ2
import Derived.RecoverIn
/- Layer 3's fixed fact. -/
namespace Go.Proofs.Ytjkeoameebdefaa
set_option maxRecDepth 100000
set_option linter.unusedVariables false
set_option linter.unusedSimpArgs false
open Go.RowKit

@[simp high] theorem rowEq_self (m x : Nat) : rowEq m x x = true := decide_eq_true rfl

theorem rowN_nil4 (x : Nat) : (rowN .u64 64 4 x = #[]) = False := by
  apply eq_false
  intro h
  have := congrArg Array.size h
  rw [rowN_size] at this
  simp at this
theorem set_0 : (rowN .u64 64 4 0).setIfInBounds 0 (.int .u64 0) = rowN .u64 64 4 0 := by
  have := set_word 0 0 0 (by omega)
  rw [putw_zero0] at this
  exact this
theorem set_2 : (rowN .u64 64 4 0).setIfInBounds 1 (.int .u64 2) = rowN .u64 64 4 36893488147419103232 := by
  have := set_word 0 1 2 (by omega)
  rw [putw_one _ _ (by omega)] at this
  exact this


end Go.Proofs.Ytjkeoameebdefaa

/- An argument that is four words, opened. -/
namespace Go.Proofs.Ytjkeoameebdefaa
set_option maxRecDepth 100000
set_option linter.unusedVariables false
set_option linter.unusedSimpArgs false
open Go.RowKit Go.ChangeShapes Go.WideShapes


theorem four_words (cs : List Value) (z0 z1 z2 z3 : Int) (h0 : (cs.drop 0).take 1 = [.int .u64 z0]) (h1 : (cs.drop 1).take 1 = [.int .u64 z1]) (h2 : (cs.drop 2).take 1 = [.int .u64 z2]) (h3 : (cs.drop 3).take 1 = [.int .u64 z3]) (hl : cs.length = 4)
    (b0 : 0 ≤ z0 ∧ z0 < 18446744073709551616) (b1 : 0 ≤ z1 ∧ z1 < 18446744073709551616) (b2 : 0 ≤ z2 ∧ z2 < 18446744073709551616) (b3 : 0 ≤ z3 ∧ z3 < 18446744073709551616) : ∃ x : Nat, x < W256 ∧ cs.toArray = rowN .u64 64 4 x := by
  match cs, hl with
  | [c0, c1, c2, c3], _ =>
    simp at h0 h1 h2 h3
    subst h0 h1 h2 h3
    obtain ⟨x0, rfl⟩ := Int.eq_ofNat_of_zero_le b0.1
    obtain ⟨x1, rfl⟩ := Int.eq_ofNat_of_zero_le b1.1
    obtain ⟨x2, rfl⟩ := Int.eq_ofNat_of_zero_le b2.1
    obtain ⟨x3, rfl⟩ := Int.eq_ofNat_of_zero_le b3.1
    let f : Nat → Nat := fun i => if i = 0 then x0 else if i = 1 then x1 else if i = 2 then x2 else x3
    have hf : ∀ i, i < 4 → f i < 2 ^ 64 := fun i hi => by
      have : i = 0 ∨ i = 1 ∨ i = 2 ∨ i = 3 := by omega
      rcases this with rfl | rfl | rfl | rfl <;> simp [f] <;> omega
    refine ⟨ofDgts 64 f 4, ofDgts_lt 64 f 4 hf, ?_⟩
    have e : rowN .u64 64 4 (ofDgts 64 f 4) = ((List.range 4).map fun i => Value.int .u64 (f i : Nat)).toArray := by
      unfold rowN
      congr 1
      apply List.map_congr_left
      intro i hi
      rw [dgt_ofDgts 64 f 4 hf i (List.mem_range.1 hi)]
    rw [e]
    rfl

set_option maxRecDepth 100000 in
theorem bounds_u64' {a : Int} (h : (Lit.int .u64 a).wf = true) : 0 ≤ a ∧ a < 18446744073709551616 := by
  have := bounds_u64 h
  omega

section
variable {H : Type} {enc : TypeId × Value → H} {W : World} {base : Nat} {sp : Nat → Bool} {held : Bool}


set_option maxRecDepth 100000 in
theorem open_word {r : Reach} {b0 : Nat} {v : Value} {d : DataW H} {ps : List MemPlace} (hd : DataW.Trod enc Try.prog W base sp held 24 v d ps) (hv : Value.okWide Try.prog W r b0 24 v) :
    ∃ x : Nat, x < 2 ^ 64 ∧ v = .int .u64 (x : Int) := by
  obtain ⟨n, rfl⟩ := okWide_int Try.underlying24 hv
  obtain ⟨fuel, hf⟩ := hd
  obtain ⟨z, e, _, wf⟩ := DataW.trod_int Try.underlying24 (by simpa [Value.cells] using hf)
  have hb := bounds_u64' wf
  simp at e
  subst e
  obtain ⟨x, rfl⟩ := Int.eq_ofNat_of_zero_le hb.1
  exact ⟨x, by omega, rfl⟩
end
end Go.Proofs.Ytjkeoameebdefaa

/- Arguments that are amounts, bools, integers, opened. -/
namespace Go.Proofs.Ytjkeoameebdefaa
set_option maxRecDepth 100000
set_option linter.unusedVariables false
set_option linter.unusedSimpArgs false
open Go.RowKit Go.ChangeShapes Go.WideShapes

section
variable {H : Type} {enc : TypeId × Value → H} {W : World} {base : Nat} {sp : Nat → Bool} {held : Bool}

theorem open_amt {r : Reach} {b0 : Nat} {v : Value} {d : DataW H} {ps : List MemPlace} (hd : DataW.Trod enc Try.prog W base sp held 25 v d ps) (hv : Value.okWide Try.prog W r b0 25 v) :
    ∃ x : Nat, x < 18446744073709551616 ∧ v = .int .u64 (x : Int) := by
  obtain ⟨n, rfl⟩ := okWide_int Try.underlying25 hv
  obtain ⟨fuel, hf⟩ := hd
  obtain ⟨z, e, _, wf⟩ := DataW.trod_int Try.underlying25 (by simpa [Value.cells] using hf)
  have hb := bounds_u64' wf
  simp at e
  subst e
  obtain ⟨x, rfl⟩ := Int.eq_ofNat_of_zero_le hb.1
  exact ⟨x, by omega, rfl⟩
theorem open_bool {r : Reach} {b0 : Nat} {v : Value} {d : DataW H} {ps : List MemPlace} (hd : DataW.Trod enc Try.prog W base sp held 4 v d ps) (hv : Value.okWide Try.prog W r b0 4 v) :
    ∃ b : Bool, v = .bool b := okWide_bool Try.underlying4 hv
theorem open_int {r : Reach} {b0 : Nat} {v : Value} {d : DataW H} {ps : List MemPlace} (hd : DataW.Trod enc Try.prog W base sp held 3 v d ps) (hv : Value.okWide Try.prog W r b0 3 v) :
    ∃ n : Int, (Lit.int .i64 n).wf = true ∧ v = .int .i64 n := by
  obtain ⟨n, rfl⟩ := okWide_int Try.underlying3 hv
  obtain ⟨fuel, hf⟩ := hd
  obtain ⟨z, e, _, wf⟩ := DataW.trod_int Try.underlying3 (by simpa [Value.cells] using hf)
  simp at e
  subst e
  exact ⟨n, wf, rfl⟩
end
end Go.Proofs.Ytjkeoameebdefaa

/- Layer 4 (money): parts; its fixed fact. -/
namespace Go.Proofs.Ytjkeoameebdefaa
set_option maxRecDepth 100000
set_option linter.unusedVariables false
set_option linter.unusedSimpArgs false
open Go.RowKit


theorem word_wide (x : Nat) (h : x < 2 ^ 64) : x < W256 := Nat.lt_of_lt_of_le h (Nat.pow_le_pow_right (by omega) (by omega))
theorem prod_wide (x y : Nat) (hx : x < 2 ^ 64) (hy : y < 2 ^ 64) : x * y < W256 := Nat.lt_of_lt_of_le (Nat.mul_lt_mul'' hx hy) (by rw [← Nat.pow_add]; exact Nat.pow_le_pow_right (by omega) (by omega))
theorem prod_room (x y : Nat) (hx : x < 2 ^ 64) (hy : y < 2 ^ 64) : x * y + 1 < W256 := by
  have h1 := Nat.mul_lt_mul'' hx hy
  rw [← Nat.pow_add] at h1
  have h2 : 2 ^ (64 + 64) * 2 ≤ W256 := by rw [show 2 ^ (64 + 64) * 2 = 2 ^ 129 from rfl]; exact Nat.pow_le_pow_right (by omega) (by omega)
  generalize 2 ^ (64 + 64) = p at *
  omega


/-- A part, rounded as asked, of whatever size. -/
def ptQ (a up by' : Nat) (more : Bool) : Nat := if more = true ∧ a * up % by' ≠ 0 then a * up / by' + 1 else a * up / by'
def ptA (a up by' : Nat) (more : Bool) : Nat := if ptQ a up by' more ≤ 4611686018427387904 then ptQ a up by' more else 0
def ptE (a up by' : Nat) (more : Bool) : Int := if ptQ a up by' more ≤ 4611686018427387904 then 0 else 4


end Go.Proofs.Ytjkeoameebdefaa

/- Layer 4 (money): parts; its fixed fact. -/
namespace Go.Proofs.Ytjkeoameebdefaa
set_option maxRecDepth 100000
set_option linter.unusedVariables false
set_option linter.unusedSimpArgs false
open Go.RowKit


/-- What a part is, and what is told beside it. -/
def paV (a up by' : Nat) (more : Bool) : Nat := if a ≤ 4611686018427387904 ∧ 0 < by' then ptA a up by' more else 0
def paE (a up by' : Nat) (more : Bool) : Int := if a ≤ 4611686018427387904 then (if 0 < by' then ptE a up by' more else 5) else 1


theorem paV_10f : paV 10 2 3 false = 6 := by decide
theorem paV_10t : paV 10 2 3 true = 7 := by decide
theorem paE_10f : paE 10 2 3 false = 0 := by decide
theorem paE_10t : paE 10 2 3 true = 0 := by decide


end Go.Proofs.Ytjkeoameebdefaa

/- Layer 4 (money): amounts, told one by one; the deferred function that recovers. -/
namespace Go.Proofs.Ytjkeoameebdefaa
set_option maxRecDepth 100000
set_option linter.unusedVariables false
set_option linter.unusedSimpArgs false
open Go.RowKit Go.Shelf

attribute [local go_sem] Oper.semAt_some

abbrev encA (x : Nat) : Array Value := #[.int .u64 (x : Int)]
/-- What the iterator reads: its slice's header, and the amounts. -/
def seesA (l : List Nat) (Bx : Nat) (a : Option Addr) (c : Nat) (_ : List Nat) (W : World) : Prop :=
  W.cell? ⟨Bx, 0, none⟩ = some (.slice a l.length c) ∧ Us W a c l
def nextA (l : List Nat) (pre : List Nat) (x : Nat) : Prop := pre.length < l.length ∧ x = l.getD pre.length 0 ∧ pre = l.take pre.length



theorem recover_idle (n : Nat) (w : World) :
    CallsDIn Fence.wide n Try.prog 52 #[] .returning w fun e u' w' => (∃ v, e = .returned v) ∧ u' = .returning ∧ w' = w := by
  refine callsDIn_of_wpSIn Try.func52 rfl (by trivial) fun c₀ cs hu => ?_
  apply wpSIn_region
  simp [wpOpsSIn, go_sem, recoverD, hu, Try.ntmps52, Exit.thenS]
  cases c₀
  simp_all [bodyPostS, results, Try.results52]
end Go.Proofs.Ytjkeoameebdefaa

/- Layer 4 (money): the total of what an iterator tells. -/
namespace Go.Proofs.Ytjkeoameebdefaa
set_option maxRecDepth 100000
set_option linter.unusedVariables false
set_option linter.unusedSimpArgs false
open Go.RowKit Go.Shelf

attribute [local go_sem] Oper.semAt_some

/-- The total, and what is told beside it, from a sum so far. -/
def toV : Nat → List Nat → Nat
  | s, [] => s
  | s, x :: l => if adE s x = 0 then toV (s + x) l else 0
def toE : Nat → List Nat → Int
  | s, [] => 0
  | s, x :: l => if adE s x = 0 then toE (s + x) l else adE s x

theorem toV_cons (s x : Nat) (l : List Nat) : toV s (x :: l) = if adE s x = 0 then toV (s + x) l else 0 := rfl
theorem toE_cons (s x : Nat) (l : List Nat) : toE s (x :: l) = if adE s x = 0 then toE (s + x) l else adE s x := rfl
theorem toV_nil (s : Nat) : toV s [] = s := rfl
theorem toE_nil (s : Nat) : toE s [] = 0 := rfl
theorem sameC {w : World} {g : Nat} {v : Value} {t : TypeId} {f : Nat × Nat} (h : w.heap[g]? = some (.cells #[v] t f)) : (w.setCell ⟨g, 0, none⟩ v).heap[g]? = some (.cells #[v] t f) := by rw [heap_setCell_at, h]; rfl
theorem otherC {w : World} {g g' i : Nat} {v : Value} {o : Obj} (hn : g ≠ g') (h : w.heap[g]? = some o) : (w.setCell ⟨g', i, none⟩ v).heap[g]? = some o := by rw [heap_setCell_ne' _ _ _ _ _ hn]; exact h

/-- Two results, each one cell, an integer. -/
theorem res_cell2 {P : Program} {fn : Func} {p q : Tmp} {ty ty2 : TypeId} {k k2 : IntKind} (h : fn.results = #[.cell p ty, .cell q ty2]) (tmps : Array Value) (w : World) (g g' : Nat) (v v' : Value)
    (hp : tmps.getD p undef = .pointer (some ⟨g, 0, none⟩)) (hq : tmps.getD q undef = .pointer (some ⟨g', 0, none⟩)) (hc : w.cell? ⟨g, 0, none⟩ = some v) (hc' : w.cell? ⟨g', 0, none⟩ = some v')
    (hu : P.underlying ty = some (.int k)) (hu' : P.underlying ty2 = some (.int k2)) : (results fn tmps).run P w = .ok (.tuple #[v, v']) w := by
  have hp' : tmps[p]?.getD undef = .pointer (some ⟨g, 0, none⟩) := by simpa using hp
  have hq' : tmps[q]?.getD undef = .pointer (some ⟨g', 0, none⟩) := by simpa using hq
  have hagg : (isAgg ty).run P w = .ok false w := by
    unfold isAgg
    rw [Sem.run_bind, run_underlying hu w]
    rfl
  have hagg2 : (isAgg ty2).run P w = .ok false w := by
    unfold isAgg
    rw [Sem.run_bind, run_underlying hu' w]
    rfl
  simp [results, h, hp', hq', asAddr, loadVar, Sem.run_bind, hagg, hagg2, hc, hc']

theorem adE_ok {a b : Nat} (h : adE a b = 0) : a ≤ 4611686018427387904 ∧ b ≤ 4611686018427387904 ∧ a + b ≤ 4611686018427387904 := by
  unfold adE at h
  split at h
  · rename_i h1
    split at h
    · exact ⟨h1.1, h1.2, by assumption⟩
    · cases h
  · cases h
theorem adV_ok {a b : Nat} (h : adE a b = 0) : adV a b = a + b := if_pos (adE_ok h)
theorem adV_no {a b : Nat} (h : ¬ adE a b = 0) : adV a b = 0 := by
  refine if_neg fun h1 => h ?_
  unfold adE
  rw [if_pos ⟨h1.1, h1.2.1⟩, if_pos h1.2.2]


end Go.Proofs.Ytjkeoameebdefaa

/- Layer 9 (tx): money's Total over any iterator of amounts. -/
namespace Go.Proofs.Ytjkeoameebdefaa
set_option maxRecDepth 100000
set_option linter.unusedVariables false
set_option linter.unusedSimpArgs false
open Go.RowKit Go.Shelf

attribute [local go_sem] Oper.semAt_some

set_option maxRecDepth 100000 in
set_option maxHeartbeats 8000000 in
theorem mTotal_seq (gf : Nat) (lb : Array Value) (l : List Nat) (hl : ∀ x ∈ l, x < 18446744073709551616) (C : List Nat → World → Prop) (w : World) (eg : ∀ args w, (callFunc gf args).run Try.prog w = .ok (.enter gf args) w)
    (hseq : SeqO Try.prog gf lb encA Ku C (fun pre x _ _ => nextA l pre x) (fun xs => xs = l)) (hC : ∀ pre W, Fr F0 w W → C pre W) :
    Calls Try.prog 45 #[.func (.func gf) #[] lb] w fun e w' => e = .returned (.tuple #[.int .u64 (toV 0 l : Nat), .int .i64 (toE 0 l)]) ∧ Fr F0 w w' := by
  have hmf : ∀ (fn : Fn) (first cap : Array Value) (w : World), (Instr.makeFunc fn first cap).run Try.prog w = .ok (.func fn first cap) w := fun _ _ _ _ => rfl
  refine callsIn_wide (n := 6) |>.1 ?_
  refine callsIn_of_wp_marks Try.func45 rfl trivial ?_ rfl
  simp only [Try.ntmps45, List.size_toArray, List.length_cons, List.length_nil, Nat.reduceAdd, Nat.reduceSub, Array.replicate_succ, Array.replicate_zero, List.push_toArray, List.append_toArray, List.nil_append, List.cons_append]
  gi_wp2
  obtain ⟨W1, hW1⟩ : ∃ W1, W1 = (w.alloc (.cells #[.int .u64 0] 25)).alloc (.cells #[.int .i64 0] 36) := ⟨_, rfl⟩
  refine wpIn_of_world W1 hW1 ?_
  have f1 : Fr F0 w W1 := by rw [hW1]; exact ((Fr.refl F0 w).alloc _).alloc _
  obtain ⟨r2, r3⟩ := heap2 w (.cells #[.int .u64 0] 25) (.cells #[.int .i64 0] 36)
  rw [← hW1] at r2 r3
  have hs1 : W1.heap.size = w.heap.size + 1 + 1 := by rw [hW1]; simp
  clear hW1
  generalize hg2 : w.heap.size = g2 at *
  generalize hg3 : g2 + 1 = g3 at *
  have n32 : g3 ≠ g2 := by omega
  have n23 : g2 ≠ g3 := by omega
  have HG := Lib.hid (show w.heap.size = g2 ∧ g2 ≤ W1.heap.size ∧ g2 ≤ g3 ∧ g3 < W1.heap.size by omega)
  have HX := Lib.hid hl
  have HC := Lib.hid hC
  clear hg2 hg3 hs1 hl hC
  have hOI := OwnFrom.and (OwnFrom.and (own_heap W1.heap.size g2 (fun pre : List Nat => #[.int .u64 (pre.sum : Nat)]) 25 (0, 0)) (own_heap W1.heap.size g3 (fun _ : List Nat => #[.int .i64 0]) 36 (0, 0))) (OwnFrom.and (own_pure W1.heap.size (fun pre : List Nat => pre.sum < 18446744073709551616 ∧ toV 0 l = toV pre.sum (l.drop pre.length) ∧ toE 0 l = toE pre.sum (l.drop pre.length))) (own_below (β := List Nat) W1.heap.size g2 W1 (Nat.le_refl _) HG.out.2.1))
  refine range_lawO (gf := gf) (lb := lb) rfl eg hseq (fun _ => rfl) Ku.trans (fun W o => Ku.put o (by omega))
    (fun pre W => (W.heap[g2]? = some (.cells #[.int .u64 (pre.sum : Nat)] 25 (0, 0)) ∧ W.heap[g3]? = some (.cells #[.int .i64 0] 36 (0, 0))) ∧ (pre.sum < 18446744073709551616 ∧ toV 0 l = toV pre.sum (l.drop pre.length) ∧ toE 0 l = toE pre.sum (l.drop pre.length)) ∧ Below g2 W1 W)
    (fun cc _ W => cc = .exit 0 ∧ (W.heap[g2]? = some (.cells #[.int .u64 (toV 0 l : Nat)] 25 (0, 0)) ∧ W.heap[g3]? = some (.cells #[.int .i64 (toE 0 l)] 36 (0, 0))) ∧ Below g2 W1 W)
    hOI
    (fun cc => OwnFrom.and (own_pure _ _) (OwnFrom.and (OwnFrom.and (own_heap _ _ _ _ _) (own_heap _ _ _ _ _)) (own_below _ _ _ (Nat.le_refl _) HG.out.2.1)))
    ?sees ⟨⟨r2, r3⟩, ⟨by simp, rfl, rfl⟩, Below.refl _ _⟩
    (fun pre x a' _ => a' = { tmps := #[.func (.func gf) #[] lb, undef, .pointer (some ⟨g2, 0, none⟩), .pointer (some ⟨g3, 0, none⟩), .int .u64 (x : Int), .func (.func gf) #[] lb, .int .u64 (x : Int), undef, undef, undef, undef, undef, undef, undef, undef, undef, undef], defers := [] } ∧ nextA l pre x)
    (fun _ _ _ => own_pure _ _) ?assign ?body ?done ?stop
  case sees =>
    rintro pre W ⟨_, _, hB⟩
    have hF : Fr F0 w W := f1.trans (Fr.of_below' hB) fun i hi hk => by have := HG.out; omega
    exact HC.out _ _ hF
  case assign =>
    intro lp pre x W0 W K hi0 f0 hn hK
    gi_wp2
    exact hK _ _ (KeepsFrom.refl _ _) (Ku.refl _ _) (own_frI hOI hi0 f0) ⟨rfl, hn⟩
  case body =>
    rintro lp pre x a' W ⟨⟨q2, q3⟩, ⟨hs, hV, hE⟩, hB⟩ ⟨rfl, hlt, rfl, hpre⟩
    obtain ⟨k, hk⟩ : ∃ k, k = pre.length := ⟨_, rfl⟩
    rw [← hk] at hlt hV hE ⊢
    have hx : l.getD k 0 < 18446744073709551616 := HX.out _ (by rw [show l.getD k 0 = l[k] by simp [List.getD, List.getElem?_eq_getElem hlt]]; exact List.getElem_mem _)
    have hd : l.drop k = l.getD k 0 :: l.drop (k + 1) := by rw [List.drop_eq_getElem_cons hlt]; simp [List.getD, List.getElem?_eq_getElem hlt]
    rw [hd] at hV hE
    have HK := Lib.hid (show (pre ++ [l.getD k 0]).length = k + 1 ∧ (pre ++ [l.getD k 0]).sum = pre.sum + l.getD k 0 by simp [hk])
    generalize l.getD k 0 = x at *
    generalize pre.sum = s at *
    have HA := Lib.hid (aAdd_any s x hs hx)
    rw [toV_cons] at hV
    rw [toE_cons] at hE
    clear hs hx hd hk hpre hlt
    by_cases he : adE s x = 0
    · have hk := adE_ok he
      rw [adV_ok he, he] at HA
      rw [if_pos he] at hV hE
      have HV := Lib.hid (And.intro hV (And.intro hE (show s + x < 18446744073709551616 by omega)))
      clear hV hE he hk
      gi_wp2_with (refine ⟨trivial, ?_⟩; gi_at_call 32; refine (CallsIn.inRound lp (callsIn_wide.2 (HA.out _))).mono ?_; rintro e w4 ⟨rfl, f4⟩; replace q2 := f4.keeps (fun f => f) q2; replace q3 := f4.keeps (fun f => f) q3; have H4 := Lib.hid f4; clear f4)
      have b4 : Below g2 W1 w4 := hB.trans (H4.out.below (Nat.le_trans HG.out.2.1 hB.size) fun _ _ f => f)
      have b5 := (b4.setCell (p := ⟨g2, 0, none⟩) (Nat.le_refl _) (.int .u64 ((s : Int) + (x : Int)))).setCell (p := ⟨g3, 0, none⟩) HG.out.2.2.1 (.int .i64 0)
      have k5 := ((H4.out.keepsFrom W1.heap.size).trans ((KeepsOthers.setCell w4 ⟨g2, 0, none⟩ (.int .u64 ((s : Int) + (x : Int)))).from _)).trans ((KeepsOthers.setCell _ ⟨g3, 0, none⟩ (.int .i64 0)).from _)
      have u5 : Ku (W1.heap.size + 2) W ((w4.setCell ⟨g2, 0, none⟩ (.int .u64 ((s : Int) + (x : Int)))).setCell ⟨g3, 0, none⟩ (.int .i64 0)) := Ku.fr (S := fun k => k = g2 ∨ k = g3) ((H4.out.of0.setCell (p := ⟨g2, 0, none⟩) (fun _ => .inl rfl) _).setCell (p := ⟨g3, 0, none⟩) (fun _ => .inr rfl) _) (fun k e => by have := HG.out; omega)
      refine ⟨k5, u5, ⟨?_, ?_⟩, ⟨?_, ?_, ?_⟩, b5⟩
      · rw [HK.out.2, heap_setCell_ne' _ _ _ _ _ n23, heap_setCell_at, q2]; rfl
      · rw [heap_setCell_at, heap_setCell_ne' _ _ _ _ _ n32, q3]; rfl
      · rw [HK.out.2]; exact HV.out.2.2
      · rw [HK.out.1, HK.out.2]; exact HV.out.1
      · rw [HK.out.1, HK.out.2]; exact HV.out.2.1
    · rw [adV_no he] at HA
      rw [if_neg he] at hV hE
      have HV := Lib.hid (And.intro hV hE)
      clear hV hE
      generalize adE s x = ee at *
      gi_wp2_with (refine ⟨trivial, ?_⟩; gi_at_call 32; refine (CallsIn.inRound lp (callsIn_wide.2 (HA.out _))).mono ?_; rintro e w4 ⟨rfl, f4⟩; replace q2 := f4.keeps (fun f => f) q2; replace q3 := f4.keeps (fun f => f) q3; have H4 := Lib.hid f4; clear f4)
      have b4 : Below g2 W1 w4 := hB.trans (H4.out.below (Nat.le_trans HG.out.2.1 hB.size) fun _ _ f => f)
      have b5 := (b4.setCell (p := ⟨g2, 0, none⟩) (Nat.le_refl _) (.int .u64 (0))).setCell (p := ⟨g3, 0, none⟩) HG.out.2.2.1 (.int .i64 ee)
      have k5 := ((H4.out.keepsFrom W1.heap.size).trans ((KeepsOthers.setCell w4 ⟨g2, 0, none⟩ (.int .u64 (0))).from _)).trans ((KeepsOthers.setCell _ ⟨g3, 0, none⟩ (.int .i64 ee)).from _)
      have u5 : Ku (W1.heap.size + 2) W ((w4.setCell ⟨g2, 0, none⟩ (.int .u64 0)).setCell ⟨g3, 0, none⟩ (.int .i64 ee)) := Ku.fr (S := fun k => k = g2 ∨ k = g3) ((H4.out.of0.setCell (p := ⟨g2, 0, none⟩) (fun _ => .inl rfl) _).setCell (p := ⟨g3, 0, none⟩) (fun _ => .inr rfl) _) (fun k e => by have := HG.out; omega)
      refine ⟨k5, ⟨rfl, ⟨?_, ?_⟩, b5⟩, u5⟩
      · rw [heap_setCell_ne' _ _ _ _ _ n23, heap_setCell_at, q2, HV.out.1]; rfl
      · rw [heap_setCell_at, heap_setCell_ne' _ _ _ _ _ n32, q3, HV.out.2]; rfl
  case done =>
    rintro D ys W hD hy ⟨⟨q2, q3⟩, ⟨_, hV, hE⟩, hB⟩ hK
    replace hy := hy.symm
    subst hy
    rw [List.drop_length] at hV hE
    rw [toV_nil] at hV
    rw [toE_nil] at hE
    rw [← hV] at q2
    rw [← hE] at q3
    clear hV hE
    generalize hVV : toV 0 l = V at *
    generalize hEE : toE 0 l = E at *
    have HVE := Lib.hid (And.intro hVV hEE)
    clear hVV hEE
    gi_wp2
    refine wpIn_wide.2 ?_
    refine rbegin (S := (fun w' => w'.heap[g2]? = some (.cells #[.int .u64 (V : Int)] 25 (0, 0)) ∧ w'.heap[g3]? = some (.cells #[.int .i64 E] 36 (0, 0)))) ?_ fun hHeld => ?_
    · ((try dsimp only) <;> ((refine ⟨?_, ?_⟩ <;> (try simp only [heap_drew']) <;> (repeat (first | exact q2 | exact q3 | exact hHeld.1 | exact hHeld.2 | refine sameC ?_ | refine otherC n23 ?_ | refine otherC n32 ?_)))))
    refine rtake 0 ?_
    refine rtake 1 ?_
    refine rone 2 fun K hK => ?_
    go_simp
    refine hK.out _ _ ?_ (fun hHeld => ?_)
    · ((try dsimp only) <;> ((refine ⟨?_, ?_⟩ <;> (try simp only [heap_drew']) <;> (repeat (first | exact q2 | exact q3 | exact hHeld.1 | exact hHeld.2 | refine sameC ?_ | refine otherC n23 ?_ | refine otherC n32 ?_)))))
    clear hK K
    try (simp only [Act.put, aST]; dsimp only [aS0, aS1])
    refine rone 3 fun K hK => ?_
    go_simp
    refine hK.out _ _ ?_ (fun hHeld => ?_)
    · ((try dsimp only) <;> ((refine ⟨?_, ?_⟩ <;> (try simp only [heap_drew']) <;> (repeat (first | exact q2 | exact q3 | exact hHeld.1 | exact hHeld.2 | refine sameC ?_ | refine otherC n23 ?_ | refine otherC n32 ?_)))))
    clear hK K
    try (simp only [Act.put, aST]; dsimp only [aS0, aS1])
    refine rdone ?_
    all_goals
      have hD2 : D ≠ g2 := fun e => by subst e; rw [q2] at hK; cases hK
      have hD3 : D ≠ g3 := fun e => by subst e; rw [q3] at hK; cases hK
      obtain ⟨e2, e3⟩ := hHeld
      generalize hW9 : World.drew (World.setCell (World.setCell _ _ _) _ _) = W9 at *
      have hK' : W9.heap[D]? = some (.deferred (some [])) := by
        rw [← hW9]
        simp only [heap_drew']
        first
          | exact otherC hD3 (otherC hD2 hK)
          | exact otherC hD2 (otherC hD3 hK)
      have b9 : Below g2 W1 W9 := by
        rw [← hW9]
        first
          | exact ((hB.setCell (p := ⟨g2, 0, none⟩) (Nat.le_refl _) _).setCell (p := ⟨g3, 0, none⟩) HG.out.2.2.1 _).drew
          | exact ((hB.setCell (p := ⟨g3, 0, none⟩) HG.out.2.2.1 _).setCell (p := ⟨g2, 0, none⟩) (Nat.le_refl _) _).drew
      clear hW9
      have b10 := b9.trans (belowK_b (w := W1) HG.out.2.1 W9 D _ (.deferred none) hD hK' rfl rfl)
      replace e2 : (W9.putObj D (.deferred none)).heap[g2]? = some (.cells #[.int .u64 (V : Int)] 25 (0, 0)) := (World.putObj_heap_other (fun e => hD2 e.symm)).trans e2
      replace e3 : (W9.putObj D (.deferred none)).heap[g3]? = some (.cells #[.int .i64 E] 36 (0, 0)) := (World.putObj_heap_other (fun e => hD3 e.symm)).trans e3
      gi_wp2
      refine ⟨by simp, .inl ⟨_, _, rfl, run_takeDeferred hK', ?_⟩⟩
      refine ⟨by simp, .inr ⟨by simp [Fence.wide], .func 52, #[], 52, #[], rfl, by simp [go_sem], fun _ _ => trivial, ?_⟩⟩
      refine (recover_idle _ _).mono ?_
      rintro e u' w' ⟨⟨v, rfl⟩, rfl, hw⟩
      replace hw := hw.symm
      subst hw
      exact ⟨_, res_cell2 rfl _ _ g2 g3 _ _ rfl rfl (by rw [cell_at, e2, HVE.out.1]; rfl) (by rw [cell_at, e3, HVE.out.2]; rfl) Try.underlying25 Try.underlying36, rfl, f1.trans (Fr.of_below' b10) fun i hi hk => by have := HG.out; omega⟩
  case stop =>
    rintro D cc pre W hD ⟨rfl, ⟨q2, q3⟩, hB⟩ hK
    generalize hVV : toV 0 l = V at *
    generalize hEE : toE 0 l = E at *
    have HVE := Lib.hid (And.intro hVV hEE)
    clear hVV hEE
    gi_wp2
    refine wpIn_wide.2 ?_
    refine rbegin (S := (fun w' => w'.heap[g2]? = some (.cells #[.int .u64 (V : Int)] 25 (0, 0)) ∧ w'.heap[g3]? = some (.cells #[.int .i64 E] 36 (0, 0)))) ?_ fun hHeld => ?_
    · ((try dsimp only) <;> ((refine ⟨?_, ?_⟩ <;> (try simp only [heap_drew']) <;> (repeat (first | exact q2 | exact q3 | exact hHeld.1 | exact hHeld.2 | refine sameC ?_ | refine otherC n23 ?_ | refine otherC n32 ?_)))))
    refine rtake 0 ?_
    refine rtake 1 ?_
    refine rone 2 fun K hK => ?_
    go_simp
    refine hK.out _ _ ?_ (fun hHeld => ?_)
    · ((try dsimp only) <;> ((refine ⟨?_, ?_⟩ <;> (try simp only [heap_drew']) <;> (repeat (first | exact q2 | exact q3 | exact hHeld.1 | exact hHeld.2 | refine sameC ?_ | refine otherC n23 ?_ | refine otherC n32 ?_)))))
    clear hK K
    try (simp only [Act.put, aST]; dsimp only [aS0, aS1])
    refine rone 3 fun K hK => ?_
    go_simp
    refine hK.out _ _ ?_ (fun hHeld => ?_)
    · ((try dsimp only) <;> ((refine ⟨?_, ?_⟩ <;> (try simp only [heap_drew']) <;> (repeat (first | exact q2 | exact q3 | exact hHeld.1 | exact hHeld.2 | refine sameC ?_ | refine otherC n23 ?_ | refine otherC n32 ?_)))))
    clear hK K
    try (simp only [Act.put, aST]; dsimp only [aS0, aS1])
    refine rdone ?_
    all_goals
      have hD2 : D ≠ g2 := fun e => by subst e; rw [q2] at hK; cases hK
      have hD3 : D ≠ g3 := fun e => by subst e; rw [q3] at hK; cases hK
      obtain ⟨e2, e3⟩ := hHeld
      generalize hW9 : World.drew (World.setCell (World.setCell _ _ _) _ _) = W9 at *
      have hK' : W9.heap[D]? = some (.deferred (some [])) := by
        rw [← hW9]
        simp only [heap_drew']
        first
          | exact otherC hD3 (otherC hD2 hK)
          | exact otherC hD2 (otherC hD3 hK)
      have b9 : Below g2 W1 W9 := by
        rw [← hW9]
        first
          | exact ((hB.setCell (p := ⟨g2, 0, none⟩) (Nat.le_refl _) _).setCell (p := ⟨g3, 0, none⟩) HG.out.2.2.1 _).drew
          | exact ((hB.setCell (p := ⟨g3, 0, none⟩) HG.out.2.2.1 _).setCell (p := ⟨g2, 0, none⟩) (Nat.le_refl _) _).drew
      clear hW9
      have b10 := b9.trans (belowK_b (w := W1) HG.out.2.1 W9 D _ (.deferred none) hD hK' rfl rfl)
      replace e2 : (W9.putObj D (.deferred none)).heap[g2]? = some (.cells #[.int .u64 (V : Int)] 25 (0, 0)) := (World.putObj_heap_other (fun e => hD2 e.symm)).trans e2
      replace e3 : (W9.putObj D (.deferred none)).heap[g3]? = some (.cells #[.int .i64 E] 36 (0, 0)) := (World.putObj_heap_other (fun e => hD3 e.symm)).trans e3
      gi_wp2
      refine ⟨by simp, .inl ⟨_, _, rfl, run_takeDeferred hK', ?_⟩⟩
      refine ⟨by simp, .inr ⟨by simp [Fence.wide], .func 52, #[], 52, #[], rfl, by simp [go_sem], fun _ _ => trivial, ?_⟩⟩
      refine (recover_idle _ _).mono ?_
      rintro e u' w' ⟨⟨v, rfl⟩, rfl, hw⟩
      replace hw := hw.symm
      subst hw
      exact ⟨_, res_cell2 rfl _ _ g2 g3 _ _ rfl rfl (by rw [cell_at, e2, HVE.out.1]; rfl) (by rw [cell_at, e3, HVE.out.2]; rfl) Try.underlying25 Try.underlying36, rfl, f1.trans (Fr.of_below' b10) fun i hi hk => by have := HG.out; omega⟩
end Go.Proofs.Ytjkeoameebdefaa

/- Lengths of the document's numbers; rows and slices that were just made. -/
namespace Go.Proofs.Ytjkeoameebdefaa
set_option maxRecDepth 100000
set_option linter.unusedVariables false
set_option linter.unusedSimpArgs false
open Go.RowKit

theorem lg_minp {x n : Nat} (h : x < pw n) : lg x ≤ n := lg_min h
theorem lg_small {z : Nat} (h : z < W256 * W256) : lg z ≤ 10000 := by
  have e16 : W256 = pw 16 := rfl
  rw [e16, ← pw_add] at h
  exact Nat.le_trans (lg_minp h) (by omega)
theorem lg_word {z : Nat} (h : z < W256) : lg z ≤ 16 := lg_minp (show z < pw 16 from h)

theorem set_first (a : Nat) (h : a < 18446744073709551616) : (rowN .u64 64 4 0).setIfInBounds 0 (.int .u64 (a : Int)) = rowN .u64 64 4 a := by
  have := set_word 0 0 a h
  rw [putw_new _ _ _ _ (by simp)] at this
  simpa using this

/-- A slice that was just built. -/
theorem Us.of_list (w : World) (l : List Nat) (t : TypeId) (hl : l.length ≤ 1000) : Us (w.alloc (.cells (l.map U64).toArray t)) (some ⟨w.heap.size, 0, none⟩) l.length l :=
  ⟨by simp, Nat.le_refl _, by unfold maxLen; omega, (fun e => by cases e), fun j u hj => ⟨w.heap.size, 0, rfl, by
    rw [Nat.zero_add, cell_of_row _ _ j _ _ _ (heap_alloc_new w _)]
    simpa using hj⟩⟩
theorem Us.of1 (w : World) (x : Nat) (t : TypeId) : Us (w.alloc (.cells #[.int .u64 (x : Int)] t)) (some ⟨w.heap.size, 0, none⟩) 1 [x] := Us.of_list w [x] t (by simp)
theorem Us.of2 (w : World) (x y : Nat) (t : TypeId) : Us (w.alloc (.cells #[.int .u64 (x : Int), .int .u64 (y : Int)] t)) (some ⟨w.heap.size, 0, none⟩) 2 [x, y] := Us.of_list w [x, y] t (by simp)
theorem Us.of3 (w : World) (x y z : Nat) (t : TypeId) : Us (w.alloc (.cells #[.int .u64 (x : Int), .int .u64 (y : Int), .int .u64 (z : Int)] t)) (some ⟨w.heap.size, 0, none⟩) 3 [x, y, z] := Us.of_list w [x, y, z] t (by simp)
end Go.Proofs.Ytjkeoameebdefaa

/- Arguments that are parties, opened. -/
namespace Go.Proofs.Ytjkeoameebdefaa
set_option maxRecDepth 100000
set_option linter.unusedVariables false
set_option linter.unusedSimpArgs false
open Go.RowKit Go.ChangeShapes Go.WideShapes

section
variable {H : Type} {enc : TypeId × Value → H} {W : World} {base : Nat} {sp : Nat → Bool} {held : Bool}
set_option maxRecDepth 100000 in
theorem open_who {r : Reach} {b0 : Nat} {v : Value} {d : DataW H} {ps : List MemPlace} (hd : DataW.Trod enc Try.prog W base sp held 23 v d ps) (hv : Value.okWide Try.prog W r b0 23 v) :
    ∃ x : Nat, x < 256 ∧ v = .int .u8 (x : Int) := by
  obtain ⟨n, rfl⟩ := okWide_int Try.underlying23 hv
  obtain ⟨fuel, hf⟩ := hd
  obtain ⟨z, e, _, wf⟩ := DataW.trod_int Try.underlying23 (by simpa [Value.cells] using hf)
  have hb := bounds_u8 wf
  simp at e
  subst e
  obtain ⟨x, rfl⟩ := Int.eq_ofNat_of_zero_le hb.1
  exact ⟨x, by omega, rfl⟩
end
end Go.Proofs.Ytjkeoameebdefaa
