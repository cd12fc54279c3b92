import Derived.Test.YtkekdbnmeobgiaaZ2
import Derived.Deep.RegionWith
import Derived.OrdersHeld
import Derived.Deep.RegionHeld3
import Derived.Laws.Externs
import Derived.Laws.BitsAllLaws
import Derived.Test.YtkekdbnmeobgiaaZ1
import Derived.Laws.CopyRow
import Derived.Lib.Tables
import Derived.Lib.BitFns
import Derived.Deep.CutBlock
import Derived.Deep.DeepCutAuto
import Derived.OwnWalk
import Derived.Laws.OwnMore
/- Layer 3 (wide): how the walk reads and writes whole numbers. -/
namespace Go.Proofs.Ytkekdbnmeobgiaa
set_option maxRecDepth 100000
set_option linter.unusedVariables false
set_option linter.unusedSimpArgs false
open Go.RowKit











theorem heap_new3 (w : World) (A B C : Obj) : (((w.alloc A).alloc B).alloc C).heap[w.heap.size + 1 + 1]? = some C := by
  have := heap_alloc_new ((w.alloc A).alloc B) C
  simpa using this
theorem heap_new4 (w : World) (A B C D : Obj) : ((((w.alloc A).alloc B).alloc C).alloc D).heap[w.heap.size + 1 + 1 + 1]? = some D := by
  have := heap_alloc_new (((w.alloc A).alloc B).alloc C) D
  simpa using this
attribute [simp high] heap_alloc2_new heap_new3 heap_new4 rowOut_cells rowIn_cells heap_alloc_new heap_alloc_old heap_setRow_at heap_setRow_ne heap_setCell_at heap_setCell_ne' withRow_cells withCell_cells cellAt_cells frozenAt_cells heap_drew' rowN_size rowN_rowOne rowN_get rowN_getElem
attribute [go_sem low] cell_at frozen_at

theorem Try.szU64 : (Try.prog.info? 23).map (·.size) = some 1 := by kernel_rfl
theorem Try.szU8 : (Try.prog.info? 5).map (·.size) = some 1 := by kernel_rfl



@[simp high] theorem putw_zero0 (v : Nat) : putw 64 0 0 v = v := by rw [putw_new _ _ _ _ (by simp)]; simp
@[simp high] theorem putw_one (x y : Nat) (h : x < 2 ^ 64) : putw 64 x 1 y = x + 2 ^ 64 * y := putw_new _ _ _ _ h

/-- A number's cells. -/
abbrev WR (x : Nat) : Array Value := rowN .u64 64 4 x
/-- A number as a value. -/
abbrev WV (x : Nat) : Value := .agg (rowN .u64 64 4 x)

theorem WR_zero : rowN .u64 64 4 0 = #[.int .u64 0, .int .u64 0, .int .u64 0, .int .u64 0] := by
  simp [rowN, dgt, List.range_succ]
theorem WR_word (x : Nat) (h : x < 2 ^ 64) : rowN .u64 64 4 x = #[.int .u64 (x : Int), .int .u64 0, .int .u64 0, .int .u64 0] := by
  have e : x % 18446744073709551616 = x := Nat.mod_eq_of_lt (by simpa using h)
  simp only [rowN, List.range_succ, List.range_zero, dgt]
  simp only [List.nil_append, List.map_append, List.map_cons, List.map_nil, List.cons_append]
  simp [e, Nat.div_eq_of_lt (show x < 2 ^ 128 by omega), Nat.div_eq_of_lt (show x < 2 ^ 192 by omega), Nat.div_eq_of_lt h]
  all_goals omega
@[go_sem high] theorem zero4 : (#[.int .u64 0, .int .u64 0, .int .u64 0, .int .u64 0] : Array Value) = rowN .u64 64 4 0 := WR_zero.symm
@[go_sem high] theorem row_word (x : Nat) (h : x < 2 ^ 64) : (#[.int .u64 (x : Int), .int .u64 0, .int .u64 0, .int .u64 0] : Array Value) = rowN .u64 64 4 x := (WR_word x h).symm
theorem WR_two (x y : Nat) (h : x < 2 ^ 64) (h' : y < 2 ^ 64) : rowN .u64 64 4 (x + 2 ^ 64 * y) = #[.int .u64 (x : Int), .int .u64 (y : Int), .int .u64 0, .int .u64 0] := by
  rw [← putw_new 64 x 1 y (by simpa using h), ← rowN_set _ _ _ _ _ _ h', WR_word x h]
  rfl
@[go_sem high] theorem row_two (x y : Nat) (h : x < 2 ^ 64) (h' : y < 2 ^ 64) : (#[.int .u64 (x : Int), .int .u64 (y : Int), .int .u64 0, .int .u64 0] : Array Value) = rowN .u64 64 4 (x + 2 ^ 64 * y) := (WR_two x y h h').symm
@[go_sem high] theorem set_word (z i v : Nat) (hv : v < 2 ^ 64) : (rowN .u64 64 4 z).setIfInBounds i (.int .u64 (v : Int)) = rowN .u64 64 4 (putw 64 z i v) := rowN_set _ _ _ _ _ _ hv

theorem wp_of_world {P : Program} {c : Code} {Q : Exit → Act → World → Prop} {a : Act} {w : World} (W : World) (h : W = w) (k : Code.wp P c Q a W) : Code.wp P c Q a w := h ▸ k
theorem Calls.of_world {P : Program} {f : FuncId} {args : Array Value} {w : World} {R : Ending → World → Prop} (W : World) (h : W = w) (k : Calls P f args W R) : Calls P f args w R := h ▸ k

/-- A result that is a whole row. -/
theorem res_row {P : Program} {fn : Func} {p : Tmp} {ty : TypeId} (h : fn.results = #[.cell p ty]) (tmps : Array Value) (w : World) (g : Nat) (t : TypeId) (cs : Array Value) (fr : Nat × Nat) (d : TypeDesc)
    (hp : tmps.getD p undef = .pointer (some ⟨g, 0, none⟩)) (hg : w.heap[g]? = some (.cells cs t fr))
    (hu : P.underlying ty = some d) (hd : (match d with | .struct _ | .array _ _ => true | _ => false) = true) (hi : (P.info? ty).map (·.size) = some cs.size) :
    (results fn tmps).run P w = .ok (.agg cs) w := results_cell_row h tmps w g t cs fr d hp hg hu hd hi
end Go.Proofs.Ytkekdbnmeobgiaa

/- Layer 3 (wide): sums, differences, products; what is turned over. -/
namespace Go.Proofs.Ytkekdbnmeobgiaa
set_option maxRecDepth 100000
set_option linter.unusedVariables false
set_option linter.unusedSimpArgs false
open Go.RowKit

/-! ### Add64, Sub64 -/
def sub64Entry : Array Value → Sem Value := fun args => do
  let (x, y, b) ← Extern.MathBitsCarry.three "Sub64" args
  pure (Extern.MathBitsCarry.pair ((x + Extern.MathBitsCarry.m64 - y - b) % Extern.MathBitsCarry.m64) (if x < y + b then 1 else 0))

theorem run_sub64 {P : Program} (x y b : Nat) (hb : b ≤ 1) (w : World) :
    (sub64Entry #[.int .u64 x, .int .u64 y, .int .u64 b]).run P w = .ok (.tuple #[.int .u64 (subLo x y b : Nat), .int .u64 (subHi x y b : Nat)]) w := by
  have : b = 0 ∨ b = 1 := by omega
  rcases this with rfl | rfl <;> rfl
theorem run_add64' {P : Program} (x y c : Nat) (hc : c ≤ 1) (w : World) :
    (add64Entry #[.int .u64 x, .int .u64 y, .int .u64 c]).run P w = .ok (.tuple #[.int .u64 (addLo x y c : Nat), .int .u64 (addHi x y c : Nat)]) w := by
  have : c = 0 ∨ c = 1 := by omega
  rcases this with rfl | rfl <;> rfl




theorem bne0 (n : Nat) : ((n : Int) != 0) = (n != 0) := by
  by_cases h : n = 0
  · subst h; rfl
  · rw [bne_iff_ne.2 (show (n : Int) ≠ 0 by omega), bne_iff_ne.2 h]

/-- Two results, the first a whole row. -/
theorem res_row_tmp {P : Program} {fn : Func} {p u : Tmp} {ty : TypeId} (h : fn.results = #[.cell p ty, .tmp u]) (tmps : Array Value) (w : World) (g : Nat) (t : TypeId) (cs : Array Value) (fr : Nat × Nat) (d : TypeDesc)
    (hp : tmps.getD p undef = .pointer (some ⟨g, 0, none⟩)) (hg : w.heap[g]? = some (.cells cs t fr))
    (hu : P.underlying ty = some d) (hd : (match d with | .struct _ | .array _ _ => true | _ => false) = true) (hi : (P.info? ty).map (·.size) = some cs.size) :
    (results fn tmps).run P w = .ok (.tuple #[.agg cs, tmps.getD u undef]) w := by
  have hp' : tmps[p]?.getD undef = .pointer (some ⟨g, 0, none⟩) := by simpa using hp
  simp [results, h, hp', asAddr, run_loadVar_row w g t ty cs fr d hg hu hd hi]

theorem heap2 (w : World) (A B : Obj) : let W := (w.alloc A).alloc B
    W.heap[w.heap.size]? = some A ∧ W.heap[w.heap.size + 1]? = some B := ⟨heap_alloc2_old _ _ _, heap_alloc2_new _ _ _⟩
theorem heap3 (w : World) (A B C : Obj) : let W := ((w.alloc A).alloc B).alloc C
    W.heap[w.heap.size]? = some A ∧ W.heap[w.heap.size + 1]? = some B ∧ W.heap[w.heap.size + 1 + 1]? = some C := by
  refine ⟨?_, ?_, ?_⟩
  · rw [heap_alloc_old _ _ (by first | (simp; done) | (simp; omega))]
    exact (heap2 w A B).1
  · rw [heap_alloc_old _ _ (by simp)]
    exact (heap2 w A B).2
  · exact heap_new3 w A B C
theorem heap4 (w : World) (A B C D : Obj) : let W := (((w.alloc A).alloc B).alloc C).alloc D
    W.heap[w.heap.size]? = some A ∧ W.heap[w.heap.size + 1]? = some B ∧ W.heap[w.heap.size + 1 + 1]? = some C ∧ W.heap[w.heap.size + 1 + 1 + 1]? = some D := by
  obtain ⟨h0, h1, h2⟩ := heap3 w A B C
  refine ⟨?_, ?_, ?_, ?_⟩
  · rw [heap_alloc_old _ _ (by first | (simp; done) | (simp; omega))]; exact h0
  · rw [heap_alloc_old _ _ (by first | (simp; done) | (simp; omega))]; exact h1
  · rw [heap_alloc_old _ _ (by simp)]; exact h2
  · exact heap_new4 w A B C D

/-- The row behind a store into it of a new word. -/
theorem row_put {w : World} {g i z v : Nat} {t : TypeId} (h : w.heap[g]? = some (.cells (rowN .u64 64 4 z) t (0, 0))) (hz : z < 2 ^ (64 * i)) (hv : v < 2 ^ 64) :
    (w.setCell ⟨g, i, none⟩ (.int .u64 (v : Int))).heap[g]? = some (.cells (rowN .u64 64 4 (z + 2 ^ (64 * i) * v)) t (0, 0)) := by
  rw [heap_setCell_at, h, withCell_cells, set_word _ _ _ hv, putw_new _ _ _ _ hz]



end Go.Proofs.Ytkekdbnmeobgiaa

/- Layer 3 (wide): products; what is turned over; one word, two words. -/
namespace Go.Proofs.Ytkekdbnmeobgiaa
set_option maxRecDepth 100000
set_option linter.unusedVariables false
set_option linter.unusedSimpArgs false
open Go.RowKit

theorem mul_part {a b : Nat} (ha : a < 4294967296) (hb : b < 4294967296) : a * b ≤ 18446744065119617025 := by
  have : a * b ≤ 4294967295 * 4294967295 := Nat.mul_le_mul (by omega) (by omega)
  omega

theorem mul_split (x y : Nat) : x * y = x % 4294967296 * (y % 4294967296) + 4294967296 * (x / 4294967296 * (y % 4294967296) + x % 4294967296 * (y / 4294967296)) + 18446744073709551616 * (x / 4294967296 * (y / 4294967296)) := by
  have h1 := Nat.mod_add_div x 4294967296
  have h2 := Nat.mod_add_div y 4294967296
  generalize x % 4294967296 = x0 at *
  generalize x / 4294967296 = x1 at *
  generalize y % 4294967296 = y0 at *
  generalize y / 4294967296 = y1 at *
  subst h1 h2
  have e1 : (x0 + 4294967296 * x1) * (y0 + 4294967296 * y1) = x0 * y0 + x0 * (4294967296 * y1) + (4294967296 * x1 * y0 + 4294967296 * x1 * (4294967296 * y1)) := by rw [Nat.add_mul, Nat.mul_add, Nat.mul_add]
  have e2 : x0 * (4294967296 * y1) = 4294967296 * (x0 * y1) := by rw [Nat.mul_left_comm]
  have e3 : 4294967296 * x1 * y0 = 4294967296 * (x1 * y0) := Nat.mul_assoc _ _ _
  have e4 : 4294967296 * x1 * (4294967296 * y1) = 18446744073709551616 * (x1 * y1) := by
    rw [Nat.mul_assoc, Nat.mul_left_comm x1, ← Nat.mul_assoc]
  rw [e1, e2, e3, e4, Nat.mul_add]
  omega

theorem and_mask (x : Nat) (h : x < 18446744073709551616) : bits BinOp.and IntKind.u64 (x : Int) 4294967295 = ((x % 4294967296 : Nat) : Int) := by
  have h1 := u64_and_nat x 4294967295 h (by decide)
  rw [show ((4294967295 : Nat) : Int) = 4294967295 from rfl] at h1
  rw [h1, show (4294967295 : Nat) = 2 ^ 32 - 1 from rfl, Nat.and_two_pow_sub_one_eq_mod]

theorem not_word (X : Nat) (h : X < 18446744073709551616) : Value.int IntKind.u64 (bits BinOp.xor IntKind.u64 (if IntKind.u64.signed = true then -1 else IntKind.u64.max) (X : Int)) = .int .u64 ((2 ^ 64 - 1 - X : Nat) : Int) := by
  have h1 := u64_xor_nat 18446744073709551615 X (by decide) h
  have h2 : (18446744073709551615 : Nat) ^^^ X = 2 ^ 64 - 1 - X := by
    have e : (BitVec.allOnes 64 ^^^ BitVec.ofNat 64 X).toNat = 18446744073709551615 ^^^ X := by
      rw [BitVec.toNat_xor, BitVec.toNat_allOnes, BitVec.toNat_ofNat, Nat.mod_eq_of_lt (by simpa using h)]
    rw [← e, BitVec.allOnes_xor, BitVec.toNat_not, BitVec.toNat_ofNat, Nat.mod_eq_of_lt (by simpa using h)]
  rw [h2] at h1
  rw [← h1]
  rfl




end Go.Proofs.Ytkekdbnmeobgiaa

/- Layer 3 (wide): one word, two words; numbers held against each other; a number's bits. -/
namespace Go.Proofs.Ytkekdbnmeobgiaa
set_option maxRecDepth 100000
set_option linter.unusedVariables false
set_option linter.unusedSimpArgs false
open Go.RowKit

theorem Try.infoU : ∃ i, Try.prog.info? 23 = some i := by
  cases h : Try.prog.info? 23 with
  | none => have := Try.szU64; rw [h] at this; cases this
  | some i => exact ⟨i, rfl⟩



theorem rowEq_of (x y : Nat) (hx : x < W256) (hy : y < W256) : rowEq 256 x y = decide (x = y) := by
  unfold rowEq
  rw [Nat.mod_eq_of_lt (show x < 2 ^ 256 from hx), Nat.mod_eq_of_lt (show y < 2 ^ 256 from hy)]


theorem mul_two (x y : Nat) : mulLo x y + 2 ^ 64 * mulHi x y = x * y := Nat.mod_add_div _ _
theorem mulHi_lt (x y : Nat) (hx : x < 2 ^ 64) (hy : y < 2 ^ 64) : mulHi x y < 2 ^ 64 := by
  unfold mulHi
  rw [Nat.div_lt_iff_lt_mul (Nat.two_pow_pos _)]
  exact Nat.mul_lt_mul'' hx hy


end Go.Proofs.Ytkekdbnmeobgiaa

/- Layer 3 (wide): a number moved to the left. -/
namespace Go.Proofs.Ytkekdbnmeobgiaa
set_option maxRecDepth 100000
set_option linter.unusedVariables false
set_option linter.unusedSimpArgs false
open Go.RowKit

theorem rowN_toList (k : IntKind) (b n x : Nat) : (rowN k b n x).toList = (List.range n).map fun i => Value.int k (dgt b x i : Nat) := by simp [rowN]

theorem dgt_mul (b x q i : Nat) : dgt b (x * 2 ^ (b * q)) i = if i < q then 0 else dgt b x (i - q) := by
  by_cases h : i < q
  · rw [if_pos h, dgt_below b _ 0 q i h (by simp)]
    simp [dgt]
  · rw [if_neg h]
    obtain ⟨d, rfl⟩ : ∃ d, i = q + d := ⟨i - q, by omega⟩
    rw [dgt, Nat.mul_add, Nat.pow_add, ← Nat.div_div_eq_div_mul, Nat.mul_div_cancel _ (Nat.two_pow_pos _), dgt, Nat.add_sub_cancel_left]

theorem dgt_div (b x q i : Nat) : dgt b (x / 2 ^ (b * q)) i = dgt b x (i + q) := by
  rw [dgt, dgt, Nat.div_div_eq_div_mul, ← Nat.pow_add]
  congr 3
  rw [Nat.mul_add, Nat.add_comm]

theorem Try.szUs : (Try.prog.info? 23).map (·.size) = some 1 := Try.szU64

/-- copy, moved up by q words, into a row of noughts. -/
theorem run_copy_up (w : World) (ty : TypeId) (g h q a : Nat) (t t' : TypeId) (fr : Nat × Nat) (hq : q < 4) (hg : w.heap[g]? = some (.cells (rowN .u64 64 4 0) t (0, 0))) (hh : w.heap[h]? = some (.cells (rowN .u64 64 4 a) t' fr)) :
    (Builtin.copy_ #[22, 22] ty #[.slice (some ⟨g, q, none⟩) (4 - q) (4 - q), .slice (some ⟨h, 0, none⟩) 4 4]).run Try.prog w = .ok (.int .i64 ((4 - q : Nat) : Int)) (w.setRow g (rowN .u64 64 4 (a * 2 ^ (64 * q)))) := by
  have key := run_copy_row (P := Try.prog) w 22 22 ty 23 g q (4 - q) (4 - q) ⟨h, 0, none⟩ 4 4 (rowN .u64 64 4 0) t ((List.range (4 - q)).map fun i => Value.int .u64 (dgt 64 a i : Nat)) Try.underlying22 Try.szUs hg (by simp [Nat.min_def])
    (fun j v hj => by
      have hjl : j < 4 - q := by
        have := (List.getElem?_eq_some_iff.1 hj).1
        simpa using this
      rw [Addr.add_lit, Nat.zero_add, cell_at, hh, cellAt_cells, rowN_get _ _ _ _ _ (by omega)]
      simpa [List.getElem?_map, List.getElem?_range hjl] using hj)
    (by rw [rowN_size]; simp; omega)
    (by
      intro v hv
      simp only [List.mem_map] at hv
      obtain ⟨i, _, rfl⟩ := hv
      rfl)
  have e : ((rowN .u64 64 4 0).toList.take q ++ ((List.range (4 - q)).map fun i => Value.int .u64 (dgt 64 a i : Nat)) ++ (rowN .u64 64 4 0).toList.drop (q + ((List.range (4 - q)).map fun i => Value.int .u64 (dgt 64 a i : Nat)).length)).toArray = rowN .u64 64 4 (a * 2 ^ (64 * q)) := by
    apply Array.ext'
    rw [List.toList_toArray, rowN_toList, rowN_toList, List.drop_eq_nil_of_le (by simp; omega), List.append_nil]
    apply List.ext_getElem?
    intro j
    by_cases hj : j < 4
    · rw [List.getElem?_map, List.getElem?_range hj, Option.map_some, dgt_mul]
      by_cases hjq : j < q
      · rw [List.getElem?_append_left (by simp; omega), if_pos hjq, List.getElem?_take, if_pos hjq, List.getElem?_map, List.getElem?_range hj]
        simp [dgt]
      · rw [List.getElem?_append_right (by simp; omega), if_neg hjq]
        simp only [List.length_take, List.length_map, List.length_range]
        rw [Nat.min_eq_left (by omega), List.getElem?_map, List.getElem?_range (by omega), Option.map_some]
    · rw [List.getElem?_eq_none (by simp; omega), List.getElem?_eq_none (by simp; omega)]
  rw [e] at key
  rw [key]
  simp [goInt]



/-! ### a row moved by less than a word, in place -/
def shU (T x : Nat) : Nat → Nat
  | 0 => T
  | i + 1 => putw 64 (shU T x i) i (addLo (mulLo (dgt 64 T i) x) (mlH T x i) 0)

theorem shU_dgt (T x : Nat) : ∀ i j, dgt 64 (shU T x i) j = if j < i then addLo (mulLo (dgt 64 T j) x) (mlH T x j) 0 else dgt 64 T j
  | 0, j => by simp [shU]
  | i + 1, j => by
    rw [shU, putw_dgt _ _ _ _ _ (addLo_lt _ _ _), shU_dgt T x i j]
    by_cases h : j = i
    · subst h; simp
    · simp only [h, if_false]
      by_cases h2 : j < i
      · rw [if_pos h2, if_pos (by omega)]
      · rw [if_neg h2, if_neg (by omega)]

theorem mlS_dgt (T x i j : Nat) (h : j < i) : dgt 64 (mlS T x i) j = addLo (mulLo (dgt 64 T j) x) (mlH T x j) 0 := by
  induction i with
  | zero => omega
  | succ i ih =>
    rw [mlS_succ]
    by_cases e : j = i
    · subst e
      rw [dgt, Nat.add_mul_div_left _ _ (Nat.two_pow_pos _), Nat.div_eq_of_lt (mlS_lt _ _ _), Nat.zero_add, Nat.mod_eq_of_lt (addLo_lt _ _ _)]
    · rw [← ih (by omega)]
      exact dgt_below 64 _ _ i j (by omega) (by rw [Nat.add_mul_mod_self_left])

theorem shU_all (T x : Nat) (k : IntKind) : rowN k 64 4 (shU T x 4) = rowN k 64 4 (mlS T x 4) :=
  rowN_congr _ _ _ _ _ (mod_of_dgt _ _ _ _ fun i hi => by rw [shU_dgt, if_pos hi, mlS_dgt _ _ _ _ hi])

theorem mlH_small (T x i : Nat) (hx : 0 < x) : mlH T x i < x := by
  unfold mlH mlT
  rw [Nat.div_lt_iff_lt_mul (Nat.two_pow_pos _), Nat.mul_comm]
  exact Nat.mul_lt_mul_of_pos_left (Nat.mod_lt _ (Nat.two_pow_pos _)) hx

theorem pow_split (r : Nat) (hr : r < 64) : 2 ^ 64 = 2 ^ r * 2 ^ (64 - r) := by rw [← Nat.pow_add]; congr 1; omega

theorem mlH_pow (T r i : Nat) (hr : r < 64) : mlH T (2 ^ r) (i + 1) = dgt 64 T i / 2 ^ (64 - r) := by
  have hm := mlH_small T (2 ^ r) i (Nat.two_pow_pos r)
  rw [mlH_succ, (ml_step _ _ _).2, pow_split r hr, ← Nat.div_div_eq_div_mul, Nat.mul_comm, Nat.mul_add_div (Nat.two_pow_pos r), Nat.div_eq_of_lt hm, Nat.add_zero]

theorem shl_join (d m r : Nat) (hr : r < 64) (hm : m < 2 ^ r) : (d * 2 ^ r % 2 ^ 64) ||| m = addLo (mulLo d (2 ^ r)) m 0 := by
  have e : d * 2 ^ r % 2 ^ 64 = 2 ^ r * (d % 2 ^ (64 - r)) := by rw [pow_split r hr, Nat.mul_comm d, Nat.mul_mod_mul_left]
  have h1 : 2 ^ r * (d % 2 ^ (64 - r)) ||| m = 2 ^ r * (d % 2 ^ (64 - r)) + m := (Nat.two_pow_add_eq_or_of_lt hm _).symm
  have h2 : 2 ^ r * (d % 2 ^ (64 - r)) + m < 2 ^ 64 := by
    have h3 : d % 2 ^ (64 - r) + 1 ≤ 2 ^ (64 - r) := Nat.mod_lt _ (Nat.two_pow_pos _)
    have h4 : 2 ^ r * (d % 2 ^ (64 - r) + 1) ≤ 2 ^ r * 2 ^ (64 - r) := Nat.mul_le_mul_left _ h3
    rw [← pow_split r hr, Nat.mul_add] at h4
    omega
  unfold addLo mulLo
  rw [Nat.add_zero, e, h1, Nat.mod_eq_of_lt h2]

end Go.Proofs.Ytkekdbnmeobgiaa

/- Layer 3 (wide): the walk of left. -/
namespace Go.Proofs.Ytkekdbnmeobgiaa
set_option maxRecDepth 100000
set_option linter.unusedVariables false
set_option linter.unusedSimpArgs false
open Go.RowKit

theorem or_val (d m r : Nat) (hm : m < 2 ^ 64) : bits BinOp.or IntKind.u64 (IntKind.u64.wrap ((d : Int) * 2 ^ r)) (m : Int) = ((d * 2 ^ r % 2 ^ 64 ||| m : Nat) : Int) := by
  have e : IntKind.u64.wrap ((d : Int) * 2 ^ r) = ((d * 2 ^ r % 2 ^ 64 : Nat) : Int) := by
    rw [IntKind.wrap_u64, Int.natCast_emod, Int.natCast_mul, Int.natCast_pow]
    rfl
  rw [e]
  exact u64_or_nat _ _ (Nat.mod_lt _ (Nat.two_pow_pos _)) hm



end Go.Proofs.Ytkekdbnmeobgiaa

/- Layer 3 (wide): numbers compared. -/
namespace Go.Proofs.Ytkekdbnmeobgiaa
set_option maxRecDepth 100000
set_option linter.unusedVariables false
set_option linter.unusedSimpArgs false
open Go.RowKit Go.Shelf

attribute [local go_sem] Oper.semAt_some

/-- -1, 0, 1. -/
def sgn (x y : Nat) : Int := if x < y then -1 else if y < x then 1 else 0

theorem isNaN_any (x : Nat) (w : World) : Calls Try.prog 38 #[.int .u64 x] w fun e w' => e = .returned (.bool false) ∧ w' = w := by
  go_enter Try.func38, Try.ntmps38
  go_wp2
  go_ret
  exact ⟨rfl, rfl⟩

set_option maxHeartbeats 1000000 in
theorem cmpU_lt (x y : Nat) (h : x < y) (w : World) : Calls Try.prog 30 #[.int .u64 x, .int .u64 y] w fun e w' => e = .returned (.int .i64 (-1)) ∧ w' = w := by
  have h1 : decide ((x : Int) < (y : Int)) = true := decide_eq_true (by omega)
  go_enter Try.func30, Try.ntmps30
  go_wp2_with ((with_reducible refine (isNaN_any _ _).mono ?_); rintro e w' ⟨rfl, rfl⟩)
  go_ret
  exact ⟨rfl, rfl⟩

set_option maxHeartbeats 1000000 in
theorem cmpU_gt (x y : Nat) (h : y < x) (w : World) : Calls Try.prog 30 #[.int .u64 x, .int .u64 y] w fun e w' => e = .returned (.int .i64 1) ∧ w' = w := by
  have h1 : decide ((x : Int) < (y : Int)) = false := decide_eq_false (by omega)
  have h2 : decide ((y : Int) < (x : Int)) = true := decide_eq_true (by omega)
  go_enter Try.func30, Try.ntmps30
  go_wp2_with ((with_reducible refine (isNaN_any _ _).mono ?_); rintro e w' ⟨rfl, rfl⟩)
  go_ret
  exact ⟨rfl, rfl⟩

theorem sgn_of_dgt {a b i : Nat} (he : a / 2 ^ (64 * (i + 1)) = b / 2 ^ (64 * (i + 1))) (hd : dgt 64 a i ≠ dgt 64 b i) : sgn a b = sgn (dgt 64 a i) (dgt 64 b i) := by
  have key : ∀ x, x = x % 2 ^ (64 * i) + 2 ^ (64 * i) * (dgt 64 x i + 2 ^ 64 * (x / 2 ^ (64 * (i + 1)))) := by
    intro x
    have h1 := Nat.mod_add_div x (2 ^ (64 * i))
    have h2 := Nat.mod_add_div (x / 2 ^ (64 * i)) (2 ^ 64)
    rw [Nat.div_div_eq_div_mul, show 2 ^ (64 * i) * 2 ^ 64 = 2 ^ (64 * (i + 1)) by rw [← Nat.pow_add]; congr 1] at h2
    rw [dgt, h2, h1]
  have ka := key a
  have kb := key b
  rw [he] at ka
  have la := Nat.mod_lt a (Nat.two_pow_pos (64 * i))
  have lb := Nat.mod_lt b (Nat.two_pow_pos (64 * i))
  generalize dgt 64 a i = x at *
  generalize dgt 64 b i = y at *
  generalize b / 2 ^ (64 * (i + 1)) = q at *
  generalize a % 2 ^ (64 * i) = r at *
  generalize b % 2 ^ (64 * i) = s at *
  generalize 2 ^ (64 * i) = p at *
  rw [Nat.mul_add] at ka kb
  generalize p * (2 ^ 64 * q) = z at *
  unfold sgn
  by_cases h : x < y
  · have : p * (x + 1) ≤ p * y := Nat.mul_le_mul_left _ h
    rw [Nat.mul_add] at this
    rw [if_pos (by omega), if_pos h]
  · have : p * (y + 1) ≤ p * x := Nat.mul_le_mul_left _ (by omega)
    rw [Nat.mul_add] at this
    rw [if_neg (by omega), if_pos (by omega), if_neg h, if_pos (by omega)]

theorem div_step {a b i : Nat} (he : a / 2 ^ (64 * (i + 1)) = b / 2 ^ (64 * (i + 1))) (hd : dgt 64 a i = dgt 64 b i) : a / 2 ^ (64 * i) = b / 2 ^ (64 * i) := by
  have key : ∀ x, x / 2 ^ (64 * i) = dgt 64 x i + 2 ^ 64 * (x / 2 ^ (64 * (i + 1))) := by
    intro x
    have h2 := Nat.mod_add_div (x / 2 ^ (64 * i)) (2 ^ 64)
    rw [Nat.div_div_eq_div_mul, show 2 ^ (64 * i) * 2 ^ 64 = 2 ^ (64 * (i + 1)) by rw [← Nat.pow_add]; congr 1] at h2
    rw [dgt, h2]
  rw [key a, key b, he, hd]


end Go.Proofs.Ytkekdbnmeobgiaa

/- Layer 3 (wide): a number moved to the right. -/
namespace Go.Proofs.Ytkekdbnmeobgiaa
set_option maxRecDepth 100000
set_option linter.unusedVariables false
set_option linter.unusedSimpArgs false
open Go.RowKit Go.Shelf

theorem dgt_over (x i : Nat) (h : x < 2 ^ (64 * i)) : dgt 64 x i = 0 := by rw [dgt, Nat.div_eq_of_lt h]
theorem dgt_over4 (x i : Nat) (h : x < W256) (hi : 4 ≤ i) : dgt 64 x i = 0 :=
  dgt_over x i (Nat.lt_of_lt_of_le h (Nat.pow_le_pow_right (by omega) (by omega)))

/-- copy, moved down by q words, into a row of noughts. -/
theorem run_copy_down (w : World) (ty : TypeId) (g h q a : Nat) (t t' : TypeId) (fr : Nat × Nat) (ha : a < W256) (hq : q < 4) (hg : w.heap[g]? = some (.cells (rowN .u64 64 4 0) t (0, 0))) (hh : w.heap[h]? = some (.cells (rowN .u64 64 4 a) t' fr)) :
    (Builtin.copy_ #[22, 22] ty #[.slice (some ⟨g, 0, none⟩) 4 4, .slice (some ⟨h, q, none⟩) (4 - q) (4 - q)]).run Try.prog w = .ok (.int .i64 ((4 - q : Nat) : Int)) (w.setRow g (rowN .u64 64 4 (a / 2 ^ (64 * q)))) := by
  have key := run_copy_row (P := Try.prog) w 22 22 ty 23 g 0 4 4 ⟨h, q, none⟩ (4 - q) (4 - q) (rowN .u64 64 4 0) t ((List.range (4 - q)).map fun i => Value.int .u64 (dgt 64 a (i + q) : Nat)) Try.underlying22 Try.szUs hg (by simp [Nat.min_def])
    (fun j v hj => by
      have hjl : j < 4 - q := by
        have := (List.getElem?_eq_some_iff.1 hj).1
        simpa using this
      rw [Addr.add_lit, cell_at, hh, cellAt_cells, rowN_get _ _ _ _ _ (by omega), Nat.add_comm q j]
      simpa [List.getElem?_map, List.getElem?_range hjl] using hj)
    (by rw [rowN_size]; simp)
    (by
      intro v hv
      simp only [List.mem_map] at hv
      obtain ⟨i, _, rfl⟩ := hv
      rfl)
  have e : ((rowN .u64 64 4 0).toList.take 0 ++ ((List.range (4 - q)).map fun i => Value.int .u64 (dgt 64 a (i + q) : Nat)) ++ (rowN .u64 64 4 0).toList.drop (0 + ((List.range (4 - q)).map fun i => Value.int .u64 (dgt 64 a (i + q) : Nat)).length)).toArray = rowN .u64 64 4 (a / 2 ^ (64 * q)) := by
    apply Array.ext'
    rw [List.toList_toArray, rowN_toList, rowN_toList, List.take_zero, List.nil_append]
    apply List.ext_getElem?
    intro j
    by_cases hj : j < 4
    · rw [List.getElem?_map (l := List.range 4), List.getElem?_range hj, Option.map_some, dgt_div]
      by_cases hjq : j < 4 - q
      · rw [List.getElem?_append_left (by simp; omega), List.getElem?_map, List.getElem?_range hjq, Option.map_some]
      · rw [List.getElem?_append_right (by simp; omega), List.getElem?_drop]
        simp only [List.length_map, List.length_range]
        rw [show 0 + (4 - q) + (j - (4 - q)) = j by omega, List.getElem?_map, List.getElem?_range hj, Option.map_some, dgt_over4 a (j + q) ha (by omega)]
        simp [dgt]
    · rw [List.getElem?_eq_none (by simp; omega), List.getElem?_eq_none (by simp; omega)]
  rw [e] at key
  rw [key]
  simp [goInt]


/-! ### a row moved down by less than a word, in place, from behind -/
def shR (T r : Nat) : Nat → Nat
  | 0 => T
  | k + 1 => putw 64 (shR T r k) (3 - k) (dgt 64 (T / 2 ^ r) (3 - k))

theorem shR_dgt (T r : Nat) : ∀ k j, k ≤ 4 → j < 4 → dgt 64 (shR T r k) j = if 4 - k ≤ j then dgt 64 (T / 2 ^ r) j else dgt 64 T j
  | 0, j, _, hj => by rw [if_neg (by omega)]; rfl
  | k + 1, j, hk, hj => by
    rw [shR, putw_dgt _ _ _ _ _ (dgt_lt _ _ _), shR_dgt T r k j (by omega) hj]
    by_cases h : j = 3 - k
    · rw [if_pos h, if_pos (by omega), h]
    · rw [if_neg h]
      by_cases h2 : 4 - k ≤ j
      · rw [if_pos h2, if_pos (by omega)]
      · rw [if_neg h2, if_neg (by omega)]

theorem shR_all (T r : Nat) (k : IntKind) : rowN k 64 4 (shR T r 4) = rowN k 64 4 (T / 2 ^ r) :=
  rowN_congr _ _ _ _ _ (mod_of_dgt _ _ _ _ fun i hi => by rw [shR_dgt _ _ _ _ (by omega) hi, if_pos (by omega)])

theorem dgt_shr (T r i : Nat) (hr : r < 64) : dgt 64 (T / 2 ^ r) i = dgt 64 T i / 2 ^ r ||| dgt 64 T (i + 1) * 2 ^ (64 - r) % 2 ^ 64 := by
  have e1 : T / 2 ^ r / 2 ^ (64 * i) = T / 2 ^ (64 * i) / 2 ^ r := by rw [Nat.div_div_eq_div_mul, Nat.mul_comm, ← Nat.div_div_eq_div_mul]
  have e2 : T / 2 ^ (64 * (i + 1)) = T / 2 ^ (64 * i) / 2 ^ 64 := by rw [Nat.div_div_eq_div_mul, ← Nat.pow_add]; congr 1
  unfold dgt
  rw [e1, e2]
  generalize T / 2 ^ (64 * i) = X
  have hx := Nat.mod_add_div X (2 ^ 64)
  have hm := Nat.mod_lt X (Nat.two_pow_pos 64)
  generalize X % 2 ^ 64 = m at *
  generalize X / 2 ^ 64 = Y at *
  have ps := pow_split r hr
  have l1 : m / 2 ^ r < 2 ^ (64 - r) := by rw [Nat.div_lt_iff_lt_mul (Nat.two_pow_pos _), Nat.mul_comm, ← ps]; exact hm
  have e3 : X / 2 ^ r = m / 2 ^ r + 2 ^ (64 - r) * Y := by
    rw [← hx]
    conv => lhs; rw [ps]
    rw [Nat.mul_assoc, Nat.add_mul_div_left _ _ (Nat.two_pow_pos _)]
  have e4 : Y % 2 ^ 64 * 2 ^ (64 - r) % 2 ^ 64 = 2 ^ (64 - r) * (Y % 2 ^ r) := by
    rw [Nat.mod_mul_mod]
    conv => lhs; rw [ps]
    rw [Nat.mul_comm Y, Nat.mul_comm (2 ^ r), Nat.mul_mod_mul_left]
  rw [e3, e4]
  conv => lhs; rw [ps, Nat.mul_comm (2 ^ r), Nat.mod_mul, Nat.add_mul_mod_self_left, Nat.mod_eq_of_lt l1, Nat.add_mul_div_left _ _ (Nat.two_pow_pos _), Nat.div_eq_of_lt l1, Nat.zero_add]
  rw [Nat.or_comm, Nat.add_comm]
  exact Nat.two_pow_add_eq_or_of_lt l1 _
end Go.Proofs.Ytkekdbnmeobgiaa

/- Layer 3 (wide): the walk of right. -/
namespace Go.Proofs.Ytkekdbnmeobgiaa
set_option maxRecDepth 100000
set_option linter.unusedVariables false
set_option linter.unusedSimpArgs false
open Go.RowKit Go.Shelf

attribute [local go_sem] Oper.semAt_some

theorem wpIn_of_world {F : Fence} {n : Nat} {P : Program} {c : Code} {Q : Exit → Act → World → Prop} {a : Act} {w : World} (W : World) (h : W = w) (k : Code.wpIn F n P c Q a W) : Code.wpIn F n P c Q a w := h ▸ k

theorem or_val2 (d m r : Nat) (hd : d < 2 ^ 64) (hm : m < 2 ^ 64) : bits BinOp.or IntKind.u64 ((d : Int) / 2 ^ r) (m : Int) = ((d / 2 ^ r ||| m : Nat) : Int) := by
  have e : (d : Int) / 2 ^ r = ((d / 2 ^ r : Nat) : Int) := by rw [Int.natCast_ediv, Int.natCast_pow]; rfl
  rw [e]
  exact u64_or_nat _ _ (Nat.lt_of_le_of_lt (Nat.div_le_self _ _) hd) hm
theorem shl_val (d r : Nat) : IntKind.u64.wrap ((d : Int) * 2 ^ r) = ((d * 2 ^ r % 2 ^ 64 : Nat) : Int) := by
  rw [IntKind.wrap_u64, Int.natCast_emod, Int.natCast_mul, Int.natCast_pow]
  rfl



end Go.Proofs.Ytkekdbnmeobgiaa

/- Layer 3 (wide): Left, Right, at any number of bits. -/
namespace Go.Proofs.Ytkekdbnmeobgiaa
set_option maxRecDepth 100000
set_option linter.unusedVariables false
set_option linter.unusedSimpArgs false
open Go.RowKit

/-- Moved up by n bits, n below 0: down. -/
def upBy (a : Nat) (n : Int) : Nat := if n < 0 then (if -n < 256 then a / 2 ^ (-n).toNat else 0) else (if n < 256 then a * 2 ^ n.toNat % W256 else 0)



theorem fr_two {w w2 : World} {A B : Obj} {c : Array Value} {g : Nat} (h : Fr F0 ((w.alloc A).alloc B) w2) (hg : w.heap.size ≤ g) : Fr F0 w (w2.setRow g c) :=
  ((((Fr.refl F0 w).alloc _).alloc _).trans' h).setRow (fun h => by omega) _

end Go.Proofs.Ytkekdbnmeobgiaa

/- Layer 3 (wide): how many bits a word needs, and a number. -/
namespace Go.Proofs.Ytkekdbnmeobgiaa
set_option maxRecDepth 100000
set_option linter.unusedVariables false
set_option linter.unusedSimpArgs false
open Go.RowKit Go.Shelf

set_option maxRecDepth 200000 in
set_option maxHeartbeats 4000000 in
theorem Len64_any (x : Nat) (hx : x < 18446744073709551616) (w : World) :
    Calls Try.prog 50 #[.int .u64 x] w fun e w' => e = .returned (.int .i64 (Lib.bitLen x : Nat)) ∧ w' = w := by
  by_cases c0 : 4294967296 ≤ x
  · obtain ⟨x1, d0⟩ : ∃ q, q = x / 4294967296 := ⟨_, rfl⟩
    have e0 : (x : Int) / 4294967296 = (x1 : Int) := by omega
    have f0 : (4294967296 : Int) ≤ (x : Int) := by omega
    have g0 : x1 < 4294967296 := by omega
    have D0 := Lib.hid d0
    clear d0
    by_cases c1 : 65536 ≤ x1
    · obtain ⟨x2, d1⟩ : ∃ q, q = x1 / 65536 := ⟨_, rfl⟩
      have e1 : (x1 : Int) / 65536 = (x2 : Int) := by omega
      have f1 : (65536 : Int) ≤ (x1 : Int) := by omega
      have g1 : x2 < 65536 := by omega
      have D1 := Lib.hid d1
      clear d1
      by_cases c2 : 256 ≤ x2
      · obtain ⟨x3, d2⟩ : ∃ q, q = x2 / 256 := ⟨_, rfl⟩
        have e2 : (x2 : Int) / 256 = (x3 : Int) := by omega
        have f2 : (256 : Int) ≤ (x2 : Int) := by omega
        have g2 : x3 < 256 := by omega
        have D2 := Lib.hid d2
        clear d2
        have hl := Lib.len8_of (x3 : Int) (by omega) (by omega)
        have hl8 := Lib.bitLen_le8' (x3 : Int) (by omega) (by omega)
        rw [Int.toNat_natCast] at hl hl8
        have hc : (x3 : Int) ≤ 255 := by omega
        have q0 := D0.out
        have q1 := D1.out
        have q2 := D2.out
        have HS := Lib.hid (show Lib.bitLen x = 56 + Lib.bitLen x3 by have := Lib.bitLen_shift 56 x (by omega) (by omega); rw [show x / 2 ^ 56 = x3 by omega] at this; exact this)
        clear q0 q1 q2
        obtain ⟨B, hB⟩ : ∃ B, B = Lib.bitLen x3 := ⟨_, rfl⟩
        rw [← hB] at hl hl8
        have HB := Lib.hid hB
        clear hB
        clear c0 c1 c2
        try clear g0
        try clear g1
        try clear g2
        have z0 : (0 : Int) ≤ x := by omega
        have z0u : (x : Int) < 18446744073709551616 := by omega
        try (have z1 : (0 : Int) ≤ x1 := by omega)
        try (have z2 : (0 : Int) ≤ x2 := by omega)
        try (have z3 : (0 : Int) ≤ x3 := by omega)
        clear hx
        generalize (x : Int) = X at *
        try generalize (x1 : Int) = X1 at *
        try generalize (x2 : Int) = X2 at *
        try generalize (x3 : Int) = X3 at *
        go_enter Try.func50, Try.ntmps50
        go_wp2
        go_ret
        refine ⟨congrArg Ending.returned (congrArg (Value.int IntKind.i64) ?_), rfl⟩
        rw [HS.out, ← HB.out]
        omega
      · have f2 : (x2 : Int) < 256 := by omega
        have hl := Lib.len8_of (x2 : Int) (by omega) (by omega)
        have hl8 := Lib.bitLen_le8' (x2 : Int) (by omega) (by omega)
        rw [Int.toNat_natCast] at hl hl8
        have hc : (x2 : Int) ≤ 255 := by omega
        have q0 := D0.out
        have q1 := D1.out
        have HS := Lib.hid (show Lib.bitLen x = 48 + Lib.bitLen x2 by have := Lib.bitLen_shift 48 x (by omega) (by omega); rw [show x / 2 ^ 48 = x2 by omega] at this; exact this)
        clear q0 q1
        obtain ⟨B, hB⟩ : ∃ B, B = Lib.bitLen x2 := ⟨_, rfl⟩
        rw [← hB] at hl hl8
        have HB := Lib.hid hB
        clear hB
        clear c0 c1 c2
        try clear g0
        try clear g1
        try clear g2
        have z0 : (0 : Int) ≤ x := by omega
        have z0u : (x : Int) < 18446744073709551616 := by omega
        try (have z1 : (0 : Int) ≤ x1 := by omega)
        try (have z2 : (0 : Int) ≤ x2 := by omega)
        try (have z3 : (0 : Int) ≤ x3 := by omega)
        clear hx
        generalize (x : Int) = X at *
        try generalize (x1 : Int) = X1 at *
        try generalize (x2 : Int) = X2 at *
        try generalize (x3 : Int) = X3 at *
        go_enter Try.func50, Try.ntmps50
        go_wp2
        go_ret
        refine ⟨congrArg Ending.returned (congrArg (Value.int IntKind.i64) ?_), rfl⟩
        rw [HS.out, ← HB.out]
        omega
    · have f1 : (x1 : Int) < 65536 := by omega
      by_cases c2 : 256 ≤ x1
      · obtain ⟨x3, d2⟩ : ∃ q, q = x1 / 256 := ⟨_, rfl⟩
        have e2 : (x1 : Int) / 256 = (x3 : Int) := by omega
        have f2 : (256 : Int) ≤ (x1 : Int) := by omega
        have g2 : x3 < 256 := by omega
        have D2 := Lib.hid d2
        clear d2
        have hl := Lib.len8_of (x3 : Int) (by omega) (by omega)
        have hl8 := Lib.bitLen_le8' (x3 : Int) (by omega) (by omega)
        rw [Int.toNat_natCast] at hl hl8
        have hc : (x3 : Int) ≤ 255 := by omega
        have q0 := D0.out
        have q2 := D2.out
        have HS := Lib.hid (show Lib.bitLen x = 40 + Lib.bitLen x3 by have := Lib.bitLen_shift 40 x (by omega) (by omega); rw [show x / 2 ^ 40 = x3 by omega] at this; exact this)
        clear q0 q2
        obtain ⟨B, hB⟩ : ∃ B, B = Lib.bitLen x3 := ⟨_, rfl⟩
        rw [← hB] at hl hl8
        have HB := Lib.hid hB
        clear hB
        clear c0 c1 c2
        try clear g0
        try clear g1
        try clear g2
        have z0 : (0 : Int) ≤ x := by omega
        have z0u : (x : Int) < 18446744073709551616 := by omega
        try (have z1 : (0 : Int) ≤ x1 := by omega)
        try (have z2 : (0 : Int) ≤ x2 := by omega)
        try (have z3 : (0 : Int) ≤ x3 := by omega)
        clear hx
        generalize (x : Int) = X at *
        try generalize (x1 : Int) = X1 at *
        try generalize (x2 : Int) = X2 at *
        try generalize (x3 : Int) = X3 at *
        go_enter Try.func50, Try.ntmps50
        go_wp2
        go_ret
        refine ⟨congrArg Ending.returned (congrArg (Value.int IntKind.i64) ?_), rfl⟩
        rw [HS.out, ← HB.out]
        omega
      · have f2 : (x1 : Int) < 256 := by omega
        have hl := Lib.len8_of (x1 : Int) (by omega) (by omega)
        have hl8 := Lib.bitLen_le8' (x1 : Int) (by omega) (by omega)
        rw [Int.toNat_natCast] at hl hl8
        have hc : (x1 : Int) ≤ 255 := by omega
        have q0 := D0.out
        have HS := Lib.hid (show Lib.bitLen x = 32 + Lib.bitLen x1 by have := Lib.bitLen_shift 32 x (by omega) (by omega); rw [show x / 2 ^ 32 = x1 by omega] at this; exact this)
        clear q0
        obtain ⟨B, hB⟩ : ∃ B, B = Lib.bitLen x1 := ⟨_, rfl⟩
        rw [← hB] at hl hl8
        have HB := Lib.hid hB
        clear hB
        clear c0 c1 c2
        try clear g0
        try clear g1
        try clear g2
        have z0 : (0 : Int) ≤ x := by omega
        have z0u : (x : Int) < 18446744073709551616 := by omega
        try (have z1 : (0 : Int) ≤ x1 := by omega)
        try (have z2 : (0 : Int) ≤ x2 := by omega)
        try (have z3 : (0 : Int) ≤ x3 := by omega)
        clear hx
        generalize (x : Int) = X at *
        try generalize (x1 : Int) = X1 at *
        try generalize (x2 : Int) = X2 at *
        try generalize (x3 : Int) = X3 at *
        go_enter Try.func50, Try.ntmps50
        go_wp2
        go_ret
        refine ⟨congrArg Ending.returned (congrArg (Value.int IntKind.i64) ?_), rfl⟩
        rw [HS.out, ← HB.out]
        omega
  · have f0 : (x : Int) < 4294967296 := by omega
    by_cases c1 : 65536 ≤ x
    · obtain ⟨x2, d1⟩ : ∃ q, q = x / 65536 := ⟨_, rfl⟩
      have e1 : (x : Int) / 65536 = (x2 : Int) := by omega
      have f1 : (65536 : Int) ≤ (x : Int) := by omega
      have g1 : x2 < 65536 := by omega
      have D1 := Lib.hid d1
      clear d1
      by_cases c2 : 256 ≤ x2
      · obtain ⟨x3, d2⟩ : ∃ q, q = x2 / 256 := ⟨_, rfl⟩
        have e2 : (x2 : Int) / 256 = (x3 : Int) := by omega
        have f2 : (256 : Int) ≤ (x2 : Int) := by omega
        have g2 : x3 < 256 := by omega
        have D2 := Lib.hid d2
        clear d2
        have hl := Lib.len8_of (x3 : Int) (by omega) (by omega)
        have hl8 := Lib.bitLen_le8' (x3 : Int) (by omega) (by omega)
        rw [Int.toNat_natCast] at hl hl8
        have hc : (x3 : Int) ≤ 255 := by omega
        have q1 := D1.out
        have q2 := D2.out
        have HS := Lib.hid (show Lib.bitLen x = 24 + Lib.bitLen x3 by have := Lib.bitLen_shift 24 x (by omega) (by omega); rw [show x / 2 ^ 24 = x3 by omega] at this; exact this)
        clear q1 q2
        obtain ⟨B, hB⟩ : ∃ B, B = Lib.bitLen x3 := ⟨_, rfl⟩
        rw [← hB] at hl hl8
        have HB := Lib.hid hB
        clear hB
        clear c0 c1 c2
        try clear g0
        try clear g1
        try clear g2
        have z0 : (0 : Int) ≤ x := by omega
        have z0u : (x : Int) < 18446744073709551616 := by omega
        try (have z1 : (0 : Int) ≤ x1 := by omega)
        try (have z2 : (0 : Int) ≤ x2 := by omega)
        try (have z3 : (0 : Int) ≤ x3 := by omega)
        clear hx
        generalize (x : Int) = X at *
        try generalize (x1 : Int) = X1 at *
        try generalize (x2 : Int) = X2 at *
        try generalize (x3 : Int) = X3 at *
        go_enter Try.func50, Try.ntmps50
        go_wp2
        go_ret
        refine ⟨congrArg Ending.returned (congrArg (Value.int IntKind.i64) ?_), rfl⟩
        rw [HS.out, ← HB.out]
        omega
      · have f2 : (x2 : Int) < 256 := by omega
        have hl := Lib.len8_of (x2 : Int) (by omega) (by omega)
        have hl8 := Lib.bitLen_le8' (x2 : Int) (by omega) (by omega)
        rw [Int.toNat_natCast] at hl hl8
        have hc : (x2 : Int) ≤ 255 := by omega
        have q1 := D1.out
        have HS := Lib.hid (show Lib.bitLen x = 16 + Lib.bitLen x2 by have := Lib.bitLen_shift 16 x (by omega) (by omega); rw [show x / 2 ^ 16 = x2 by omega] at this; exact this)
        clear q1
        obtain ⟨B, hB⟩ : ∃ B, B = Lib.bitLen x2 := ⟨_, rfl⟩
        rw [← hB] at hl hl8
        have HB := Lib.hid hB
        clear hB
        clear c0 c1 c2
        try clear g0
        try clear g1
        try clear g2
        have z0 : (0 : Int) ≤ x := by omega
        have z0u : (x : Int) < 18446744073709551616 := by omega
        try (have z1 : (0 : Int) ≤ x1 := by omega)
        try (have z2 : (0 : Int) ≤ x2 := by omega)
        try (have z3 : (0 : Int) ≤ x3 := by omega)
        clear hx
        generalize (x : Int) = X at *
        try generalize (x1 : Int) = X1 at *
        try generalize (x2 : Int) = X2 at *
        try generalize (x3 : Int) = X3 at *
        go_enter Try.func50, Try.ntmps50
        go_wp2
        go_ret
        refine ⟨congrArg Ending.returned (congrArg (Value.int IntKind.i64) ?_), rfl⟩
        rw [HS.out, ← HB.out]
        omega
    · have f1 : (x : Int) < 65536 := by omega
      by_cases c2 : 256 ≤ x
      · obtain ⟨x3, d2⟩ : ∃ q, q = x / 256 := ⟨_, rfl⟩
        have e2 : (x : Int) / 256 = (x3 : Int) := by omega
        have f2 : (256 : Int) ≤ (x : Int) := by omega
        have g2 : x3 < 256 := by omega
        have D2 := Lib.hid d2
        clear d2
        have hl := Lib.len8_of (x3 : Int) (by omega) (by omega)
        have hl8 := Lib.bitLen_le8' (x3 : Int) (by omega) (by omega)
        rw [Int.toNat_natCast] at hl hl8
        have hc : (x3 : Int) ≤ 255 := by omega
        have q2 := D2.out
        have HS := Lib.hid (show Lib.bitLen x = 8 + Lib.bitLen x3 by have := Lib.bitLen_shift 8 x (by omega) (by omega); rw [show x / 2 ^ 8 = x3 by omega] at this; exact this)
        clear q2
        obtain ⟨B, hB⟩ : ∃ B, B = Lib.bitLen x3 := ⟨_, rfl⟩
        rw [← hB] at hl hl8
        have HB := Lib.hid hB
        clear hB
        clear c0 c1 c2
        try clear g0
        try clear g1
        try clear g2
        have z0 : (0 : Int) ≤ x := by omega
        have z0u : (x : Int) < 18446744073709551616 := by omega
        try (have z1 : (0 : Int) ≤ x1 := by omega)
        try (have z2 : (0 : Int) ≤ x2 := by omega)
        try (have z3 : (0 : Int) ≤ x3 := by omega)
        clear hx
        generalize (x : Int) = X at *
        try generalize (x1 : Int) = X1 at *
        try generalize (x2 : Int) = X2 at *
        try generalize (x3 : Int) = X3 at *
        go_enter Try.func50, Try.ntmps50
        go_wp2
        go_ret
        refine ⟨congrArg Ending.returned (congrArg (Value.int IntKind.i64) ?_), rfl⟩
        rw [HS.out, ← HB.out]
        omega
      · have f2 : (x : Int) < 256 := by omega
        have hl := Lib.len8_of (x : Int) (by omega) (by omega)
        have hl8 := Lib.bitLen_le8' (x : Int) (by omega) (by omega)
        rw [Int.toNat_natCast] at hl hl8
        have hc : (x : Int) ≤ 255 := by omega
        have HS := Lib.hid (show Lib.bitLen x = 0 + Lib.bitLen x by rw [Nat.zero_add])
        obtain ⟨B, hB⟩ : ∃ B, B = Lib.bitLen x := ⟨_, rfl⟩
        rw [← hB] at hl hl8
        have HB := Lib.hid hB
        clear hB
        clear c0 c1 c2
        try clear g0
        try clear g1
        try clear g2
        have z0 : (0 : Int) ≤ x := by omega
        have z0u : (x : Int) < 18446744073709551616 := by omega
        try (have z1 : (0 : Int) ≤ x1 := by omega)
        try (have z2 : (0 : Int) ≤ x2 := by omega)
        try (have z3 : (0 : Int) ≤ x3 := by omega)
        clear hx
        generalize (x : Int) = X at *
        try generalize (x1 : Int) = X1 at *
        try generalize (x2 : Int) = X2 at *
        try generalize (x3 : Int) = X3 at *
        go_enter Try.func50, Try.ntmps50
        go_wp2
        go_ret
        refine ⟨congrArg Ending.returned (congrArg (Value.int IntKind.i64) ?_), rfl⟩
        rw [HS.out, ← HB.out]
        omega
end Go.Proofs.Ytkekdbnmeobgiaa

/- Layer 3 (wide): how many bits a number needs. -/
namespace Go.Proofs.Ytkekdbnmeobgiaa
set_option maxRecDepth 100000
set_option linter.unusedVariables false
set_option linter.unusedSimpArgs false
open Go.RowKit Go.Shelf

attribute [local go_sem] Oper.semAt_some

/-- How many bits a number needs. -/
def nbits (n : Nat) : Nat := if n = 0 then 0 else n.log2 + 1

theorem nbits_le (n k : Nat) : nbits n ≤ k ↔ n < 2 ^ k := by
  unfold nbits
  by_cases h : n = 0
  · subst h; simp [Nat.two_pow_pos]
  · rw [if_neg h]
    exact Nat.log2_lt h

theorem nbits_eq {m n : Nat} (h : ∀ k, m ≤ k ↔ n ≤ k) : m = n := Nat.le_antisymm ((h n).2 (Nat.le_refl _)) ((h m).1 (Nat.le_refl _))

theorem nbits_shift (a k : Nat) (h : 2 ^ k ≤ a) : nbits a = k + nbits (a / 2 ^ k) := by
  refine nbits_eq fun j => ?_
  rw [nbits_le]
  by_cases hj : k ≤ j
  · obtain ⟨d, rfl⟩ : ∃ d, j = k + d := ⟨j - k, by omega⟩
    rw [Nat.add_le_add_iff_left, nbits_le, Nat.div_lt_iff_lt_mul (Nat.two_pow_pos _), Nat.pow_add, Nat.mul_comm]
  · have : 2 ^ j ≤ 2 ^ k := Nat.pow_le_pow_right (by omega) (by omega)
    constructor
    · intro h2; omega
    · intro h2; omega

theorem nbits_half (x : Nat) (h : x ≠ 0) : nbits x = 1 + nbits (x / 2) := by
  by_cases h1 : x = 1
  · subst h1; decide
  · have := nbits_shift x 1 (by omega)
    simpa using this

theorem bitLen_nbits : ∀ (n x : Nat), x < 2 ^ 64 → x ≤ n → Lib.bitLen x = nbits x
  | 0, x, _, h => by
    obtain rfl : x = 0 := by omega
    decide
  | n + 1, x, hx, h => by
    by_cases h0 : x = 0
    · subst h0; decide
    · rw [Lib.bitLen_half x h0 hx, nbits_half x h0, bitLen_nbits n (x / 2) (by omega) (by omega)]


theorem top_word (a i : Nat) (h : a < 2 ^ (64 * (i + 1))) : a / 2 ^ (64 * i) = dgt 64 a i := by
  rw [dgt, Nat.mod_eq_of_lt]
  rw [Nat.div_lt_iff_lt_mul (Nat.two_pow_pos _), Nat.mul_comm, ← pow_next]
  exact h

theorem bits_top (a i : Nat) (h : a < 2 ^ (64 * (i + 1))) (h0 : dgt 64 a i ≠ 0) : nbits a = 64 * i + nbits (dgt 64 a i) := by
  rw [← top_word a i h]
  refine nbits_shift a (64 * i) ?_
  rw [← top_word a i h] at h0
  exact Nat.le_of_not_lt fun hl => h0 (Nat.div_eq_of_lt hl)

theorem less_word (a i : Nat) (h : a < 2 ^ (64 * (i + 1))) (h0 : dgt 64 a i = 0) : a < 2 ^ (64 * i) := by
  rw [← top_word a i h] at h0
  rcases Nat.div_eq_zero_iff.1 h0 with h1 | h1
  · exact absurd h1 (Nat.ne_of_gt (Nat.two_pow_pos _))
  · exact h1


end Go.Proofs.Ytkekdbnmeobgiaa

/- math/bits' Div64. -/
namespace Go.Proofs.Ytkekdbnmeobgiaa
set_option maxRecDepth 100000
set_option linter.unusedVariables false
set_option linter.unusedSimpArgs false
open Go.RowKit


theorem wrap_mod (x : Int) : IntKind.u64.wrap x = x % 18446744073709551616 := IntKind.wrap_u64 x


end Go.Proofs.Ytkekdbnmeobgiaa

/- Layer 3 (wide): the guess of a quotient's word. -/
namespace Go.Proofs.Ytkekdbnmeobgiaa
set_option maxRecDepth 100000
set_option linter.unusedVariables false
set_option linter.unusedSimpArgs false
open Go.RowKit


theorem upBy_down (x k : Nat) (hx : x < W256) (hk : k < 256) : upBy x (-(k : Int)) = x / 2 ^ k := by
  unfold upBy
  by_cases h : k = 0
  · subst h; simp [Nat.mod_eq_of_lt hx]
  · rw [if_pos (by omega), if_pos (by omega), Int.neg_neg, Int.toNat_natCast]
theorem upBy_up (x k : Nat) (hk : k < 256) : upBy x (k : Int) = x * 2 ^ k % W256 := by
  unfold upBy
  rw [if_neg (by omega), if_pos (by omega), Int.toNat_natCast]

theorem nbits_pos {b : Nat} (h : 0 < b) : 0 < nbits b := Nat.pos_of_ne_zero fun e => by have := (nbits_le b 0).1 (by omega); omega
theorem nbits_low {b : Nat} (h : 0 < b) : 2 ^ (nbits b - 1) ≤ b := Nat.le_of_not_lt fun hl => by have := (nbits_le b (nbits b - 1)).2 hl; have := nbits_pos h; omega
theorem nbits_high (b : Nat) : b < 2 ^ nbits b := (nbits_le b (nbits b)).1 (Nat.le_refl _)

theorem guess_fact (a b : Nat) (ha : a < W256) (hb : b < W256) (hb0 : 0 < b) (hab : a < 2 ^ 64 * b) :
    let l : Int := (nbits b : Int) - 64
    2 ^ 63 ≤ upBy b (-l) ∧ upBy b (-l) < 2 ^ 64 ∧ upBy a (-l) < 2 ^ 128 ∧ a / b ≤ upBy a (-l) / upBy b (-l) := by
  intro l
  have hn := nbits_pos hb0
  have hlo := nbits_low hb0
  have hhi := nbits_high b
  have h256 := (nbits_le b 256).2 hb
  by_cases h : 64 ≤ nbits b
  · obtain ⟨k, hk⟩ : ∃ k, nbits b = 64 + k := ⟨nbits b - 64, by omega⟩
    have hl : l = (k : Int) := by omega
    rw [hl, upBy_down b k hb (by omega), upBy_down a k ha (by omega)]
    rw [hk] at hlo hhi
    have hp := Nat.two_pow_pos k
    have e1 : (2 : Nat) ^ (64 + k) = 2 ^ 64 * 2 ^ k := Nat.pow_add _ _ _
    have e2 : (2 : Nat) ^ (64 + k - 1) = 2 ^ 63 * 2 ^ k := by rw [← Nat.pow_add]; congr 1; omega
    have t1 : 2 ^ 63 ≤ b / 2 ^ k := by rw [Nat.le_div_iff_mul_le hp, ← e2]; exact hlo
    have t2 : b / 2 ^ k < 2 ^ 64 := by rw [Nat.div_lt_iff_lt_mul hp, ← e1]; exact hhi
    refine ⟨t1, t2, ?_, ?_⟩
    · rw [Nat.div_lt_iff_lt_mul hp]
      have : 2 ^ 64 * b < 2 ^ 64 * (2 ^ 64 * 2 ^ k) := by rw [← e1]; exact Nat.mul_lt_mul_of_pos_left hhi (Nat.two_pow_pos 64)
      rw [← Nat.mul_assoc] at this
      exact Nat.lt_trans hab this
    · rw [Nat.le_div_iff_mul_le (by omega), Nat.le_div_iff_mul_le hp]
      calc a / b * (b / 2 ^ k) * 2 ^ k = a / b * (b / 2 ^ k * 2 ^ k) := Nat.mul_assoc _ _ _
        _ ≤ a / b * b := Nat.mul_le_mul_left _ (Nat.div_mul_le_self _ _)
        _ ≤ a := Nat.div_mul_le_self _ _
  · obtain ⟨k, hk⟩ : ∃ k, nbits b + k = 64 := ⟨64 - nbits b, by omega⟩
    have hl : -l = (k : Int) := by omega
    have hp := Nat.two_pow_pos k
    have e1 : (2 : Nat) ^ 64 = 2 ^ nbits b * 2 ^ k := by rw [← Nat.pow_add, hk]
    have e2 : (2 : Nat) ^ 63 = 2 ^ (nbits b - 1) * 2 ^ k := by rw [← Nat.pow_add]; congr 1; omega
    have t2 : b * 2 ^ k < 2 ^ 64 := by rw [e1]; exact Nat.mul_lt_mul_of_pos_right hhi hp
    have t3 : a * 2 ^ k < 2 ^ 128 := by
      have h1 : a * 2 ^ k < 2 ^ 64 * b * 2 ^ k := Nat.mul_lt_mul_of_pos_right hab hp
      rw [Nat.mul_assoc] at h1
      have h2 : 2 ^ 64 * (b * 2 ^ k) ≤ 2 ^ 64 * 2 ^ 64 := Nat.mul_le_mul_left _ (by omega)
      exact Nat.lt_of_lt_of_le h1 h2
    have w1 : (2 : Nat) ^ 64 ≤ W256 := Nat.pow_le_pow_right (by omega) (by omega)
    have w2 : (2 : Nat) ^ 128 ≤ W256 := Nat.pow_le_pow_right (by omega) (by omega)
    rw [hl, upBy_up b k (by omega), upBy_up a k (by omega), Nat.mod_eq_of_lt (Nat.lt_of_lt_of_le t2 w1), Nat.mod_eq_of_lt (Nat.lt_of_lt_of_le t3 w2)]
    refine ⟨by rw [e2]; exact Nat.mul_le_mul_right _ hlo, t2, t3, ?_⟩
    rw [Nat.mul_div_mul_right _ _ hp]
    exact Nat.le_refl _

def GuessOk (a b : Nat) (w : World) (e : Ending) (w' : World) : Prop := ∃ g : Nat, e = .returned (.int .u64 (g : Int)) ∧ a / b ≤ g ∧ g < 2 ^ 64 ∧ Fr F0 w w'

theorem dgt_zero (x : Nat) (h : x < 2 ^ 64) : dgt 64 x 0 = x := by
  rw [dgt, Nat.mul_zero, Nat.pow_zero, Nat.div_one, Nat.mod_eq_of_lt h]
theorem two_words (x : Nat) (h : x < 2 ^ 128) : dgt 64 x 1 * 2 ^ 64 + dgt 64 x 0 = x := by
  have h1 : x / 2 ^ 64 < 2 ^ 64 := by rw [Nat.div_lt_iff_lt_mul (Nat.two_pow_pos _)]; exact h
  simp only [dgt, Nat.mul_one, Nat.mul_zero, Nat.pow_zero, Nat.div_one]
  rw [Nat.mod_eq_of_lt h1]
  have := Nat.mod_add_div x (2 ^ 64)
  omega


end Go.Proofs.Ytkekdbnmeobgiaa

/- Layer 3 (wide): one word of a quotient. -/
namespace Go.Proofs.Ytkekdbnmeobgiaa
set_option maxRecDepth 100000
set_option linter.unusedVariables false
set_option linter.unusedSimpArgs false
open Go.RowKit

/-- Two results, the second a whole row. -/
theorem res_tmp_row {P : Program} {fn : Func} {p u : Tmp} {ty : TypeId} (h : fn.results = #[.tmp u, .cell p ty]) (tmps : Array Value) (w : World) (g : Nat) (t : TypeId) (cs : Array Value) (fr : Nat × Nat) (d : TypeDesc)
    (hp : tmps.getD p undef = .pointer (some ⟨g, 0, none⟩)) (hg : w.heap[g]? = some (.cells cs t fr))
    (hu : P.underlying ty = some d) (hd : (match d with | .struct _ | .array _ _ => true | _ => false) = true) (hi : (P.info? ty).map (·.size) = some cs.size) :
    (results fn tmps).run P w = .ok (.tuple #[tmps.getD u undef, .agg cs]) w := by
  have hp' : tmps[p]?.getD undef = .pointer (some ⟨g, 0, none⟩) := by simpa using hp
  simp [results, h, hp', asAddr, run_loadVar_row w g t ty cs fr d hg hu hd hi]

theorem sgn_pos {x y : Nat} (h : y < x) : sgn x y = 1 := by unfold sgn; rw [if_neg (by omega), if_pos h]
theorem sgn_not {x y : Nat} (h : x ≤ y) : sgn x y ≤ 0 := by unfold sgn; split <;> (try split) <;> omega


end Go.Proofs.Ytkekdbnmeobgiaa

/- Layer 3 (wide): quotient and rest. -/
namespace Go.Proofs.Ytkekdbnmeobgiaa
set_option maxRecDepth 100000
set_option linter.unusedVariables false
set_option linter.unusedSimpArgs false
open Go.RowKit Go.Shelf

attribute [local go_sem] Oper.semAt_some

theorem word_split (a i : Nat) : a / 2 ^ (64 * i) = a / 2 ^ (64 * (i + 1)) * 2 ^ 64 + dgt 64 a i := by
  have h2 := Nat.mod_add_div (a / 2 ^ (64 * i)) (2 ^ 64)
  rw [Nat.div_div_eq_div_mul, show 2 ^ (64 * i) * 2 ^ 64 = 2 ^ (64 * (i + 1)) by rw [← Nat.pow_add]; congr 1] at h2
  rw [dgt]
  omega

theorem div_round (A d b : Nat) (hb : 0 < b) : (A * 2 ^ 64 + d) / b = A / b * 2 ^ 64 + (A % b * 2 ^ 64 + d) / b ∧ (A * 2 ^ 64 + d) % b = (A % b * 2 ^ 64 + d) % b := by
  have h := Nat.mod_add_div A b
  have e : A * 2 ^ 64 + d = (A % b * 2 ^ 64 + d) + b * (A / b * 2 ^ 64) := by
    rw [← Nat.mul_assoc]
    generalize b * (A / b) = z at *
    omega
  rw [e, Nat.add_mul_div_left _ _ hb, Nat.add_mul_mod_self_left]
  exact ⟨Nat.add_comm _ _, rfl⟩

theorem putw_low (q v i : Nat) : putw 64 (q * 2 ^ (64 * (i + 1))) i v = (q * 2 ^ 64 + v) * 2 ^ (64 * i) := by
  have e : 2 ^ (64 * (i + 1)) = 2 ^ 64 * 2 ^ (64 * i) := by rw [← Nat.pow_add]; congr 1; omega
  rw [putw, Nat.mul_div_cancel _ (Nat.two_pow_pos _)]
  conv => lhs; rw [e]
  rw [← Nat.mul_assoc, Nat.mul_mod_left, Nat.zero_add, Nat.mul_comm, Nat.add_comm v, Nat.mul_comm (2 ^ 64) q]

theorem putw_first (z v : Nat) : putw 64 (z * 2 ^ 64) 0 v = z * 2 ^ 64 + v := by
  have := putw_low z v 0
  simpa using this

/-- Three results, the first two whole rows. -/
theorem res_row_row_tmp {P : Program} {fn : Func} {p q u : Tmp} {ty : TypeId} (h : fn.results = #[.cell p ty, .cell q ty, .tmp u]) (tmps : Array Value) (w : World) (g g' : Nat) (t t' : TypeId) (cs cs' : Array Value) (fr fr' : Nat × Nat) (d : TypeDesc)
    (hp : tmps.getD p undef = .pointer (some ⟨g, 0, none⟩)) (hq : tmps.getD q undef = .pointer (some ⟨g', 0, none⟩)) (hg : w.heap[g]? = some (.cells cs t fr)) (hg' : w.heap[g']? = some (.cells cs' t' fr'))
    (hu : P.underlying ty = some d) (hd : (match d with | .struct _ | .array _ _ => true | _ => false) = true) (hi : (P.info? ty).map (·.size) = some cs.size) (hi' : (P.info? ty).map (·.size) = some cs'.size) :
    (results fn tmps).run P w = .ok (.tuple #[.agg cs, .agg cs', tmps.getD u undef]) w := by
  have hp' : tmps[p]?.getD undef = .pointer (some ⟨g, 0, none⟩) := by simpa using hp
  have hq' : tmps[q]?.getD undef = .pointer (some ⟨g', 0, none⟩) := by simpa using hq
  simp [results, h, hp', hq', asAddr, run_loadVar_row w g t ty cs fr d hg hu hd hi, run_loadVar_row w g' t' ty cs' fr' d hg' hu hd hi']

theorem Fr.keepsFrom {W W' : World} (h : Fr F0 W W') (B : Nat) : KeepsFrom B W W' :=
  ⟨h.size, fun k o _ hk _ => h.keeps (fun f => f) hk⟩
theorem below_setRow {n g : Nat} (W : World) (c : Array Value) (h : n ≤ g) : Below n W (W.setRow g c) := ⟨rfl, rfl, rfl, by simp, fun k hk => setRow_other W g k c (by omega)⟩
theorem KeepsFrom.setRowF (B : Nat) (W : World) (g : Nat) (c cs : Array Value) (t : TypeId) (f : Nat × Nat) (hg : W.heap[g]? = some (.cells c t f)) : KeepsFrom B W (W.setRow g cs) :=
  ⟨by simp, fun k o _ hk ho => by
    by_cases e : k = g
    · subst e
      rw [hg] at hk
      cases hk
      cases ho
    · rw [setRow_other W g k cs e]; exact hk⟩



end Go.Proofs.Ytkekdbnmeobgiaa

/- The document's answer 03 (wide): digits of 16 bits; the walks of digit and trim. -/
namespace Go.Proofs.Ytkekdbnmeobgiaa
set_option maxRecDepth 100000
set_option linter.unusedVariables false
set_option linter.unusedSimpArgs false
open Go.RowKit

theorem Try.infoU64 : (Try.prog.info? 23).map (fun i => (i.zero, i.size, i.bytes)) = some (some (.int .u64 0), 1, 8) := by kernel_rfl

/-- A number of 64 bits as a value. -/
def U64 (x : Nat) : Value := .int .u64 (x : Int)
/-- A slice of numbers that is read. -/
def Us (w : World) (a : Option Addr) (c : Nat) (l : List Nat) : Prop := Sl w 1 a c l.length (l.map U64)
/-- A row of numbers of the call's own. -/
def OwnU (w : World) (v : Value) (l : List Nat) : Prop := w.ownsRow 0 23 1 v l.length (l.map U64)

theorem OwnU.nil (w : World) : OwnU w (.slice none 0 0) [] := World.ownsRow_nil _ _ _ _
theorem OwnU.us {w : World} {a : Option Addr} {n c : Nat} {l : List Nat} (h : OwnU w (.slice a n c) l) : n = l.length ∧ Us w a c l := by
  obtain ⟨rfl, hs⟩ := Sl.of_own h
  exact ⟨rfl, hs⟩
theorem OwnU.slice {w : World} {v : Value} {l : List Nat} (h : OwnU w v l) : ∃ a c, v = .slice a l.length c := own_slice h
theorem OwnU.lt {w : World} {v : Value} {l : List Nat} (h : OwnU w v l) : ∀ k, v.ownBlock = some k → k < w.heap.size := fun k hk => (World.ownsRow.lt h k hk).2
theorem OwnU.fr {S : Nat → Prop} {w w' : World} {v : Value} {l : List Nat} (h : OwnU w v l) (hf : Fr S w w') (hs : ∀ k, v.ownBlock = some k → ¬ S k) : OwnU w' v l := by
  refine ⟨h.1, ?_⟩
  rcases h.2 with hn | ⟨g, cap, cur, rfl, hb, hg, r⟩
  · exact .inl hn
  · exact .inr ⟨g, cap, cur, rfl, hb, hf.keeps (hs g rfl) hg, r⟩

theorem Us.one {l : List Nat} : ∀ u ∈ l.map U64, u.oneCell' = true := by
  intro u hu
  simp only [List.mem_map] at hu
  obtain ⟨x, _, rfl⟩ := hu
  rfl

theorem Us.get {w : World} {a : Option Addr} {c : Nat} {l : List Nat} (h : Us w a c l) (j : Nat) (hj : j < l.length) : ∃ b off, a = some ⟨b, off, none⟩ ∧ Obj.cellAt (off + j) w.heap[b]? = some (.int .u64 (l.getD j 0 : Nat)) := by
  obtain ⟨b, off, e, hc⟩ := h.cell j (U64 (l.getD j 0)) (by simp [List.getElem?_map, List.getElem?_eq_getElem hj, List.getD])
  exact ⟨b, off, e, by rw [← cell_at]; exact hc⟩

theorem Us.fr {w w' : World} {a : Option Addr} {c : Nat} {l : List Nat} (h : Us w a c l) (f : Fr F0 w w') : Us w' a c l := Sl.fr h f fun _ _ f => f


theorem Us.of_new (w : World) (x : Nat) : Us (w.alloc (.cells #[.int .u64 (x : Int)] 23)) (some ⟨w.heap.size, 0, none⟩) 1 [x] :=
  ⟨rfl, Nat.le_refl _, by unfold maxLen; omega, (fun e => by cases e), fun j u hj => ⟨w.heap.size, 0, rfl, by
    rw [Nat.zero_add, cell_of_row _ _ j _ _ _ (heap_alloc_new w _)]
    match j, hj with
    | 0, hj => simpa [U64] using hj⟩⟩

/-! ### digits -/

/-- n digits of 16 bits. -/
def ds (n x : Nat) : List Nat := (List.range n).map (dgt 16 x)
theorem ds_length (n x : Nat) : (ds n x).length = n := by simp [ds]
theorem ds_succ (n x : Nat) : ds (n + 1) x = ds n x ++ [dgt 16 x n] := by simp [ds, List.range_succ]
theorem ds_zero (x : Nat) : ds 0 x = [] := rfl
theorem ds_getD (n x i : Nat) (h : i < n) : (ds n x).getD i 0 = dgt 16 x i := by simp [ds, List.getD, h]

/-- How many digits a number has. -/
def lg (x : Nat) : Nat := if x = 0 then 0 else x.log2 / 16 + 1
theorem lg_lt (x : Nat) : x < 2 ^ (16 * lg x) := by
  unfold lg
  split
  · subst x; decide
  · exact Nat.lt_of_lt_of_le Nat.lt_log2_self (Nat.pow_le_pow_right (by omega) (by omega))
theorem lg_le {x : Nat} (h : 0 < lg x) : 2 ^ (16 * (lg x - 1)) ≤ x := by
  unfold lg at h ⊢
  split at h
  · omega
  · rename_i h0
    rw [if_neg h0]
    exact Nat.le_trans (Nat.pow_le_pow_right (by omega) (by omega)) (Nat.log2_self_le h0)
theorem lg_min {x n : Nat} (h : x < 2 ^ (16 * n)) : lg x ≤ n := by
  refine Nat.le_of_not_lt fun hn => ?_
  have h1 := lg_le (x := x) (by omega)
  have h2 : 2 ^ (16 * n) ≤ 2 ^ (16 * (lg x - 1)) := Nat.pow_le_pow_right (by omega) (by omega)
  omega
theorem lg_zero : lg 0 = 0 := rfl
theorem lg_pos {x : Nat} (h : x ≠ 0) : 0 < lg x := by unfold lg; rw [if_neg h]; omega
theorem lg_eq0 {x : Nat} (h : lg x = 0) : x = 0 := Decidable.byContradiction fun h0 => by have := lg_pos h0; omega

/-- A number's digits: the last one isn't 0. -/
def dg (x : Nat) : List Nat := ds (lg x) x
theorem dg_length (x : Nat) : (dg x).length = lg x := ds_length _ _
theorem dgt16_over {x n i : Nat} (h : x < 2 ^ (16 * n)) (hi : n ≤ i) : dgt 16 x i = 0 := by
  unfold dgt
  rw [Nat.div_eq_of_lt (Nat.lt_of_lt_of_le h (Nat.pow_le_pow_right (by omega) (by omega)))]
theorem dg_getD (x i : Nat) : (dg x).getD i 0 = dgt 16 x i := by
  by_cases h : i < lg x
  · exact ds_getD _ _ _ h
  · rw [dgt16_over (lg_lt x) (by omega)]
    simp [List.getD, List.getElem?_eq_none (show (dg x).length ≤ i by rw [dg_length]; omega)]
theorem dgt_top {x n : Nat} (h : x < 2 ^ (16 * (n + 1))) : dgt 16 x n = x / 2 ^ (16 * n) := by
  unfold dgt
  refine Nat.mod_eq_of_lt ?_
  rw [Nat.div_lt_iff_lt_mul (Nat.two_pow_pos _), ← Nat.pow_add]
  rwa [show 16 + 16 * n = 16 * (n + 1) by omega]

def vlen : Value → Nat | .slice _ m _ => m | _ => 0

/-- A slice of a number's digits. -/
abbrev Ns (w : World) (a : Option Addr) (c : Nat) (x : Nat) : Prop := Us w a c (dg x)
/-- A number is answered, in new memory or in what was there. -/
def NN (x : Nat) (w : World) (e : Ending) (w' : World) : Prop := ∃ a c, e = .returned (.slice a (lg x) c) ∧ Ns w' a c x ∧ Fr F0 w w'



theorem Us.cut {w : World} {b off c n x : Nat} (h : Us w (some ⟨b, off, none⟩) c (ds (n + 1) x)) : Us w (some ⟨b, off, none⟩) c (ds n x) := by
  have hr := h.room
  rw [ds_length] at hr
  refine ⟨by simp, by rw [ds_length]; omega, h.most, h.nil, fun j u hj => ?_⟩
  refine h.cell j u ?_
  rw [ds_succ, List.map_append]
  rw [List.getElem?_append_left]
  · exact hj
  · exact (List.getElem?_eq_some_iff.1 hj).1



end Go.Proofs.Ytkekdbnmeobgiaa

/- The document's answer 03 (wide): the walks of Add, Sub. -/
namespace Go.Proofs.Ytkekdbnmeobgiaa
set_option maxRecDepth 100000
set_option linter.unusedVariables false
set_option linter.unusedSimpArgs false
open Go.RowKit

/-- The row so far: made since w. -/
def Row (w : World) (l : List Nat) (v : Value) (wr : World) : Prop := ∃ a c, v = .slice a l.length c ∧ OwnU wr (.slice a l.length c) l ∧ ∀ g, ablk a = some g → w.heap.size ≤ g

theorem Row.nil (w : World) (T : TypeId) : Row w [] (.slice (some ⟨w.heap.size, 0, none⟩) 0 0) (w.alloc (.cells #[] 23)) :=
  ⟨_, _, rfl, World.ownsRow_made w #[] 0 (Nat.zero_le _) (Nat.zero_le _) rfl, fun g e => by cases e; exact Nat.le_refl _⟩

theorem Row.app {w : World} {l : List Nat} {a : Option Addr} {n c x : Nat} {wr : World} {a3 : Option Addr} {c3 : Nat} {w3 : World} (hb : ∀ g, ablk a = some g → w.heap.size ≤ g) (f : Fr F0 w wr)
    (ho : OwnU w3 (.slice a3 (l.length + 1) c3) (l ++ [x])) (h : ∀ k, ablk a3 = some k → (Value.slice a n c).ownBlock = some k ∨ (wr.alloc (.cells #[.int .u64 (x : Int)] 23)).heap.size ≤ k) :
    Row w (l ++ [x]) (.slice a3 (l.length + 1) c3) w3 := by
  refine ⟨a3, c3, by simp, by simpa using ho, fun g hg' => ?_⟩
  rcases h g hg' with h | h
  · exact hb g (by rw [← ablk_own]; exact h)
  · have := f.size; simp only [World.size_alloc] at h; omega

theorem Row.frame {w wr w3 : World} {a : Option Addr} {n c : Nat} {o : Obj} (hb : ∀ g, ablk a = some g → w.heap.size ≤ g) (f : Fr F0 w wr) (hg : (wr.alloc o).grownBy w3 (Value.slice a n c).ownBlock) : Fr F0 w w3 :=
  (f.alloc o).grown hg fun g e hl => by
    have := hb g (by rw [← ablk_own]; exact e)
    omega




end Go.Proofs.Ytkekdbnmeobgiaa

/- The document's answer 03 (wide): the walk of Mul. -/
namespace Go.Proofs.Ytkekdbnmeobgiaa
set_option maxRecDepth 100000
set_option linter.unusedVariables false
set_option linter.unusedSimpArgs false
open Go.RowKit

theorem made_row (n : Nat) : madeCells (Value.int .u64 0).cells (n * 1) = rowN .u64 16 n 0 := by
  apply Array.toList_inj.1
  rw [show (Value.int .u64 0).cells = #[.int .u64 0] from rfl, toList_madeCells_one, Nat.mul_one]
  unfold rowN
  rw [List.toList_toArray]
  apply List.ext_getElem
  · simp
  · intro i h1 h2
    simp [dgt]


/-- A row that holds a number is its digits. -/
theorem Us.of_row {w : World} {g n V : Nat} {t : TypeId} {f : Nat × Nat} (h : w.heap[g]? = some (.cells (rowN .u64 16 n V) t f)) (hn : n ≤ 1000000) : Us w (some ⟨g, 0, none⟩) n (ds n V) :=
  ⟨by simp, by rw [ds_length]; omega, by unfold maxLen; omega, (fun e => by cases e), fun j u hj => ⟨g, 0, rfl, by
    have hjn : j < n := by have := (List.getElem?_eq_some_iff.1 hj).1; simpa [ds_length] using this
    rw [Nat.zero_add, cell_at, h, cellAt_cells, rowN_get _ _ _ _ _ hjn]
    simpa [ds, hjn, U64] using hj⟩⟩


end Go.Proofs.Ytkekdbnmeobgiaa

/- The document's answer 03 (wide): the walk of Half. -/
namespace Go.Proofs.Ytkekdbnmeobgiaa
set_option maxRecDepth 100000
set_option linter.unusedVariables false
set_option linter.unusedSimpArgs false
open Go.RowKit


end Go.Proofs.Ytkekdbnmeobgiaa

/- The document's answer 03 (wide): the walk of Bits. -/
namespace Go.Proofs.Ytkekdbnmeobgiaa
set_option maxRecDepth 100000
set_option linter.unusedVariables false
set_option linter.unusedSimpArgs false
open Go.RowKit

/-- n bits. -/
def bs (n x : Nat) : List Nat := (List.range n).map (dgt 1 x)
theorem bs_length (n x : Nat) : (bs n x).length = n := by simp [bs]
theorem bs_succ (n x : Nat) : bs (n + 1) x = bs n x ++ [dgt 1 x n] := by simp [bs, List.range_succ]
theorem dgt1 (x i : Nat) : dgt 1 x i = x / 2 ^ i % 2 := by simp [dgt]

/-- 'append(s, x...)' on words, in a walk. -/
theorem wpList_appU {w : World} {ops : Array Oper} {rest : List Oper} {o : Oper} {a : Act} {Q : Exit → Act → World → Prop} (hgd : o.guard = none) (s x : Operand)
    (ho : o.op = .call { callee := .builtin .append, args := #[s, x], argTypes := #[22, 22] })
    (v : Value) (b0 : List Nat) (hs : a.eval s = v) (hown : OwnU w v b0) (ad : Option Addr) (m c : Nat) (l : List Nat) (hx : a.eval x = .slice ad m c) (hsl : Us w ad c l) (hm : m = l.length)
    (hb : b0.length + l.length ≤ 1000000)
    (h : ∀ a' c' w', OwnU w' (.slice a' (b0.length + l.length) c') (b0 ++ l) → w.grownBy w' v.ownBlock → (∀ k, ablk a' = some k → v.ownBlock = some k ∨ w.heap.size ≤ k) →
      wpList Try.prog ops Q rest (a.put o.dst (.slice a' (b0.length + l.length) c')) w') : wpList Try.prog ops Q (o :: rest) a w := by
  subst hm
  obtain ⟨i0, hi, hz0, hz1, hz2⟩ := info_parts Try.infoU64
  refine wpList_app hgd s x 22 ho 23 i0 (.int .u64 0) 1 8 Try.underlying22 hi hz0 hz1 hz2 rfl (by decide) v _ _ hs hown ad c _ _ hx hsl Us.one (by unfold maxLen; omega) (by omega) ?_
  intro a' c' w' h1 h2 h3
  exact h a' c' w' (by simpa [OwnU] using h1) h2 h3

theorem half_pow (x i : Nat) : x / 2 ^ i / 2 = x / 2 ^ (i + 1) := by rw [Nat.div_div_eq_div_mul, ← Nat.pow_succ]

theorem nbits_lg {x n : Nat} (h : lg x ≤ n) : nbits x ≤ 16 * n := (nbits_le x (16 * n)).2 (Nat.lt_of_lt_of_le (lg_lt x) (Nat.pow_le_pow_right (by omega) (by omega)))


end Go.Proofs.Ytkekdbnmeobgiaa

/- The document's answer 03 (wide): the walk of FromBits. -/
namespace Go.Proofs.Ytkekdbnmeobgiaa
set_option maxRecDepth 100000
set_option linter.unusedVariables false
set_option linter.unusedSimpArgs false
open Go.RowKit

theorem lg_one : lg 1 = 1 := by
  have h1 := lg_min (x := 1) (n := 1) (by omega)
  have h2 := lg_pos (x := 1) (by omega)
  omega
theorem dg_one : dg 1 = [1] := by unfold dg; rw [lg_one]; simp [ds, dgt]
theorem bit_step (v j : Nat) : v / 2 ^ j = v / 2 ^ (j + 1) + v / 2 ^ (j + 1) + dgt 1 v j := by
  rw [← half_pow, dgt1]; omega
theorem bit_lt (v j : Nat) : dgt 1 v j < 2 := by rw [dgt1]; exact Nat.mod_lt _ (by omega)
theorem bs_getD (n x i : Nat) (h : i < n) : (bs n x).getD i 0 = dgt 1 x i := by simp [bs, List.getD, h]



end Go.Proofs.Ytkekdbnmeobgiaa

/- math/bits.Len. -/
namespace Go.Proofs.Ytkekdbnmeobgiaa
set_option maxRecDepth 100000
set_option linter.unusedVariables false
set_option linter.unusedSimpArgs false
open Go.RowKit

set_option maxHeartbeats 2000000 in
theorem bLen_any (x : Nat) (h : x < 18446744073709551616) (w : World) : Calls Try.prog 37 #[.int .u64 (x : Int)] w fun e w' => e = .returned (.int .i64 (Lib.bitLen x : Nat)) ∧ w' = w := by
  have H := Lib.hid (fun w => Len64_any x h w)
  clear h
  go_enter Try.func37, Try.ntmps37
  go_wp2_with fail
  (with_reducible refine (H.out _).mono ?_); rintro e w1 ⟨rfl, hw⟩; subst hw
  go_wp2
  go_ret
  exact ⟨rfl, rfl⟩
end Go.Proofs.Ytkekdbnmeobgiaa
