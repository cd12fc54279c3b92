import Derived.Test.YthpcajpiflpmdaaDoorZ1
import Derived.Deep.RegionWith
import Derived.OrdersHeld
import Derived.Deep.RegionHeld3
import Derived.Laws.Externs
import Derived.Laws.BitsAllLaws
import Derived.Test.YthpcajpiflpmdaaDoorZ4
import Derived.Laws.CopyRow
import Derived.Lib.Tables
import Derived.Lib.BitFns
/- Layer 3 (wide): how the walk reads and writes whole numbers. -/
namespace Go.Proofs.YthpcajpiflpmdaaDoor
set_option linter.unusedVariables false
set_option linter.unusedSimpArgs false
open Go.RowKit



theorem Tryd.szArr32 : (Tryd.prog.info? 27).map (·.size) = some 32 := by kernel_rfl



@[go_sem ↓ high] theorem load_arr32 (p : Value) : Instr.loadAt 27 p = loadRowAt 27 p := rfl


@[go_sem ↓ high] theorem store_arr32 (p v : Value) : Instr.storeAt 27 p v = storeRowAt 27 p v := rfl



@[go_sem] theorem run_load_arr32 (w : World) (g : Nat) : (loadRowAt 27 (.pointer (some ⟨g, 0, none⟩))).run Tryd.prog w = rowOut Tryd.prog 27 (.pointer (some ⟨g, 0, none⟩)) w 32 w.heap[g]? :=
  run_loadRowAt w _ g 32 _ Tryd.underlying27 rfl Tryd.szArr32


@[go_sem] theorem run_store_arr32 (w : World) (g : Nat) (cells : Array Value) : (storeRowAt 27 (.pointer (some ⟨g, 0, none⟩)) (.agg cells)).run Tryd.prog w = rowIn Tryd.prog 27 (.pointer (some ⟨g, 0, none⟩)) cells g w 32 w.heap[g]? :=
  run_storeRowAt w _ g 32 cells Tryd.szArr32

theorem heap_new3 (w : World) (A B C : Obj) : (((w.alloc A).alloc B).alloc C).heap[w.heap.size + 1 + 1]? = some C := by
  have := heap_alloc_new ((w.alloc A).alloc B) C
  simpa using this
theorem heap_new4 (w : World) (A B C D : Obj) : ((((w.alloc A).alloc B).alloc C).alloc D).heap[w.heap.size + 1 + 1 + 1]? = some D := by
  have := heap_alloc_new (((w.alloc A).alloc B).alloc C) D
  simpa using this
attribute [simp high] heap_alloc2_new heap_new3 heap_new4 rowOut_cells rowIn_cells heap_alloc_new heap_alloc_old heap_setRow_at heap_setRow_ne heap_setCell_at heap_setCell_ne' withRow_cells withCell_cells cellAt_cells frozenAt_cells heap_drew' rowN_size rowN_rowOne rowN_get rowN_getElem
attribute [go_sem low] cell_at frozen_at

theorem Tryd.szU64 : (Tryd.prog.info? 70).map (·.size) = some 1 := by kernel_rfl
theorem Tryd.szU8 : (Tryd.prog.info? 5).map (·.size) = some 1 := by kernel_rfl



@[simp high] theorem run_index_arr32 (w : World) (x i : Nat) (k : IntKind) (h : i < 32) : (Instr.index 27 (.agg (rowN .u8 8 32 x)) (.int k (i : Int))).run Tryd.prog w = .ok (.int .u8 (dgt 8 x i : Nat)) w :=
  run_index_row w _ _ 32 _ k i _ Tryd.underlying27 Tryd.underlying5 rfl Tryd.szU8 _ h (rowN_get _ _ _ _ _ h)

@[simp high] theorem putw_zero0 (v : Nat) : putw 64 0 0 v = v := by rw [putw_new _ _ _ _ (by simp)]; simp
@[simp high] theorem putw_one (x y : Nat) (h : x < 2 ^ 64) : putw 64 x 1 y = x + 2 ^ 64 * y := putw_new _ _ _ _ h

/-- A number's cells. -/
abbrev WR (x : Nat) : Array Value := rowN .u64 64 4 x
/-- A number as a value. -/
abbrev WV (x : Nat) : Value := .agg (rowN .u64 64 4 x)

theorem WR_zero : rowN .u64 64 4 0 = #[.int .u64 0, .int .u64 0, .int .u64 0, .int .u64 0] := by
  simp [rowN, dgt, List.range_succ]
theorem WR_word (x : Nat) (h : x < 2 ^ 64) : rowN .u64 64 4 x = #[.int .u64 (x : Int), .int .u64 0, .int .u64 0, .int .u64 0] := by
  have e : x % 18446744073709551616 = x := Nat.mod_eq_of_lt (by simpa using h)
  simp only [rowN, List.range_succ, List.range_zero, dgt]
  simp only [List.nil_append, List.map_append, List.map_cons, List.map_nil, List.cons_append]
  simp [e, Nat.div_eq_of_lt (show x < 2 ^ 128 by omega), Nat.div_eq_of_lt (show x < 2 ^ 192 by omega), Nat.div_eq_of_lt h]
  all_goals omega
@[go_sem high] theorem zero4 : (#[.int .u64 0, .int .u64 0, .int .u64 0, .int .u64 0] : Array Value) = rowN .u64 64 4 0 := WR_zero.symm
@[go_sem high] theorem row_word (x : Nat) (h : x < 2 ^ 64) : (#[.int .u64 (x : Int), .int .u64 0, .int .u64 0, .int .u64 0] : Array Value) = rowN .u64 64 4 x := (WR_word x h).symm
theorem WR_two (x y : Nat) (h : x < 2 ^ 64) (h' : y < 2 ^ 64) : rowN .u64 64 4 (x + 2 ^ 64 * y) = #[.int .u64 (x : Int), .int .u64 (y : Int), .int .u64 0, .int .u64 0] := by
  rw [← putw_new 64 x 1 y (by simpa using h), ← rowN_set _ _ _ _ _ _ h', WR_word x h]
  rfl
@[go_sem high] theorem row_two (x y : Nat) (h : x < 2 ^ 64) (h' : y < 2 ^ 64) : (#[.int .u64 (x : Int), .int .u64 (y : Int), .int .u64 0, .int .u64 0] : Array Value) = rowN .u64 64 4 (x + 2 ^ 64 * y) := (WR_two x y h h').symm
@[go_sem high] theorem set_word (z i v : Nat) (hv : v < 2 ^ 64) : (rowN .u64 64 4 z).setIfInBounds i (.int .u64 (v : Int)) = rowN .u64 64 4 (putw 64 z i v) := rowN_set _ _ _ _ _ _ hv

theorem wp_of_world {P : Program} {c : Code} {Q : Exit → Act → World → Prop} {a : Act} {w : World} (W : World) (h : W = w) (k : Code.wp P c Q a W) : Code.wp P c Q a w := h ▸ k
theorem Calls.of_world {P : Program} {f : FuncId} {args : Array Value} {w : World} {R : Ending → World → Prop} (W : World) (h : W = w) (k : Calls P f args W R) : Calls P f args w R := h ▸ k

/-- A result that is a whole row. -/
theorem res_row {P : Program} {fn : Func} {p : Tmp} {ty : TypeId} (h : fn.results = #[.cell p ty]) (tmps : Array Value) (w : World) (g : Nat) (t : TypeId) (cs : Array Value) (fr : Nat × Nat) (d : TypeDesc)
    (hp : tmps.getD p undef = .pointer (some ⟨g, 0, none⟩)) (hg : w.heap[g]? = some (.cells cs t fr))
    (hu : P.underlying ty = some d) (hd : (match d with | .struct _ | .array _ _ => true | _ => false) = true) (hi : (P.info? ty).map (·.size) = some cs.size) :
    (results fn tmps).run P w = .ok (.agg cs) w := results_cell_row h tmps w g t cs fr d hp hg hu hd hi
end Go.Proofs.YthpcajpiflpmdaaDoor

/- Layer 3 (wide): sums, differences, products; what is turned over. -/
namespace Go.Proofs.YthpcajpiflpmdaaDoor
set_option linter.unusedVariables false
set_option linter.unusedSimpArgs false
open Go.RowKit

/-! ### Add64, Sub64 -/
def sub64Entry : Array Value → Sem Value := fun args => do
  let (x, y, b) ← Extern.MathBitsCarry.three "Sub64" args
  pure (Extern.MathBitsCarry.pair ((x + Extern.MathBitsCarry.m64 - y - b) % Extern.MathBitsCarry.m64) (if x < y + b then 1 else 0))

theorem run_sub64 {P : Program} (x y b : Nat) (hb : b ≤ 1) (w : World) :
    (sub64Entry #[.int .u64 x, .int .u64 y, .int .u64 b]).run P w = .ok (.tuple #[.int .u64 (subLo x y b : Nat), .int .u64 (subHi x y b : Nat)]) w := by
  have : b = 0 ∨ b = 1 := by omega
  rcases this with rfl | rfl <;> rfl
theorem run_add64' {P : Program} (x y c : Nat) (hc : c ≤ 1) (w : World) :
    (add64Entry #[.int .u64 x, .int .u64 y, .int .u64 c]).run P w = .ok (.tuple #[.int .u64 (addLo x y c : Nat), .int .u64 (addHi x y c : Nat)]) w := by
  have : c = 0 ∨ c = 1 := by omega
  rcases this with rfl | rfl <;> rfl




theorem bne0 (n : Nat) : ((n : Int) != 0) = (n != 0) := by
  by_cases h : n = 0
  · subst h; rfl
  · rw [bne_iff_ne.2 (show (n : Int) ≠ 0 by omega), bne_iff_ne.2 h]

/-- Two results, the first a whole row. -/
theorem res_row_tmp {P : Program} {fn : Func} {p u : Tmp} {ty : TypeId} (h : fn.results = #[.cell p ty, .tmp u]) (tmps : Array Value) (w : World) (g : Nat) (t : TypeId) (cs : Array Value) (fr : Nat × Nat) (d : TypeDesc)
    (hp : tmps.getD p undef = .pointer (some ⟨g, 0, none⟩)) (hg : w.heap[g]? = some (.cells cs t fr))
    (hu : P.underlying ty = some d) (hd : (match d with | .struct _ | .array _ _ => true | _ => false) = true) (hi : (P.info? ty).map (·.size) = some cs.size) :
    (results fn tmps).run P w = .ok (.tuple #[.agg cs, tmps.getD u undef]) w := by
  have hp' : tmps[p]?.getD undef = .pointer (some ⟨g, 0, none⟩) := by simpa using hp
  simp [results, h, hp', asAddr, run_loadVar_row w g t ty cs fr d hg hu hd hi]

theorem heap2 (w : World) (A B : Obj) : let W := (w.alloc A).alloc B
    W.heap[w.heap.size]? = some A ∧ W.heap[w.heap.size + 1]? = some B := ⟨heap_alloc2_old _ _ _, heap_alloc2_new _ _ _⟩
theorem heap3 (w : World) (A B C : Obj) : let W := ((w.alloc A).alloc B).alloc C
    W.heap[w.heap.size]? = some A ∧ W.heap[w.heap.size + 1]? = some B ∧ W.heap[w.heap.size + 1 + 1]? = some C := by
  refine ⟨?_, ?_, ?_⟩
  · rw [heap_alloc_old _ _ (by first | (simp; done) | (simp; omega))]
    exact (heap2 w A B).1
  · rw [heap_alloc_old _ _ (by simp)]
    exact (heap2 w A B).2
  · exact heap_new3 w A B C
theorem heap4 (w : World) (A B C D : Obj) : let W := (((w.alloc A).alloc B).alloc C).alloc D
    W.heap[w.heap.size]? = some A ∧ W.heap[w.heap.size + 1]? = some B ∧ W.heap[w.heap.size + 1 + 1]? = some C ∧ W.heap[w.heap.size + 1 + 1 + 1]? = some D := by
  obtain ⟨h0, h1, h2⟩ := heap3 w A B C
  refine ⟨?_, ?_, ?_, ?_⟩
  · rw [heap_alloc_old _ _ (by first | (simp; done) | (simp; omega))]; exact h0
  · rw [heap_alloc_old _ _ (by first | (simp; done) | (simp; omega))]; exact h1
  · rw [heap_alloc_old _ _ (by simp)]; exact h2
  · exact heap_new4 w A B C D

/-- The row behind a store into it of a new word. -/
theorem row_put {w : World} {g i z v : Nat} {t : TypeId} (h : w.heap[g]? = some (.cells (rowN .u64 64 4 z) t (0, 0))) (hz : z < 2 ^ (64 * i)) (hv : v < 2 ^ 64) :
    (w.setCell ⟨g, i, none⟩ (.int .u64 (v : Int))).heap[g]? = some (.cells (rowN .u64 64 4 (z + 2 ^ (64 * i) * v)) t (0, 0)) := by
  rw [heap_setCell_at, h, withCell_cells, set_word _ _ _ hv, putw_new _ _ _ _ hz]



end Go.Proofs.YthpcajpiflpmdaaDoor

/- Layer 3 (wide): products; what is turned over; one word, two words. -/
namespace Go.Proofs.YthpcajpiflpmdaaDoor
set_option linter.unusedVariables false
set_option linter.unusedSimpArgs false
open Go.RowKit

theorem mul_part {a b : Nat} (ha : a < 4294967296) (hb : b < 4294967296) : a * b ≤ 18446744065119617025 := by
  have : a * b ≤ 4294967295 * 4294967295 := Nat.mul_le_mul (by omega) (by omega)
  omega

theorem mul_split (x y : Nat) : x * y = x % 4294967296 * (y % 4294967296) + 4294967296 * (x / 4294967296 * (y % 4294967296) + x % 4294967296 * (y / 4294967296)) + 18446744073709551616 * (x / 4294967296 * (y / 4294967296)) := by
  have h1 := Nat.mod_add_div x 4294967296
  have h2 := Nat.mod_add_div y 4294967296
  generalize x % 4294967296 = x0 at *
  generalize x / 4294967296 = x1 at *
  generalize y % 4294967296 = y0 at *
  generalize y / 4294967296 = y1 at *
  subst h1 h2
  have e1 : (x0 + 4294967296 * x1) * (y0 + 4294967296 * y1) = x0 * y0 + x0 * (4294967296 * y1) + (4294967296 * x1 * y0 + 4294967296 * x1 * (4294967296 * y1)) := by rw [Nat.add_mul, Nat.mul_add, Nat.mul_add]
  have e2 : x0 * (4294967296 * y1) = 4294967296 * (x0 * y1) := by rw [Nat.mul_left_comm]
  have e3 : 4294967296 * x1 * y0 = 4294967296 * (x1 * y0) := Nat.mul_assoc _ _ _
  have e4 : 4294967296 * x1 * (4294967296 * y1) = 18446744073709551616 * (x1 * y1) := by
    rw [Nat.mul_assoc, Nat.mul_left_comm x1, ← Nat.mul_assoc]
  rw [e1, e2, e3, e4, Nat.mul_add]
  omega

theorem and_mask (x : Nat) (h : x < 18446744073709551616) : bits BinOp.and IntKind.u64 (x : Int) 4294967295 = ((x % 4294967296 : Nat) : Int) := by
  have h1 := u64_and_nat x 4294967295 h (by decide)
  rw [show ((4294967295 : Nat) : Int) = 4294967295 from rfl] at h1
  rw [h1, show (4294967295 : Nat) = 2 ^ 32 - 1 from rfl, Nat.and_two_pow_sub_one_eq_mod]

theorem not_word (X : Nat) (h : X < 18446744073709551616) : Value.int IntKind.u64 (bits BinOp.xor IntKind.u64 (if IntKind.u64.signed = true then -1 else IntKind.u64.max) (X : Int)) = .int .u64 ((2 ^ 64 - 1 - X : Nat) : Int) := by
  have h1 := u64_xor_nat 18446744073709551615 X (by decide) h
  have h2 : (18446744073709551615 : Nat) ^^^ X = 2 ^ 64 - 1 - X := by
    have e : (BitVec.allOnes 64 ^^^ BitVec.ofNat 64 X).toNat = 18446744073709551615 ^^^ X := by
      rw [BitVec.toNat_xor, BitVec.toNat_allOnes, BitVec.toNat_ofNat, Nat.mod_eq_of_lt (by simpa using h)]
    rw [← e, BitVec.allOnes_xor, BitVec.toNat_not, BitVec.toNat_ofNat, Nat.mod_eq_of_lt (by simpa using h)]
  rw [h2] at h1
  rw [← h1]
  rfl




end Go.Proofs.YthpcajpiflpmdaaDoor

/- Layer 3 (wide): one word, two words; numbers held against each other; a number's bits. -/
namespace Go.Proofs.YthpcajpiflpmdaaDoor
set_option linter.unusedVariables false
set_option linter.unusedSimpArgs false
open Go.RowKit

theorem Tryd.infoU : ∃ i, Tryd.prog.info? 70 = some i := by
  cases h : Tryd.prog.info? 70 with
  | none => have := Tryd.szU64; rw [h] at this; cases this
  | some i => exact ⟨i, rfl⟩



theorem rowEq_of (x y : Nat) (hx : x < W256) (hy : y < W256) : rowEq 256 x y = decide (x = y) := by
  unfold rowEq
  rw [Nat.mod_eq_of_lt (show x < 2 ^ 256 from hx), Nat.mod_eq_of_lt (show y < 2 ^ 256 from hy)]


theorem mul_two (x y : Nat) : mulLo x y + 2 ^ 64 * mulHi x y = x * y := Nat.mod_add_div _ _
theorem mulHi_lt (x y : Nat) (hx : x < 2 ^ 64) (hy : y < 2 ^ 64) : mulHi x y < 2 ^ 64 := by
  unfold mulHi
  rw [Nat.div_lt_iff_lt_mul (Nat.two_pow_pos _)]
  exact Nat.mul_lt_mul'' hx hy


end Go.Proofs.YthpcajpiflpmdaaDoor

/- Layer 3 (wide): a number moved to the left. -/
namespace Go.Proofs.YthpcajpiflpmdaaDoor
set_option linter.unusedVariables false
set_option linter.unusedSimpArgs false
open Go.RowKit

theorem rowN_toList (k : IntKind) (b n x : Nat) : (rowN k b n x).toList = (List.range n).map fun i => Value.int k (dgt b x i : Nat) := by simp [rowN]

theorem dgt_mul (b x q i : Nat) : dgt b (x * 2 ^ (b * q)) i = if i < q then 0 else dgt b x (i - q) := by
  by_cases h : i < q
  · rw [if_pos h, dgt_below b _ 0 q i h (by simp)]
    simp [dgt]
  · rw [if_neg h]
    obtain ⟨d, rfl⟩ : ∃ d, i = q + d := ⟨i - q, by omega⟩
    rw [dgt, Nat.mul_add, Nat.pow_add, ← Nat.div_div_eq_div_mul, Nat.mul_div_cancel _ (Nat.two_pow_pos _), dgt, Nat.add_sub_cancel_left]

theorem dgt_div (b x q i : Nat) : dgt b (x / 2 ^ (b * q)) i = dgt b x (i + q) := by
  rw [dgt, dgt, Nat.div_div_eq_div_mul, ← Nat.pow_add]
  congr 3
  rw [Nat.mul_add, Nat.add_comm]

theorem Tryd.szUs : (Tryd.prog.info? 70).map (·.size) = some 1 := Tryd.szU64

/-- copy, moved up by q words, into a row of noughts. -/
theorem run_copy_up (w : World) (ty : TypeId) (g h q a : Nat) (t t' : TypeId) (fr : Nat × Nat) (hq : q < 4) (hg : w.heap[g]? = some (.cells (rowN .u64 64 4 0) t (0, 0))) (hh : w.heap[h]? = some (.cells (rowN .u64 64 4 a) t' fr)) :
    (Builtin.copy_ #[84, 84] ty #[.slice (some ⟨g, q, none⟩) (4 - q) (4 - q), .slice (some ⟨h, 0, none⟩) 4 4]).run Tryd.prog w = .ok (.int .i64 ((4 - q : Nat) : Int)) (w.setRow g (rowN .u64 64 4 (a * 2 ^ (64 * q)))) := by
  have key := run_copy_row (P := Tryd.prog) w 84 84 ty 70 g q (4 - q) (4 - q) ⟨h, 0, none⟩ 4 4 (rowN .u64 64 4 0) t ((List.range (4 - q)).map fun i => Value.int .u64 (dgt 64 a i : Nat)) Tryd.underlying84 Tryd.szUs hg (by simp [Nat.min_def])
    (fun j v hj => by
      have hjl : j < 4 - q := by
        have := (List.getElem?_eq_some_iff.1 hj).1
        simpa using this
      rw [Addr.add_lit, Nat.zero_add, cell_at, hh, cellAt_cells, rowN_get _ _ _ _ _ (by omega)]
      simpa [List.getElem?_map, List.getElem?_range hjl] using hj)
    (by rw [rowN_size]; simp; omega)
    (by
      intro v hv
      simp only [List.mem_map] at hv
      obtain ⟨i, _, rfl⟩ := hv
      rfl)
  have e : ((rowN .u64 64 4 0).toList.take q ++ ((List.range (4 - q)).map fun i => Value.int .u64 (dgt 64 a i : Nat)) ++ (rowN .u64 64 4 0).toList.drop (q + ((List.range (4 - q)).map fun i => Value.int .u64 (dgt 64 a i : Nat)).length)).toArray = rowN .u64 64 4 (a * 2 ^ (64 * q)) := by
    apply Array.ext'
    rw [List.toList_toArray, rowN_toList, rowN_toList, List.drop_eq_nil_of_le (by simp; omega), List.append_nil]
    apply List.ext_getElem?
    intro j
    by_cases hj : j < 4
    · rw [List.getElem?_map, List.getElem?_range hj, Option.map_some, dgt_mul]
      by_cases hjq : j < q
      · rw [List.getElem?_append_left (by simp; omega), if_pos hjq, List.getElem?_take, if_pos hjq, List.getElem?_map, List.getElem?_range hj]
        simp [dgt]
      · rw [List.getElem?_append_right (by simp; omega), if_neg hjq]
        simp only [List.length_take, List.length_map, List.length_range]
        rw [Nat.min_eq_left (by omega), List.getElem?_map, List.getElem?_range (by omega), Option.map_some]
    · rw [List.getElem?_eq_none (by simp; omega), List.getElem?_eq_none (by simp; omega)]
  rw [e] at key
  rw [key]
  simp [goInt]



/-! ### a row moved by less than a word, in place -/
def shU (T x : Nat) : Nat → Nat
  | 0 => T
  | i + 1 => putw 64 (shU T x i) i (addLo (mulLo (dgt 64 T i) x) (mlH T x i) 0)

theorem shU_dgt (T x : Nat) : ∀ i j, dgt 64 (shU T x i) j = if j < i then addLo (mulLo (dgt 64 T j) x) (mlH T x j) 0 else dgt 64 T j
  | 0, j => by simp [shU]
  | i + 1, j => by
    rw [shU, putw_dgt _ _ _ _ _ (addLo_lt _ _ _), shU_dgt T x i j]
    by_cases h : j = i
    · subst h; simp
    · simp only [h, if_false]
      by_cases h2 : j < i
      · rw [if_pos h2, if_pos (by omega)]
      · rw [if_neg h2, if_neg (by omega)]

theorem mlS_dgt (T x i j : Nat) (h : j < i) : dgt 64 (mlS T x i) j = addLo (mulLo (dgt 64 T j) x) (mlH T x j) 0 := by
  induction i with
  | zero => omega
  | succ i ih =>
    rw [mlS_succ]
    by_cases e : j = i
    · subst e
      rw [dgt, Nat.add_mul_div_left _ _ (Nat.two_pow_pos _), Nat.div_eq_of_lt (mlS_lt _ _ _), Nat.zero_add, Nat.mod_eq_of_lt (addLo_lt _ _ _)]
    · rw [← ih (by omega)]
      exact dgt_below 64 _ _ i j (by omega) (by rw [Nat.add_mul_mod_self_left])

theorem shU_all (T x : Nat) (k : IntKind) : rowN k 64 4 (shU T x 4) = rowN k 64 4 (mlS T x 4) :=
  rowN_congr _ _ _ _ _ (mod_of_dgt _ _ _ _ fun i hi => by rw [shU_dgt, if_pos hi, mlS_dgt _ _ _ _ hi])

theorem mlH_small (T x i : Nat) (hx : 0 < x) : mlH T x i < x := by
  unfold mlH mlT
  rw [Nat.div_lt_iff_lt_mul (Nat.two_pow_pos _), Nat.mul_comm]
  exact Nat.mul_lt_mul_of_pos_left (Nat.mod_lt _ (Nat.two_pow_pos _)) hx

theorem pow_split (r : Nat) (hr : r < 64) : 2 ^ 64 = 2 ^ r * 2 ^ (64 - r) := by rw [← Nat.pow_add]; congr 1; omega

theorem mlH_pow (T r i : Nat) (hr : r < 64) : mlH T (2 ^ r) (i + 1) = dgt 64 T i / 2 ^ (64 - r) := by
  have hm := mlH_small T (2 ^ r) i (Nat.two_pow_pos r)
  rw [mlH_succ, (ml_step _ _ _).2, pow_split r hr, ← Nat.div_div_eq_div_mul, Nat.mul_comm, Nat.mul_add_div (Nat.two_pow_pos r), Nat.div_eq_of_lt hm, Nat.add_zero]

theorem shl_join (d m r : Nat) (hr : r < 64) (hm : m < 2 ^ r) : (d * 2 ^ r % 2 ^ 64) ||| m = addLo (mulLo d (2 ^ r)) m 0 := by
  have e : d * 2 ^ r % 2 ^ 64 = 2 ^ r * (d % 2 ^ (64 - r)) := by rw [pow_split r hr, Nat.mul_comm d, Nat.mul_mod_mul_left]
  have h1 : 2 ^ r * (d % 2 ^ (64 - r)) ||| m = 2 ^ r * (d % 2 ^ (64 - r)) + m := (Nat.two_pow_add_eq_or_of_lt hm _).symm
  have h2 : 2 ^ r * (d % 2 ^ (64 - r)) + m < 2 ^ 64 := by
    have h3 : d % 2 ^ (64 - r) + 1 ≤ 2 ^ (64 - r) := Nat.mod_lt _ (Nat.two_pow_pos _)
    have h4 : 2 ^ r * (d % 2 ^ (64 - r) + 1) ≤ 2 ^ r * 2 ^ (64 - r) := Nat.mul_le_mul_left _ h3
    rw [← pow_split r hr, Nat.mul_add] at h4
    omega
  unfold addLo mulLo
  rw [Nat.add_zero, e, h1, Nat.mod_eq_of_lt h2]

end Go.Proofs.YthpcajpiflpmdaaDoor

/- Layer 3 (wide): the walk of left. -/
namespace Go.Proofs.YthpcajpiflpmdaaDoor
set_option linter.unusedVariables false
set_option linter.unusedSimpArgs false
open Go.RowKit

theorem or_val (d m r : Nat) (hm : m < 2 ^ 64) : bits BinOp.or IntKind.u64 (IntKind.u64.wrap ((d : Int) * 2 ^ r)) (m : Int) = ((d * 2 ^ r % 2 ^ 64 ||| m : Nat) : Int) := by
  have e : IntKind.u64.wrap ((d : Int) * 2 ^ r) = ((d * 2 ^ r % 2 ^ 64 : Nat) : Int) := by
    rw [IntKind.wrap_u64, Int.natCast_emod, Int.natCast_mul, Int.natCast_pow]
    rfl
  rw [e]
  exact u64_or_nat _ _ (Nat.mod_lt _ (Nat.two_pow_pos _)) hm



end Go.Proofs.YthpcajpiflpmdaaDoor

/- Layer 3 (wide): numbers compared. -/
namespace Go.Proofs.YthpcajpiflpmdaaDoor
set_option linter.unusedVariables false
set_option linter.unusedSimpArgs false
open Go.RowKit Go.Shelf

attribute [local go_sem] Oper.semAt_some

/-- -1, 0, 1. -/
def sgn (x y : Nat) : Int := if x < y then -1 else if y < x then 1 else 0




theorem sgn_of_dgt {a b i : Nat} (he : a / 2 ^ (64 * (i + 1)) = b / 2 ^ (64 * (i + 1))) (hd : dgt 64 a i ≠ dgt 64 b i) : sgn a b = sgn (dgt 64 a i) (dgt 64 b i) := by
  have key : ∀ x, x = x % 2 ^ (64 * i) + 2 ^ (64 * i) * (dgt 64 x i + 2 ^ 64 * (x / 2 ^ (64 * (i + 1)))) := by
    intro x
    have h1 := Nat.mod_add_div x (2 ^ (64 * i))
    have h2 := Nat.mod_add_div (x / 2 ^ (64 * i)) (2 ^ 64)
    rw [Nat.div_div_eq_div_mul, show 2 ^ (64 * i) * 2 ^ 64 = 2 ^ (64 * (i + 1)) by rw [← Nat.pow_add]; congr 1] at h2
    rw [dgt, h2, h1]
  have ka := key a
  have kb := key b
  rw [he] at ka
  have la := Nat.mod_lt a (Nat.two_pow_pos (64 * i))
  have lb := Nat.mod_lt b (Nat.two_pow_pos (64 * i))
  generalize dgt 64 a i = x at *
  generalize dgt 64 b i = y at *
  generalize b / 2 ^ (64 * (i + 1)) = q at *
  generalize a % 2 ^ (64 * i) = r at *
  generalize b % 2 ^ (64 * i) = s at *
  generalize 2 ^ (64 * i) = p at *
  rw [Nat.mul_add] at ka kb
  generalize p * (2 ^ 64 * q) = z at *
  unfold sgn
  by_cases h : x < y
  · have : p * (x + 1) ≤ p * y := Nat.mul_le_mul_left _ h
    rw [Nat.mul_add] at this
    rw [if_pos (by omega), if_pos h]
  · have : p * (y + 1) ≤ p * x := Nat.mul_le_mul_left _ (by omega)
    rw [Nat.mul_add] at this
    rw [if_neg (by omega), if_pos (by omega), if_neg h, if_pos (by omega)]

theorem div_step {a b i : Nat} (he : a / 2 ^ (64 * (i + 1)) = b / 2 ^ (64 * (i + 1))) (hd : dgt 64 a i = dgt 64 b i) : a / 2 ^ (64 * i) = b / 2 ^ (64 * i) := by
  have key : ∀ x, x / 2 ^ (64 * i) = dgt 64 x i + 2 ^ 64 * (x / 2 ^ (64 * (i + 1))) := by
    intro x
    have h2 := Nat.mod_add_div (x / 2 ^ (64 * i)) (2 ^ 64)
    rw [Nat.div_div_eq_div_mul, show 2 ^ (64 * i) * 2 ^ 64 = 2 ^ (64 * (i + 1)) by rw [← Nat.pow_add]; congr 1] at h2
    rw [dgt, h2]
  rw [key a, key b, he, hd]


end Go.Proofs.YthpcajpiflpmdaaDoor

/- Layer 3 (wide): a number moved to the right. -/
namespace Go.Proofs.YthpcajpiflpmdaaDoor
set_option linter.unusedVariables false
set_option linter.unusedSimpArgs false
open Go.RowKit Go.Shelf

theorem dgt_over (x i : Nat) (h : x < 2 ^ (64 * i)) : dgt 64 x i = 0 := by rw [dgt, Nat.div_eq_of_lt h]
theorem dgt_over4 (x i : Nat) (h : x < W256) (hi : 4 ≤ i) : dgt 64 x i = 0 :=
  dgt_over x i (Nat.lt_of_lt_of_le h (Nat.pow_le_pow_right (by omega) (by omega)))

/-- copy, moved down by q words, into a row of noughts. -/
theorem run_copy_down (w : World) (ty : TypeId) (g h q a : Nat) (t t' : TypeId) (fr : Nat × Nat) (ha : a < W256) (hq : q < 4) (hg : w.heap[g]? = some (.cells (rowN .u64 64 4 0) t (0, 0))) (hh : w.heap[h]? = some (.cells (rowN .u64 64 4 a) t' fr)) :
    (Builtin.copy_ #[84, 84] ty #[.slice (some ⟨g, 0, none⟩) 4 4, .slice (some ⟨h, q, none⟩) (4 - q) (4 - q)]).run Tryd.prog w = .ok (.int .i64 ((4 - q : Nat) : Int)) (w.setRow g (rowN .u64 64 4 (a / 2 ^ (64 * q)))) := by
  have key := run_copy_row (P := Tryd.prog) w 84 84 ty 70 g 0 4 4 ⟨h, q, none⟩ (4 - q) (4 - q) (rowN .u64 64 4 0) t ((List.range (4 - q)).map fun i => Value.int .u64 (dgt 64 a (i + q) : Nat)) Tryd.underlying84 Tryd.szUs hg (by simp [Nat.min_def])
    (fun j v hj => by
      have hjl : j < 4 - q := by
        have := (List.getElem?_eq_some_iff.1 hj).1
        simpa using this
      rw [Addr.add_lit, cell_at, hh, cellAt_cells, rowN_get _ _ _ _ _ (by omega), Nat.add_comm q j]
      simpa [List.getElem?_map, List.getElem?_range hjl] using hj)
    (by rw [rowN_size]; simp)
    (by
      intro v hv
      simp only [List.mem_map] at hv
      obtain ⟨i, _, rfl⟩ := hv
      rfl)
  have e : ((rowN .u64 64 4 0).toList.take 0 ++ ((List.range (4 - q)).map fun i => Value.int .u64 (dgt 64 a (i + q) : Nat)) ++ (rowN .u64 64 4 0).toList.drop (0 + ((List.range (4 - q)).map fun i => Value.int .u64 (dgt 64 a (i + q) : Nat)).length)).toArray = rowN .u64 64 4 (a / 2 ^ (64 * q)) := by
    apply Array.ext'
    rw [List.toList_toArray, rowN_toList, rowN_toList, List.take_zero, List.nil_append]
    apply List.ext_getElem?
    intro j
    by_cases hj : j < 4
    · rw [List.getElem?_map (l := List.range 4), List.getElem?_range hj, Option.map_some, dgt_div]
      by_cases hjq : j < 4 - q
      · rw [List.getElem?_append_left (by simp; omega), List.getElem?_map, List.getElem?_range hjq, Option.map_some]
      · rw [List.getElem?_append_right (by simp; omega), List.getElem?_drop]
        simp only [List.length_map, List.length_range]
        rw [show 0 + (4 - q) + (j - (4 - q)) = j by omega, List.getElem?_map, List.getElem?_range hj, Option.map_some, dgt_over4 a (j + q) ha (by omega)]
        simp [dgt]
    · rw [List.getElem?_eq_none (by simp; omega), List.getElem?_eq_none (by simp; omega)]
  rw [e] at key
  rw [key]
  simp [goInt]


/-! ### a row moved down by less than a word, in place, from behind -/
def shR (T r : Nat) : Nat → Nat
  | 0 => T
  | k + 1 => putw 64 (shR T r k) (3 - k) (dgt 64 (T / 2 ^ r) (3 - k))

theorem shR_dgt (T r : Nat) : ∀ k j, k ≤ 4 → j < 4 → dgt 64 (shR T r k) j = if 4 - k ≤ j then dgt 64 (T / 2 ^ r) j else dgt 64 T j
  | 0, j, _, hj => by rw [if_neg (by omega)]; rfl
  | k + 1, j, hk, hj => by
    rw [shR, putw_dgt _ _ _ _ _ (dgt_lt _ _ _), shR_dgt T r k j (by omega) hj]
    by_cases h : j = 3 - k
    · rw [if_pos h, if_pos (by omega), h]
    · rw [if_neg h]
      by_cases h2 : 4 - k ≤ j
      · rw [if_pos h2, if_pos (by omega)]
      · rw [if_neg h2, if_neg (by omega)]

theorem shR_all (T r : Nat) (k : IntKind) : rowN k 64 4 (shR T r 4) = rowN k 64 4 (T / 2 ^ r) :=
  rowN_congr _ _ _ _ _ (mod_of_dgt _ _ _ _ fun i hi => by rw [shR_dgt _ _ _ _ (by omega) hi, if_pos (by omega)])

theorem dgt_shr (T r i : Nat) (hr : r < 64) : dgt 64 (T / 2 ^ r) i = dgt 64 T i / 2 ^ r ||| dgt 64 T (i + 1) * 2 ^ (64 - r) % 2 ^ 64 := by
  have e1 : T / 2 ^ r / 2 ^ (64 * i) = T / 2 ^ (64 * i) / 2 ^ r := by rw [Nat.div_div_eq_div_mul, Nat.mul_comm, ← Nat.div_div_eq_div_mul]
  have e2 : T / 2 ^ (64 * (i + 1)) = T / 2 ^ (64 * i) / 2 ^ 64 := by rw [Nat.div_div_eq_div_mul, ← Nat.pow_add]; congr 1
  unfold dgt
  rw [e1, e2]
  generalize T / 2 ^ (64 * i) = X
  have hx := Nat.mod_add_div X (2 ^ 64)
  have hm := Nat.mod_lt X (Nat.two_pow_pos 64)
  generalize X % 2 ^ 64 = m at *
  generalize X / 2 ^ 64 = Y at *
  have ps := pow_split r hr
  have l1 : m / 2 ^ r < 2 ^ (64 - r) := by rw [Nat.div_lt_iff_lt_mul (Nat.two_pow_pos _), Nat.mul_comm, ← ps]; exact hm
  have e3 : X / 2 ^ r = m / 2 ^ r + 2 ^ (64 - r) * Y := by
    rw [← hx]
    conv => lhs; rw [ps]
    rw [Nat.mul_assoc, Nat.add_mul_div_left _ _ (Nat.two_pow_pos _)]
  have e4 : Y % 2 ^ 64 * 2 ^ (64 - r) % 2 ^ 64 = 2 ^ (64 - r) * (Y % 2 ^ r) := by
    rw [Nat.mod_mul_mod]
    conv => lhs; rw [ps]
    rw [Nat.mul_comm Y, Nat.mul_comm (2 ^ r), Nat.mul_mod_mul_left]
  rw [e3, e4]
  conv => lhs; rw [ps, Nat.mul_comm (2 ^ r), Nat.mod_mul, Nat.add_mul_mod_self_left, Nat.mod_eq_of_lt l1, Nat.add_mul_div_left _ _ (Nat.two_pow_pos _), Nat.div_eq_of_lt l1, Nat.zero_add]
  rw [Nat.or_comm, Nat.add_comm]
  exact Nat.two_pow_add_eq_or_of_lt l1 _
end Go.Proofs.YthpcajpiflpmdaaDoor

/- Layer 3 (wide): the walk of right. -/
namespace Go.Proofs.YthpcajpiflpmdaaDoor
set_option linter.unusedVariables false
set_option linter.unusedSimpArgs false
open Go.RowKit Go.Shelf

attribute [local go_sem] Oper.semAt_some

theorem wpIn_of_world {F : Fence} {n : Nat} {P : Program} {c : Code} {Q : Exit → Act → World → Prop} {a : Act} {w : World} (W : World) (h : W = w) (k : Code.wpIn F n P c Q a W) : Code.wpIn F n P c Q a w := h ▸ k

theorem or_val2 (d m r : Nat) (hd : d < 2 ^ 64) (hm : m < 2 ^ 64) : bits BinOp.or IntKind.u64 ((d : Int) / 2 ^ r) (m : Int) = ((d / 2 ^ r ||| m : Nat) : Int) := by
  have e : (d : Int) / 2 ^ r = ((d / 2 ^ r : Nat) : Int) := by rw [Int.natCast_ediv, Int.natCast_pow]; rfl
  rw [e]
  exact u64_or_nat _ _ (Nat.lt_of_le_of_lt (Nat.div_le_self _ _) hd) hm
theorem shl_val (d r : Nat) : IntKind.u64.wrap ((d : Int) * 2 ^ r) = ((d * 2 ^ r % 2 ^ 64 : Nat) : Int) := by
  rw [IntKind.wrap_u64, Int.natCast_emod, Int.natCast_mul, Int.natCast_pow]
  rfl



end Go.Proofs.YthpcajpiflpmdaaDoor

/- Layer 3 (wide): how many bits a word needs, and a number. -/
namespace Go.Proofs.YthpcajpiflpmdaaDoor
set_option linter.unusedVariables false
set_option linter.unusedSimpArgs false
open Go.RowKit Go.Shelf

set_option maxRecDepth 200000 in
set_option maxHeartbeats 4000000 in
theorem Len64_any (x : Nat) (hx : x < 18446744073709551616) (w : World) :
    Calls Tryd.prog 37 #[.int .u64 x] w fun e w' => e = .returned (.int .i64 (Lib.bitLen x : Nat)) ∧ w' = w := by
  by_cases c0 : 4294967296 ≤ x
  · obtain ⟨x1, d0⟩ : ∃ q, q = x / 4294967296 := ⟨_, rfl⟩
    have e0 : (x : Int) / 4294967296 = (x1 : Int) := by omega
    have f0 : (4294967296 : Int) ≤ (x : Int) := by omega
    have g0 : x1 < 4294967296 := by omega
    have D0 := Lib.hid d0
    clear d0
    by_cases c1 : 65536 ≤ x1
    · obtain ⟨x2, d1⟩ : ∃ q, q = x1 / 65536 := ⟨_, rfl⟩
      have e1 : (x1 : Int) / 65536 = (x2 : Int) := by omega
      have f1 : (65536 : Int) ≤ (x1 : Int) := by omega
      have g1 : x2 < 65536 := by omega
      have D1 := Lib.hid d1
      clear d1
      by_cases c2 : 256 ≤ x2
      · obtain ⟨x3, d2⟩ : ∃ q, q = x2 / 256 := ⟨_, rfl⟩
        have e2 : (x2 : Int) / 256 = (x3 : Int) := by omega
        have f2 : (256 : Int) ≤ (x2 : Int) := by omega
        have g2 : x3 < 256 := by omega
        have D2 := Lib.hid d2
        clear d2
        have hl := Lib.len8_of (x3 : Int) (by omega) (by omega)
        have hl8 := Lib.bitLen_le8' (x3 : Int) (by omega) (by omega)
        rw [Int.toNat_natCast] at hl hl8
        have hc : (x3 : Int) ≤ 255 := by omega
        have q0 := D0.out
        have q1 := D1.out
        have q2 := D2.out
        have HS := Lib.hid (show Lib.bitLen x = 56 + Lib.bitLen x3 by have := Lib.bitLen_shift 56 x (by omega) (by omega); rw [show x / 2 ^ 56 = x3 by omega] at this; exact this)
        clear q0 q1 q2
        obtain ⟨B, hB⟩ : ∃ B, B = Lib.bitLen x3 := ⟨_, rfl⟩
        rw [← hB] at hl hl8
        have HB := Lib.hid hB
        clear hB
        clear c0 c1 c2
        try clear g0
        try clear g1
        try clear g2
        have z0 : (0 : Int) ≤ x := by omega
        have z0u : (x : Int) < 18446744073709551616 := by omega
        try (have z1 : (0 : Int) ≤ x1 := by omega)
        try (have z2 : (0 : Int) ≤ x2 := by omega)
        try (have z3 : (0 : Int) ≤ x3 := by omega)
        clear hx
        generalize (x : Int) = X at *
        try generalize (x1 : Int) = X1 at *
        try generalize (x2 : Int) = X2 at *
        try generalize (x3 : Int) = X3 at *
        go_enter Tryd.func37, Tryd.ntmps37
        go_wp2
        go_ret
        refine ⟨congrArg Ending.returned (congrArg (Value.int IntKind.i64) ?_), rfl⟩
        rw [HS.out, ← HB.out]
        omega
      · have f2 : (x2 : Int) < 256 := by omega
        have hl := Lib.len8_of (x2 : Int) (by omega) (by omega)
        have hl8 := Lib.bitLen_le8' (x2 : Int) (by omega) (by omega)
        rw [Int.toNat_natCast] at hl hl8
        have hc : (x2 : Int) ≤ 255 := by omega
        have q0 := D0.out
        have q1 := D1.out
        have HS := Lib.hid (show Lib.bitLen x = 48 + Lib.bitLen x2 by have := Lib.bitLen_shift 48 x (by omega) (by omega); rw [show x / 2 ^ 48 = x2 by omega] at this; exact this)
        clear q0 q1
        obtain ⟨B, hB⟩ : ∃ B, B = Lib.bitLen x2 := ⟨_, rfl⟩
        rw [← hB] at hl hl8
        have HB := Lib.hid hB
        clear hB
        clear c0 c1 c2
        try clear g0
        try clear g1
        try clear g2
        have z0 : (0 : Int) ≤ x := by omega
        have z0u : (x : Int) < 18446744073709551616 := by omega
        try (have z1 : (0 : Int) ≤ x1 := by omega)
        try (have z2 : (0 : Int) ≤ x2 := by omega)
        try (have z3 : (0 : Int) ≤ x3 := by omega)
        clear hx
        generalize (x : Int) = X at *
        try generalize (x1 : Int) = X1 at *
        try generalize (x2 : Int) = X2 at *
        try generalize (x3 : Int) = X3 at *
        go_enter Tryd.func37, Tryd.ntmps37
        go_wp2
        go_ret
        refine ⟨congrArg Ending.returned (congrArg (Value.int IntKind.i64) ?_), rfl⟩
        rw [HS.out, ← HB.out]
        omega
    · have f1 : (x1 : Int) < 65536 := by omega
      by_cases c2 : 256 ≤ x1
      · obtain ⟨x3, d2⟩ : ∃ q, q = x1 / 256 := ⟨_, rfl⟩
        have e2 : (x1 : Int) / 256 = (x3 : Int) := by omega
        have f2 : (256 : Int) ≤ (x1 : Int) := by omega
        have g2 : x3 < 256 := by omega
        have D2 := Lib.hid d2
        clear d2
        have hl := Lib.len8_of (x3 : Int) (by omega) (by omega)
        have hl8 := Lib.bitLen_le8' (x3 : Int) (by omega) (by omega)
        rw [Int.toNat_natCast] at hl hl8
        have hc : (x3 : Int) ≤ 255 := by omega
        have q0 := D0.out
        have q2 := D2.out
        have HS := Lib.hid (show Lib.bitLen x = 40 + Lib.bitLen x3 by have := Lib.bitLen_shift 40 x (by omega) (by omega); rw [show x / 2 ^ 40 = x3 by omega] at this; exact this)
        clear q0 q2
        obtain ⟨B, hB⟩ : ∃ B, B = Lib.bitLen x3 := ⟨_, rfl⟩
        rw [← hB] at hl hl8
        have HB := Lib.hid hB
        clear hB
        clear c0 c1 c2
        try clear g0
        try clear g1
        try clear g2
        have z0 : (0 : Int) ≤ x := by omega
        have z0u : (x : Int) < 18446744073709551616 := by omega
        try (have z1 : (0 : Int) ≤ x1 := by omega)
        try (have z2 : (0 : Int) ≤ x2 := by omega)
        try (have z3 : (0 : Int) ≤ x3 := by omega)
        clear hx
        generalize (x : Int) = X at *
        try generalize (x1 : Int) = X1 at *
        try generalize (x2 : Int) = X2 at *
        try generalize (x3 : Int) = X3 at *
        go_enter Tryd.func37, Tryd.ntmps37
        go_wp2
        go_ret
        refine ⟨congrArg Ending.returned (congrArg (Value.int IntKind.i64) ?_), rfl⟩
        rw [HS.out, ← HB.out]
        omega
      · have f2 : (x1 : Int) < 256 := by omega
        have hl := Lib.len8_of (x1 : Int) (by omega) (by omega)
        have hl8 := Lib.bitLen_le8' (x1 : Int) (by omega) (by omega)
        rw [Int.toNat_natCast] at hl hl8
        have hc : (x1 : Int) ≤ 255 := by omega
        have q0 := D0.out
        have HS := Lib.hid (show Lib.bitLen x = 32 + Lib.bitLen x1 by have := Lib.bitLen_shift 32 x (by omega) (by omega); rw [show x / 2 ^ 32 = x1 by omega] at this; exact this)
        clear q0
        obtain ⟨B, hB⟩ : ∃ B, B = Lib.bitLen x1 := ⟨_, rfl⟩
        rw [← hB] at hl hl8
        have HB := Lib.hid hB
        clear hB
        clear c0 c1 c2
        try clear g0
        try clear g1
        try clear g2
        have z0 : (0 : Int) ≤ x := by omega
        have z0u : (x : Int) < 18446744073709551616 := by omega
        try (have z1 : (0 : Int) ≤ x1 := by omega)
        try (have z2 : (0 : Int) ≤ x2 := by omega)
        try (have z3 : (0 : Int) ≤ x3 := by omega)
        clear hx
        generalize (x : Int) = X at *
        try generalize (x1 : Int) = X1 at *
        try generalize (x2 : Int) = X2 at *
        try generalize (x3 : Int) = X3 at *
        go_enter Tryd.func37, Tryd.ntmps37
        go_wp2
        go_ret
        refine ⟨congrArg Ending.returned (congrArg (Value.int IntKind.i64) ?_), rfl⟩
        rw [HS.out, ← HB.out]
        omega
  · have f0 : (x : Int) < 4294967296 := by omega
    by_cases c1 : 65536 ≤ x
    · obtain ⟨x2, d1⟩ : ∃ q, q = x / 65536 := ⟨_, rfl⟩
      have e1 : (x : Int) / 65536 = (x2 : Int) := by omega
      have f1 : (65536 : Int) ≤ (x : Int) := by omega
      have g1 : x2 < 65536 := by omega
      have D1 := Lib.hid d1
      clear d1
      by_cases c2 : 256 ≤ x2
      · obtain ⟨x3, d2⟩ : ∃ q, q = x2 / 256 := ⟨_, rfl⟩
        have e2 : (x2 : Int) / 256 = (x3 : Int) := by omega
        have f2 : (256 : Int) ≤ (x2 : Int) := by omega
        have g2 : x3 < 256 := by omega
        have D2 := Lib.hid d2
        clear d2
        have hl := Lib.len8_of (x3 : Int) (by omega) (by omega)
        have hl8 := Lib.bitLen_le8' (x3 : Int) (by omega) (by omega)
        rw [Int.toNat_natCast] at hl hl8
        have hc : (x3 : Int) ≤ 255 := by omega
        have q1 := D1.out
        have q2 := D2.out
        have HS := Lib.hid (show Lib.bitLen x = 24 + Lib.bitLen x3 by have := Lib.bitLen_shift 24 x (by omega) (by omega); rw [show x / 2 ^ 24 = x3 by omega] at this; exact this)
        clear q1 q2
        obtain ⟨B, hB⟩ : ∃ B, B = Lib.bitLen x3 := ⟨_, rfl⟩
        rw [← hB] at hl hl8
        have HB := Lib.hid hB
        clear hB
        clear c0 c1 c2
        try clear g0
        try clear g1
        try clear g2
        have z0 : (0 : Int) ≤ x := by omega
        have z0u : (x : Int) < 18446744073709551616 := by omega
        try (have z1 : (0 : Int) ≤ x1 := by omega)
        try (have z2 : (0 : Int) ≤ x2 := by omega)
        try (have z3 : (0 : Int) ≤ x3 := by omega)
        clear hx
        generalize (x : Int) = X at *
        try generalize (x1 : Int) = X1 at *
        try generalize (x2 : Int) = X2 at *
        try generalize (x3 : Int) = X3 at *
        go_enter Tryd.func37, Tryd.ntmps37
        go_wp2
        go_ret
        refine ⟨congrArg Ending.returned (congrArg (Value.int IntKind.i64) ?_), rfl⟩
        rw [HS.out, ← HB.out]
        omega
      · have f2 : (x2 : Int) < 256 := by omega
        have hl := Lib.len8_of (x2 : Int) (by omega) (by omega)
        have hl8 := Lib.bitLen_le8' (x2 : Int) (by omega) (by omega)
        rw [Int.toNat_natCast] at hl hl8
        have hc : (x2 : Int) ≤ 255 := by omega
        have q1 := D1.out
        have HS := Lib.hid (show Lib.bitLen x = 16 + Lib.bitLen x2 by have := Lib.bitLen_shift 16 x (by omega) (by omega); rw [show x / 2 ^ 16 = x2 by omega] at this; exact this)
        clear q1
        obtain ⟨B, hB⟩ : ∃ B, B = Lib.bitLen x2 := ⟨_, rfl⟩
        rw [← hB] at hl hl8
        have HB := Lib.hid hB
        clear hB
        clear c0 c1 c2
        try clear g0
        try clear g1
        try clear g2
        have z0 : (0 : Int) ≤ x := by omega
        have z0u : (x : Int) < 18446744073709551616 := by omega
        try (have z1 : (0 : Int) ≤ x1 := by omega)
        try (have z2 : (0 : Int) ≤ x2 := by omega)
        try (have z3 : (0 : Int) ≤ x3 := by omega)
        clear hx
        generalize (x : Int) = X at *
        try generalize (x1 : Int) = X1 at *
        try generalize (x2 : Int) = X2 at *
        try generalize (x3 : Int) = X3 at *
        go_enter Tryd.func37, Tryd.ntmps37
        go_wp2
        go_ret
        refine ⟨congrArg Ending.returned (congrArg (Value.int IntKind.i64) ?_), rfl⟩
        rw [HS.out, ← HB.out]
        omega
    · have f1 : (x : Int) < 65536 := by omega
      by_cases c2 : 256 ≤ x
      · obtain ⟨x3, d2⟩ : ∃ q, q = x / 256 := ⟨_, rfl⟩
        have e2 : (x : Int) / 256 = (x3 : Int) := by omega
        have f2 : (256 : Int) ≤ (x : Int) := by omega
        have g2 : x3 < 256 := by omega
        have D2 := Lib.hid d2
        clear d2
        have hl := Lib.len8_of (x3 : Int) (by omega) (by omega)
        have hl8 := Lib.bitLen_le8' (x3 : Int) (by omega) (by omega)
        rw [Int.toNat_natCast] at hl hl8
        have hc : (x3 : Int) ≤ 255 := by omega
        have q2 := D2.out
        have HS := Lib.hid (show Lib.bitLen x = 8 + Lib.bitLen x3 by have := Lib.bitLen_shift 8 x (by omega) (by omega); rw [show x / 2 ^ 8 = x3 by omega] at this; exact this)
        clear q2
        obtain ⟨B, hB⟩ : ∃ B, B = Lib.bitLen x3 := ⟨_, rfl⟩
        rw [← hB] at hl hl8
        have HB := Lib.hid hB
        clear hB
        clear c0 c1 c2
        try clear g0
        try clear g1
        try clear g2
        have z0 : (0 : Int) ≤ x := by omega
        have z0u : (x : Int) < 18446744073709551616 := by omega
        try (have z1 : (0 : Int) ≤ x1 := by omega)
        try (have z2 : (0 : Int) ≤ x2 := by omega)
        try (have z3 : (0 : Int) ≤ x3 := by omega)
        clear hx
        generalize (x : Int) = X at *
        try generalize (x1 : Int) = X1 at *
        try generalize (x2 : Int) = X2 at *
        try generalize (x3 : Int) = X3 at *
        go_enter Tryd.func37, Tryd.ntmps37
        go_wp2
        go_ret
        refine ⟨congrArg Ending.returned (congrArg (Value.int IntKind.i64) ?_), rfl⟩
        rw [HS.out, ← HB.out]
        omega
      · have f2 : (x : Int) < 256 := by omega
        have hl := Lib.len8_of (x : Int) (by omega) (by omega)
        have hl8 := Lib.bitLen_le8' (x : Int) (by omega) (by omega)
        rw [Int.toNat_natCast] at hl hl8
        have hc : (x : Int) ≤ 255 := by omega
        have HS := Lib.hid (show Lib.bitLen x = 0 + Lib.bitLen x by rw [Nat.zero_add])
        obtain ⟨B, hB⟩ : ∃ B, B = Lib.bitLen x := ⟨_, rfl⟩
        rw [← hB] at hl hl8
        have HB := Lib.hid hB
        clear hB
        clear c0 c1 c2
        try clear g0
        try clear g1
        try clear g2
        have z0 : (0 : Int) ≤ x := by omega
        have z0u : (x : Int) < 18446744073709551616 := by omega
        try (have z1 : (0 : Int) ≤ x1 := by omega)
        try (have z2 : (0 : Int) ≤ x2 := by omega)
        try (have z3 : (0 : Int) ≤ x3 := by omega)
        clear hx
        generalize (x : Int) = X at *
        try generalize (x1 : Int) = X1 at *
        try generalize (x2 : Int) = X2 at *
        try generalize (x3 : Int) = X3 at *
        go_enter Tryd.func37, Tryd.ntmps37
        go_wp2
        go_ret
        refine ⟨congrArg Ending.returned (congrArg (Value.int IntKind.i64) ?_), rfl⟩
        rw [HS.out, ← HB.out]
        omega
end Go.Proofs.YthpcajpiflpmdaaDoor
