/- Layer 3 (wide): how the walk reads and writes whole numbers. -/
import Derived.Test.YtgdnmmobnfjegaaNum
import Derived.Deep.RegionWith
namespace Go.Proofs.Ytgdnmmobnfjegaa
set_option linter.unusedVariables false
set_option linter.unusedSimpArgs false
open Go.RowKit

theorem Try.szWide : (Try.prog.info? 24).map (·.size) = some 4 := by kernel_rfl
theorem Try.szArr4 : (Try.prog.info? 23).map (·.size) = some 4 := by kernel_rfl
theorem Try.szArr32 : (Try.prog.info? 25).map (·.size) = some 32 := by kernel_rfl

@[go_sem ↓ high] theorem load_wide (p : Value) : Instr.loadAt 24 p = loadRowAt 24 p := rfl
@[go_sem ↓ high] theorem load_arr4 (p : Value) : Instr.loadAt 23 p = loadRowAt 23 p := rfl
@[go_sem ↓ high] theorem load_arr32 (p : Value) : Instr.loadAt 25 p = loadRowAt 25 p := rfl
@[go_sem ↓ high] theorem store_wide (p v : Value) : Instr.storeAt 24 p v = storeRowAt 24 p v := rfl
@[go_sem ↓ high] theorem store_arr4 (p v : Value) : Instr.storeAt 23 p v = storeRowAt 23 p v := rfl
@[go_sem ↓ high] theorem store_arr32 (p v : Value) : Instr.storeAt 25 p v = storeRowAt 25 p v := rfl

@[go_sem] theorem run_load_wide (w : World) (g : Nat) : (loadRowAt 24 (.pointer (some ⟨g, 0, none⟩))).run Try.prog w = rowOut Try.prog 24 (.pointer (some ⟨g, 0, none⟩)) w 4 w.heap[g]? :=
  run_loadRowAt w _ g 4 _ Try.underlying24 rfl Try.szWide
@[go_sem] theorem run_load_arr4 (w : World) (g : Nat) : (loadRowAt 23 (.pointer (some ⟨g, 0, none⟩))).run Try.prog w = rowOut Try.prog 23 (.pointer (some ⟨g, 0, none⟩)) w 4 w.heap[g]? :=
  run_loadRowAt w _ g 4 _ Try.underlying23 rfl Try.szArr4
@[go_sem] theorem run_load_arr32 (w : World) (g : Nat) : (loadRowAt 25 (.pointer (some ⟨g, 0, none⟩))).run Try.prog w = rowOut Try.prog 25 (.pointer (some ⟨g, 0, none⟩)) w 32 w.heap[g]? :=
  run_loadRowAt w _ g 32 _ Try.underlying25 rfl Try.szArr32
@[go_sem] theorem run_store_wide (w : World) (g : Nat) (cells : Array Value) : (storeRowAt 24 (.pointer (some ⟨g, 0, none⟩)) (.agg cells)).run Try.prog w = rowIn Try.prog 24 (.pointer (some ⟨g, 0, none⟩)) cells g w 4 w.heap[g]? :=
  run_storeRowAt w _ g 4 cells Try.szWide
@[go_sem] theorem run_store_arr4 (w : World) (g : Nat) (cells : Array Value) : (storeRowAt 23 (.pointer (some ⟨g, 0, none⟩)) (.agg cells)).run Try.prog w = rowIn Try.prog 23 (.pointer (some ⟨g, 0, none⟩)) cells g w 4 w.heap[g]? :=
  run_storeRowAt w _ g 4 cells Try.szArr4
@[go_sem] theorem run_store_arr32 (w : World) (g : Nat) (cells : Array Value) : (storeRowAt 25 (.pointer (some ⟨g, 0, none⟩)) (.agg cells)).run Try.prog w = rowIn Try.prog 25 (.pointer (some ⟨g, 0, none⟩)) cells g w 32 w.heap[g]? :=
  run_storeRowAt w _ g 32 cells Try.szArr32

theorem heap_new3 (w : World) (A B C : Obj) : (((w.alloc A).alloc B).alloc C).heap[w.heap.size + 1 + 1]? = some C := by
  have := heap_alloc_new ((w.alloc A).alloc B) C
  simpa using this
theorem heap_new4 (w : World) (A B C D : Obj) : ((((w.alloc A).alloc B).alloc C).alloc D).heap[w.heap.size + 1 + 1 + 1]? = some D := by
  have := heap_alloc_new (((w.alloc A).alloc B).alloc C) D
  simpa using this
attribute [simp high] heap_alloc2_new heap_new3 heap_new4 rowOut_cells rowIn_cells heap_alloc_new heap_alloc_old heap_setRow_at heap_setRow_ne heap_setCell_at heap_setCell_ne' withRow_cells withCell_cells cellAt_cells frozenAt_cells heap_drew' rowN_size rowN_rowOne rowN_get rowN_getElem
attribute [go_sem low] cell_at frozen_at

theorem Try.szU64 : (Try.prog.info? 22).map (·.size) = some 1 := by kernel_rfl
theorem Try.szU8 : (Try.prog.info? 5).map (·.size) = some 1 := by kernel_rfl
@[simp high] theorem run_index_wide (w : World) (x i : Nat) (k : IntKind) (h : i < 4) : (Instr.index 24 (.agg (rowN .u64 64 4 x)) (.int k (i : Int))).run Try.prog w = .ok (.int .u64 (dgt 64 x i : Nat)) w :=
  run_index_row w _ _ 4 _ k i _ Try.underlying24 Try.underlying22 rfl Try.szU64 _ h (rowN_get _ _ _ _ _ h)
@[simp high] theorem run_index_wide0 (w : World) (x : Nat) (k : IntKind) : (Instr.index 24 (.agg (rowN .u64 64 4 x)) (.int k 0)).run Try.prog w = .ok (.int .u64 (dgt 64 x 0 : Nat)) w := run_index_wide w x 0 k (by omega)
@[simp high] theorem run_index_arr4 (w : World) (x i : Nat) (k : IntKind) (h : i < 4) : (Instr.index 23 (.agg (rowN .u64 64 4 x)) (.int k (i : Int))).run Try.prog w = .ok (.int .u64 (dgt 64 x i : Nat)) w :=
  run_index_row w _ _ 4 _ k i _ Try.underlying23 Try.underlying22 rfl Try.szU64 _ h (rowN_get _ _ _ _ _ h)
@[simp high] theorem run_index_arr32 (w : World) (x i : Nat) (k : IntKind) (h : i < 32) : (Instr.index 25 (.agg (rowN .u8 8 32 x)) (.int k (i : Int))).run Try.prog w = .ok (.int .u8 (dgt 8 x i : Nat)) w :=
  run_index_row w _ _ 32 _ k i _ Try.underlying25 Try.underlying5 rfl Try.szU8 _ h (rowN_get _ _ _ _ _ h)

@[simp high] theorem putw_zero0 (v : Nat) : putw 64 0 0 v = v := by rw [putw_new _ _ _ _ (by simp)]; simp
@[simp high] theorem putw_one (x y : Nat) (h : x < 2 ^ 64) : putw 64 x 1 y = x + 2 ^ 64 * y := putw_new _ _ _ _ h

/-- A number's cells. -/
abbrev WR (x : Nat) : Array Value := rowN .u64 64 4 x
/-- A number as a value. -/
abbrev WV (x : Nat) : Value := .agg (rowN .u64 64 4 x)

theorem WR_zero : rowN .u64 64 4 0 = #[.int .u64 0, .int .u64 0, .int .u64 0, .int .u64 0] := by
  simp [rowN, dgt, List.range_succ]
theorem WR_word (x : Nat) (h : x < 2 ^ 64) : rowN .u64 64 4 x = #[.int .u64 (x : Int), .int .u64 0, .int .u64 0, .int .u64 0] := by
  have e : x % 18446744073709551616 = x := Nat.mod_eq_of_lt (by simpa using h)
  simp only [rowN, List.range_succ, List.range_zero, dgt]
  simp only [List.nil_append, List.map_append, List.map_cons, List.map_nil, List.cons_append]
  simp [e, Nat.div_eq_of_lt (show x < 2 ^ 128 by omega), Nat.div_eq_of_lt (show x < 2 ^ 192 by omega), Nat.div_eq_of_lt h]
  all_goals omega
@[go_sem high] theorem zero4 : (#[.int .u64 0, .int .u64 0, .int .u64 0, .int .u64 0] : Array Value) = rowN .u64 64 4 0 := WR_zero.symm
@[go_sem high] theorem row_word (x : Nat) (h : x < 2 ^ 64) : (#[.int .u64 (x : Int), .int .u64 0, .int .u64 0, .int .u64 0] : Array Value) = rowN .u64 64 4 x := (WR_word x h).symm
theorem WR_two (x y : Nat) (h : x < 2 ^ 64) (h' : y < 2 ^ 64) : rowN .u64 64 4 (x + 2 ^ 64 * y) = #[.int .u64 (x : Int), .int .u64 (y : Int), .int .u64 0, .int .u64 0] := by
  rw [← putw_new 64 x 1 y (by simpa using h), ← rowN_set _ _ _ _ _ _ h', WR_word x h]
  rfl
@[go_sem high] theorem row_two (x y : Nat) (h : x < 2 ^ 64) (h' : y < 2 ^ 64) : (#[.int .u64 (x : Int), .int .u64 (y : Int), .int .u64 0, .int .u64 0] : Array Value) = rowN .u64 64 4 (x + 2 ^ 64 * y) := (WR_two x y h h').symm
@[go_sem high] theorem set_word (z i v : Nat) (hv : v < 2 ^ 64) : (rowN .u64 64 4 z).setIfInBounds i (.int .u64 (v : Int)) = rowN .u64 64 4 (putw 64 z i v) := rowN_set _ _ _ _ _ _ hv

theorem wp_of_world {P : Program} {c : Code} {Q : Exit → Act → World → Prop} {a : Act} {w : World} (W : World) (h : W = w) (k : Code.wp P c Q a W) : Code.wp P c Q a w := h ▸ k
theorem Calls.of_world {P : Program} {f : FuncId} {args : Array Value} {w : World} {R : Ending → World → Prop} (W : World) (h : W = w) (k : Calls P f args W R) : Calls P f args w R := h ▸ k

/-- A result that is a whole row. -/
theorem res_row {P : Program} {fn : Func} {p : Tmp} {ty : TypeId} (h : fn.results = #[.cell p ty]) (tmps : Array Value) (w : World) (g : Nat) (t : TypeId) (cs : Array Value) (fr : Nat × Nat) (d : TypeDesc)
    (hp : tmps.getD p undef = .pointer (some ⟨g, 0, none⟩)) (hg : w.heap[g]? = some (.cells cs t fr))
    (hu : P.underlying ty = some d) (hd : (match d with | .struct _ | .array _ _ => true | _ => false) = true) (hi : (P.info? ty).map (·.size) = some cs.size) :
    (results fn tmps).run P w = .ok (.agg cs) w := results_cell_row h tmps w g t cs fr d hp hg hu hd hi
end Go.Proofs.Ytgdnmmobnfjegaa
