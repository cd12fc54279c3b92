import Derived.Test.YthoaalnjmklclaaZ5
import Derived.Test.YthoaalnjmklclaaZ2
import Derived.Deep.CutBlock
import Derived.Deep.DeepCutAuto
/- Layer 8 (lock): addresses and locks in memory; what the functions are asked for. -/
namespace Go.Proofs.Ythoaalnjmklclaa
set_option linter.unusedVariables false
set_option linter.unusedSimpArgs false
open Go.RowKit

attribute [simp high] rowOut_cells rowIn_cells heap_alloc_new heap_alloc_old heap_setRow_at heap_setRow_ne heap_setCell_at heap_setCell_ne' withRow_cells withCell_cells cellAt_cells frozenAt_cells heap_drew'
attribute [go_sem low] cell_at frozen_at

theorem Try.szAddress : (Try.prog.info? 47).map (·.size) = some 20 := by kernel_rfl
theorem Try.szLock : (Try.prog.info? 58).map (·.size) = some 22 := by kernel_rfl
@[go_sem ↓ high] theorem load_address (p : Value) : Instr.loadAt 47 p = loadRowAt 47 p := rfl
@[go_sem ↓ high] theorem store_address (p v : Value) : Instr.storeAt 47 p v = storeRowAt 47 p v := rfl
@[go_sem] theorem run_load_address (w : World) (g : Nat) : (loadRowAt 47 (.pointer (some ⟨g, 0, none⟩))).run Try.prog w = rowOut Try.prog 47 (.pointer (some ⟨g, 0, none⟩)) w 20 w.heap[g]? :=
  run_loadRowAt w _ g 20 _ Try.underlying47 rfl Try.szAddress
@[go_sem] theorem run_store_address (w : World) (g : Nat) (cells : Array Value) : (storeRowAt 47 (.pointer (some ⟨g, 0, none⟩)) (.agg cells)).run Try.prog w = rowIn Try.prog 47 (.pointer (some ⟨g, 0, none⟩)) cells g w 20 w.heap[g]? :=
  run_storeRowAt w _ g 20 cells Try.szAddress
@[go_sem] theorem run_load_address1 (w : World) (g : Nat) : (loadRowAt 47 (.pointer (some ⟨g, 1, none⟩))).run Try.prog w = midOut Try.prog 47 (.pointer (some ⟨g, 1, none⟩)) w 20 1 22 w.heap[g]? :=
  run_loadMid w _ g 1 20 22 _ (by omega) Try.underlying47 rfl Try.szAddress
@[go_sem ↓ high] theorem load_lock (p : Value) : Instr.loadAt 58 p = loadRowAt 58 p := rfl
@[go_sem ↓ high] theorem store_lock (p v : Value) : Instr.storeAt 58 p v = storeRowAt 58 p v := rfl
@[go_sem] theorem run_load_lock (w : World) (g : Nat) : (loadRowAt 58 (.pointer (some ⟨g, 0, none⟩))).run Try.prog w = rowOut Try.prog 58 (.pointer (some ⟨g, 0, none⟩)) w 22 w.heap[g]? :=
  run_loadRowAt w _ g 22 _ Try.underlying58 rfl Try.szLock
@[go_sem] theorem run_store_lock (w : World) (g : Nat) (cells : Array Value) : (storeRowAt 58 (.pointer (some ⟨g, 0, none⟩)) (.agg cells)).run Try.prog w = rowIn Try.prog 58 (.pointer (some ⟨g, 0, none⟩)) cells g w 22 w.heap[g]? :=
  run_storeRowAt w _ g 22 cells Try.szLock
def buildLk (parts : Array (Nat × Value)) : Sem Value := Instr.build 58 parts
@[go_sem ↓ high] theorem build_lock (p : Array (Nat × Value)) : Instr.build 58 p = buildLk p := rfl
theorem run_buildLk (w : World) (parts : Array (Nat × Value)) (cells : Array Value) (h : Try.prog.built 58 parts.toList = some cells) : (buildLk parts).run Try.prog w = .ok (.agg cells) w := run_build w _ parts cells h
def buildAd (parts : Array (Nat × Value)) : Sem Value := Instr.build 47 parts
@[go_sem ↓ high] theorem build_address (p : Array (Nat × Value)) : Instr.build 47 p = buildAd p := rfl
theorem run_buildAd (w : World) (parts : Array (Nat × Value)) (cells : Array Value) (h : Try.prog.built 47 parts.toList = some cells) : (buildAd parts).run Try.prog w = .ok (.agg cells) w := run_build w _ parts cells h

def zero20 : List UInt8 := List.replicate 20 0
/-- A lock's cells. -/
def lkC (k : Int) (A : List UInt8) (s : Value) : Array Value := (Value.int .i64 k :: (A.map B8 ++ [s])).toArray
structure LkC (k : Int) (A : List UInt8) (s : Value) (C : Array Value) : Prop where
  size : C.size = 22
  c0 : C[0]? = some (.int .i64 k)
  c21 : C[21]? = some s
  x1 : C.extract 1 21 = (A.map B8).toArray
theorem LkC.of {k : Int} {A : List UInt8} (h : A.length = 20) (s : Value) : LkC k A s (lkC k A s) := by
  refine ⟨by simp [lkC, h], by simp [lkC], by simp [lkC, h], ?_⟩
  apply Array.toList_inj.1
  simp [lkC, h, List.take_append]
theorem lkC_one {k : Int} {A : List UInt8} {a : Option Addr} {n c : Nat} : rowOne (lkC k A (.slice a n c)) := by
  unfold rowOne
  rw [Array.all_eq_true_iff_forall_mem]
  intro v hv
  simp only [lkC, List.mem_toArray, List.mem_cons, List.mem_append, List.mem_map, List.not_mem_nil, or_false] at hv
  rcases hv with rfl | ⟨_, _, rfl⟩ | rfl <;> rfl

/-- What Bytes answers. -/
def lkE (k : Int) (t : List UInt8) : Int := if k = 1 then 0 else if k = 2 then (if t.length = 0 ∨ 40 < t.length then 3 else 0) else 1
def lkB (k : Int) (A t : List UInt8) : List UInt8 := if k = 1 then [118, 169, 20] ++ A ++ [136, 172] else if k = 2 ∧ ¬ (t.length = 0 ∨ 40 < t.length) then 106 :: UInt8.ofNat t.length :: t else []
def LBytesC : Prop := ∀ (k : Int) (A t : List UInt8) (a : Option Addr) (n c : Nat) (w : World), A.length = 20 → Bs w a c t → n = t.length → t.length ≤ 1000 →
  Calls Try.prog 21 #[.agg (lkC k A (.slice a n c))] w fun e w' => ∃ a' n' c', e = .returned (.tuple #[.slice a' n' c', .int .i64 (lkE k t)]) ∧ n' = (lkB k A t).length ∧ Bs w' a' c' (lkB k A t) ∧ Fr F0 w w' ∧ ∀ g, ablk a' = some g → w.heap.size ≤ g
/-- What Parse answers: the kind, the address, the tag. -/
def lkP (b : List UInt8) : Int × List UInt8 × List UInt8 :=
  if b.length = 25 ∧ b.take 3 = [118, 169, 20] ∧ b.drop 23 = [136, 172] then (1, (b.drop 3).take 20, [])
  else if 3 ≤ b.length ∧ b.length ≤ 42 ∧ b.getD 0 0 = 106 ∧ (b.getD 1 0).toNat + 2 = b.length then (2, zero20, b.drop 2)
  else (0, zero20, [])
def LParseC : Prop := ∀ (b : List UInt8) (a : Option Addr) (n c : Nat) (w : World), Bs w a c b → n = b.length → b.length ≤ 1000 →
  Calls Try.prog 15 #[.slice a n c] w fun e w' => ∃ a' n' c', e = .returned (.agg (lkC (lkP b).1 (lkP b).2.1 (.slice a' n' c'))) ∧ n' = (lkP b).2.2.length ∧ Bs w' a' c' (lkP b).2.2 ∧ Fr F0 w w'
def LKeyC : Prop := ∀ (A : List UInt8) (w : World), A.length = 20 → Calls Try.prog 73 #[.agg (A.map B8).toArray] w (NewBytes (20 :: A) w)
def opO (b : List UInt8) : Bool := decide (b.length = 21 ∧ b.getD 0 0 = 20)
def opA (b : List UInt8) : List UInt8 := if opO b then b.drop 1 else zero20
theorem opA_length (b : List UInt8) : (opA b).length = 20 := by
  unfold opA opO
  split
  · rename_i h
    have := (of_decide_eq_true h).1
    simp; omega
  · rfl
def LOpenerC : Prop := ∀ (b : List UInt8) (a : Option Addr) (n c : Nat) (w : World), Bs w a c b → n = b.length → b.length ≤ 1000 →
  Calls Try.prog 19 #[.slice a n c] w fun e w' => e = .returned (.tuple #[.agg ((opA b).map B8).toArray, .bool (opO b)]) ∧ Fr F0 w w'

set_option maxRecDepth 100000 in
theorem run_equalIn_address (w : World) (l m : List UInt8) (hl : l.length = 20) (hm : m.length = 20) : (Op.equalIn 10000 47 (.agg (l.map B8).toArray) (.agg (m.map B8).toArray)).run Try.prog w = .ok (decide (l = m)) w := by
  obtain ⟨i0, hi, _⟩ := info_parts Try.infoU8
  rw [run_equalIn_array w 9999 _ _ Try.underlying47 hi, show Try.prog.cellsOf 5 = 1 by kernel_rfl, run_eqItems_bytes w 5 9998 (by kernel_rfl) Try.underlying5 l m 20 hl hm _ (fun j hj => List.mem_range.1 hj)]
  congr 1
  rw [Bool.eq_iff_iff]
  simp only [List.all_eq_true, List.mem_range, decide_eq_true_eq]
  constructor
  · intro h
    apply List.ext_getElem (by omega)
    intro j h1 h2
    have := h j (by omega)
    simpa [List.getD, List.getElem?_eq_getElem h1, List.getElem?_eq_getElem h2] using this
  · rintro rfl j _
    rfl
theorem one_B8s (l : List UInt8) : rowOne (l.map B8).toArray := by
  unfold rowOne
  rw [Array.all_eq_true_iff_forall_mem]
  intro v hv
  simp only [List.mem_toArray, List.mem_map] at hv
  obtain ⟨_, _, rfl⟩ := hv
  rfl
theorem twenty (l : List UInt8) (h : l.length = 20) : ∃ x0 x1 x2 x3 x4 x5 x6 x7 x8 x9 x10 x11 x12 x13 x14 x15 x16 x17 x18 x19, l = [x0, x1, x2, x3, x4, x5, x6, x7, x8, x9, x10, x11, x12, x13, x14, x15, x16, x17, x18, x19] := by
  match l, h with
  | [x0, x1, x2, x3, x4, x5, x6, x7, x8, x9, x10, x11, x12, x13, x14, x15, x16, x17, x18, x19], _ => exact ⟨x0, x1, x2, x3, x4, x5, x6, x7, x8, x9, x10, x11, x12, x13, x14, x15, x16, x17, x18, x19, rfl⟩
set_option maxRecDepth 100000 in
theorem built_lk1 (A : List UInt8) (h : A.length = 20) : Try.prog.built 58 [(0, .int .i64 1), (1, .agg (A.map B8).toArray)] = some (lkC 1 A (.slice none 0 0)) := by
  obtain ⟨x0, x1, x2, x3, x4, x5, x6, x7, x8, x9, x10, x11, x12, x13, x14, x15, x16, x17, x18, x19, rfl⟩ := twenty A h
  kernel_rfl
set_option maxRecDepth 100000 in
theorem built_lk3 (k : Int) (A : List UInt8) (h : A.length = 20) (a : Option Addr) (n c : Nat) : Try.prog.built 58 [(0, .int .i64 k), (1, .agg (A.map B8).toArray), (2, .slice a n c)] = some (lkC k A (.slice a n c)) := by
  obtain ⟨x0, x1, x2, x3, x4, x5, x6, x7, x8, x9, x10, x11, x12, x13, x14, x15, x16, x17, x18, x19, rfl⟩ := twenty A h
  kernel_rfl
set_option maxRecDepth 100000 in
theorem built_lk2 (a : Option Addr) (n c : Nat) : Try.prog.built 58 [(0, .int .i64 2), (2, .slice a n c)] = some (lkC 2 zero20 (.slice a n c)) := by
  kernel_rfl
theorem built_ad0 : Try.prog.built 47 [] = some (zero20.map B8).toArray := by kernel_rfl
theorem built_lk0 : Try.prog.built 58 [] = some (lkC 0 zero20 (.slice none 0 0)) := by kernel_rfl
end Go.Proofs.Ythoaalnjmklclaa
