import Derived.Test.YtaobgaoldfeehaaZp12
import Derived.Test.YtaobgaoldfeehaaZp2
import Derived.Lib.AppendStr
import Derived.Laws.BitsAllLaws
/- Layer 9 (tx): the document's transactions in memory; Few. -/
namespace Go.Proofs.Ytaobgaoldfeehaa
set_option linter.unusedVariables false
set_option linter.unusedSimpArgs false
open Go.RowKit

def rowR (fr : List UInt8) (a b c : Value) : Array Value := (fr.map B8 ++ [a, b, c]).toArray
theorem rowR_size {fr : List UInt8} (h : fr.length = 32) (a b c : Value) : (rowR fr a b c).size = 35 := by simp [rowR, h]
/-- Its cells, on the document's side. -/
def MI.row (x : MI) : List Value := x.fr.map B8 ++ [.int .u64 (x.ix : Int), .int .u64 (x.sq : Int), .string (strOf x.ky)]
def MO.row (x : MO) : List Value := [.int .u64 (x.py : Int), .string (strOf x.lk)]
theorem MI.row_eq (x : MI) : x.row.toArray = rowR x.fr (.int .u64 (x.ix : Int)) (.int .u64 (x.sq : Int)) (.string (strOf x.ky)) := rfl
theorem MI.row_length {x : MI} (h : x.Ok) : x.row.length = 35 := by simp [MI.row, h.fr]
theorem MO.row_length (x : MO) : x.row.length = 2 := rfl
theorem MI.one (x : MI) : rowOne x.row.toArray := by
  unfold rowOne
  rw [Array.all_eq_true_iff_forall_mem]
  intro v hv
  simp only [MI.row, List.mem_toArray, List.mem_append, List.mem_map, List.mem_cons, List.not_mem_nil, or_false] at hv
  rcases hv with ⟨_, _, rfl⟩ | rfl | rfl | rfl <;> rfl
theorem MO.one (x : MO) : rowOne x.row.toArray := by
  unfold rowOne
  rw [Array.all_eq_true_iff_forall_mem]
  intro v hv
  simp only [MO.row, List.mem_toArray, List.mem_cons, List.not_mem_nil, or_false] at hv
  rcases hv with rfl | rfl <;> rfl

theorem Try.infoRIns : (Try.prog.info? 78).map (fun i => (i.zero, i.size, i.bytes)) = some (some (.agg (rowR zero32 (.int .u64 0) (.int .u64 0) (.string (strOf [])))), 35, 64) := by kernel_rfl
def buildRIns (parts : Array (Nat × Value)) : Sem Value := Instr.buildSlice 34 1 parts
@[go_sem ↓ high] theorem build_RIns (p : Array (Nat × Value)) : Instr.buildSlice 34 1 p = buildRIns p := rfl
theorem run_buildRIns (w : World) (X : Array Value) (h : X.size = 35) : (buildRIns #[(0, .agg X)]).run Try.prog w = .ok (.slice (some ⟨w.heap.size, 0, none⟩) 1 1) (w.alloc (.cells X 78)) := by
  obtain ⟨i0, hi, hz, hs, _⟩ := info_parts Try.infoRIns
  exact run_slice1 w 34 78 X 35 i0 _ Try.underlying34 hi hz hs (by omega) (by omega) h
def appRIns (ty : TypeId) (args : Array Value) : Sem Value := Builtin.append_ #[34, 34] ty args
@[go_sem ↓ high] theorem app_RIns (ty : TypeId) (args : Array Value) : Builtin.append_ #[34, 34] ty args = appRIns ty args := rfl
/-- A list that is read. -/
structure MIs (w : World) (a : Option Addr) (c : Nat) (l : List MI) : Prop where
  sl : Sl w 35 a c l.length (l.flatMap MI.row)
  ok : ∀ x ∈ l, x.Ok
theorem MIs.fr {w w' : World} {a : Option Addr} {c : Nat} {l : List MI} (h : MIs w a c l) (f : Fr F0 w w') : MIs w' a c l := ⟨h.sl.fr7 f, h.ok⟩
theorem MIs.most {w : World} {a : Option Addr} {c : Nat} {l : List MI} (h : MIs w a c l) : l.length ≤ 9223372036854775807 := by have h1 := h.sl.room; have h2 := h.sl.most; unfold maxLen at h2; omega
theorem MIs.get {w : World} {a : Option Addr} {c : Nat} {l : List MI} (h : MIs w a c l) (k : Nat) (hk : k < l.length) : ∃ b off, a = some ⟨b, off, none⟩ ∧ ∀ i u, (MI.row l[k])[i]? = some u → w.cell? ⟨b, off + k * 35 + i, none⟩ = some u := by
  have hr : ∀ x ∈ l, (MI.row x).length = 35 := fun x hx => MI.row_length (by first | exact h.ok x hx | exact hx)
  have hg := flat_get MI.row 35 l hr k hk
  have h0 := hr _ (List.getElem_mem hk)
  obtain ⟨b, off, e, _⟩ := h.sl.cell (k * 35 + 0) _ ((hg 0 (by omega)).trans (List.getElem?_eq_getElem (by omega)))
  refine ⟨b, off, e, fun i u hi => ?_⟩
  have hi' : i < 35 := by have := (List.getElem?_eq_some_iff.1 hi).1; omega
  obtain ⟨b', off', e', hc⟩ := h.sl.cell (k * 35 + i) u ((hg i hi').trans hi)
  rw [e] at e'
  cases e'
  rw [Nat.add_assoc]
  exact hc
/-- A list that the call itself has made: its blocks are B or later ones. -/
structure OwnRIns (B : Nat) (w : World) (v : Value) (l : List MI) : Prop where
  own : w.ownsRow 0 78 35 v l.length (l.flatMap MI.row)
  blk : ∀ k, v.ownBlock = some k → B ≤ k
  ok : ∀ x ∈ l, x.Ok
theorem OwnRIns.nil (B : Nat) (w : World) : OwnRIns B w (.slice none 0 0) [] := ⟨World.ownsRow_nil _ _ _ _, fun k h => (by cases h), fun x h => (by cases h)⟩
theorem OwnRIns.fr {B : Nat} {S : Nat → Prop} {w w' : World} {v : Value} {l : List MI} (h : OwnRIns B w v l) (f : Fr S w w') (hs : ∀ k, S k → k < B) : OwnRIns B w' v l :=
  ⟨own_fr h.own f fun k hk e => by have h1 := h.blk k hk; have h2 := hs k e; omega, h.blk, h.ok⟩
theorem OwnRIns.fr0 {B : Nat} {w w' : World} {v : Value} {l : List MI} (h : OwnRIns B w v l) (f : Fr F0 w w') : OwnRIns B w' v l := h.fr f fun _ e => e.elim
theorem OwnRIns.frS {B : Nat} {S : Nat → Prop} {w w' : World} {v : Value} {l : List MI} (h : OwnRIns B w v l) (f : Fr S w w') (h1 : ∀ k, v.ownBlock = some k → ¬ S k) : OwnRIns B w' v l :=
  ⟨own_fr h.own f h1, h.blk, h.ok⟩
theorem OwnRIns.lt {B : Nat} {w : World} {v : Value} {l : List MI} (h : OwnRIns B w v l) : ∀ k, v.ownBlock = some k → k < w.heap.size := fun k hk => (World.ownsRow.lt h.own k hk).2
theorem OwnRIns.is {B : Nat} {w : World} {v : Value} {l : List MI} (h : OwnRIns B w v l) : ∃ a c, v = .slice a l.length c ∧ MIs w a c l := by
  obtain ⟨a, c, rfl⟩ := own_slice h.own
  exact ⟨a, c, rfl, (Sl.of_own h.own).2, h.ok⟩
theorem OwnRIns.app {B : Nat} {w : World} {v : Value} {l : List MI} (h : OwnRIns B w v l) (x : MI) (hx : x.Ok) (hB : B ≤ w.heap.size) (hl : l.length ≤ 100000) (ty : TypeId) :
    ∃ a c w', (appRIns ty #[v, .slice (some ⟨w.heap.size, 0, none⟩) 1 1]).run Try.prog (w.alloc (.cells (MI.row x).toArray 78)) = .ok (.slice a (l.length + 1) c) w' ∧ OwnRIns B w' (.slice a (l.length + 1) c) (l ++ [x]) ∧
      Fr (fun k => v.ownBlock = some k) w w' ∧ w.heap.size < w'.heap.size ∧ ∀ k, ablk a = some k → v.ownBlock = some k ∨ w.heap.size ≤ k := by
  obtain ⟨i0, hi, hz, hs, hb⟩ := info_parts Try.infoRIns
  have hr : (MI.row x).length = 35 := MI.row_length (by first | exact h.ok x hx | exact hx)
  obtain ⟨W, hW⟩ : ∃ W, W = w.alloc (.cells (MI.row x).toArray 78) := ⟨_, rfl⟩
  have hnew := heap_alloc_new w (.cells (MI.row x).toArray 78)
  have fW : Fr F0 w W := by rw [hW]; exact (Fr.refl F0 w).alloc _
  have sW : W.heap.size = w.heap.size + 1 := by rw [hW]; simp
  rw [← hW] at hnew ⊢
  have hsl : Sl W 35 (some ⟨w.heap.size, 0, none⟩) 1 1 (MI.row x) := ⟨by rw [hr, Nat.one_mul], Nat.le_refl _, by unfold maxLen; omega, (fun e => by cases e), fun j u hj => ⟨_, _, rfl, by rw [cell_at, hnew, cellAt_cells, Nat.zero_add]; simpa using hj⟩⟩
  obtain ⟨v', w', hrun, hown, hg, hnw⟩ := run_app (P := Try.prog) (w := W) 34 ty 78 i0 _ 35 64 Try.underlying34 hi hz hs hb rfl (by omega) v l.length _ (own_fr h.own fW fun _ _ f => f) (some ⟨w.heap.size, 0, none⟩) 1 1 (MI.row x) hsl
    (by exact one_of (MI.one x)) (by unfold maxLen; omega) (by omega)
  obtain ⟨a, c, rfl⟩ := own_slice hown
  have F : Fr (fun k => v.ownBlock = some k) w w' := (fW.of0).grown hg fun k hk hl => hk
  have hnw' : ∀ k, ablk a = some k → v.ownBlock = some k ∨ w.heap.size ≤ k := fun k hk => by
    rcases hnw k (by rw [ablk_own]; exact hk) with e | e
    · exact .inl e
    · exact .inr (by omega)
  refine ⟨a, c, w', hrun, ⟨?_, fun k hk => ?_, fun y hy => ?_⟩, F, by have := hg.size; omega, hnw'⟩
  · rw [List.length_append, List.flatMap_append]
    simpa using hown
  · rw [ablk_own] at hk
    rcases hnw' k hk with e | e
    · exact h.blk k e
    · omega
  · rw [List.mem_append, List.mem_singleton] at hy
    rcases hy with hy | rfl
    · exact h.ok y hy
    · exact hx

theorem Try.infoROuts : (Try.prog.info? 80).map (fun i => (i.zero, i.size, i.bytes)) = some (some (.agg #[.int .u64 0, .string (strOf [])]), 2, 24) := by kernel_rfl
def buildROuts (parts : Array (Nat × Value)) : Sem Value := Instr.buildSlice 35 1 parts
@[go_sem ↓ high] theorem build_ROuts (p : Array (Nat × Value)) : Instr.buildSlice 35 1 p = buildROuts p := rfl
theorem run_buildROuts (w : World) (X : Array Value) (h : X.size = 2) : (buildROuts #[(0, .agg X)]).run Try.prog w = .ok (.slice (some ⟨w.heap.size, 0, none⟩) 1 1) (w.alloc (.cells X 80)) := by
  obtain ⟨i0, hi, hz, hs, _⟩ := info_parts Try.infoROuts
  exact run_slice1 w 35 80 X 2 i0 _ Try.underlying35 hi hz hs (by omega) (by omega) h
def appROuts (ty : TypeId) (args : Array Value) : Sem Value := Builtin.append_ #[35, 35] ty args
@[go_sem ↓ high] theorem app_ROuts (ty : TypeId) (args : Array Value) : Builtin.append_ #[35, 35] ty args = appROuts ty args := rfl
/-- A list that is read. -/
structure MOs (w : World) (a : Option Addr) (c : Nat) (l : List MO) : Prop where
  sl : Sl w 2 a c l.length (l.flatMap MO.row)
  ok : ∀ x ∈ l, x.Ok
theorem MOs.fr {w w' : World} {a : Option Addr} {c : Nat} {l : List MO} (h : MOs w a c l) (f : Fr F0 w w') : MOs w' a c l := ⟨h.sl.fr7 f, h.ok⟩
theorem MOs.most {w : World} {a : Option Addr} {c : Nat} {l : List MO} (h : MOs w a c l) : l.length ≤ 9223372036854775807 := by have h1 := h.sl.room; have h2 := h.sl.most; unfold maxLen at h2; omega
theorem MOs.get {w : World} {a : Option Addr} {c : Nat} {l : List MO} (h : MOs w a c l) (k : Nat) (hk : k < l.length) : ∃ b off, a = some ⟨b, off, none⟩ ∧ ∀ i u, (MO.row l[k])[i]? = some u → w.cell? ⟨b, off + k * 2 + i, none⟩ = some u := by
  have hr : ∀ x ∈ l, (MO.row x).length = 2 := fun x hx => MO.row_length x
  have hg := flat_get MO.row 2 l hr k hk
  have h0 := hr _ (List.getElem_mem hk)
  obtain ⟨b, off, e, _⟩ := h.sl.cell (k * 2 + 0) _ ((hg 0 (by omega)).trans (List.getElem?_eq_getElem (by omega)))
  refine ⟨b, off, e, fun i u hi => ?_⟩
  have hi' : i < 2 := by have := (List.getElem?_eq_some_iff.1 hi).1; omega
  obtain ⟨b', off', e', hc⟩ := h.sl.cell (k * 2 + i) u ((hg i hi').trans hi)
  rw [e] at e'
  cases e'
  rw [Nat.add_assoc]
  exact hc
/-- A list that the call itself has made: its blocks are B or later ones. -/
structure OwnROuts (B : Nat) (w : World) (v : Value) (l : List MO) : Prop where
  own : w.ownsRow 0 80 2 v l.length (l.flatMap MO.row)
  blk : ∀ k, v.ownBlock = some k → B ≤ k
  ok : ∀ x ∈ l, x.Ok
theorem OwnROuts.nil (B : Nat) (w : World) : OwnROuts B w (.slice none 0 0) [] := ⟨World.ownsRow_nil _ _ _ _, fun k h => (by cases h), fun x h => (by cases h)⟩
theorem OwnROuts.fr {B : Nat} {S : Nat → Prop} {w w' : World} {v : Value} {l : List MO} (h : OwnROuts B w v l) (f : Fr S w w') (hs : ∀ k, S k → k < B) : OwnROuts B w' v l :=
  ⟨own_fr h.own f fun k hk e => by have h1 := h.blk k hk; have h2 := hs k e; omega, h.blk, h.ok⟩
theorem OwnROuts.fr0 {B : Nat} {w w' : World} {v : Value} {l : List MO} (h : OwnROuts B w v l) (f : Fr F0 w w') : OwnROuts B w' v l := h.fr f fun _ e => e.elim
theorem OwnROuts.frS {B : Nat} {S : Nat → Prop} {w w' : World} {v : Value} {l : List MO} (h : OwnROuts B w v l) (f : Fr S w w') (h1 : ∀ k, v.ownBlock = some k → ¬ S k) : OwnROuts B w' v l :=
  ⟨own_fr h.own f h1, h.blk, h.ok⟩
theorem OwnROuts.lt {B : Nat} {w : World} {v : Value} {l : List MO} (h : OwnROuts B w v l) : ∀ k, v.ownBlock = some k → k < w.heap.size := fun k hk => (World.ownsRow.lt h.own k hk).2
theorem OwnROuts.is {B : Nat} {w : World} {v : Value} {l : List MO} (h : OwnROuts B w v l) : ∃ a c, v = .slice a l.length c ∧ MOs w a c l := by
  obtain ⟨a, c, rfl⟩ := own_slice h.own
  exact ⟨a, c, rfl, (Sl.of_own h.own).2, h.ok⟩
theorem OwnROuts.app {B : Nat} {w : World} {v : Value} {l : List MO} (h : OwnROuts B w v l) (x : MO) (hx : x.Ok) (hB : B ≤ w.heap.size) (hl : l.length ≤ 100000) (ty : TypeId) :
    ∃ a c w', (appROuts ty #[v, .slice (some ⟨w.heap.size, 0, none⟩) 1 1]).run Try.prog (w.alloc (.cells (MO.row x).toArray 80)) = .ok (.slice a (l.length + 1) c) w' ∧ OwnROuts B w' (.slice a (l.length + 1) c) (l ++ [x]) ∧
      Fr (fun k => v.ownBlock = some k) w w' ∧ w.heap.size < w'.heap.size ∧ ∀ k, ablk a = some k → v.ownBlock = some k ∨ w.heap.size ≤ k := by
  obtain ⟨i0, hi, hz, hs, hb⟩ := info_parts Try.infoROuts
  have hr : (MO.row x).length = 2 := MO.row_length x
  obtain ⟨W, hW⟩ : ∃ W, W = w.alloc (.cells (MO.row x).toArray 80) := ⟨_, rfl⟩
  have hnew := heap_alloc_new w (.cells (MO.row x).toArray 80)
  have fW : Fr F0 w W := by rw [hW]; exact (Fr.refl F0 w).alloc _
  have sW : W.heap.size = w.heap.size + 1 := by rw [hW]; simp
  rw [← hW] at hnew ⊢
  have hsl : Sl W 2 (some ⟨w.heap.size, 0, none⟩) 1 1 (MO.row x) := ⟨by rw [hr, Nat.one_mul], Nat.le_refl _, by unfold maxLen; omega, (fun e => by cases e), fun j u hj => ⟨_, _, rfl, by rw [cell_at, hnew, cellAt_cells, Nat.zero_add]; simpa using hj⟩⟩
  obtain ⟨v', w', hrun, hown, hg, hnw⟩ := run_app (P := Try.prog) (w := W) 35 ty 80 i0 _ 2 24 Try.underlying35 hi hz hs hb rfl (by omega) v l.length _ (own_fr h.own fW fun _ _ f => f) (some ⟨w.heap.size, 0, none⟩) 1 1 (MO.row x) hsl
    (by exact one_of (MO.one x)) (by unfold maxLen; omega) (by omega)
  obtain ⟨a, c, rfl⟩ := own_slice hown
  have F : Fr (fun k => v.ownBlock = some k) w w' := (fW.of0).grown hg fun k hk hl => hk
  have hnw' : ∀ k, ablk a = some k → v.ownBlock = some k ∨ w.heap.size ≤ k := fun k hk => by
    rcases hnw k (by rw [ablk_own]; exact hk) with e | e
    · exact .inl e
    · exact .inr (by omega)
  refine ⟨a, c, w', hrun, ⟨?_, fun k hk => ?_, fun y hy => ?_⟩, F, by have := hg.size; omega, hnw'⟩
  · rw [List.length_append, List.flatMap_append]
    simpa using hown
  · rw [ablk_own] at hk
    rcases hnw' k hk with e | e
    · exact h.blk k e
    · omega
  · rw [List.mem_append, List.mem_singleton] at hy
    rcases hy with hy | rfl
    · exact h.ok y hy
    · exact hx

theorem Try.szRIn : (Try.prog.info? 78).map (·.size) = some 35 := by kernel_rfl
@[go_sem ↓ high] theorem load_rin (p : Value) : Instr.loadAt 78 p = loadRowAt 78 p := rfl
@[go_sem ↓ high] theorem store_rin (p v : Value) : Instr.storeAt 78 p v = storeRowAt 78 p v := rfl
@[go_sem] theorem run_load_rin (w : World) (g : Nat) : (loadRowAt 78 (.pointer (some ⟨g, 0, none⟩))).run Try.prog w = rowOut Try.prog 78 (.pointer (some ⟨g, 0, none⟩)) w 35 w.heap[g]? :=
  run_loadRowAt w _ g 35 _ Try.underlying78 rfl Try.szRIn
@[go_sem] theorem run_store_rin (w : World) (g : Nat) (cells : Array Value) : (storeRowAt 78 (.pointer (some ⟨g, 0, none⟩)) (.agg cells)).run Try.prog w = rowIn Try.prog 78 (.pointer (some ⟨g, 0, none⟩)) cells g w 35 w.heap[g]? :=
  run_storeRowAt w _ g 35 cells Try.szRIn
def buildRIn (parts : Array (Nat × Value)) : Sem Value := Instr.build 78 parts
@[go_sem ↓ high] theorem build_rin (p : Array (Nat × Value)) : Instr.build 78 p = buildRIn p := rfl
theorem run_buildRIn (w : World) (parts : Array (Nat × Value)) (cells : Array Value) (h : Try.prog.built 78 parts.toList = some cells) : (buildRIn parts).run Try.prog w = .ok (.agg cells) w := run_build w _ parts cells h
theorem Try.szROut : (Try.prog.info? 80).map (·.size) = some 2 := by kernel_rfl
@[go_sem ↓ high] theorem load_rout (p : Value) : Instr.loadAt 80 p = loadRowAt 80 p := rfl
@[go_sem ↓ high] theorem store_rout (p v : Value) : Instr.storeAt 80 p v = storeRowAt 80 p v := rfl
@[go_sem] theorem run_load_rout (w : World) (g : Nat) : (loadRowAt 80 (.pointer (some ⟨g, 0, none⟩))).run Try.prog w = rowOut Try.prog 80 (.pointer (some ⟨g, 0, none⟩)) w 2 w.heap[g]? :=
  run_loadRowAt w _ g 2 _ Try.underlying80 rfl Try.szROut
@[go_sem] theorem run_store_rout (w : World) (g : Nat) (cells : Array Value) : (storeRowAt 80 (.pointer (some ⟨g, 0, none⟩)) (.agg cells)).run Try.prog w = rowIn Try.prog 80 (.pointer (some ⟨g, 0, none⟩)) cells g w 2 w.heap[g]? :=
  run_storeRowAt w _ g 2 cells Try.szROut
theorem load_rin_at {w : World} {b o : Nat} {t : MI} (h : t.Ok) (hc : ∀ i u, t.row[i]? = some u → w.cell? ⟨b, o + i, none⟩ = some u) : (loadRowAt 78 (.pointer (some ⟨b, o, none⟩))).run Try.prog w = .ok (.agg t.row.toArray) w :=
  run_loadAt_mid (P := Try.prog) w b o 78 t.row _ hc Try.underlying78 rfl (by rw [Try.szRIn, MI.row_length h])
theorem load_rout_at {w : World} {b o : Nat} {t : MO} (hc : ∀ i u, t.row[i]? = some u → w.cell? ⟨b, o + i, none⟩ = some u) : (loadRowAt 80 (.pointer (some ⟨b, o, none⟩))).run Try.prog w = .ok (.agg t.row.toArray) w :=
  run_loadAt_mid (P := Try.prog) w b o 80 t.row _ hc Try.underlying80 rfl (by rw [Try.szROut, MO.row_length])
theorem thirtytwo (l : List UInt8) (h : l.length = 32) : ∃ x0 x1 x2 x3 x4 x5 x6 x7 x8 x9 x10 x11 x12 x13 x14 x15 x16 x17 x18 x19 x20 x21 x22 x23 x24 x25 x26 x27 x28 x29 x30 x31, l = [x0, x1, x2, x3, x4, x5, x6, x7, x8, x9, x10, x11, x12, x13, x14, x15, x16, x17, x18, x19, x20, x21, x22, x23, x24, x25, x26, x27, x28, x29, x30, x31] := by
  match l, h with
  | [x0, x1, x2, x3, x4, x5, x6, x7, x8, x9, x10, x11, x12, x13, x14, x15, x16, x17, x18, x19, x20, x21, x22, x23, x24, x25, x26, x27, x28, x29, x30, x31], _ => exact ⟨x0, x1, x2, x3, x4, x5, x6, x7, x8, x9, x10, x11, x12, x13, x14, x15, x16, x17, x18, x19, x20, x21, x22, x23, x24, x25, x26, x27, x28, x29, x30, x31, rfl⟩
set_option maxRecDepth 100000 in
theorem built_rin (l : List UInt8) (h : l.length = 32) (x y : Int) (s : ByteArray) : Try.prog.built 78 [(0, .agg (l.map B8).toArray), (1, .int .u64 x), (2, .int .u64 y), (3, .string s)] = some (rowR l (.int .u64 x) (.int .u64 y) (.string s)) := by
  obtain ⟨x0, x1, x2, x3, x4, x5, x6, x7, x8, x9, x10, x11, x12, x13, x14, x15, x16, x17, x18, x19, x20, x21, x22, x23, x24, x25, x26, x27, x28, x29, x30, x31, rfl⟩ := thirtytwo l h
  kernel_rfl

/-- A transaction of the document's in memory. -/
structure RT where
  m : MT
  ia : Option Addr
  ic : Nat
  oa : Option Addr
  oc : Nat
def RT.cells (r : RT) : Array Value := #[.int .u64 (r.m.vr : Int), .int .u64 (r.m.lt : Int), .slice r.ia r.m.ins.length r.ic, .slice r.oa r.m.outs.length r.oc]
structure RT.Ok (w : World) (r : RT) : Prop where
  vr : r.m.vr < 4294967296
  lt : r.m.lt < 4294967296
  ins : MIs w r.ia r.ic r.m.ins
  outs : MOs w r.oa r.oc r.m.outs
theorem RT.Ok.fr {w w' : World} {r : RT} (h : r.Ok w) (f : Fr F0 w w') : r.Ok w' := ⟨h.vr, h.lt, h.ins.fr f, h.outs.fr f⟩
theorem RT.Ok.m {w : World} {r : RT} (h : r.Ok w) : r.m.Ok := ⟨h.vr, h.lt, h.ins.ok, h.outs.ok⟩
end Go.Proofs.Ytaobgaoldfeehaa

/- Layer 9 (tx): the document's cursor: take and count. -/
namespace Go.Proofs.Ytaobgaoldfeehaa
set_option linter.unusedVariables false
set_option linter.unusedSimpArgs false
open Go.RowKit

/-- A cursor at block g, over bytes, with what is left (none: it is bad). -/
structure IsCu (w : World) (g : Nat) (a : Option Addr) (c : Nat) (bs : List UInt8) (st : Option (List UInt8)) : Prop where
  at_ : ∃ (p : Nat) (bad : Bool), w.heap[g]? = some (.cells #[.slice a bs.length c, .int .i64 (p : Int), .bool bad] 85 (0, 0)) ∧ p ≤ bs.length ∧ st = if bad then none else some (bs.drop p)
  rd : Bs w a c bs
  ne : bs ≠ [] → ∀ k, ablk a = some k → k ≠ g
theorem IsCu.fr0 {w w' : World} {g c : Nat} {a : Option Addr} {bs : List UInt8} {st : Option (List UInt8)} (h : IsCu w g a c bs st) (f : Fr F0 w w') : IsCu w' g a c bs st := by
  obtain ⟨⟨p, bad, hg, hp, hs⟩, hb, hn⟩ := h
  exact ⟨⟨p, bad, keep_fr f hg, hp, hs⟩, Bs.fr7 hb f, hn⟩
theorem IsCu.frS {w w' : World} {g c : Nat} {S : Nat → Prop} {a : Option Addr} {bs : List UInt8} {st : Option (List UInt8)} (h : IsCu w g a c bs st) (f : Fr S w w') (h1 : ¬ S g) (h2 : bs ≠ [] → ∀ k, ablk a = some k → ¬ S k) : IsCu w' g a c bs st := by
  obtain ⟨⟨p, bad, hg, hp, hs⟩, hb, hn⟩ := h
  exact ⟨⟨p, bad, f.keeps h1 hg, hp, hs⟩, hb.frx f h2, hn⟩
theorem IsCu.low {w : World} {g c : Nat} {a : Option Addr} {bs : List UInt8} {st : Option (List UInt8)} (h : IsCu w g a c bs st) : g < w.heap.size := by
  obtain ⟨⟨p, bad, hg, _⟩, _⟩ := h
  exact (Array.getElem?_eq_some_iff.1 hg).1
/-- Behind a step of the cursor. -/
def CuPost (w : World) (g : Nat) (a : Option Addr) (c : Nat) (bs : List UInt8) (st : Option (List UInt8)) (w' : World) : Prop := IsCu w' g a c bs st ∧ Fr (fun k => k = g) w w'
theorem CuPost.of {w w' : World} {g c : Nat} {a : Option Addr} {bs : List UInt8} {st st' : Option (List UInt8)} (h : IsCu w g a c bs st) (f : Fr (fun k => k = g) w w') {p : Nat} {bad : Bool}
    (hg : w'.heap[g]? = some (.cells #[.slice a bs.length c, .int .i64 (p : Int), .bool bad] 85 (0, 0))) (hp : p ≤ bs.length) (hs : st' = if bad then none else some (bs.drop p)) : CuPost w g a c bs st' w' :=
  ⟨⟨⟨p, bad, hg, hp, hs⟩, h.rd.frx f fun hn k hk e => h.ne hn k hk e, h.ne⟩, f⟩

theorem run_make_none (w : World) : (Instr.makeSlice 22 (.int .i64 0) (.int .i64 0)).run Try.prog w = .ok (.slice (some ⟨w.heap.size, 0, none⟩) 0 0) (w.alloc (.cells #[] 5)) := by
  obtain ⟨i0, hi, hz0, hz1, hz2⟩ := info_parts Try.infoU8
  have := run_make (P := Try.prog) w 22 5 i0 (.int .u8 0) Try.underlying22 hi hz0 .i64 .i64 0 0 (by omega) (by omega) (by rw [hz2]; omega) (by omega)
  rw [hz1] at this
  have e : madeCells (Value.int IntKind.u8 0).cells (Int.toNat 0 * 1) = #[] := by kernel_rfl
  rw [e] at this
  exact this
theorem Bs.empty (w : World) (g : Nat) : Bs w (some ⟨g, 0, none⟩) 0 [] := ⟨rfl, Nat.le_refl _, by unfold maxLen; omega, (fun e => by cases e), fun j u h => by simp at h⟩
theorem rrc_lt9 (bs : List UInt8) : (rrc bs).1 < 18446744073709551616 := by
  cases bs with
  | nil => simp [rrc]
  | cons c r =>
    have := c.toNat_lt
    simp only [rrc]
    split
    · dsimp only; omega
    · split
      · simp
      · dsimp only
        have h1 := ofLE_lt (r.take (1 + 2 * 2 ^ (c.toNat - 253) - 1))
        have h2 : (r.take (1 + 2 * 2 ^ (c.toNat - 253) - 1)).length ≤ 8 := by
          have : c.toNat - 253 ≤ 2 := by omega
          have h3 : 2 ^ (c.toNat - 253) ≤ 2 ^ 2 := Nat.pow_le_pow_right (by omega) this
          simp only [List.length_take]
          omega
        have h3 : 256 ^ (r.take (1 + 2 * 2 ^ (c.toNat - 253) - 1)).length ≤ 256 ^ 8 := Nat.pow_le_pow_right (by omega) h2
        omega
theorem rrc_size9 (bs : List UInt8) (h : (rrc bs).2.2 = true) : (rrc bs).2.1 ≤ bs.length := by
  cases bs with
  | nil => cases h
  | cons c r =>
    simp only [rrc] at h ⊢
    split at h
    · rename_i h1; rw [if_pos h1]; simp
    · rename_i h1
      rw [if_neg h1]
      split at h
      · cases h
      · rename_i h2
        rw [if_neg h2]
        simpa using h2
set_option maxRecDepth 100000 in
set_option maxHeartbeats 8000000 in
theorem r9Take_any (w : World) (g c n : Nat) (a : Option Addr) (bs : List UInt8) (st : Option (List UInt8)) (h : IsCu w g a c bs st) (hn : n ≤ 1000000) (hl : bs.length ≤ 1000000) :
    Calls Try.prog 31 #[.pointer (some ⟨g, 0, none⟩), .int .i64 (n : Int)] w fun e w' => ∃ a2 n2 c2, e = .returned (.slice a2 n2 c2) ∧ n2 = (tk (n : Int) st).1.length ∧ Bs w' a2 c2 (tk (n : Int) st).1 ∧ CuPost w g a c bs (tk (n : Int) st).2 w' ∧ ((tk (n : Int) st).1 ≠ [] → ∀ k, ablk a2 = some k → ablk a = some k) := by
  have H := Lib.hid h
  have hmk := run_make_none
  obtain ⟨⟨p, bad, hg, hp, hs⟩, hb, hne⟩ := h
  obtain ⟨N, hN⟩ : ∃ N, N = bs.length := ⟨_, rfl⟩
  rw [← hN] at hg hp hl
  have hroom := hb.room
  rw [← hN] at hroom
  cases bad with
  | true =>
    have e : tk (n : Int) st = ([], none) := by rw [hs]; rfl
    rw [e]
    replace hN := Lib.hid hN
    clear hs hb hne e
    go_enter Try.func31, Try.ntmps31
    go_upto_region 1 with fail
    refine wp_region_noPanic ?_
    refine wp_region_held_drew (S := (fun w' => w'.heap[g]? = some (.cells #[.slice a N c, .int .i64 (p : Int), .bool true] 85 (0, 0)))) (by kernel_rfl) ?_ (fun hHeld => ?_)
    · ((try dsimp only) <;> (first | exact hg | exact keep_drew hg))
    refine rtake 0 ?_
    refine rtake 1 ?_
    refine rtake 2 ?_
    refine rtake 3 ?_
    refine rtake 4 ?_
    refine rleave 5 ?_
    refine rleave 6 ?_
    refine rleave 7 ?_
    refine rleave 8 ?_
    refine rleave 9 ?_
    refine rleave 10 ?_
    refine rleave 11 ?_
    refine rleave 12 ?_
    refine rleave 13 ?_
    refine rleave 14 ?_
    refine rleave 15 ?_
    refine rleave 16 ?_
    refine rtake 17 ?_
    refine wpAnyH_done (by kernel_rfl) ?_ _
    refine NoPanic.normal ?_
    have hgd := keep_drew hg
    have Fd := (Fr.refl F0 w).drew
    clear hg
    generalize w.drew = W at *
    go_wp2_with fail
    go_ret
    refine ⟨_, 0, 0, rfl, rfl, Bs.empty _ _, CuPost.of H.out (p := p) (bad := true) ?_ ?_ (by have := hN.out; omega) rfl, fun e => absurd rfl e⟩
    · exact (((Fd.of0 (T := fun k => k = g)).setCell (p := ⟨g, 2, none⟩) (fun _ => rfl) _).alloc _)
    · rw [← hN.out]
      refine keep_alloc ?_
      rw [heap_setCell_at, hgd]
      rfl
  | false =>
    replace hs : st = some (bs.drop p) := hs
    obtain ⟨d, hd⟩ : ∃ d, d = N - p := ⟨_, rfl⟩
    have e1 : IntKind.i64.wrap ((N : Int) - (p : Int)) = (d : Int) := by rw [IntWalk.i64_in _ (by omega)]; omega
    by_cases q : n ≤ d
    · have l1 : ¬ (d : Int) < (n : Int) := by omega
      have hq : n ≤ (bs.drop p).length := by rw [List.length_drop]; omega
      have e : tk (n : Int) st = ((bs.drop p).take n, some ((bs.drop p).drop n)) := by rw [hs, tk_ok hq]
      rw [e]
      have hlen : ((bs.drop p).take n).length = n := by rw [List.length_take]; omega
      have hbb := Lib.hid ((hb.drop p (by omega)).take n)
      obtain ⟨t, ht⟩ : ∃ t, t = p + n := ⟨_, rfl⟩
      have e2 : IntKind.i64.wrap ((p : Int) + (n : Int)) = (t : Int) := by rw [IntWalk.i64_in _ (by omega)]; omega
      have e3 : IntKind.i64.wrap ((t : Int) - (n : Int)) = (p : Int) := by rw [IntWalk.i64_in _ (by omega)]; omega
      have l2 : (0 : Int) ≤ (p : Int) := by omega
      have l3 : (p : Int) ≤ (t : Int) := by omega
      have l4 : (t : Int) ≤ (c : Int) := by omega
      have e4 : t - p = n := by omega
      have HH := Lib.hid (And.intro hN (And.intro ht (And.intro hd (And.intro q hp))))
      rw [hlen]
      have HD := Lib.hid (show (bs.drop p).drop n = bs.drop t by rw [List.drop_drop, ht])
      clear hs hb hne e hN ht hd q hp hq hlen
      go_enter Try.func31, Try.ntmps31
      go_upto_region 1 with fail
      refine wp_region_noPanic ?_
      refine wp_region_held_drew (S := (fun w' => w'.heap[g]? = some (.cells #[.slice a N c, .int .i64 (p : Int), .bool false] 85 (0, 0)))) (by kernel_rfl) ?_ (fun hHeld => ?_)
      · ((try dsimp only) <;> (first | exact hg | exact keep_drew hg))
      refine rtake 0 ?_
      refine rtake 1 ?_
      refine rtake 2 ?_
      refine rtake 3 ?_
      refine rtake 4 ?_
      refine rtake 5 ?_
      refine rtake 6 ?_
      refine rtake 7 ?_
      refine rtake 8 ?_
      refine rtake 9 ?_
      refine rtake 10 ?_
      refine rtake 11 ?_
      refine rtake 12 ?_
      refine rtake 13 ?_
      refine rtake 14 ?_
      refine rtake 15 ?_
      refine rtake 16 ?_
      refine rtake 17 ?_
      refine wpAnyH_done (by kernel_rfl) ?_ _
      refine NoPanic.normal ?_
      have hgd := keep_drew hg
      have Fd := (Fr.refl F0 w).drew
      clear hg
      generalize w.drew = W at *
      go_upto_region 5 with fail
      refine wp_cell hgd fun W2 r2 f2 => ?_
      have F2 : Fr (fun k => k = g) w W2 := Fd.of0.trans' f2
      replace r2 : W2.heap[g]? = some (.cells #[.slice a N c, .int .i64 (t : Int), .bool false] 85 (0, 0)) := r2
      clear hgd Fd f2
      refine wp_region_noPanic ?_
      refine wp_region_held_drew (S := (fun w' => w'.heap[g]? = some (.cells #[.slice a N c, .int .i64 (t : Int), .bool false] 85 (0, 0)))) (by kernel_rfl) ?_ (fun hHeld => ?_)
      · ((try dsimp only) <;> (first | exact r2 | exact keep_drew r2))
      refine rtake 0 ?_
      refine rtake 1 ?_
      refine rtake 2 ?_
      refine rtake 3 ?_
      refine rtake 4 ?_
      refine rtake 5 ?_
      refine rtake 6 ?_
      refine rtake 7 ?_
      refine rtake 8 ?_
      refine rtake 9 ?_
      refine rtake 10 ?_
      refine rtake 11 ?_
      refine rtake 12 ?_
      refine rtake 13 ?_
      refine rtake 14 ?_
      refine rtake 15 ?_
      refine wpAnyH_done (by kernel_rfl) ?_ _
      refine NoPanic.normal ?_
      have r3 := keep_drew r2
      have F3 := F2.drew
      clear r2 F2
      generalize W2.drew = W3 at *
      go_wp2_with fail
      go_ret
      have hB3 : Bs W3 (cutA a c p 1) (c - p) ((bs.drop p).take n) := hbb.out.frx F3 fun hne k hk e => by
        rw [cutA_blk] at hk
        refine H.out.ne (fun e' => hne ?_) k hk e
        rw [e']
        simp
      refine ⟨_, n, _, rfl, rfl, hB3, CuPost.of H.out (p := t) (bad := false) F3 ?_ ?_ ?_, by intros; rename_i hk; rw [cutA_blk] at hk; exact hk⟩
      · rw [← HH.out.1]; exact r3
      · have := HH.out; omega
      · rw [HH.out.2.1]; rfl
    · have l1 : (d : Int) < (n : Int) := by omega
      have e : tk (n : Int) st = ([], none) := by rw [hs]; exact tk_short n _ (by rw [List.length_drop]; omega)
      rw [e]
      have HH := Lib.hid (And.intro hN (And.intro hd hp))
      clear hs hb hne e hN hd q hp
      go_enter Try.func31, Try.ntmps31
      go_upto_region 1 with fail
      refine wp_region_noPanic ?_
      refine wp_region_held_drew (S := (fun w' => w'.heap[g]? = some (.cells #[.slice a N c, .int .i64 (p : Int), .bool false] 85 (0, 0)))) (by kernel_rfl) ?_ (fun hHeld => ?_)
      · ((try dsimp only) <;> (first | exact hg | exact keep_drew hg))
      refine rtake 0 ?_
      refine rtake 1 ?_
      refine rtake 2 ?_
      refine rtake 3 ?_
      refine rtake 4 ?_
      refine rtake 5 ?_
      refine rtake 6 ?_
      refine rtake 7 ?_
      refine rtake 8 ?_
      refine rtake 9 ?_
      refine rtake 10 ?_
      refine rtake 11 ?_
      refine rtake 12 ?_
      refine rtake 13 ?_
      refine rtake 14 ?_
      refine rtake 15 ?_
      refine rtake 16 ?_
      refine rtake 17 ?_
      refine wpAnyH_done (by kernel_rfl) ?_ _
      refine NoPanic.normal ?_
      have hgd := keep_drew hg
      have Fd := (Fr.refl F0 w).drew
      clear hg
      generalize w.drew = W at *
      go_wp2_with fail
      go_ret
      refine ⟨_, 0, 0, rfl, rfl, Bs.empty _ _, CuPost.of H.out (p := p) (bad := true) ?_ ?_ (by have := HH.out; omega) rfl, fun e => absurd rfl e⟩
      · exact (((Fd.of0 (T := fun k => k = g)).setCell (p := ⟨g, 2, none⟩) (fun _ => rfl) _).alloc _)
      · rw [← HH.out.1]
        refine keep_alloc ?_
        rw [heap_setCell_at, hgd]
        rfl
set_option maxRecDepth 100000 in
set_option maxHeartbeats 8000000 in
theorem r9Count_any (w : World) (g c most : Nat) (a : Option Addr) (bs : List UInt8) (st : Option (List UInt8)) (h : IsCu w g a c bs st) (hm : most ≤ 1000000) (hl : bs.length ≤ 1000000) :
    Calls Try.prog 32 #[.pointer (some ⟨g, 0, none⟩), .int .u64 (most : Int)] w fun e w' => e = .returned (.int .i64 ((rc most st).1 : Int)) ∧ CuPost w g a c bs (rc most st).2 w' := by
  have H := Lib.hid h
  rw [rc_mcnt]
  obtain ⟨⟨p, bad, hg, hp, hs⟩, hb, hne⟩ := h
  obtain ⟨N, hN⟩ : ∃ N, N = bs.length := ⟨_, rfl⟩
  rw [← hN] at hg hp hl
  have hroom := hb.room
  rw [← hN] at hroom
  cases bad with
  | true =>
    have e : mcnt most st = (0, none) := by rw [hs]; rfl
    rw [e]
    replace hN := Lib.hid hN
    clear hs hb hne e
    go_enter Try.func32, Try.ntmps32
    go_wp2_with fail
    go_ret
    exact ⟨rfl, CuPost.of H.out (p := p) (bad := true) (Fr.refl _ _) (by rw [← hN.out]; exact hg) (by have := hN.out; omega) rfl⟩
  | false =>
    replace hs : st = some (bs.drop p) := hs
    have e : mcnt most st = if (rrc (bs.drop p)).2.2 = true ∧ (rrc (bs.drop p)).1 ≤ most then ((rrc (bs.drop p)).1, some ((bs.drop p).drop (rrc (bs.drop p)).2.1)) else (0, none) := by rw [hs]; rfl
    rw [e]
    have hdl : N - p = (bs.drop p).length := by rw [List.length_drop, hN]
    have HR := Lib.hid (fun W hW => refReadCount_any (cutA a c p 1) (N - p) (c - p) (bs.drop p) W hW hdl)
    have l2 : (0 : Int) ≤ (p : Int) := by omega
    have l3 : (p : Int) ≤ (N : Int) := by omega
    have hbd := Lib.hid (hb.drop p (by omega))
    have hD : ∀ k, (bs.drop p).drop k = bs.drop (p + k) := fun k => List.drop_drop
    have hsz : (rrc (bs.drop p)).2.2 = true → (rrc (bs.drop p)).2.1 ≤ N - p := by
      intro h
      have := rrc_size9 _ h
      omega
    have hlt9 := rrc_lt9 (bs.drop p)
    obtain ⟨x, hx⟩ : ∃ x, x = (rrc (bs.drop p)).1 := ⟨_, rfl⟩
    obtain ⟨s, hs'⟩ : ∃ s, s = (rrc (bs.drop p)).2.1 := ⟨_, rfl⟩
    obtain ⟨o, ho⟩ : ∃ o, o = (rrc (bs.drop p)).2.2 := ⟨_, rfl⟩
    rw [← hx, ← hs', ← ho] at HR ⊢
    rw [← hs', ← ho] at hsz
    rw [← hx] at hlt9
    have HH := Lib.hid (And.intro hN hp)
    clear hs hb hne e hN hx hs' ho hdl
    by_cases q : o = true ∧ x ≤ most
    · obtain ⟨rfl, qx⟩ := q
      rw [if_pos ⟨rfl, qx⟩]
      dsimp only
      have hs2 := hsz rfl
      have l4 : ¬ (most : Int) < (x : Int) := by omega
      have ew : IntKind.i64.wrap (x : Int) = (x : Int) := by rw [IntWalk.i64_in _ (by omega)]
      obtain ⟨t, ht⟩ : ∃ t, t = p + s := ⟨_, rfl⟩
      have e2 : IntKind.i64.wrap ((p : Int) + (s : Int)) = (t : Int) := by rw [IntWalk.i64_in _ (by omega)]; omega
      have HT := Lib.hid (And.intro ht hs2)
      clear ht hs2 hsz hp
      go_enter Try.func32, Try.ntmps32
      go_upto_region 3 with fail
      refine wp_region_noPanic ?_
      refine wp_region_held_drew (S := (fun w' => w'.heap[g]? = some (.cells #[.slice a N c, .int .i64 (p : Int), .bool false] 85 (0, 0)))) (by kernel_rfl) ?_ (fun hHeld => ?_)
      · ((try dsimp only) <;> (first | exact hg | exact keep_drew hg | exact keep_fr f (keep_drew hg)))
      refine rtake 0 ?_
      refine rtake 1 ?_
      refine rtake 2 ?_
      refine rtake 3 ?_
      refine rtake 4 ?_
      refine rtake 5 ?_
      refine rtake 6 ?_
      refine rtake 7 ?_
      refine rtake 8 ?_
      refine wpAnyH_ready (rs := [9]) (by kernel_rfl) (by simp) ?_
      refine AllReadyH.cons (o := ⟨_, _, _, _, _, _⟩) rfl (fun K hK => ?_) AllReadyH.nil
      go_simp
      ((with_reducible refine (HR.out _ (Bs.fr7 hbd.out (Fr.refl F0 _).drew)).mono ?_); rintro e w2 ⟨rfl, f⟩)
      refine hK.out _ _ ?_ (fun hHeld => ?_)
      · ((try dsimp only) <;> (first | exact hg | exact keep_drew hg | exact keep_fr f (keep_drew hg)))
      clear hK K
      try (simp only [Act.put, List.setIfInBounds_toArray]; dsimp only [List.set_cons_zero, List.set_cons_succ])
      refine rtake 10 ?_
      refine rtake 11 ?_
      refine rtake 12 ?_
      refine rtake 13 ?_
      refine rtake 14 ?_
      refine rtake 15 ?_
      refine rtake 16 ?_
      refine wpAnyH_done (by kernel_rfl) ?_ _
      refine NoPanic.normal ?_
      have hgd := keep_fr f (keep_drew hg)
      have Fd := ((Fr.refl F0 w).drew).trans' f
      clear hg f
      go_upto_region 8 with fail
      refine wp_cell hgd fun W2 r2 f2 => ?_
      have F2 : Fr (fun k => k = g) w W2 := Fd.of0.trans' f2
      replace r2 : W2.heap[g]? = some (.cells #[.slice a N c, .int .i64 (t : Int), .bool false] 85 (0, 0)) := r2
      clear hgd Fd f2
      go_wp2_with fail
      go_ret
      refine ⟨rfl, CuPost.of H.out (p := t) (bad := false) F2 (by rw [← HH.out.1]; exact r2) (by have := HH.out; have := HT.out; omega) ?_⟩
      rw [HT.out.1]
      rfl
    · rw [if_neg q]
      have hbad : ∀ (W : World), W.heap[g]? = some (.cells #[.slice a N c, .int .i64 (p : Int), .bool false] 85 (0, 0)) → Fr F0 w W → CuPost w g a c bs none (W.setCell ⟨g, 2, none⟩ (.bool true)) := fun W hW f =>
        CuPost.of H.out (p := p) (bad := true) ((f.of0 (T := fun k => k = g)).setCell (p := ⟨g, 2, none⟩) (fun _ => rfl) _) (by rw [← HH.out.1, heap_setCell_at, hW]; rfl) (by have := HH.out; omega) rfl
      have HB := Lib.hid hbad
      clear hbad hsz hp
      cases o with
      | false =>
        clear q
        go_enter Try.func32, Try.ntmps32
        go_upto_region 3 with fail
        refine wp_region_noPanic ?_
        refine wp_region_held_drew (S := (fun w' => w'.heap[g]? = some (.cells #[.slice a N c, .int .i64 (p : Int), .bool false] 85 (0, 0)))) (by kernel_rfl) ?_ (fun hHeld => ?_)
        · ((try dsimp only) <;> (first | exact hg | exact keep_drew hg | exact keep_fr f (keep_drew hg)))
        refine rtake 0 ?_
        refine rtake 1 ?_
        refine rtake 2 ?_
        refine rtake 3 ?_
        refine rtake 4 ?_
        refine rtake 5 ?_
        refine rtake 6 ?_
        refine rtake 7 ?_
        refine rtake 8 ?_
        refine wpAnyH_ready (rs := [9]) (by kernel_rfl) (by simp) ?_
        refine AllReadyH.cons (o := ⟨_, _, _, _, _, _⟩) rfl (fun K hK => ?_) AllReadyH.nil
        go_simp
        ((with_reducible refine (HR.out _ (Bs.fr7 hbd.out (Fr.refl F0 _).drew)).mono ?_); rintro e w2 ⟨rfl, f⟩)
        refine hK.out _ _ ?_ (fun hHeld => ?_)
        · ((try dsimp only) <;> (first | exact hg | exact keep_drew hg | exact keep_fr f (keep_drew hg)))
        clear hK K
        try (simp only [Act.put, List.setIfInBounds_toArray]; dsimp only [List.set_cons_zero, List.set_cons_succ])
        refine rtake 10 ?_
        refine rtake 11 ?_
        refine rtake 12 ?_
        refine rtake 13 ?_
        refine rtake 14 ?_
        refine rtake 15 ?_
        refine rtake 16 ?_
        refine wpAnyH_done (by kernel_rfl) ?_ _
        refine NoPanic.normal ?_
        have hgd := keep_fr f (keep_drew hg)
        have Fd := ((Fr.refl F0 w).drew).trans' f
        clear hg f
        go_wp2_with fail
        go_ret
        exact ⟨rfl, HB.out _ hgd Fd⟩
      | true =>
        have l4 : (most : Int) < (x : Int) := by
          have : ¬ x ≤ most := fun h => q ⟨rfl, h⟩
          omega
        clear q
        go_enter Try.func32, Try.ntmps32
        go_upto_region 3 with fail
        refine wp_region_noPanic ?_
        refine wp_region_held_drew (S := (fun w' => w'.heap[g]? = some (.cells #[.slice a N c, .int .i64 (p : Int), .bool false] 85 (0, 0)))) (by kernel_rfl) ?_ (fun hHeld => ?_)
        · ((try dsimp only) <;> (first | exact hg | exact keep_drew hg | exact keep_fr f (keep_drew hg)))
        refine rtake 0 ?_
        refine rtake 1 ?_
        refine rtake 2 ?_
        refine rtake 3 ?_
        refine rtake 4 ?_
        refine rtake 5 ?_
        refine rtake 6 ?_
        refine rtake 7 ?_
        refine rtake 8 ?_
        refine wpAnyH_ready (rs := [9]) (by kernel_rfl) (by simp) ?_
        refine AllReadyH.cons (o := ⟨_, _, _, _, _, _⟩) rfl (fun K hK => ?_) AllReadyH.nil
        go_simp
        ((with_reducible refine (HR.out _ (Bs.fr7 hbd.out (Fr.refl F0 _).drew)).mono ?_); rintro e w2 ⟨rfl, f⟩)
        refine hK.out _ _ ?_ (fun hHeld => ?_)
        · ((try dsimp only) <;> (first | exact hg | exact keep_drew hg | exact keep_fr f (keep_drew hg)))
        clear hK K
        try (simp only [Act.put, List.setIfInBounds_toArray]; dsimp only [List.set_cons_zero, List.set_cons_succ])
        refine rtake 10 ?_
        refine rtake 11 ?_
        refine rtake 12 ?_
        refine rtake 13 ?_
        refine rtake 14 ?_
        refine rtake 15 ?_
        refine rtake 16 ?_
        refine wpAnyH_done (by kernel_rfl) ?_ _
        refine NoPanic.normal ?_
        have hgd := keep_fr f (keep_drew hg)
        have Fd := ((Fr.refl F0 w).drew).trans' f
        clear hg f
        go_wp2_with fail
        go_ret
        exact ⟨rfl, HB.out _ hgd Fd⟩

/-! ### steps, as the walk of Parse takes them -/
theorem IsCu.step {w w' : World} {g c B : Nat} {S : Nat → Prop} {a : Option Addr} {bs : List UInt8} {st : Option (List UInt8)} (h : IsCu w g a c bs st) (f : Fr S w w') (hS : ∀ k, S k → B ≤ k ∧ k ≠ g) (hlow : bs ≠ [] → ∀ k, ablk a = some k → k < B) : IsCu w' g a c bs st :=
  h.frS f (fun e => (hS g e).2 rfl) fun hn k hk e => by have := (hS k e).1; have := hlow hn k hk; omega
/-- What take answers. -/
def TakeQ (w : World) (g c : Nat) (a : Option Addr) (bs : List UInt8) (r : List UInt8 × Option (List UInt8)) (e : Ending) (w' : World) : Prop :=
  ∃ a2 n2 c2, e = .returned (.slice a2 n2 c2) ∧ n2 = r.1.length ∧ Bs w' a2 c2 r.1 ∧ CuPost w g a c bs r.2 w' ∧ (r.1 ≠ [] → ∀ k, ablk a2 = some k → ablk a = some k)
theorem take4 (w : World) (g c : Nat) (a : Option Addr) (bs : List UInt8) (st : Option (List UInt8)) (h : IsCu w g a c bs st) (hl : bs.length ≤ 1000000) : Calls Try.prog 31 #[.pointer (some ⟨g, 0, none⟩), .int .i64 4] w (TakeQ w g c a bs (tk 4 st)) := r9Take_any w g c 4 a bs st h (by omega) hl
theorem take8 (w : World) (g c : Nat) (a : Option Addr) (bs : List UInt8) (st : Option (List UInt8)) (h : IsCu w g a c bs st) (hl : bs.length ≤ 1000000) : Calls Try.prog 31 #[.pointer (some ⟨g, 0, none⟩), .int .i64 8] w (TakeQ w g c a bs (tk 8 st)) := r9Take_any w g c 8 a bs st h (by omega) hl
theorem take32 (w : World) (g c : Nat) (a : Option Addr) (bs : List UInt8) (st : Option (List UInt8)) (h : IsCu w g a c bs st) (hl : bs.length ≤ 1000000) : Calls Try.prog 31 #[.pointer (some ⟨g, 0, none⟩), .int .i64 32] w (TakeQ w g c a bs (tk 32 st)) := r9Take_any w g c 32 a bs st h (by omega) hl
theorem takeN (w : World) (g c n : Nat) (a : Option Addr) (bs : List UInt8) (st : Option (List UInt8)) (h : IsCu w g a c bs st) (hn : n ≤ 1000000) (hl : bs.length ≤ 1000000) : Calls Try.prog 31 #[.pointer (some ⟨g, 0, none⟩), .int .i64 (n : Int)] w (TakeQ w g c a bs (tk (n : Int) st)) := r9Take_any w g c n a bs st h hn hl
theorem count64 (w : World) (g c : Nat) (a : Option Addr) (bs : List UInt8) (st : Option (List UInt8)) (h : IsCu w g a c bs st) (hl : bs.length ≤ 1000000) : Calls Try.prog 32 #[.pointer (some ⟨g, 0, none⟩), .int .u64 64] w fun e w' => e = .returned (.int .i64 ((rc 64 st).1 : Int)) ∧ CuPost w g a c bs (rc 64 st).2 w' := r9Count_any w g c 64 a bs st h (by omega) hl
theorem count520 (w : World) (g c : Nat) (a : Option Addr) (bs : List UInt8) (st : Option (List UInt8)) (h : IsCu w g a c bs st) (hl : bs.length ≤ 1000000) : Calls Try.prog 32 #[.pointer (some ⟨g, 0, none⟩), .int .u64 520] w fun e w' => e = .returned (.int .i64 ((rc 520 st).1 : Int)) ∧ CuPost w g a c bs (rc 520 st).2 w' := r9Count_any w g c 520 a bs st h (by omega) hl
theorem rowR_32 {fr : List UInt8} (h : fr.length = 32) (a b c : Value) : (rowR fr a b c)[32]? = some a := by simp [rowR, h]
theorem rowR_33 {fr : List UInt8} (h : fr.length = 32) (a b c : Value) : (rowR fr a b c)[33]? = some b := by simp [rowR, h]
theorem rowR_34 {fr : List UInt8} (h : fr.length = 32) (a b c : Value) : (rowR fr a b c)[34]? = some c := by simp [rowR, h]
theorem rowR_s32 {fr : List UInt8} (h : fr.length = 32) (a b c v : Value) : (rowR fr a b c).setIfInBounds 32 v = rowR fr v b c := by
  simp only [rowR, List.setIfInBounds_toArray]; rw [List.set_append_right _ _ (by simp [h])]; simp [h]
theorem rowR_s33 {fr : List UInt8} (h : fr.length = 32) (a b c v : Value) : (rowR fr a b c).setIfInBounds 33 v = rowR fr a v c := by
  simp only [rowR, List.setIfInBounds_toArray]; rw [List.set_append_right _ _ (by simp [h])]; simp [h]
theorem rowR_s34 {fr : List UInt8} (h : fr.length = 32) (a b c v : Value) : (rowR fr a b c).setIfInBounds 34 v = rowR fr a b v := by
  simp only [rowR, List.setIfInBounds_toArray]; rw [List.set_append_right _ _ (by simp [h])]; simp [h]
theorem rowR_sj {fr : List UInt8} (j : Nat) (hj : j < fr.length) (a b c : Value) (y : UInt8) : (rowR fr a b c).setIfInBounds j (.int .u8 (y.toNat : Int)) = rowR (fr.set j y) a b c := by
  simp only [rowR, List.setIfInBounds_toArray]; rw [List.set_append_left _ _ (by simpa using hj), List.map_set]; rfl
theorem rowR_get {fr : List UInt8} (h : fr.length = 32) (j : Nat) (hj : j < 32) (a b c : Value) : ∃ v, (rowR fr a b c)[j]? = some v := ⟨_, Array.getElem?_eq_getElem (by rw [rowR_size h]; omega)⟩
/-- How far an input's hash was filled. -/
def filled (F : List UInt8) (j : Nat) : List UInt8 := F.take j ++ zero32.drop j
theorem filled_length {F : List UInt8} (hF : F = [] ∨ F.length = 32) (j : Nat) (hj : j ≤ F.length) : (filled F j).length = 32 := by
  have : zero32.length = 32 := rfl
  rcases hF with rfl | h
  · simp at hj; subst hj; rfl
  · simp [filled, this, h]; omega
theorem filled_succ {F : List UInt8} (hF : F.length = 32) (j : Nat) (hj : j < 32) : (filled F j).set j (F.getD j 0) = filled F (j + 1) := by
  have hz : zero32.length = 32 := rfl
  have hl : (F.take j).length = j := by simp; omega
  rw [filled, List.set_append_right _ _ (by omega), hl, Nat.sub_self, filled, take_succ_getD F j (by omega), List.append_assoc]
  congr 1
  rw [List.drop_eq_getElem_cons (by omega : j < zero32.length)]
  rfl
theorem filled_all {F : List UInt8} (hF : F = [] ∨ F.length = 32) : filled F F.length = fr32 F := by
  rcases hF with rfl | h
  · rfl
  · rw [filled, h, List.take_of_length_le (by omega), fr32, if_pos h]
    have : zero32.drop 32 = [] := rfl
    rw [this, List.append_nil]
theorem rMany_stuck {α : Type} (f : Option (List UInt8) → α × Option (List UInt8)) (hf : (f none).2 = none) (st : Option (List UInt8)) (k : Nat) (h : (rMany f k st).2 = none) : ∀ n, k ≤ n → (rMany f n st).2 = none := by
  intro n hn
  induction n with
  | zero => obtain rfl : k = 0 := by omega
            exact h
  | succ n ih =>
    by_cases e : k = n + 1
    · subst e; exact h
    · rw [rMany_succ]
      dsimp only
      rw [ih (by omega), hf]
end Go.Proofs.Ytaobgaoldfeehaa

/- Layer 9 (tx): the law's Few and Ref. -/
namespace Go.Proofs.Ytaobgaoldfeehaa
set_option linter.unusedVariables false
set_option linter.unusedSimpArgs false
open Go.RowKit

theorem MT.small_any (t : TT) : t.m.small = (decide (t.ins.length ≤ 70) && (decide (t.outs.length ≤ 70) && (t.ins.all (fun t => decide (t.m.ky.length ≤ 600)) && t.outs.all (fun t => decide (t.m.lk.length ≤ 600))))) := by
  rw [Bool.eq_iff_iff, MT.small, decide_eq_true_iff]
  simp [TT.m]
set_option maxRecDepth 100000 in
set_option maxHeartbeats 8000000 in
theorem Few09_any (t : TT) (w : World) (h : t.Ok w) : Calls Try.prog 12 #[.agg t.cells] w fun e w' => e = .returned (.bool t.m.small) ∧ Fr F0 w w' := by
  rw [MT.small_any]
  obtain ⟨hv, ht, hi, ho⟩ := h
  have m1 := hi.most
  have m2 := ho.most
  clear hv ht
  obtain ⟨vr, ia, ic, ins, oa, oc, outs, lt⟩ := t
  simp only [TT.cells] at *
  have HI := Lib.hid hi
  have HO := Lib.hid ho
  have rI := hi.sl.room
  have rO := ho.sl.room
  clear hi ho
  obtain ⟨n, hn⟩ : ∃ n, n = ins.length := ⟨_, rfl⟩
  obtain ⟨m, hm⟩ : ∃ n, n = outs.length := ⟨_, rfl⟩
  rw [← hn] at m1 rI ⊢
  rw [← hm] at m2 rO ⊢
  replace hn := Lib.hid hn
  replace hm := Lib.hid hm
  have F := (Fr.refl F0 w).alloc (.cells #[.int .u32 (vr : Int), .slice ia n ic, .slice oa m oc, .int .u32 (lt : Int)] 28)
  by_cases q1 : 70 < n
  · have l1 : (70 : Int) < (n : Int) := by omega
    go_enter Try.func12, Try.ntmps12
    go_wp2
    go_ret
    exact ⟨by rw [decide_eq_false (by omega : ¬ n ≤ 70)]; rfl, F⟩
  have l1 : ¬ (70 : Int) < (n : Int) := by omega
  by_cases q2 : 70 < m
  · have l2 : (70 : Int) < (m : Int) := by omega
    go_enter Try.func12, Try.ntmps12
    go_wp2
    go_ret
    exact ⟨by rw [decide_eq_false (by omega : ¬ m ≤ 70)]; simp, F⟩
  have l2 : ¬ (70 : Int) < (m : Int) := by omega
  rw [decide_eq_true (by omega : n ≤ 70), decide_eq_true (by omega : m ≤ 70), Bool.true_and, Bool.true_and]
  have r0 := heap_alloc_new w (.cells #[.int .u32 (vr : Int), .slice ia n ic, .slice oa m oc, .int .u32 (lt : Int)] 28)
  go_enter Try.func12, Try.ntmps12
  go_wp2_with fail
  go_loopw [20] (fun iv wr => ∃ k : Nat, k ≤ n ∧ iv = .int .i64 k ∧ Hid ((ins.take k).all (fun t => decide (t.m.ky.length ≤ 600)) = true) ∧ wr.heap[w.heap.size]? = some (.cells #[.int .u32 (vr : Int), .slice ia n ic, .slice oa m oc, .int .u32 (lt : Int)] 28 (0, 0)) ∧ Fr F0 w wr) (fun iv _ => n - (intOf iv).toNat)
  case atStart => exact ⟨0, Nat.zero_le _, rfl, by simp [Hid], r0, F⟩
  case round =>
    obtain ⟨k, hk, rfl, HK, hb, hf⟩ := hrel
    clear r0 F
    by_cases hkn : k < n
    · have hkl : k < ins.length := by have := hn.out; omega
      obtain ⟨hok, bb, off, rfl, hc⟩ := (HI.out.fr hf).get k hkl
      have hl := load_in (w := wr) (b := bb) (o := off + k * 35) hok.m hc
      have K := TI.cellsOf hok.m
      obtain ⟨t, ht⟩ : ∃ t, t = ins[k] := ⟨_, rfl⟩
      rw [← ht] at hl K
      have sz := K.size
      have o1 := K.one
      have c33 := K.c33
      clear hc hok K
      replace ht := Lib.hid ht
      generalize hX : t.row.toArray = X at *
      obtain ⟨kn, hkn2⟩ : ∃ n, n = t.m.ky.length := ⟨_, rfl⟩
      rw [← hkn2] at c33
      have d33 := cell_is c33 (by omega)
      have l3 : (k : Int) < (n : Int) := by omega
      go_upto_region 6 with fail
      refine wp_put fun W4 N4 => ?_
      have r5 := N4.new
      replace hb := N4.old hb
      replace hf := hf.trans' N4.fr
      clear N4 hl
      by_cases q3 : 600 < kn
      · have l4 : (600 : Int) < (kn : Int) := by omega
        go_wp2
        go_ret
        refine ⟨?_, hf⟩
        have : (ins.all fun t => decide (t.m.ky.length ≤ 600)) = false := by
          rw [List.all_eq_false]
          exact ⟨t, by rw [ht.out]; exact List.getElem_mem hkl, by simp; omega⟩
        rw [this]
        rfl
      · have l4 : ¬ (600 : Int) < (kn : Int) := by omega
        go_wp2
        go_roundw
        case rel =>
          refine ⟨k + 1, by omega, by go_num, ?_, hb, hf⟩
          rw [Hid, List.take_succ_eq_append_getElem hkl, List.all_append, HK.out, ← ht.out]
          simp
          omega
        case measure => simp [intOf]; omega
    · obtain rfl : k = n := by omega
      have HK2 := HK.out
      rw [hn.out, List.take_length] at HK2
      replace HK2 := Lib.hid HK2
      go_wp2_with fail
      go_loopw [32] (fun iv wr => ∃ j : Nat, j ≤ m ∧ iv = .int .i64 j ∧ Hid ((outs.take j).all (fun t => decide (t.m.lk.length ≤ 600)) = true) ∧ Fr F0 w wr) (fun iv _ => m - (intOf iv).toNat)
      case atStart => exact ⟨0, Nat.zero_le _, rfl, by simp [Hid], hf⟩
      case round =>
        obtain ⟨j, hj, rfl, HJ, hf⟩ := hrel
        clear hb
        by_cases hjm : j < m
        · have hjl : j < outs.length := by have := hm.out; omega
          obtain ⟨hok, bb, off, rfl, hc⟩ := (HO.out.fr hf).get j hjl
          have hl := load_out (w := wr) (b := bb) (o := off + j * 2) hc
          obtain ⟨t, ht⟩ : ∃ t, t = outs[j] := ⟨_, rfl⟩
          rw [← ht] at hl
          clear hc hok
          obtain ⟨⟨py, lk⟩, xa, xc⟩ := t
          simp only [TO.row] at hl
          obtain ⟨kn, hkn2⟩ : ∃ n, n = lk.length := ⟨_, rfl⟩
          rw [← hkn2] at hl
          replace hkn2 := Lib.hid hkn2
          have o2 := row2_one (py : Int) xa kn xc
          replace ht := Lib.hid ht
          have l3 : (j : Int) < (m : Int) := by omega
          go_upto_region 12 with fail
          first | refine wp_new fun W4 N4 => ?_ | refine wp_put fun W4 N4 => ?_
          have r5 := N4.new
          replace hf := hf.trans' N4.fr
          clear N4 hl
          by_cases q3 : 600 < kn
          · have l4 : (600 : Int) < (kn : Int) := by omega
            go_wp2
            go_ret
            refine ⟨?_, hf⟩
            have : (outs.all fun t => decide (t.m.lk.length ≤ 600)) = false := by
              rw [List.all_eq_false]
              exact ⟨⟨⟨py, lk⟩, xa, xc⟩, by rw [ht.out]; exact List.getElem_mem hjl, by have := hkn2.out; simp; omega⟩
            rw [this, Bool.and_false]
            rfl
          · have l4 : ¬ (600 : Int) < (kn : Int) := by omega
            go_wp2
            go_roundw
            case rel =>
              refine ⟨j + 1, by omega, by go_num, ?_, hf⟩
              rw [Hid, List.take_succ_eq_append_getElem hjl, List.all_append, HJ.out, ← ht.out]
              have := hkn2.out
              simp
              omega
            case measure => simp [intOf]; omega
        · obtain rfl : j = m := by omega
          have HJ2 := HJ.out
          rw [hm.out, List.take_length] at HJ2
          replace HJ2 := Lib.hid HJ2
          go_wp2
          go_ret
          exact ⟨by rw [HK2.out, HJ2.out]; rfl, hf⟩

theorem load_hash0 {w : World} {g : Nat} {t : TI} {C : Array Value} {ty : TypeId} (K : InC t C) (h : t.m.Ok) (hg : w.heap[g]? = some (.cells C ty (0, 0))) : (loadRowAt 66 (.pointer (some ⟨g, 0, none⟩))).run Try.prog w = .ok (.agg (t.m.fr.map B8).toArray) w := by
  have := run_loadAt_mid (P := Try.prog) w g 0 66 (t.m.fr.map B8) _ (fun j v hj => by
    rw [Nat.zero_add, cell_at, hg, cellAt_cells]
    have hj' : (C.extract 0 32)[j]? = some v := by rw [K.x0]; simpa using hj
    rw [Array.getElem?_extract] at hj'
    split at hj'
    · simpa using hj'
    · cases hj') Try.underlying66 rfl (by
      have : (Try.prog.info? 66).map (·.size) = some 32 := by kernel_rfl
      rw [this]; simp [h.fr])
  exact this
@[go_sem ↓ high] theorem load_hash9 (p : Value) : Instr.loadAt 66 p = loadRowAt 66 p := rfl

theorem Try.szRTx : (Try.prog.info? 37).map (·.size) = some 4 := by kernel_rfl
set_option maxRecDepth 100000 in
set_option maxHeartbeats 16000000 in
theorem Ref09_any (t : TT) (w : World) (h : t.Ok w) (hsm : t.ins.length ≤ 70 ∧ t.outs.length ≤ 70) : Calls Try.prog 8 #[.agg t.cells] w fun e w' => ∃ r : RT, e = .returned (.agg r.cells) ∧ r.m = t.m ∧ r.Ok w' ∧ Fr F0 w w' := by
  obtain ⟨hv, ht, hi, ho⟩ := h
  have m1 := hi.most
  have m2 := ho.most
  obtain ⟨vr, ia, ic, ins, oa, oc, outs, lt⟩ := t
  simp only [TT.cells, TT.m] at *
  have HI := Lib.hid hi
  have HO := Lib.hid ho
  have rI := hi.sl.room
  have rO := ho.sl.room
  clear hi ho
  obtain ⟨n, hn⟩ : ∃ n, n = ins.length := ⟨_, rfl⟩
  obtain ⟨m, hm⟩ : ∃ n, n = outs.length := ⟨_, rfl⟩
  rw [← hn] at m1 rI hsm ⊢
  rw [← hm] at m2 rO hsm ⊢
  replace hn := Lib.hid hn
  replace hm := Lib.hid hm
  have F := (Fr.refl F0 w).alloc (.cells #[.int .u32 (vr : Int), .slice ia n ic, .slice oa m oc, .int .u32 (lt : Int)] 28)
  have r0 := heap_alloc_new w (.cells #[.int .u32 (vr : Int), .slice ia n ic, .slice oa m oc, .int .u32 (lt : Int)] 28)
  go_enter Try.func8, Try.ntmps8
  go_upto_region 1 with fail
  refine wp_new fun W1 N1 => ?_
  have r2 := N1.new
  replace r0 := N1.old r0
  replace F := F.trans' N1.fr
  have ne0 := N1.ne (heap_alloc_new w (.cells #[.int .u32 (vr : Int), .slice ia n ic, .slice oa m oc, .int .u32 (lt : Int)] 28))
  clear N1
  rw [World.size_alloc] at r2 ne0
  obtain ⟨g2, hg2⟩ : ∃ g, g = w.heap.size + 1 := ⟨_, rfl⟩
  obtain ⟨b0, hb0⟩ : ∃ g, g = w.heap.size := ⟨_, rfl⟩
  rw [← hg2] at r2 ne0 ⊢
  rw [← hb0] at r0 ne0 ⊢
  have hs2 : w.heap.size ≤ g2 := by omega
  have hs0 : w.heap.size ≤ b0 := by omega
  clear hg2 hb0
  go_upto_region 2 with fail
  refine wp_new fun W2 N2 => ?_
  have r3 := N2.new
  have ne2 := N2.ne r2
  have ne03 := N2.ne r0
  replace r0 := N2.old r0
  replace r2 := N2.old r2
  have hs3 : w.heap.size ≤ W1.heap.size := F.size
  replace F := F.trans' N2.fr
  clear N2
  obtain ⟨g3, hg3⟩ : ∃ g, g = W1.heap.size := ⟨_, rfl⟩
  rw [← hg3] at r3 ne2 ne03 hs3 ⊢
  clear hg3
  obtain ⟨B4, hB4⟩ : ∃ x, x = W2.heap.size := ⟨_, rfl⟩
  have hG := Lib.hid (show g3 < B4 ∧ g2 < B4 ∧ b0 < B4 ∧ w.heap.size ≤ g3 ∧ w.heap.size ≤ g2 ∧ w.heap.size ≤ b0 ∧ w.heap.size ≤ B4 from ⟨by rw [hB4]; exact (Array.getElem?_eq_some_iff.1 r3).1, by rw [hB4]; exact (Array.getElem?_eq_some_iff.1 r2).1, by rw [hB4]; exact (Array.getElem?_eq_some_iff.1 r0).1, hs3, hs2, hs0, by rw [hB4]; exact F.size⟩)
  have hz0 := Lib.hid (Nat.le_of_eq hB4)
  clear hs3 hs2 hs0 hB4
  go_wp2_with fail
  go_loopw [18] (fun iv wr => ∃ (k : Nat) (vi : Value), k ≤ n ∧ iv = .int .i64 (k : Int) ∧ Hid (OwnRIns B4 wr vi ((ins.take k).map TI.m)) ∧ wr.heap[g3]? = some (.cells #[.int .u64 (vr : Int), .int .u64 (lt : Int), vi, .slice none 0 0] 37 (0, 0)) ∧
    wr.heap[g2]? = some (.cells #[.int .u64 0, .int .u64 0, .slice none 0 0, .slice none 0 0] 37 (0, 0)) ∧ wr.heap[b0]? = some (.cells #[.int .u32 (vr : Int), .slice ia n ic, .slice oa m oc, .int .u32 (lt : Int)] 28 (0, 0)) ∧ Fr F0 w wr ∧ Hid (B4 ≤ wr.heap.size)) (fun iv _ => n - (intOf iv).toNat)
  case atStart => exact ⟨0, _, Nat.zero_le _, rfl, OwnRIns.nil _ _, r3, r2, r0, F, hz0.out⟩
  case round =>
    obtain ⟨k, vi, hk, rfl, HV, q3, q2, q0, hF, hz⟩ := hrel
    clear r3 r2 r0 F
    by_cases hkn : k < n
    · have hkl : k < ins.length := by have := hn.out; omega
      obtain ⟨hok, bb, off, rfl, hc⟩ := (HI.out.fr hF).get k hkl
      have hl := load_in (w := wr) (b := bb) (o := off + k * 35) hok.m hc
      have hT := Lib.hid (take_map TI.m ins k hkl)
      have hlen : ((ins.take k).map TI.m).length = k := by rw [List.length_map, List.length_take]; omega
      obtain ⟨t, ht⟩ : ∃ t, t = ins[k] := ⟨_, rfl⟩
      rw [← ht] at hl hok hT
      have K := TI.cellsOf hok.m
      have sz := K.size
      have o1 := K.one
      have c32 := K.c32
      have c33 := K.c33
      have c34 := K.c34
      have hix := hok.m.ix
      have hsq := hok.m.sq
      have HK := Lib.hid (fun (X : Array Value) (e : X = t.row.toArray) (W : World) (g : Nat) (hg : W.heap[g]? = some (.cells X 68 (0, 0))) => load_hash0 (t := t) (C := X) (by rw [e]; exact K) hok.m hg)
      clear hc ht K
      obtain ⟨X, hX⟩ : ∃ X, X = t.row.toArray := ⟨_, rfl⟩
      rw [← hX] at hl sz o1 c32 c33 c34
      replace HK := Lib.hid (HK.out X hX)
      clear hX
      have d32 := cell_is c32 (by omega)
      have d33 := cell_is c33 (by omega)
      have d34 := cell_is c34 (by omega)
      obtain ⟨x, xa, xc⟩ := t
      dsimp only at c32 c33 c34 d32 d33 d34 hix hsq hok hT
      have hbr := fun w => run_buildRIn w #[(0, .agg (x.fr.map B8).toArray), (1, .int .u64 (x.ix : Int)), (2, .int .u64 (x.sq : Int)), (3, .string (strOf x.ky))] _ (built_rin x.fr hok.m.fr _ _ _)
      rw [← MI.row_eq] at hbr
      obtain ⟨kn, hkn2⟩ : ∃ n, n = x.ky.length := ⟨_, rfl⟩
      rw [← hkn2] at c33 d33
      replace hkn2 := Lib.hid hkn2
      have l3 : (k : Int) < (n : Int) := by omega
      go_upto_region 5 with fail
      refine wp_put fun W5 N5 => ?_
      have r5 := N5.new
      obtain ⟨g5, hg5⟩ : ∃ g, g = wr.heap.size := ⟨_, rfl⟩
      rw [← hg5] at r5 ⊢
      clear hg5
      replace q3 := N5.old q3
      replace q2 := N5.old q2
      replace q0 := N5.old q0
      have hz5 := Lib.hid (Nat.le_trans hz.out N5.fr.size)
      have hF5 := hF.trans' N5.fr
      have HV5 := HV.out.fr0 N5.fr
      have hlf := HK.out _ _ r5
      have hstr := bs_str7 (Bs.fr7 hok.b N5.fr) hkn2.out
      have hbs := run_buildRIns W5 x.row.toArray (MI.row_length hok.m)
      obtain ⟨a7, c7, w7, happ, O7, f7, s7, n7⟩ := HV5.app x hok.m (by have := hG.out; have := hz5.out; omega) (by have := hsm; rw [hlen]; omega) 34
      rw [hlen] at happ O7
      have q37 := f7.keeps (fun e => by have h1 := HV5.blk g3 e; have h2 := hG.out; omega) q3
      have q27 := f7.keeps (fun e => by have h1 := HV5.blk g2 e; have h2 := hG.out; omega) q2
      have q07 := f7.keeps (fun e => by have h1 := HV5.blk b0 e; have h2 := hG.out; omega) q0
      have F7 : Fr F0 w w7 := hF5.trans f7 (fun i hi e => by have h1 := HV5.blk i e; have h2 := hG.out; omega)
      have hz7 := Lib.hid (Nat.le_trans hz5.out (Nat.le_of_lt s7))
      dsimp only at hlf
      clear N5 hl HV5 f7 n7 hF q2 q0
      go_upto_region 6 with fail
      refine wp_cell q37 fun W8 r8 f8 => ?_
      have hGo := hG.out
      have q28 := f8.keeps (fun e => ne2 e) q27
      have q08 := f8.keeps (fun e => ne03 e) q07
      have F8 : Fr F0 w W8 := F7.trans f8 (fun i hi e => by omega)
      have O8 := Lib.hid (O7.fr f8 (fun i e => by omega))
      have hz8 := Lib.hid (Nat.le_trans hz7.out f8.size)
      clear hGo f8 q37 q27 q07 F7 O7 hz7 happ hbs hstr hlf hbr
      go_wp2_with fail
      go_roundw
      case rel => exact ⟨k + 1, _, by omega, by go_num, by rw [hT.out]; exact O8.out, r8, q28, q08, F8, hz8.out⟩
      case measure => simp [intOf]; omega
    · obtain rfl : k = n := by omega
      have eL : (ins.take k).map TI.m = ins.map TI.m := by rw [hn.out, List.take_length]
      rw [eL] at HV
      clear eL
      obtain ⟨B5, hB5⟩ : ∃ x, x = wr.heap.size := ⟨_, rfl⟩
      have hlo := Lib.hid (show ∀ i, vi.ownBlock = some i → i < B5 from by rw [hB5]; exact HV.out.lt)
      have hG5 := Lib.hid (show g3 < B5 ∧ g2 < B5 ∧ b0 < B5 ∧ w.heap.size ≤ g3 ∧ w.heap.size ≤ g2 ∧ w.heap.size ≤ b0 ∧ w.heap.size ≤ B5 ∧ B4 ≤ B5 from by have h1 := hG.out; have h2 := hz.out; omega)
      have hz5 := Lib.hid (Nat.le_of_eq hB5)
      clear hB5
      go_wp2_with fail
      go_loopw [43] (fun iv wr => ∃ (j : Nat) (vo : Value), j ≤ m ∧ iv = .int .i64 (j : Int) ∧ Hid (OwnRIns B4 wr vi (ins.map TI.m)) ∧ Hid (OwnROuts B5 wr vo ((outs.take j).map TO.m)) ∧ wr.heap[g3]? = some (.cells #[.int .u64 (vr : Int), .int .u64 (lt : Int), vi, vo] 37 (0, 0)) ∧
        wr.heap[g2]? = some (.cells #[.int .u64 0, .int .u64 0, .slice none 0 0, .slice none 0 0] 37 (0, 0)) ∧ Fr F0 w wr ∧ Hid (B5 ≤ wr.heap.size)) (fun iv _ => m - (intOf iv).toNat)
      case atStart => exact ⟨0, _, Nat.zero_le _, rfl, HV.out, OwnROuts.nil _ _, q3, q2, hF, hz5.out⟩
      case round =>
        obtain ⟨j, vo, hj, rfl, HV, HO2, q3, q2, hF, hz⟩ := hrel
        clear q0
        by_cases hjm : j < m
        · have hjl : j < outs.length := by have := hm.out; omega
          obtain ⟨hok, bb, off, rfl, hc⟩ := (HO.out.fr hF).get j hjl
          have hl := load_out (w := wr) (b := bb) (o := off + j * 2) hc
          have hT := Lib.hid (take_map TO.m outs j hjl)
          have hlen : ((outs.take j).map TO.m).length = j := by rw [List.length_map, List.length_take]; omega
          obtain ⟨t, ht⟩ : ∃ t, t = outs[j] := ⟨_, rfl⟩
          rw [← ht] at hl hok hT
          clear hc ht
          obtain ⟨⟨py, lk⟩, xa, xc⟩ := t
          simp only [TO.row] at hl
          dsimp only at hok hT
          have hpy := hok.m.py
          dsimp only at hpy
          obtain ⟨kn, hkn2⟩ : ∃ n, n = lk.length := ⟨_, rfl⟩
          rw [← hkn2] at hl
          replace hkn2 := Lib.hid hkn2
          have o2 := row2_one (py : Int) xa kn xc
          have l3 : (j : Int) < (m : Int) := by omega
          go_upto_region 10 with fail
          first | refine wp_new fun W5 N5 => ?_ | refine wp_put fun W5 N5 => ?_
          have r5 := N5.new
          obtain ⟨g5, hg5⟩ : ∃ g, g = wr.heap.size := ⟨_, rfl⟩
          rw [← hg5] at r5 ⊢
          clear hg5
          replace q3 := N5.old q3
          replace q2 := N5.old q2
          have hz5' := Lib.hid (Nat.le_trans hz.out N5.fr.size)
          have hF5 := hF.trans' N5.fr
          have HV5 := HV.out.fr0 N5.fr
          have HO5 := HO2.out.fr0 N5.fr
          have hstr := bs_str7 (Bs.fr7 hok.b N5.fr) hkn2.out
          have hbs := run_buildROuts W5 (MO.row ⟨py, lk⟩).toArray rfl
          obtain ⟨a7, c7, w7, happ, O7, f7, s7, n7⟩ := HO5.app ⟨py, lk⟩ hok.m (by have := hG5.out; have := hz5'.out; omega) (by have := hsm; rw [hlen]; omega) 35
          rw [hlen] at happ O7
          have q37 := f7.keeps (fun e => by have h1 := HO5.blk g3 e; have h2 := hG5.out; omega) q3
          have q27 := f7.keeps (fun e => by have h1 := HO5.blk g2 e; have h2 := hG5.out; omega) q2
          have F7 : Fr F0 w w7 := hF5.trans f7 (fun i hi e => by have h1 := HO5.blk i e; have h2 := hG5.out; omega)
          have V7 := HV5.frS f7 (fun i h1 h2 => by have := hlo.out i h1; have := HO5.blk i h2; omega)
          have hz7 := Lib.hid (Nat.le_trans hz5'.out (Nat.le_of_lt s7))
          simp only [MO.row] at hbs happ
          clear N5 hl HV5 HO5 f7 n7 hF q2
          go_upto_region 11 with fail
          refine wp_cell q37 fun W8 r8 f8 => ?_
          have hGo := hG5.out
          have q28 := f8.keeps (fun e => ne2 e) q27
          have F8 : Fr F0 w W8 := F7.trans f8 (fun i hi e => by omega)
          have O8 := Lib.hid (O7.fr f8 (fun i e => by omega))
          have V8 := Lib.hid (V7.fr f8 (fun i e => by have := hG.out; omega))
          have hz8 := Lib.hid (Nat.le_trans hz7.out f8.size)
          clear hGo f8 q37 q27 F7 O7 V7 hz7 happ hbs hstr
          go_wp2_with fail
          go_roundw
          case rel => exact ⟨j + 1, _, by omega, by go_num, V8.out, by rw [hT.out]; exact O8.out, r8, q28, F8, hz8.out⟩
          case measure => simp [intOf]; omega
        · obtain rfl : j = m := by omega
          have eL : (outs.take j).map TO.m = outs.map TO.m := by rw [hm.out, List.take_length]
          rw [eL] at HO2
          clear eL
          obtain ⟨ai, ci, rfl, hTi⟩ := HV.out.is
          obtain ⟨ao, co, rfl, hTo⟩ := HO2.out.is
          obtain ⟨n1, hn1⟩ : ∃ n1, n1 = (ins.map TI.m).length := ⟨_, rfl⟩
          obtain ⟨n2, hn2⟩ : ∃ n2, n2 = (outs.map TO.m).length := ⟨_, rfl⟩
          rw [← hn1, ← hn2] at q3
          replace hn1 := Lib.hid hn1
          replace hn2 := Lib.hid hn2
          have hTT := Lib.hid (And.intro hTi hTo)
          have hbI := Lib.hid (show ∀ i, ablk ai = some i → g2 < i from fun i hi => by have := HV.out.blk i (by rw [ablk_own]; exact hi); have := hG.out; omega)
          have hbO := Lib.hid (show ∀ i, ablk ao = some i → g2 < i from fun i hi => by have := HO2.out.blk i (by rw [ablk_own]; exact hi); have := hG5.out; omega)
          clear hTi hTo HV HO2
          go_wp2_with fail
          refine bodyPost_ret (results_cell_row rfl _ _ g2 _ _ _ _ rfl (set4 q2) Try.underlying37 rfl (by rw [Try.szRTx]; rfl)) rfl ?_
          have hg2l : w.heap.size ≤ g2 := hG.out.2.2.2.2.1
          refine ⟨⟨⟨vr, ins.map TI.m, outs.map TO.m, lt⟩, ai, ci, ao, co⟩, by rw [RT.cells, hn1.out, hn2.out], rfl, ?_, hF.set4 hg2l⟩
          have fE : Fr (fun k => k = g2) wr _ := Fr.set4g (w := wr) (g := g2) (a' := .int .u64 (vr : Int)) (b' := .int .u64 (lt : Int)) (c' := .slice ai n1 ci) (d' := .slice ao n2 co)
          exact ⟨hv, ht, ⟨hTT.out.1.sl.fr fE fun i hi e => by have := hbI.out i hi; omega, hTT.out.1.ok⟩, ⟨hTT.out.2.sl.fr fE fun i hi e => by have := hbO.out i hi; omega, hTT.out.2.ok⟩⟩
end Go.Proofs.Ytaobgaoldfeehaa

/- Layer 9 (tx): the document's Parse. -/
namespace Go.Proofs.Ytaobgaoldfeehaa
set_option linter.unusedVariables false
set_option linter.unusedSimpArgs false
open Go.RowKit

theorem IsCu.lft {w : World} {g c : Nat} {a : Option Addr} {bs : List UInt8} {st : Option (List UInt8)} (h : IsCu w g a c bs st) : lft st ≤ bs.length := by
  obtain ⟨⟨p, bad, _, hp, rfl⟩, _, _⟩ := h
  cases bad with
  | true => simp [Go.Proofs.Ytaobgaoldfeehaa.lft]
  | false => show (bs.drop p).length ≤ _; simp
/-- What the document's Parse answers. -/
def RParseQ (bs : List UInt8) (w : World) (e : Ending) (w' : World) : Prop :=
  ∃ (r : RT) (ok : Bool), e = .returned (.tuple #[.agg r.cells, .bool ok]) ∧ ((ok = true ∧ prs bs = some r.m) ∨ (ok = false ∧ prs bs = none)) ∧ r.Ok w' ∧ Fr F0 w w'

theorem RParseQ.no {bs : List UInt8} {w w' : World} (h : prs bs = none) (f : Fr F0 w w') : RParseQ bs w (.returned (.tuple #[.agg #[.int .u64 0, .int .u64 0, .slice none 0 0, .slice none 0 0], .bool false])) w' :=
  ⟨⟨⟨0, [], [], 0⟩, none, 0, none, 0⟩, false, rfl, .inr ⟨rfl, h⟩, ⟨(by decide : (0 : Nat) < 4294967296), (by decide : (0 : Nat) < 4294967296), ⟨Sl.nothing _ 35, fun x hx => by cases hx⟩, ⟨Sl.nothing _ 2, fun x hx => by cases hx⟩⟩, f⟩
set_option maxRecDepth 100000 in
set_option maxHeartbeats 100000000 in
theorem r9Parse_any (a : Option Addr) (N c : Nat) (bs : List UInt8) (w : World) (h : Bs w a c bs) (hN : N = bs.length) (hl : bs.length ≤ 100000) : Calls Try.prog 10 #[.slice a N c] w (RParseQ bs w) := by
  have hlow := Lib.hid h.low
  have HB0 := Lib.hid h
  obtain ⟨v0, hv0⟩ : ∃ v, v = (rW (some bs)).1 := ⟨_, rfl⟩
  obtain ⟨s0, hs0⟩ : ∃ s, s = (rW (some bs)).2 := ⟨_, rfl⟩
  obtain ⟨n, hn⟩ : ∃ n, n = (rc 64 s0).1 := ⟨_, rfl⟩
  obtain ⟨s1, hs1⟩ : ∃ s, s = (rc 64 s0).2 := ⟨_, rfl⟩
  obtain ⟨s2, hs2⟩ : ∃ s, s = (rMany rIn n s1).2 := ⟨_, rfl⟩
  obtain ⟨m, hm⟩ : ∃ n, n = (rc 64 s2).1 := ⟨_, rfl⟩
  obtain ⟨s3, hs3⟩ : ∃ s, s = (rc 64 s2).2 := ⟨_, rfl⟩
  obtain ⟨s4, hs4⟩ : ∃ s, s = (rMany rOut m s3).2 := ⟨_, rfl⟩
  obtain ⟨v5, hv5⟩ : ∃ v, v = (rW s4).1 := ⟨_, rfl⟩
  obtain ⟨s5, hs5⟩ : ∃ s, s = (rW s4).2 := ⟨_, rfl⟩
  have eT : rTx (some bs) = (⟨v0, (rMany rIn n s1).1, (rMany rOut m s3).1, v5⟩, s5) := by rw [rTx, hv5, hs5, hv0, hs4, hm, hs3, hs2, hn, hs1, hs0]
  have eP : prs bs = if szT N = true ∧ s5 = some [] ∧ (MT.mk v0 (rMany rIn n s1).1 (rMany rOut m s3).1 v5).few = false ∧ (MT.mk v0 (rMany rIn n s1).1 (rMany rOut m s3).1 v5).over = false then some ⟨v0, (rMany rIn n s1).1, (rMany rOut m s3).1, v5⟩ else none := by
    unfold prs
    rw [eT, hN]
  have x0 := tk4_lt (some bs)
  replace x0 : (rW (some bs)).1 < 4294967296 := x0
  rw [← hv0] at x0
  have x5 := tk4_lt s4
  replace x5 : (rW s4).1 < 4294967296 := x5
  rw [← hv5] at x5
  have n64 : n ≤ 64 := by rw [hn]; exact rc_le 64 s0
  have m64 : m ≤ 64 := by rw [hm]; exact rc_le 64 s2
  have n2 : s2 = none → s5 = none := fun e => by rw [hs5, hs4, hs3, e, rc_none, rMany_none rOut rOut_none, rW_none]
  have n4 : s4 = none → s5 = none := fun e => by rw [hs5, e, rW_none]
  have HS := Lib.hid (And.intro hs0 (And.intro hs1 (And.intro hs2 (And.intro hs3 (And.intro hs4 hs5)))))
  have HV := Lib.hid (And.intro hv0 (And.intro hn (And.intro hm hv5)))
  have HNN := Lib.hid (And.intro n2 n4)
  have HPp := Lib.hid eP
  replace hN := Lib.hid hN
  clear hv0 hs0 hn hs1 hs2 hm hs3 hs4 hv5 hs5 eT eP n2 n4 h
  go_enter Try.func10, Try.ntmps10
  go_upto_region 1 with fail
  refine wp_new fun W1 N1 => ?_
  have r2 := N1.new
  have F1 := N1.fr
  obtain ⟨g2, hg2⟩ : ∃ g, g = w.heap.size := ⟨_, rfl⟩
  rw [← hg2] at r2 ⊢
  have hg2w : w.heap.size ≤ g2 := by omega
  clear N1 hg2
  go_upto_region 2 with fail
  refine wp_new fun W2 N2 => ?_
  have rc' := N2.new
  have ne2 := N2.ne r2
  replace r2 := N2.old r2
  have hgcw : w.heap.size ≤ W1.heap.size := F1.size
  have F2 := F1.trans' N2.fr
  obtain ⟨gc, hgc⟩ : ∃ g, g = W1.heap.size := ⟨_, rfl⟩
  rw [← hgc] at rc' ne2 hgcw ⊢
  clear N2 F1 hgc
  have hL := Lib.hid (show bs.length ≤ 1000000 by omega)
  have C2 : IsCu W2 gc a c bs (some bs) := ⟨⟨0, false, by rw [← hN.out]; exact rc', Nat.zero_le _, rfl⟩, Bs.fr7 HB0.out F2, fun hn k hk => by have := hlow.out hn k hk; omega⟩
  have HT := Lib.hid (take4 W2 gc c a bs _ C2 hL.out)
  have eG : (rW (some bs)).1 = ofLE (tk 4 (some bs)).1 := rfl
  have HW0 := Lib.hid (And.intro (HV.out.1.trans eG) (show s0 = (tk 4 (some bs)).2 from HS.out.1))
  clear C2 eG rc'
  go_wp2_with fail
  (with_reducible refine HT.out.mono ?_); rintro e w3 ⟨a3, n3, c3, rfl, hn3, hb3, ⟨C3, f3⟩, _⟩
  have HG := Lib.hid (refGet_any a3 n3 c3 _ w3 hb3 hn3 (by have := tk_le 4 (some bs) (by omega); omega))
  rw [← HW0.out.1] at HG
  rw [← HW0.out.2] at C3
  replace r2 := f3.keeps (fun e => ne2 e) r2
  have F3 : Fr F0 w w3 := F2.trans f3 (fun i hi e => by omega)
  clear HW0 HT hn3 hb3 f3 F2
  go_wp2_with fail
  (with_reducible refine HG.out.mono ?_); rintro e w4 ⟨rfl, rfl⟩
  clear HG
  go_upto_region 3 with fail
  first | refine wp_new fun W5 N5 => ?_ | refine wp_put fun W5 N5 => ?_
  have rt := N5.new
  have net2 := N5.ne r2
  replace r2 := N5.old r2
  have C5 := C3.fr0 N5.fr
  have hgtw : w.heap.size ≤ w3.heap.size := F3.size
  have hct := C3.low
  have F5 := F3.trans' N5.fr
  obtain ⟨gt, hgt⟩ : ∃ g, g = w3.heap.size := ⟨_, rfl⟩
  rw [← hgt] at rt net2 hgtw hct ⊢
  have netc : gt ≠ gc := by omega
  clear N5 hgt C3 F3 hct
  have HC := Lib.hid (count64 W5 gc c a bs _ C5 hL.out)
  rw [← HV.out.2.1, ← HS.out.2.1] at HC
  go_wp2_with fail
  (with_reducible refine HC.out.mono ?_); rintro e w6 ⟨rfl, C6, f6⟩
  replace r2 := f6.keeps (fun e => ne2 e) r2
  replace rt := f6.keeps (fun e => netc e) rt
  have F6 : Fr F0 w w6 := F5.trans f6 (fun i hi e => by omega)
  obtain ⟨B4, hB4⟩ : ∃ x, x = w6.heap.size := ⟨_, rfl⟩
  have hG := Lib.hid (show gt < B4 ∧ g2 < B4 ∧ gc < B4 ∧ w.heap.size ≤ gt ∧ w.heap.size ≤ g2 ∧ w.heap.size ≤ gc ∧ w.heap.size ≤ B4 from ⟨by rw [hB4]; exact (Array.getElem?_eq_some_iff.1 rt).1, by rw [hB4]; exact (Array.getElem?_eq_some_iff.1 r2).1, by rw [hB4]; exact C6.low, hgtw, hg2w, hgcw, by rw [hB4]; exact F6.size⟩)
  have hz0 := Lib.hid (Nat.le_of_eq hB4)
  clear C5 F5 f6 HC hgtw hg2w hgcw hB4
  have hrz := fun w => run_buildRIn w #[] (rowR zero32 (.int .u64 0) (.int .u64 0) (.string (strOf []))) (by kernel_rfl)
  obtain ⟨Z, hZ⟩ : ∃ Z, Z = rowR zero32 (.int .u64 0) (.int .u64 0) (.string (strOf [])) := ⟨_, rfl⟩
  have sZ : Z.size = 35 := by rw [hZ]; rfl
  have oZ : rowOne Z := by rw [hZ]; exact MI.one ⟨zero32, 0, [], 0⟩
  rw [← hZ] at hrz
  replace hZ := Lib.hid hZ
  go_wp2_with fail
  go_loopw [7] (fun iv wr => ∃ (k : Nat) (vi : Value), k ≤ n ∧ iv = .int .i64 (k : Int) ∧ Hid (OwnRIns B4 wr vi (rMany rIn k s1).1) ∧ wr.heap[gt]? = some (.cells #[.int .u64 (v0 : Int), .int .u64 0, vi, .slice none 0 0] 37 (0, 0)) ∧
    wr.heap[g2]? = some (.cells #[.int .u64 0, .int .u64 0, .slice none 0 0, .slice none 0 0] 37 (0, 0)) ∧ Hid (IsCu wr gc a c bs (rMany rIn k s1).2) ∧ Fr F0 w wr ∧ Hid (B4 ≤ wr.heap.size)) (fun iv _ => n - (intOf iv).toNat)
  case atStart => exact ⟨0, _, Nat.zero_le _, rfl, OwnRIns.nil _ _, rt, r2, C6, F6, hz0.out⟩
  case round =>
    obtain ⟨k, vi, hk, rfl, HV2, q3, q2, hC, hF, hz⟩ := hrel
    clear rt r2 C6 F6
    obtain ⟨p, bad, hcc, hp, hst⟩ := hC.out.at_
    rw [← hN.out] at hcc
    have hcp := Lib.hid (And.intro hp hst)
    clear hp hst
    by_cases hgo : k < n ∧ bad = false
    · obtain ⟨hkn, rfl⟩ := hgo
      have l1 : (k : Int) < (n : Int) := by omega
      have hlen : (rMany rIn k s1).1.length = k := rMany_len rIn k s1
      have hS := Lib.hid (show rMany rIn (k + 1) s1 = ((rMany rIn k s1).1 ++ [(rIn (rMany rIn k s1).2).1], (rIn (rMany rIn k s1).2).2) from rfl)
      obtain ⟨st, hst⟩ : ∃ st, st = (rMany rIn k s1).2 := ⟨_, rfl⟩
      obtain ⟨li, hli⟩ : ∃ li, li = (rMany rIn k s1).1 := ⟨_, rfl⟩
      rw [← hst] at hC hS
      rw [← hli] at HV2 hlen hS
      clear hst hli
      go_upto_region 8 with fail
      refine wp_put fun W5 N5 => ?_
      have r8 := N5.new
      obtain ⟨g8, hg8⟩ : ∃ g, g = wr.heap.size := ⟨_, rfl⟩
      rw [← hg8] at r8 ⊢
      have hg8' := Lib.hid (show B4 ≤ g8 by have := hz.out; omega)
      have hzo := hz.out
      have q35 := N5.old q3
      have q25 := N5.old q2
      have C5 := hC.out.fr0 N5.fr
      have hlf := Lib.hid hC.out.lft
      have V5 := HV2.out.fr0 N5.fr
      have F5 := hF.trans' N5.fr
      have hvlt := HV2.out.lt
      rw [← hg8] at hvlt
      replace hvlt := Lib.hid hvlt
      rw [hZ.out] at r8
      have HT := Lib.hid (take32 W5 gc c a bs _ C5 hL.out)
      have nn := Lib.hid (show g8 ≠ gc ∧ g8 ≠ gt ∧ g8 ≠ g2 ∧ gt ≠ gc ∧ g2 ≠ gc ∧ g2 ≠ gt ∧ w.heap.size ≤ g8 ∧ w.heap.size ≤ gc ∧ w.heap.size ≤ gt ∧ w.heap.size ≤ g2 by have h1 := hG.out; have h2 := hg8'.out; omega)
      have s8 := Lib.hid (show g8 < W5.heap.size from (Array.getElem?_eq_some_iff.1 r8).1)
      clear N5 C5 hzo hg8 HV2 q3 q2 hF hcc hcp hz
      go_wp2_with fail
      (with_reducible refine HT.out.mono ?_); rintro e w6 ⟨a6, n6, c6, rfl, hn6, hb6, ⟨C6, f6⟩, hl6⟩
      have r86 := f6.keeps (fun e => nn.out.1 e) r8
      have q36 := f6.keeps (fun e => nn.out.2.2.2.1 e) q35
      have q26 := f6.keeps (fun e => nn.out.2.2.2.2.1 e) q25
      have V6 := V5.fr f6 (fun i e => by have := hG.out; omega)
      have F6 : Fr F0 w w6 := F5.trans f6 (fun i hi e => by have := nn.out; omega)
      have z6 := Lib.hid (show g8 < w6.heap.size from Nat.lt_of_lt_of_le s8.out f6.size)
      clear HT r8 q35 q25 V5 F5 f6 s8
      obtain ⟨FF, hFF⟩ : ∃ F, F = (tk 32 st).1 := ⟨_, rfl⟩
      obtain ⟨sA, hsA⟩ : ∃ s, s = (tk 32 st).2 := ⟨_, rfl⟩
      rw [← hFF] at hb6 hn6 hl6
      rw [← hsA] at C6
      have hF32 : FF = [] ∨ FF.length = 32 := by rw [hFF]; exact tk32 st
      have hneF := Lib.hid (show FF ≠ [] → bs ≠ [] from fun h e => by
        have h1 := (tk_len 32 st).1
        have h2 := hlf.out
        rw [← hFF] at h1
        rw [e] at h2
        have : FF.length = 0 := by simp at h2; omega
        exact h (List.eq_nil_of_length_eq_zero this))
      have eR : rIn st = (⟨fr32 FF, (rW sA).1, (rctd 520 (rW sA).2).1, (rW (rctd 520 (rW sA).2).2).1⟩, (rW (rctd 520 (rW sA).2).2).2) := by rw [hFF, hsA]; rfl
      rw [eR] at hS
      have hS6 := Lib.hid (And.intro hF32 (And.intro hn6 (And.intro hb6 (And.intro hl6 (And.intro C6 (And.intro V6 F6))))))
      have q6 := Lib.hid (And.intro q36 q26)
      have r860 : w6.heap[g8]? = some (.cells (rowR (filled FF 0) (.int .u64 0) (.int .u64 0) (.string (strOf []))) 78 (0, 0)) := by
        rw [show filled FF 0 = zero32 by simp [filled]]; exact r86
      have n632 : n6 ≤ 32 := by rcases hF32 with e | e <;> rw [hn6, e] <;> simp
      clear hFF hsA eR hF32 hn6 hb6 hl6 C6 V6 F6 q36 q26 r86
      go_wp2_with fail
      go_loopw [41] (fun iv wr => ∃ j : Nat, j ≤ n6 ∧ iv = .int .i64 (j : Int) ∧ wr.heap[g8]? = some (.cells (rowR (filled FF j) (.int .u64 0) (.int .u64 0) (.string (strOf []))) 78 (0, 0)) ∧ Fr (fun k => k = g8) w6 wr) (fun iv _ => n6 - (intOf iv).toNat)
      case atStart => exact ⟨0, Nat.zero_le _, rfl, r860, Fr.refl _ _⟩
      case round =>
        obtain ⟨j, hj, rfl, r8, f8⟩ := hrel
        clear r860
        by_cases hjn : j < n6
        · have lj : (j : Int) < (n6 : Int) := by omega
          obtain ⟨h32, hn6, hb6, hl6, _⟩ := hS6.out
          have hF32 : FF.length = 32 := by
            rcases h32 with e | e
            · rw [e] at hn6; simp at hn6; omega
            · exact e
          have hb8 := hb6.frx f8 (fun hne k hk e => by have h1 := hlow.out (hneF.out hne) k (hl6 hne k hk); have := nn.out; omega)
          obtain ⟨gb, ob, rfl, hcb⟩ := hb8.get8 j (by omega)
          have hset := rowR_sj (fr := filled FF j) j (by rw [filled_length (.inr hF32) j (by omega)]; omega) (.int .u64 0) (.int .u64 0) (.string (strOf [])) (FF.getD j 0)
          rw [filled_succ hF32 j (by omega)] at hset
          obtain ⟨vj, hvj⟩ := rowR_get (filled_length (.inr hF32) j (by omega)) j (by omega) (.int .u64 0) (.int .u64 0) (.string (strOf []))
          have szR := rowR_size (filled_length (.inr hF32) j (by omega)) (.int .u64 0) (.int .u64 0) (.string (strOf []))
          obtain ⟨R, hR⟩ : ∃ R, R = rowR (filled FF j) (.int .u64 0) (.int .u64 0) (.string (strOf [])) := ⟨_, rfl⟩
          rw [← hR] at r8 hset hvj szR
          have dvj := cell_is hvj (by omega)
          obtain ⟨y, hy⟩ : ∃ y, y = FF.getD j 0 := ⟨_, rfl⟩
          rw [← hy] at hcb hset
          rw [cell_at] at hcb
          have l32 : (j : Int) < 32 := by omega
          have hrm := hb8.room
          rw [hF32] at hrm
          have hn6' := Lib.hid (show j < n6 ∧ n6 ≤ 32 from ⟨hjn, n632⟩)
          clear hb6 hb8 hl6 h32 hR hy
          go_wp2_with fail
          go_roundw
          case rel => exact ⟨j + 1, by have := hn6'.out; omega, by go_num, by rw [heap_setCell_at, r8]; show some (Obj.cells (R.setIfInBounds j _) _ _) = _; rw [hset], f8.setCell (p := ⟨g8, j, none⟩) (fun _ => rfl) _⟩
          case measure => have := hn6'.out; simp [intOf]; omega
        · obtain rfl : j = n6 := by omega
          obtain ⟨h32, hn6, hb6, hl6, C6, V6, F6⟩ := hS6.out
          rw [hn6, filled_all h32] at r8
          have hf32 := fr32_length FF
          obtain ⟨fr, hfr⟩ : ∃ fr, fr = fr32 FF := ⟨_, rfl⟩
          rw [← hfr] at r8 hf32 hS
          have C8 := C6.step f8 (fun i e => by have := nn.out; omega) hlow.out
          have q38 := f8.keeps (fun e => by have := nn.out; omega) q6.out.1
          have q28 := f8.keeps (fun e => by have := nn.out; omega) q6.out.2
          have V8 := Lib.hid (V6.frS f8 (fun i h1 h2 => by have h3 := V6.blk i h1; have := hvlt.out i h1; omega))
          have F8 : Fr F0 w wr := F6.trans f8 (fun i hi e => by have := nn.out; omega)
          have lj : ¬ (j : Int) < (j : Int) := by omega
          obtain ⟨sB, hsB⟩ : ∃ s, s = (rW sA).2 := ⟨_, rfl⟩
          obtain ⟨ix, hix⟩ : ∃ x, x = (rW sA).1 := ⟨_, rfl⟩
          have HI := Lib.hid (And.intro (hix.trans (show (rW sA).1 = ofLE (tk 4 sA).1 from rfl)) (hsB.trans (show (rW sA).2 = (tk 4 sA).2 from rfl)))
          have hixl : ix < 4294967296 := by rw [hix]; exact tk4_lt sA
          rw [← hix, ← hsB] at hS
          have HT := Lib.hid (take4 wr gc c a bs _ C8 hL.out)
          have c32 := rowR_32 hf32 (.int .u64 0) (.int .u64 0) (.string (strOf []))
          have z32 := rowR_size hf32 (.int .u64 0) (.int .u64 0) (.string (strOf []))
          have e32 := rowR_s32 hf32 (.int .u64 0) (.int .u64 0) (.string (strOf [])) (.int .u64 (ix : Int))
          clear h32 hn6 hb6 hl6 C6 V6 F6 hfr hsB hix hS6 q6 C8
          go_wp2_with fail
          (with_reducible refine HT.out.mono ?_); rintro e w9 ⟨a9, n9, c9, rfl, hn9, hb9, ⟨C9, f9⟩, _⟩
          have HG := Lib.hid (refGet_any a9 n9 c9 _ w9 hb9 hn9 (by have := tk_le 4 sA (by omega); omega))
          rw [← HI.out.1] at HG
          rw [← HI.out.2] at C9
          have r89 := f9.keeps (fun e => by have := nn.out; omega) r8
          have q39 := f9.keeps (fun e => by have := nn.out; omega) q38
          have q29 := f9.keeps (fun e => by have := nn.out; omega) q28
          have V9 := Lib.hid (V8.out.fr f9 (fun i e => by have := hG.out; omega))
          have F9 : Fr F0 w w9 := F8.trans f9 (fun i hi e => by have := nn.out; omega)
          clear HT hn9 hb9 f9 r8 q38 q28 V8 F8 HI
          go_wp2_with fail
          (with_reducible refine HG.out.mono ?_); rintro e w10 ⟨rfl, rfl⟩
          clear HG
          go_upto_region 15 with fail
          refine wp_cell r89 fun W11 r11 f11 => ?_
          rw [e32] at r11
          have C11 := C9.step f11 (fun i e => by have := nn.out; omega) hlow.out
          have q311 := f11.keeps (fun e => by have := nn.out; omega) q39
          have q211 := f11.keeps (fun e => by have := nn.out; omega) q29
          have V11 := Lib.hid (V9.out.frS f11 (fun i h1 h2 => by have h3 := V9.out.blk i h1; have := hvlt.out i h1; omega))
          have F11 : Fr F0 w W11 := F9.trans f11 (fun i hi e => by have := nn.out; omega)
          clear r89 q39 q29 V9 F9 C9 f11 c32 z32 e32
          obtain ⟨kc, hkc⟩ : ∃ x, x = (rc 520 sB).1 := ⟨_, rfl⟩
          obtain ⟨sC0, hsC0⟩ : ∃ x, x = (rc 520 sB).2 := ⟨_, rfl⟩
          have hkc5 : kc ≤ 520 := by rw [hkc]; exact rc_le 520 sB
          have HCt := Lib.hid (count520 W11 gc c a bs _ C11 hL.out)
          rw [← hkc, ← hsC0] at HCt
          have eC : rctd 520 sB = tk (kc : Int) sC0 := by rw [rctd_eq, hkc, hsC0]
          rw [eC] at hS
          obtain ⟨ky, hky⟩ : ∃ x, x = (tk (kc : Int) sC0).1 := ⟨_, rfl⟩
          obtain ⟨sC, hsC⟩ : ∃ x, x = (tk (kc : Int) sC0).2 := ⟨_, rfl⟩
          rw [← hky, ← hsC] at hS
          have HK := Lib.hid (And.intro hky hsC)
          obtain ⟨sq, hsq⟩ : ∃ x, x = (rW sC).1 := ⟨_, rfl⟩
          obtain ⟨sD, hsD⟩ : ∃ x, x = (rW sC).2 := ⟨_, rfl⟩
          have hsql : sq < 4294967296 := by rw [hsq]; exact tk4_lt sC
          have HQ := Lib.hid (And.intro (hsq.trans (show (rW sC).1 = ofLE (tk 4 sC).1 from rfl)) (hsD.trans (show (rW sC).2 = (tk 4 sC).2 from rfl)))
          rw [← hsq, ← hsD] at hS
          clear hkc hsC0 eC hky hsC hsq hsD C11
          go_wp2_with fail
          (with_reducible refine HCt.out.mono ?_); rintro e w12 ⟨rfl, C12, f12⟩
          have HT := Lib.hid (takeN w12 gc c kc a bs _ C12 (by omega) hL.out)
          have r12 := f12.keeps (fun e => by have := nn.out; omega) r11
          have q312 := f12.keeps (fun e => by have := nn.out; omega) q311
          have q212 := f12.keeps (fun e => by have := nn.out; omega) q211
          have V12 := Lib.hid (V11.out.fr f12 (fun i e => by have := hG.out; omega))
          have F12 : Fr F0 w w12 := F11.trans f12 (fun i hi e => by have := nn.out; omega)
          clear HCt C12 f12 r11 q311 q211 V11 F11
          go_wp2_with fail
          (with_reducible refine HT.out.mono ?_); rintro e w13 ⟨a13, n13, c13, rfl, hn13, hb13, ⟨C13, f13⟩, _⟩
          rw [← HK.out.1] at hn13 hb13
          rw [← HK.out.2] at C13
          have r13 := f13.keeps (fun e => by have := nn.out; omega) r12
          have q313 := f13.keeps (fun e => by have := nn.out; omega) q312
          have q213 := f13.keeps (fun e => by have := nn.out; omega) q212
          have V13 := Lib.hid (V12.out.fr f13 (fun i e => by have := hG.out; omega))
          have F13 : Fr F0 w w13 := F12.trans f13 (fun i hi e => by have := nn.out; omega)
          have hstr := bs_str7 hb13 hn13
          have c34 := rowR_34 hf32 (.int .u64 (ix : Int)) (.int .u64 0) (.string (strOf []))
          have z34 := rowR_size hf32 (.int .u64 (ix : Int)) (.int .u64 0) (.string (strOf []))
          have e34 := rowR_s34 hf32 (.int .u64 (ix : Int)) (.int .u64 0) (.string (strOf [])) (.string (strOf ky))
          clear HT hn13 hb13 f13 r12 q312 q212 V12 F12 HK hkc5
          go_upto_region 16 with fail
          refine wp_cell r13 fun W14 r14 f14 => ?_
          rw [e34] at r14
          have C14 := C13.step f14 (fun i e => by have := nn.out; omega) hlow.out
          have q314 := f14.keeps (fun e => by have := nn.out; omega) q313
          have q214 := f14.keeps (fun e => by have := nn.out; omega) q213
          have V14 := Lib.hid (V13.out.frS f14 (fun i h1 h2 => by have h3 := V13.out.blk i h1; have := hvlt.out i h1; omega))
          have F14 : Fr F0 w W14 := F13.trans f14 (fun i hi e => by have := nn.out; omega)
          have HT := Lib.hid (take4 W14 gc c a bs _ C14 hL.out)
          clear r13 q313 q213 V13 F13 C13 f14 c34 z34 e34 hstr C14
          have c33 := rowR_33 hf32 (.int .u64 (ix : Int)) (.int .u64 0) (.string (strOf ky))
          have z33 := rowR_size hf32 (.int .u64 (ix : Int)) (.int .u64 0) (.string (strOf ky))
          have e33 := rowR_s33 hf32 (.int .u64 (ix : Int)) (.int .u64 0) (.string (strOf ky)) (.int .u64 (sq : Int))
          go_wp2_with fail
          (with_reducible refine HT.out.mono ?_); rintro e w15 ⟨a15, n15, c15, rfl, hn15, hb15, ⟨C15, f15⟩, _⟩
          have HG2 := Lib.hid (refGet_any a15 n15 c15 _ w15 hb15 hn15 (by have := tk_le 4 sC (by omega); omega))
          rw [← HQ.out.1] at HG2
          rw [← HQ.out.2] at C15
          have r15 := f15.keeps (fun e => by have := nn.out; omega) r14
          have q315 := f15.keeps (fun e => by have := nn.out; omega) q314
          have q215 := f15.keeps (fun e => by have := nn.out; omega) q214
          have V15 := Lib.hid (V14.out.fr f15 (fun i e => by have := hG.out; omega))
          have F15 : Fr F0 w w15 := F14.trans f15 (fun i hi e => by have := nn.out; omega)
          clear HT hn15 hb15 f15 r14 q314 q214 V14 F14 HQ
          go_wp2_with fail
          (with_reducible refine HG2.out.mono ?_); rintro e w16 ⟨rfl, rfl⟩
          clear HG2
          go_upto_region 17 with fail
          refine wp_cell r15 fun W17 r17 f17 => ?_
          rw [e33] at r17
          have C17 := C15.step f17 (fun i e => by have := nn.out; omega) hlow.out
          have q317 := f17.keeps (fun e => by have := nn.out; omega) q315
          have q217 := f17.keeps (fun e => by have := nn.out; omega) q215
          have V17 := V15.out.frS f17 (fun i h1 h2 => by have h3 := V15.out.blk i h1; have := hvlt.out i h1; omega)
          have F17 : Fr F0 w W17 := F15.trans f17 (fun i hi e => by have := nn.out; omega)
          have z17 := Lib.hid (show B4 ≤ W17.heap.size by have h1 := (Array.getElem?_eq_some_iff.1 r17).1; have := hg8'.out; omega)
          clear r15 q315 q215 V15 F15 C15 f17 c33 z33 e33
          have hxok : (MI.mk fr ix ky sq).Ok := ⟨hf32, hixl, hsql⟩
          have eX : (MI.mk fr ix ky sq).row.toArray = rowR fr (.int .u64 (ix : Int)) (.int .u64 (sq : Int)) (.string (strOf ky)) := rfl
          have hbs := run_buildRIns W17 (MI.mk fr ix ky sq).row.toArray (MI.row_length hxok)
          have szX : (MI.mk fr ix ky sq).row.toArray.size = 35 := MI.row_length hxok
          rw [← eX] at r17
          clear eX
          obtain ⟨a18, c18, w18, happ, O18, f18, s18, n18⟩ := V17.app ⟨fr, ix, ky, sq⟩ hxok (by have := z17.out; omega) (by omega) 34
          rw [hlen] at happ O18
          have q318 := f18.keeps (fun e => by have h1 := V17.blk gt e; have h2 := hG.out; omega) q317
          have q218 := f18.keeps (fun e => by have h1 := V17.blk g2 e; have h2 := hG.out; omega) q217
          have C18 := C17.step (B := w.heap.size) f18 (fun i e => by have h1 := V17.blk i e; have h2 := hG.out; omega) hlow.out
          have F18 : Fr F0 w w18 := F17.trans f18 (fun i hi e => by have h1 := V17.blk i e; have h2 := hG.out; omega)
          have z18 := Lib.hid (Nat.le_trans z17.out (Nat.le_of_lt s18))
          clear q217 C17 F17 V17 f18 n18 s18 z17
          generalize (MI.mk fr ix ky sq).row.toArray = XX at *
          go_upto_region 6 with fail
          refine wp_cell q318 fun W19 r19 f19 => ?_
          have q219 := f19.keeps (fun e => by have := nn.out; omega) q218
          have C19 := Lib.hid (C18.step (B := w.heap.size) f19 (fun i e => by have := nn.out; omega) hlow.out)
          have O19 := Lib.hid (O18.fr f19 (fun i e => by have := hG.out; omega))
          have F19 : Fr F0 w W19 := F18.trans f19 (fun i hi e => by have := nn.out; omega)
          have z19 := Lib.hid (Nat.le_trans z18.out f19.size)
          clear q317 q318 q218 C18 O18 F18 z18 f19 happ hbs r17
          go_wp2_with fail
          go_roundw
          case rel => exact ⟨k + 1, _, by omega, by go_num, by rw [hS.out]; exact O19.out, r19, q219, by rw [hS.out]; exact C19.out, F19, z19.out⟩
          case measure => simp [intOf]; omega
    · have hex : (rMany rIn k s1).2 = s2 ∧ (s2 ≠ none → (rMany rIn k s1).1 = (rMany rIn n s1).1) := by
        by_cases hkn : k = n
        · subst hkn
          exact ⟨HS.out.2.2.1.symm, fun _ => rfl⟩
        · have hb : bad = true := by
            cases bad with
            | true => rfl
            | false => exact absurd ⟨by omega, rfl⟩ hgo
          have h1 := hcp.out.2
          rw [hb] at h1
          have h2 : s2 = none := by rw [HS.out.2.2.1]; exact rMany_stuck rIn rIn_none s1 k h1 n hk
          exact ⟨by rw [h2]; exact h1, fun e => absurd h2 e⟩
      rw [hex.1] at hC
      have hLI := Lib.hid hex.2
      obtain ⟨li, hli⟩ : ∃ li, li = (rMany rIn k s1).1 := ⟨_, rfl⟩
      rw [← hli] at HV2 hLI
      have HC := Lib.hid (fun W (f : Fr F0 wr W) => count64 W gc c a bs _ (hC.out.fr0 f) hL.out)
      rw [← HV.out.2.2.1, ← HS.out.2.2.2.1] at HC
      have nn := Lib.hid (show gt ≠ gc ∧ g2 ≠ gc ∧ g2 ≠ gt ∧ w.heap.size ≤ gc ∧ w.heap.size ≤ gt ∧ w.heap.size ≤ g2 by have h1 := hG.out; omega)
      have hgo2 : (k < n ∧ bad = true) ∨ ¬ k < n := by
        cases bad with
        | true => by_cases h : k < n; exact .inl ⟨h, rfl⟩; exact .inr h
        | false => exact .inr fun h => hgo ⟨h, rfl⟩
      have hzg := Lib.hid (show ∀ i, vi.ownBlock = some i → i < wr.heap.size from HV2.out.lt)
      clear hex hli hcp hrz sZ oZ hZ hgo
      rcases hgo2 with ⟨hkn, rfl⟩ | hkn
      all_goals
        try (have l1 : (k : Int) < (n : Int) := by omega)
        try (have l1' : ¬ (k : Int) < (n : Int) := by omega)
        clear hkn
        go_wp2_with fail
        (with_reducible refine (HC.out _ (Fr.refl _ _)).mono ?_); rintro e w6 ⟨rfl, C6, f6⟩
        have q36 := f6.keeps (fun e => nn.out.1 e) q3
        have q26 := f6.keeps (fun e => nn.out.2.1 e) q2
        have V6 := Lib.hid (HV2.out.fr f6 (fun i e => by have := hG.out; omega))
        have F6 : Fr F0 w w6 := hF.trans f6 (fun i hi e => by have := nn.out; omega)
        obtain ⟨B5, hB5⟩ : ∃ x, x = w6.heap.size := ⟨_, rfl⟩
        have hG5 := Lib.hid (show gt < B5 ∧ g2 < B5 ∧ gc < B5 ∧ w.heap.size ≤ B5 ∧ B4 ≤ B5 ∧ ∀ i, vi.ownBlock = some i → i < B5 by
          have h1 := hG.out; have h2 := hz.out; have h3 := f6.size
          exact ⟨by omega, by omega, by omega, by omega, by omega, fun i hi => by have := hzg.out i hi; omega⟩)
        have hz5 := Lib.hid (Nat.le_of_eq hB5)
        replace C6 := Lib.hid C6
        clear HC f6 hF hC HV2 q3 q2 hcc hz hB5 hzg
        go_wp2_with fail
        go_loopw [12, 13] (fun tv iv wr => ∃ (j : Nat) (vo : Value) (ov : Bool), j ≤ m ∧ iv = .int .i64 (j : Int) ∧ tv = .bool ov ∧ Hid (ov = (rMany rOut j s3).1.any (fun x => decide (4611686018427387904 < x.py))) ∧ Hid (OwnROuts B5 wr vo (rMany rOut j s3).1) ∧ Hid (OwnRIns B4 wr vi li) ∧
          wr.heap[gt]? = some (.cells #[.int .u64 (v0 : Int), .int .u64 0, vi, vo] 37 (0, 0)) ∧ wr.heap[g2]? = some (.cells #[.int .u64 0, .int .u64 0, .slice none 0 0, .slice none 0 0] 37 (0, 0)) ∧ Hid (IsCu wr gc a c bs (rMany rOut j s3).2) ∧ Fr F0 w wr ∧ Hid (B5 ≤ wr.heap.size)) (fun _ iv _ => m - (intOf iv).toNat)
        case atStart => exact ⟨0, _, false, Nat.zero_le _, rfl, rfl, rfl, OwnROuts.nil _ _, V6.out, q36, q26, C6.out, F6, hz5.out⟩
        case round =>
          obtain ⟨j, vo, ov, hj, rfl, rfl, hov, HO2, HV2, q3, q2, hC, hF, hz⟩ := hrel
          clear q36 q26 V6 F6 C6
          obtain ⟨p, bad, hcc, hp, hst⟩ := hC.out.at_
          rw [← hN.out] at hcc
          have hcp := Lib.hid (And.intro hp hst)
          clear hp hst
          by_cases hgo : j < m ∧ bad = false
          · obtain ⟨hjm, rfl⟩ := hgo
            have l2 : (j : Int) < (m : Int) := by omega
            have hlen : (rMany rOut j s3).1.length = j := rMany_len rOut j s3
            have hS := Lib.hid (show rMany rOut (j + 1) s3 = ((rMany rOut j s3).1 ++ [(rOut (rMany rOut j s3).2).1], (rOut (rMany rOut j s3).2).2) from rfl)
            obtain ⟨st, hst⟩ : ∃ st, st = (rMany rOut j s3).2 := ⟨_, rfl⟩
            obtain ⟨lo, hlo⟩ : ∃ li, li = (rMany rOut j s3).1 := ⟨_, rfl⟩
            rw [← hst] at hC hS
            rw [← hlo] at HO2 hlen hS hov
            clear hst hlo
            obtain ⟨sA, hsA⟩ : ∃ s, s = (tk 8 st).2 := ⟨_, rfl⟩
            obtain ⟨py, hpy⟩ : ∃ s, s = ofLE (tk 8 st).1 := ⟨_, rfl⟩
            have hpyl : py < 18446744073709551616 := by rw [hpy]; exact tk8_lt st
            have eR : rOut st = (⟨py, (rctd 520 sA).1⟩, (rctd 520 sA).2) := by rw [hpy, hsA]; rfl
            rw [eR] at hS
            have HA := Lib.hid (And.intro hsA hpy)
            obtain ⟨kc, hkc⟩ : ∃ x, x = (rc 520 sA).1 := ⟨_, rfl⟩
            obtain ⟨sC0, hsC0⟩ : ∃ x, x = (rc 520 sA).2 := ⟨_, rfl⟩
            have hkc5 : kc ≤ 520 := by rw [hkc]; exact rc_le 520 sA
            have eC : rctd 520 sA = tk (kc : Int) sC0 := by rw [rctd_eq, hkc, hsC0]
            rw [eC] at hS
            have HKC := Lib.hid (And.intro hkc hsC0)
            obtain ⟨lk, hlk⟩ : ∃ x, x = (tk (kc : Int) sC0).1 := ⟨_, rfl⟩
            obtain ⟨sC, hsC⟩ : ∃ x, x = (tk (kc : Int) sC0).2 := ⟨_, rfl⟩
            rw [← hlk, ← hsC] at hS
            have HK := Lib.hid (And.intro hlk hsC)
            have HT := Lib.hid (fun W (f : Fr F0 wr W) => take8 W gc c a bs _ (hC.out.fr0 f) hL.out)
            have hvlt := Lib.hid (show ∀ i, vo.ownBlock = some i → i < wr.heap.size from HO2.out.lt)
            clear hsA hpy eR hkc hsC0 eC hlk hsC hcp
            go_wp2_with fail
            (with_reducible refine (HT.out _ (Fr.refl _ _)).mono ?_); rintro e w7 ⟨a7, n7, c7, rfl, hn7, hb7, ⟨C7, f7⟩, _⟩
            have HG7 := Lib.hid (refGet_any a7 n7 c7 _ w7 hb7 hn7 (by have := tk_le 8 st (by omega); omega))
            rw [← HA.out.2] at HG7
            rw [← HA.out.1] at C7
            have q37 := f7.keeps (fun e => nn.out.1 e) q3
            have q27 := f7.keeps (fun e => nn.out.2.1 e) q2
            have O7 := HO2.out.fr f7 (fun i e => by have := hG5.out; omega)
            have V7 := HV2.out.fr f7 (fun i e => by have := hG.out; omega)
            have F7 : Fr F0 w w7 := hF.trans f7 (fun i hi e => by have := nn.out; omega)
            have z7 := Lib.hid (show wr.heap.size ≤ w7.heap.size from f7.size)
            clear HT hn7 hb7 f7 q3 q2 hcc HO2 HV2 hF hC HA
            go_wp2_with fail
            (with_reducible refine HG7.out.mono ?_); rintro e w8 ⟨rfl, rfl⟩
            clear HG7
            have o0 : rowOne #[.int .u64 (py : Int), .string { data := #[] }] := MO.one ⟨py, []⟩
            go_upto_region 24 with fail
            first | refine wp_new fun W9 N9 => ?_ | refine wp_put fun W9 N9 => ?_
            have r9 := N9.new
            have q39 := N9.old q37
            have q29 := N9.old q27
            have C9 := C7.fr0 N9.fr
            have O9 := Lib.hid (O7.fr0 N9.fr)
            have V9 := Lib.hid (V7.fr0 N9.fr)
            have F9 := F7.trans' N9.fr
            obtain ⟨g9, hg9⟩ : ∃ g, g = w7.heap.size := ⟨_, rfl⟩
            rw [← hg9] at r9 ⊢
            have hg9' := Lib.hid (show B5 ≤ g9 ∧ g9 < W9.heap.size ∧ (∀ i, vo.ownBlock = some i → i < g9) ∧ (∀ i, vi.ownBlock = some i → i < g9) from by
              have h1 := hz.out; have h2 := z7.out; have h3 := hG5.out
              exact ⟨by omega, (Array.getElem?_eq_some_iff.1 r9).1, fun i hi => by have := hvlt.out i hi; omega, fun i hi => by have := h3.2.2.2.2.2 i hi; omega⟩)
            have n9 := Lib.hid (show g9 ≠ gc ∧ g9 ≠ gt ∧ g9 ≠ g2 ∧ w.heap.size ≤ g9 from by have h1 := hG5.out; have h2 := hg9'.out; omega)
            have HCt := Lib.hid (count520 W9 gc c a bs _ C9 hL.out)
            rw [← HKC.out.1, ← HKC.out.2] at HCt
            clear N9 q37 q27 C7 O7 V7 F7 z7 hg9 hz hvlt C9 HKC
            go_wp2_with fail
            (with_reducible refine HCt.out.mono ?_); rintro e w12 ⟨rfl, C12, f12⟩
            have HT := Lib.hid (takeN w12 gc c kc a bs _ C12 (by omega) hL.out)
            have r12 := f12.keeps (fun e => n9.out.1 e) r9
            have q312 := f12.keeps (fun e => nn.out.1 e) q39
            have q212 := f12.keeps (fun e => nn.out.2.1 e) q29
            have O12 := Lib.hid (O9.out.fr f12 (fun i e => by have := hG5.out; omega))
            have V12 := Lib.hid (V9.out.fr f12 (fun i e => by have := hG.out; omega))
            have F12 : Fr F0 w w12 := F9.trans f12 (fun i hi e => by have := nn.out; omega)
            have z12 := Lib.hid (show g9 < w12.heap.size from Nat.lt_of_lt_of_le hg9'.out.2.1 f12.size)
            clear HCt C12 f12 r9 q39 q29 O9 V9 F9
            go_wp2_with fail
            (with_reducible refine HT.out.mono ?_); rintro e w13 ⟨a13, n13, c13, rfl, hn13, hb13, ⟨C13, f13⟩, _⟩
            rw [← HK.out.1] at hn13 hb13
            rw [← HK.out.2] at C13
            have r13 := f13.keeps (fun e => n9.out.1 e) r12
            have q313 := f13.keeps (fun e => nn.out.1 e) q312
            have q213 := f13.keeps (fun e => nn.out.2.1 e) q212
            have O13 := Lib.hid (O12.out.fr f13 (fun i e => by have := hG5.out; omega))
            have V13 := Lib.hid (V12.out.fr f13 (fun i e => by have := hG.out; omega))
            have F13 : Fr F0 w w13 := F12.trans f13 (fun i hi e => by have := nn.out; omega)
            have hstr := bs_str7 hb13 hn13
            have z13 := Lib.hid (show g9 < w13.heap.size from Nat.lt_of_lt_of_le z12.out f13.size)
            clear HT hn13 hb13 f13 r12 q312 q212 O12 V12 F12 HK hkc5 z12
            go_upto_region 25 with fail
            refine wp_cell r13 fun W14 r14 f14 => ?_
            replace r14 : W14.heap[g9]? = some (.cells #[.int .u64 (py : Int), .string (strOf lk)] 80 (0, 0)) := r14
            have C14 := C13.step f14 (fun i e => by have := n9.out; omega) hlow.out
            have q314 := f14.keeps (fun e => n9.out.2.1 e.symm) q313
            have q214 := f14.keeps (fun e => n9.out.2.2.1 e.symm) q213
            have O14 := O13.out.frS f14 (fun i h1 h2 => by have h4 := hg9'.out.2.2.1 i h1; omega)
            have V14 := V13.out.frS f14 (fun i h1 h2 => by have h4 := hg9'.out.2.2.2 i h1; omega)
            have F14 : Fr F0 w W14 := F13.trans f14 (fun i hi e => by have := n9.out; omega)
            have z14 := Lib.hid (show g9 < W14.heap.size from Nat.lt_of_lt_of_le z13.out f14.size)
            clear r13 q313 q213 O13 V13 F13 C13 f14 hstr z13
            have hxok : (MO.mk py lk).Ok := ⟨hpyl⟩
            have hbs := run_buildROuts W14 (MO.mk py lk).row.toArray rfl
            have o9 := MO.one (MO.mk py lk)
            obtain ⟨a18, c18, w18, happ, O18, f18, s18, _⟩ := O14.app ⟨py, lk⟩ hxok (by have := z14.out; have := hg9'.out; omega) (by omega) 35
            rw [hlen] at happ O18
            have q318 := f18.keeps (fun e => by have h1 := O14.blk gt e; have h2 := hG5.out; omega) q314
            have q218 := f18.keeps (fun e => by have h1 := O14.blk g2 e; have h2 := hG5.out; omega) q214
            have C18 := C14.step (B := w.heap.size) f18 (fun i e => by have h1 := O14.blk i e; have h2 := hG5.out; omega) hlow.out
            have V18 := V14.frS f18 (fun i h1 h2 => by have h3 := hG5.out.2.2.2.2.2 i h1; have h4 := O14.blk i h2; omega)
            have F18 : Fr F0 w w18 := F14.trans f18 (fun i hi e => by have h1 := O14.blk i e; have h2 := hG5.out; omega)
            have z18 := Lib.hid (show B5 ≤ w18.heap.size by have := z14.out; have := hg9'.out; omega)
            have hov2 := Lib.hid (show (ov || decide (4611686018427387904 < (py : Int))) = (lo ++ [MO.mk py lk]).any (fun x => decide (4611686018427387904 < x.py)) from by
              rw [List.any_append, ← hov.out]
              have : decide (4611686018427387904 < (py : Int)) = decide (4611686018427387904 < py) := decide_eq_decide.2 (by omega)
              rw [this]
              simp)
            simp only [MO.row] at hbs happ o9
            clear q214 C14 F14 V14 O14 f18 s18 z14
            cases ov with
            | true =>
              go_upto_region 22 with fail
              refine wp_cell q318 fun W19 r19 f19 => ?_
              have q219 := f19.keeps (fun e => nn.out.2.2.1 e) q218
              have C19 := Lib.hid (C18.step (B := w.heap.size) f19 (fun i e => by have := nn.out; omega) hlow.out)
              have O19 := Lib.hid (O18.fr f19 (fun i e => by have := hG5.out; omega))
              have V19 := Lib.hid (V18.fr f19 (fun i e => by have := hG.out; omega))
              have F19 : Fr F0 w W19 := F18.trans f19 (fun i hi e => by have := nn.out; omega)
              have z19 := Lib.hid (Nat.le_trans z18.out f19.size)
              clear q314 q318 q218 C18 O18 V18 F18 z18 f19 happ hbs r14
              go_wp2_with fail
              go_roundw
              case rel => exact ⟨j + 1, _, true, by omega, by go_num, rfl, by rw [hS.out]; exact hov2.out, by rw [hS.out]; exact O19.out, V19.out, r19, q219, by rw [hS.out]; exact C19.out, F19, z19.out⟩
              case measure => simp [intOf]; omega
            | false =>
              go_upto_region 22 with fail
              refine wp_cell q318 fun W19 r19 f19 => ?_
              have q219 := f19.keeps (fun e => nn.out.2.2.1 e) q218
              have C19 := Lib.hid (C18.step (B := w.heap.size) f19 (fun i e => by have := nn.out; omega) hlow.out)
              have O19 := Lib.hid (O18.fr f19 (fun i e => by have := hG5.out; omega))
              have V19 := Lib.hid (V18.fr f19 (fun i e => by have := hG.out; omega))
              have F19 : Fr F0 w W19 := F18.trans f19 (fun i hi e => by have := nn.out; omega)
              have z19 := Lib.hid (Nat.le_trans z18.out f19.size)
              clear q314 q318 q218 C18 O18 V18 F18 z18 f19 happ hbs r14
              go_wp2_with fail
              go_roundw
              case rel => exact ⟨j + 1, _, _, by omega, by go_num, rfl, by rw [hS.out]; exact hov2.out, by rw [hS.out]; exact O19.out, V19.out, r19, q219, by rw [hS.out]; exact C19.out, F19, z19.out⟩
              case measure => simp [intOf]; omega
          · have hex : (rMany rOut j s3).2 = s4 ∧ (s4 ≠ none → (rMany rOut j s3).1 = (rMany rOut m s3).1) := by
              by_cases hjm : j = m
              · subst hjm
                exact ⟨HS.out.2.2.2.2.1.symm, fun _ => rfl⟩
              · have hb : bad = true := by
                  cases bad with
                  | true => rfl
                  | false => exact absurd ⟨by omega, rfl⟩ hgo
                have h1 := hcp.out.2
                rw [hb] at h1
                have h2 : s4 = none := by rw [HS.out.2.2.2.2.1]; exact rMany_stuck rOut rOut_none s3 j h1 m hj
                exact ⟨by rw [h2]; exact h1, fun e => absurd h2 e⟩
            rw [hex.1] at hC
            have hLO := Lib.hid hex.2
            obtain ⟨lo, hlo⟩ : ∃ li, li = (rMany rOut j s3).1 := ⟨_, rfl⟩
            rw [← hlo] at HO2 hLO hov
            have HT := Lib.hid (fun W (f : Fr F0 wr W) => take4 W gc c a bs _ (hC.out.fr0 f) hL.out)
            have HW5 := Lib.hid (And.intro (HV.out.2.2.2.trans (show (rW s4).1 = ofLE (tk 4 s4).1 from rfl)) (HS.out.2.2.2.2.2.trans (show (rW s4).2 = (tk 4 s4).2 from rfl)))
            have hgo2 : (j < m ∧ bad = true) ∨ ¬ j < m := by
              cases bad with
              | true => by_cases h : j < m; exact .inl ⟨h, rfl⟩; exact .inr h
              | false => exact .inr fun h => hgo ⟨h, rfl⟩
            clear hex hlo hcp hgo
            rcases hgo2 with ⟨hjm, rfl⟩ | hjm
            all_goals
              try (have l2 : (j : Int) < (m : Int) := by omega)
              try (have l2' : ¬ (j : Int) < (m : Int) := by omega)
              clear hjm
              go_wp2_with fail
              (with_reducible refine (HT.out _ (Fr.refl _ _)).mono ?_); rintro e w7 ⟨a7, n7, c7, rfl, hn7, hb7, ⟨C7, f7⟩, _⟩
              have HG7 := Lib.hid (refGet_any a7 n7 c7 _ w7 hb7 hn7 (by have := tk_le 4 s4 (by omega); omega))
              rw [← HW5.out.1] at HG7
              rw [← HW5.out.2] at C7
              have q37 := f7.keeps (fun e => nn.out.1 e) q3
              have q27 := f7.keeps (fun e => nn.out.2.1 e) q2
              have O7 := Lib.hid (HO2.out.fr f7 (fun i e => by have := hG5.out; omega))
              have V7 := Lib.hid (HV2.out.fr f7 (fun i e => by have := hG.out; omega))
              have F7 : Fr F0 w w7 := hF.trans f7 (fun i hi e => by have := nn.out; omega)
              clear HT hn7 hb7 f7 q3 q2 hcc HO2 HV2 hF hC HW5 hz
              go_wp2_with fail
              (with_reducible refine HG7.out.mono ?_); rintro e w8 ⟨rfl, rfl⟩
              clear HG7
              go_upto_region 28 with fail
              refine wp_cell q37 fun W9 r9 f9 => ?_
              replace r9 : W9.heap[gt]? = some (.cells #[.int .u64 (v0 : Int), .int .u64 (v5 : Int), vi, vo] 37 (0, 0)) := r9
              have q29 := f9.keeps (fun e => nn.out.2.2.1 e) q27
              have C9 := C7.step (B := w.heap.size) f9 (fun i e => by have := nn.out; omega) hlow.out
              have O9 := Lib.hid (O7.out.fr f9 (fun i e => by have := hG5.out; omega))
              have V9 := Lib.hid (V7.out.fr f9 (fun i e => by have := hG.out; omega))
              have F9 : Fr F0 w W9 := F7.trans f9 (fun i hi e => by have := nn.out; omega)
              obtain ⟨p5, bad5, hcc5, hp5, hst5⟩ := C9.at_
              rw [← hN.out] at hcc5 hp5
              have hdr := Lib.hid (show bs.drop p5 = [] ↔ p5 = N from by
                rw [List.drop_eq_nil_iff, ← hN.out]
                omega)
              clear q37 q27 C7 O7 V7 F7 f9 C9
              cases bad5 with
              | true =>
                have hp : prs bs = none := by rw [HPp.out, hst5]; exact if_neg (fun h => by cases h.2.1)
                clear hst5 hp5
                go_wp2_with fail
                refine bodyPost_ret (results_cell_row_tmp rfl _ _ g2 _ _ _ _ rfl (set4 q29) Try.underlying37 rfl (by rw [Try.szRTx]; rfl)) rfl ?_
                exact RParseQ.no hp (F9.set4 nn.out.2.2.2.2.2)
              | false =>
              replace hst5 : s5 = some (bs.drop p5) := hst5
              by_cases c2 : ¬ p5 = N
              · have hp : prs bs = none := by rw [HPp.out, hst5]; exact if_neg (fun h => c2 (hdr.out.1 (Option.some.inj h.2.1)))
                have lp : ((p5 : Int) != (N : Int)) = true := bne_iff_ne.2 (by omega)
                clear hst5 hp5 c2
                go_wp2_with fail
                refine bodyPost_ret (results_cell_row_tmp rfl _ _ g2 _ _ _ _ rfl (set4 q29) Try.underlying37 rfl (by rw [Try.szRTx]; rfl)) rfl ?_
                exact RParseQ.no hp (F9.set4 nn.out.2.2.2.2.2)
              replace c2 : p5 = N := Decidable.not_not.1 c2
              have lp : ((p5 : Int) != (N : Int)) = false := by rw [c2]; exact bne_self_eq_false _
              have hs5 : s5 = some [] := by rw [hst5, hdr.out.2 c2]
              have hsL := Lib.hid (show li = (rMany rIn n s1).1 ∧ lo = (rMany rOut m s3).1 from ⟨hLI.out (fun e => by have := HNN.out.1 e; rw [hs5] at this; cases this), hLO.out (fun e => by have := HNN.out.2 e; rw [hs5] at this; cases this)⟩)
              clear hst5 hp5 c2
              have lnI := rMany_len rIn n s1
              have lnO := rMany_len rOut m s3
              by_cases c3 : n = 0
              · have hp : prs bs = none := by rw [HPp.out]; exact if_neg (fun h => by have h3 := h.2.2.1; rw [MT.few, decide_eq_false_iff_not] at h3; exact h3 (.inl (lnI.trans c3)))
                have lc3 : ((n : Int) == 0) = true := by rw [c3]; rfl
                clear c3 hs5 lnI lnO
                go_wp2_with fail
                refine bodyPost_ret (results_cell_row_tmp rfl _ _ g2 _ _ _ _ rfl (set4 q29) Try.underlying37 rfl (by rw [Try.szRTx]; rfl)) rfl ?_
                exact RParseQ.no hp (F9.set4 nn.out.2.2.2.2.2)
              have lc3 : ((n : Int) == 0) = false := beq_false_of_ne (by omega)
              by_cases c4 : m = 0
              · have hp : prs bs = none := by rw [HPp.out]; exact if_neg (fun h => by have h3 := h.2.2.1; rw [MT.few, decide_eq_false_iff_not] at h3; exact h3 (.inr (lnO.trans c4)))
                have lc4 : ((m : Int) == 0) = true := by rw [c4]; rfl
                clear c4 hs5 lnI lnO
                go_wp2_with fail
                refine bodyPost_ret (results_cell_row_tmp rfl _ _ g2 _ _ _ _ rfl (set4 q29) Try.underlying37 rfl (by rw [Try.szRTx]; rfl)) rfl ?_
                exact RParseQ.no hp (F9.set4 nn.out.2.2.2.2.2)
              have lc4 : ((m : Int) == 0) = false := beq_false_of_ne (by omega)
              have hover : (MT.mk v0 (rMany rIn n s1).1 (rMany rOut m s3).1 v5).over = ov := by
                rw [hov.out, hsL.out.2, MT.over, Bool.eq_iff_iff]
                simp
              cases ov with
              | true =>
                have hp : prs bs = none := by rw [HPp.out]; exact if_neg (fun h => by rw [hover] at h; cases h.2.2.2)
                clear hs5 hover lnI lnO c3 c4
                go_wp2_with fail
                refine bodyPost_ret (results_cell_row_tmp rfl _ _ g2 _ _ _ _ rfl (set4 q29) Try.underlying37 rfl (by rw [Try.szRTx]; rfl)) rfl ?_
                exact RParseQ.no hp (F9.set4 nn.out.2.2.2.2.2)
              | false =>
              by_cases c6 : 4096 < N
              · have hp : prs bs = none := by rw [HPp.out]; exact if_neg (fun h => by have h3 := h.1; simp [szT] at h3; omega)
                have lc6 : (4096 : Int) < (N : Int) := by omega
                clear hs5 hover lnI lnO c3 c4 c6
                go_wp2_with fail
                refine bodyPost_ret (results_cell_row_tmp rfl _ _ g2 _ _ _ _ rfl (set4 q29) Try.underlying37 rfl (by rw [Try.szRTx]; rfl)) rfl ?_
                exact RParseQ.no hp (F9.set4 nn.out.2.2.2.2.2)
              have lc6 : ¬ (4096 : Int) < (N : Int) := by omega
              by_cases c7 : N = 64
              · have hp : prs bs = none := by rw [HPp.out]; exact if_neg (fun h => by have h3 := h.1; simp [szT] at h3; omega)
                have lc7 : ((N : Int) == 64) = true := by rw [c7]; rfl
                clear hs5 hover lnI lnO c3 c4 c6 c7
                go_wp2_with fail
                refine bodyPost_ret (results_cell_row_tmp rfl _ _ g2 _ _ _ _ rfl (set4 q29) Try.underlying37 rfl (by rw [Try.szRTx]; rfl)) rfl ?_
                exact RParseQ.no hp (F9.set4 nn.out.2.2.2.2.2)
              have lc7 : ((N : Int) == 64) = false := beq_false_of_ne (by omega)
              have hp : prs bs = some ⟨v0, (rMany rIn n s1).1, (rMany rOut m s3).1, v5⟩ := by
                rw [HPp.out]
                exact if_pos ⟨by simp [szT]; omega, hs5, by simp [MT.few, lnI, lnO]; omega, hover⟩
              rw [← hsL.out.1, ← hsL.out.2] at hp
              replace hp := Lib.hid hp
              have hbI := Lib.hid (show ∀ i, vi.ownBlock = some i → g2 < i from fun i hi => by have := V9.out.blk i hi; have := hG.out; omega)
              have hbO := Lib.hid (show ∀ i, vo.ownBlock = some i → g2 < i from fun i hi => by have := O9.out.blk i hi; have := hG5.out; omega)
              obtain ⟨ai, ci, rfl, hTi⟩ := V9.out.is
              obtain ⟨ao, co, rfl, hTo⟩ := O9.out.is
              obtain ⟨n1, hn1⟩ : ∃ n1, n1 = li.length := ⟨_, rfl⟩
              obtain ⟨n2, hn2⟩ : ∃ n2, n2 = lo.length := ⟨_, rfl⟩
              rw [← hn1, ← hn2] at r9
              replace hn1 := Lib.hid hn1
              replace hn2 := Lib.hid hn2
              have hTT := Lib.hid (And.intro hTi hTo)
              clear hTi hTo hs5 hover lnI lnO c3 c4 c6 c7 V9 O9
              go_wp2_with fail
              refine bodyPost_ret (results_cell_row_tmp rfl _ _ g2 _ _ _ _ rfl (set4 q29) Try.underlying37 rfl (by rw [Try.szRTx]; rfl)) rfl ?_
              have fE : Fr (fun k => k = g2) W9 _ := Fr.set4g (w := W9) (g := g2) (a' := .int .u64 (v0 : Int)) (b' := .int .u64 (v5 : Int)) (c' := .slice ai n1 ci) (d' := .slice ao n2 co)
              exact ⟨⟨⟨v0, li, lo, v5⟩, ai, ci, ao, co⟩, true, by rw [RT.cells, hn1.out, hn2.out]; rfl, .inl ⟨rfl, hp.out⟩, ⟨x0, x5, ⟨hTT.out.1.sl.fr fE fun i hi e => by have := hbI.out i (by rw [ablk_own]; exact hi); omega, hTT.out.1.ok⟩, ⟨hTT.out.2.sl.fr fE fun i hi e => by have := hbO.out i (by rw [ablk_own]; exact hi); omega, hTT.out.2.ok⟩⟩, F9.set4 nn.out.2.2.2.2.2⟩
end Go.Proofs.Ytaobgaoldfeehaa

/- Layer 9 (tx): the document's Write. -/
namespace Go.Proofs.Ytaobgaoldfeehaa
set_option linter.unusedVariables false
set_option linter.unusedSimpArgs false
open Go.RowKit

def appBB (ty : TypeId) (args : Array Value) : Sem Value := Builtin.append_ #[22, 22] ty args
@[go_sem ↓ high] theorem app_BB (ty : TypeId) (args : Array Value) : Builtin.append_ #[22, 22] ty args = appBB ty args := rfl
def appBS (ty : TypeId) (args : Array Value) : Sem Value := Builtin.append_ #[22, 9] ty args
@[go_sem ↓ high] theorem app_BS (ty : TypeId) (args : Array Value) : Builtin.append_ #[22, 9] ty args = appBS ty args := rfl

/-- Bytes of one's own, since a world; P: which blocks may be theirs. -/
structure Bw (w0 : World) (P : Nat → Prop) (a : Option Addr) (n c : Nat) (bs : List UInt8) (w : World) : Prop where
  own : OwnB w (.slice a n c) bs
  fr : Fr F0 w0 w
  new : ∀ k, ablk a = some k → P k
theorem own_base {w : World} {e size n B : Nat} {v : Value} {xs : List Value} (h : w.ownsRow 0 e size v n xs) (hb : ∀ k, v.ownBlock = some k → B ≤ k) : w.ownsRow B e size v n xs := by
  refine ⟨h.1, ?_⟩
  rcases h.2 with hn | ⟨g, cap, cur, rfl, _, hg, r⟩
  · exact .inl hn
  · exact .inr ⟨g, cap, cur, rfl, hb g rfl, hg, r⟩
theorem own_base0 {w : World} {e size n B : Nat} {v : Value} {xs : List Value} (h : w.ownsRow B e size v n xs) : w.ownsRow 0 e size v n xs := by
  refine ⟨h.1, ?_⟩
  rcases h.2 with hn | ⟨g, cap, cur, rfl, _, hg, r⟩
  · exact .inl hn
  · exact .inr ⟨g, cap, cur, rfl, Nat.zero_le _, hg, r⟩
theorem own_low {w : World} {e size n B : Nat} {v : Value} {xs : List Value} (h : w.ownsRow B e size v n xs) : ∀ k, v.ownBlock = some k → B ≤ k := by
  intro k hk
  rcases h.2 with ⟨rfl, _⟩ | ⟨g, cap, cur, rfl, hb, hg, r⟩
  · cases hk
  · cases hk; exact hb
theorem Bw.fr0 {w0 w w' : World} {P : Nat → Prop} {a : Option Addr} {n c : Nat} {bs : List UInt8} (h : Bw w0 P a n c bs w) (f : Fr F0 w w') : Bw w0 P a n c bs w' := ⟨h.own.fr f fun _ _ f => f, h.fr.trans' f, h.new⟩
theorem Bw.len {w0 w : World} {P : Nat → Prop} {a : Option Addr} {n c : Nat} {bs : List UInt8} (h : Bw w0 P a n c bs w) : n = bs.length := h.own.bs.1
theorem Bw.lt {w0 w : World} {P : Nat → Prop} {a : Option Addr} {n c : Nat} {bs : List UInt8} (h : Bw w0 P a n c bs w) : ∀ k, ablk a = some k → k < w.heap.size := fun k hk => h.own.lt k (by rw [ablk_own]; exact hk)
theorem Bw.with {w0 w : World} {P Q : Nat → Prop} {a : Option Addr} {n c : Nat} {bs : List UInt8} (h : Bw w0 P a n c bs w) (hq : ∀ k, ablk a = some k → P k → Q k) : Bw w0 Q a n c bs w := ⟨h.own, h.fr, fun k hk => hq k hk (h.new k hk)⟩
theorem Bw.app {w0 w : World} {P : Nat → Prop} {a : Option Addr} {n c : Nat} {bs : List UInt8} (h : Bw w0 P a n c bs w) (hp0 : ∀ k, P k → w0.heap.size ≤ k) (hp : ∀ k, w.heap.size ≤ k → P k) {ad : Option Addr} {m cx : Nat} {xs : List UInt8} (hx : Bs w ad cx xs) (hm : m = xs.length) (hl : bs.length + xs.length ≤ 1000000) :
    ∃ a' n' c' w', (appBB 22 #[.slice a n c, .slice ad m cx]).run Try.prog w = .ok (.slice a' n' c') w' ∧ Bw w0 P a' n' c' (bs ++ xs) w' ∧ Fr P w w' := by
  subst hm
  obtain ⟨i0, hi, hz0, hz1, hz2⟩ := info_parts Try.infoU8
  have hn := h.len
  subst hn
  obtain ⟨v', w', hrun, hown, hg, hnw⟩ := run_app (P := Try.prog) (w := w) 22 22 5 i0 (.int .u8 0) 1 1 Try.underlying22 hi hz0 hz1 hz2 rfl (by decide) (.slice a bs.length c) bs.length _ h.own ad cx xs.length _ hx Bs.one (by unfold maxLen; omega) (by omega)
  obtain ⟨a', c', rfl⟩ := own_slice hown
  have hf : Fr P w w' := (Fr.refl P w).grown hg fun k hk _ => by rw [ablk_own] at hk; exact h.new k hk
  refine ⟨a', _, c', w', hrun, ⟨by simpa [OwnB] using hown, h.fr.trans hf fun i hi e => by have := hp0 i e; omega, fun k hk => ?_⟩, hf⟩
  rcases hnw k (by rw [ablk_own]; exact hk) with e | e
  · rw [ablk_own] at e; exact h.new k e
  · exact hp k e
theorem Bw.appS {w0 w : World} {P : Nat → Prop} {a : Option Addr} {n c : Nat} {bs : List UInt8} (h : Bw w0 P a n c bs w) (hp0 : ∀ k, P k → w0.heap.size ≤ k) (hp : ∀ k, w.heap.size ≤ k → P k) (xs : List UInt8) (hl : bs.length + xs.length ≤ 1000000) :
    ∃ a' n' c' w', (appBS 22 #[.slice a n c, .string (strOf xs)]).run Try.prog w = .ok (.slice a' n' c') w' ∧ Bw w0 P a' n' c' (bs ++ xs) w' ∧ Fr P w w' := by
  obtain ⟨i0, hi, hz0, hz1, hz2⟩ := info_parts Try.infoU8
  have hn := h.len
  subst hn
  cases a with
  | none =>
    have ho := own_base (B := w.heap.size) h.own fun k hk => by cases hk
    obtain ⟨v', w', hrun, hown, hg, _⟩ := Lib.run_append_own_string (P := Try.prog) (w := w) w.heap.size 22 9 22 5 i0 Try.underlying22 Try.underlying9 hi hz0 hz1 hz2 _ _ _ ho (strOf xs) (by rw [strOf_size]; unfold maxLen; omega) (by rw [strOf_size]; omega) (Nat.le_refl _)
    rw [strOf_size] at hown
    obtain ⟨a', c', rfl⟩ := own_slice hown
    have hf : Fr P w w' := (Fr.refl P w).grown hg fun k hk _ => by cases hk
    refine ⟨a', _, c', w', hrun, ⟨?_, h.fr.trans hf fun i hi e => by have := hp0 i e; omega, fun k hk => hp k (own_low hown k (by rw [ablk_own]; exact hk))⟩, hf⟩
    have := own_base0 hown
    have e : Lib.strCells (strOf xs) = xs.map B8 := rfl
    rw [e] at this
    simpa [OwnB] using this
  | some ad =>
    have ho := own_base (B := min ad.block w.heap.size) h.own fun k hk => by cases hk; omega
    obtain ⟨v', w', hrun, hown, hg, _⟩ := Lib.run_append_own_string (P := Try.prog) (w := w) (min ad.block w.heap.size) 22 9 22 5 i0 Try.underlying22 Try.underlying9 hi hz0 hz1 hz2 _ _ _ ho (strOf xs) (by rw [strOf_size]; unfold maxLen; omega) (by rw [strOf_size]; omega) (by omega)
    rw [strOf_size] at hown
    obtain ⟨a', c', rfl⟩ := own_slice hown
    have hf : Fr P w w' := (Fr.refl P w).grown hg fun k hk _ => by rw [ablk_own] at hk; exact h.new k hk
    refine ⟨a', _, c', w', hrun, ⟨?_, h.fr.trans hf fun i hi e => by have := hp0 i e; omega, fun k hk => ?_⟩, hf⟩
    · have := own_base0 hown
      have e : Lib.strCells (strOf xs) = xs.map B8 := rfl
      rw [e] at this
      simpa [OwnB] using this
    · rcases h.own.2 with ⟨e, _⟩ | ⟨g, cap, cur, e, hbg, hg', hnc, hcm, hcs, htake⟩
      · cases e
      · cases e
        have hcs' : cur.size = c := by simpa using hcs
        by_cases hroom : bs.length + (strOf xs).size ≤ c
        · have hr := Lib.run_append_room_string (P := Try.prog) w 22 9 22 5 i0 Try.underlying22 Try.underlying9 hi hz1 g bs.length c cur hg' (strOf xs) hroom (by omega)
          rw [hr] at hrun
          cases hrun
          exact h.new k hk
        · rw [strOf_size] at hroom
          have hcells : ∀ j u, (bs.map B8)[j]? = some u → w.cell? ((⟨g, 0, none⟩ : Addr).add j) = some u := h.own.cells (g := g) rfl
          have hr := Lib.run_append_grow_string (P := Try.prog) w 22 9 22 5 i0 (.int .u8 0) Try.underlying22 Try.underlying9 hi hz0 ⟨g, 0, none⟩ bs.length c (bs.map B8) (by rw [hz1]; simp) hcells (strOf xs) (by rw [strOf_size]; omega) (by rw [strOf_size]; omega) (by rw [hz2, strOf_size]; exact growslice_fits (by omega) (by omega))
          rw [hr] at hrun
          cases hrun
          cases hk
          exact hp _ (Nat.le_refl _)
theorem Bw.of {w0 w w' : World} {e : Ending} {bs : List UInt8} (f : Fr F0 w0 w) (h : NewOwn bs w e w') : ∃ a n c, e = .returned (.slice a n c) ∧ Bw w0 (fun k => w0.heap.size ≤ k) a n c bs w' := by
  obtain ⟨a, c, rfl, ho, hf, hn⟩ := h
  exact ⟨a, _, c, rfl, ho, f.trans' hf, fun k hk => Nat.le_trans f.size (hn k hk)⟩
theorem refPut4 (x : Nat) (w : World) (hx : x < 18446744073709551616) : Calls Try.prog 28 #[.int .u64 (x : Int), .int .i64 4] w (NewOwn (le 4 x) w) := refPut_own x 4 w hx (by omega)
theorem refPut8 (x : Nat) (w : World) (hx : x < 18446744073709551616) : Calls Try.prog 28 #[.int .u64 (x : Int), .int .i64 8] w (NewOwn (le 8 x) w) := refPut_own x 8 w hx (by omega)
/-- New bytes, as a walk takes them. -/
def NewB (bs : List UInt8) (w : World) (e : Ending) (w' : World) : Prop := ∃ a n c, e = .returned (.slice a n c) ∧ n = bs.length ∧ Bs w' a c bs ∧ Fr F0 w w'
theorem NewBytes.b {bs : List UInt8} {w : World} {e : Ending} {w' : World} (h : NewBytes bs w e w') : NewB bs w e w' := by
  obtain ⟨a, c, rfl, hb, f, _⟩ := h
  exact ⟨a, _, c, rfl, rfl, hb, f⟩
theorem putB4 (x : Nat) (w : World) (hx : x < 18446744073709551616) : Calls Try.prog 28 #[.int .u64 (x : Int), .int .i64 4] w (NewB (le 4 x) w) := (refPut4 x w hx).mono fun _ _ h => h.new.b
theorem putB8 (x : Nat) (w : World) (hx : x < 18446744073709551616) : Calls Try.prog 28 #[.int .u64 (x : Int), .int .i64 8] w (NewB (le 8 x) w) := (refPut8 x w hx).mono fun _ _ h => h.new.b
theorem countB (x : Nat) (w : World) (hx : x < 18446744073709551616) : Calls Try.prog 29 #[.int .u64 (x : Int)] w (NewB (cnt x) w) := (refCount_any x w hx).mono fun _ _ h => h.b

/-- A transaction's input's cells on the document's side, by what a walk asks of them. -/
structure RC (x : MI) (C : Array Value) : Prop where
  size : C.size = 35
  c32 : C[32]? = some (.int .u64 (x.ix : Int))
  c33 : C[33]? = some (.int .u64 (x.sq : Int))
  c34 : C[34]? = some (.string (strOf x.ky))
  byte : ∀ j, j < 32 → C[j]? = some (.int .u8 ((x.fr.getD j 0).toNat : Int))
  one : rowOne C
theorem MI.cellsR {x : MI} (h : x.Ok) : RC x x.row.toArray := by
  have e := h.fr
  refine ⟨by simp [MI.row, e], by simp [MI.row, e], by simp [MI.row, List.getElem?_append, e], by simp [MI.row, List.getElem?_append, e], fun j hj => ?_, MI.one x⟩
  have hj' : j < x.fr.length := by omega
  simp [MI.row, List.getElem?_append, hj', B8, List.getD, List.getElem?_eq_getElem hj', e, hj]

set_option maxRecDepth 100000 in
set_option maxHeartbeats 16000000 in
theorem r9Write_any (r : RT) (w : World) (h : r.Ok w) (hs : r.m.small = true) : Calls Try.prog 9 #[.agg r.cells] w (NewB r.m.bytes w) := by
  rw [MT.small, decide_eq_true_iff] at hs
  obtain ⟨s1, s2, s3, s4⟩ := hs
  obtain ⟨hv, ht, hi, ho⟩ := h
  obtain ⟨⟨vr, ins, outs, lt⟩, ia, ic, oa, oc⟩ := r
  simp only [RT.cells, MT.bytes] at *
  have HI := Lib.hid hi
  have HO := Lib.hid ho
  have S3 := Lib.hid s3
  have S4 := Lib.hid s4
  have rI := hi.sl.room
  have rO := ho.sl.room
  have mI := hi.most
  have mO := ho.most
  clear hi ho s3 s4
  obtain ⟨TB, hTB⟩ : ∃ TB, TB = le 4 vr ++ (cnt ins.length ++ (ins.flatMap MI.bytes ++ (cnt outs.length ++ (outs.flatMap MO.bytes ++ le 4 lt)))) := ⟨_, rfl⟩
  rw [← hTB]
  obtain ⟨n, hn⟩ : ∃ n, n = ins.length := ⟨_, rfl⟩
  obtain ⟨m, hm⟩ : ∃ n, n = outs.length := ⟨_, rfl⟩
  rw [← hn] at s1 rI mI hTB ⊢
  rw [← hm] at s2 rO mO hTB ⊢
  replace hTB := Lib.hid hTB
  replace hn := Lib.hid hn
  replace hm := Lib.hid hm
  have HP := Lib.hid (fun w => refPut4 vr w (by omega))
  have HC := Lib.hid (fun w => countB n w (by omega))
  go_enter Try.func9, Try.ntmps9
  go_upto_region 1 with fail
  refine wp_new fun W1 N1 => ?_
  have r1 := N1.new
  have f1 := Lib.hid N1.fr
  have g01 := Lib.hid (show w.heap.size < W1.heap.size from (Array.getElem?_eq_some_iff.1 r1).1)
  clear N1
  obtain ⟨b0, hb0⟩ : ∃ g, g = w.heap.size := ⟨_, rfl⟩
  rw [← hb0] at r1 g01 ⊢
  clear hb0
  go_wp2_with fail
  (with_reducible refine (HP.out _).mono ?_); rintro e w2 hr
  obtain ⟨a2, n2, c2, rfl, B2⟩ := Bw.of (Fr.refl F0 W1) hr
  have r0 := keep_fr B2.fr r1
  clear hr HP
  go_wp2_with fail
  (with_reducible refine (HC.out _).mono ?_); rintro e w3 ⟨a3, n3, c3, rfl, hn3, hb3, f3⟩
  have hl4 : (le 4 vr).length = 4 := le_length 4 vr
  have hcn := csz_le n
  obtain ⟨a4, n4, c4, w4, happ, B4, _⟩ := (B2.fr0 f3).app (fun k h => h) (fun k h => Nat.le_trans (Nat.le_trans B2.fr.size f3.size) h) hb3 hn3 (by rw [cnt_length]; omega)
  replace r0 := keep_fr B4.fr r1
  have hPL : (le 4 vr ++ cnt n).length ≤ 13 := by simp only [List.length_append, cnt_length]; omega
  obtain ⟨PL, hPLe⟩ : ∃ PL, PL = le 4 vr ++ cnt n := ⟨_, rfl⟩
  rw [← hPLe] at B4 hPL
  have HPL := Lib.hid (And.intro hPL hPLe)
  clear hPL hPLe hl4 hcn B2 hb3 f3 HC hn3
  go_wp2_with fail
  replace f1 := Lib.hid (And.intro f1.out g01.out)
  clear g01
  go_loopw [3, 22] (fun ov iv wr => ∃ (k : Nat) (a : Option Addr) (l c : Nat), k ≤ n ∧ iv = .int .i64 (k : Int) ∧ ov = .slice a l c ∧ Bw W1 (fun k => W1.heap.size ≤ k) a l c (PL ++ (ins.take k).flatMap MI.bytes) wr) (fun _ iv _ => n - (intOf iv).toNat)
  case atStart => exact ⟨0, a4, n4, c4, Nat.zero_le _, rfl, rfl, by simpa using B4⟩
  case round =>
    obtain ⟨k, a, l, c, hk, rfl, rfl, hB⟩ := hrel
    clear B4 happ r0
    have r0 := keep_fr hB.fr r1
    by_cases hkn : k < n
    · have hkl : k < ins.length := by have := hn.out; omega
      obtain ⟨bb, off, rfl, hc⟩ := (HI.out.fr (f1.out.1.trans' hB.fr)).get k hkl
      have hok := HI.out.ok _ (List.getElem_mem hkl)
      have hl := load_rin_at (w := wr) (b := bb) (o := off + k * 35) hok hc
      have HE := Lib.hid (flat_take MI.bytes ins k hkl)
      have hlen : ((ins.take k).flatMap MI.bytes).length ≤ k * 700 := by
        have := flat_len MI.bytes 700 (ins.take k) fun x hx => MI.len (HI.out.ok x (List.mem_of_mem_take hx)) (S3.out x (List.mem_of_mem_take hx))
        rw [List.length_take, Nat.min_eq_left (by omega)] at this
        exact this
      have hxk := S3.out _ (List.getElem_mem hkl)
      obtain ⟨x, hx⟩ : ∃ x, x = ins[k] := ⟨_, rfl⟩
      rw [← hx] at hl hok HE hxk
      clear hc hx
      have K := MI.cellsR hok
      have sz := K.size
      have o1 := K.one
      have c32 := K.c32
      have c33 := K.c33
      have c34 := K.c34
      have HBy := Lib.hid K.byte
      clear K
      obtain ⟨X, hX⟩ : ∃ X, X = x.row.toArray := ⟨_, rfl⟩
      rw [← hX] at hl sz o1 c32 c33 c34 HBy
      clear hX
      have d32 := cell_is c32 (by omega)
      have d33 := cell_is c33 (by omega)
      have d34 := cell_is c34 (by omega)
      obtain ⟨fr, ix, ky, sq⟩ := x
      have hfr := hok.fr
      have hix := hok.ix
      have hsq := hok.sq
      simp only [MI.bytes] at *
      clear hok
      obtain ⟨QL, hQL⟩ : ∃ QL, QL = PL ++ (ins.take k).flatMap MI.bytes := ⟨_, rfl⟩
      have hB' : Bw W1 (fun k => W1.heap.size ≤ k) a l c QL wr := by rw [hQL]; exact hB
      have hQ : QL.length ≤ 100000 := by have := HPL.out.1; rw [hQL, List.length_append]; omega
      replace hQL := Lib.hid (And.intro hQL hQ)
      have H1 := Lib.hid (fun w => putB4 ix w (by omega))
      have H2 := Lib.hid (fun w => countB ky.length w (by omega))
      have H3 := Lib.hid (fun w => putB4 sq w (by omega))
      have hks := strOf_size ky
      obtain ⟨kn, hkn2⟩ : ∃ n, n = ky.length := ⟨_, rfl⟩
      rw [← hkn2] at hks H2 hxk
      replace hkn2 := Lib.hid hkn2
      clear hB hlen hQ
      have l3 : (k : Int) < (n : Int) := by omega
      go_upto_region 6 with fail
      refine wp_put fun W5 N5 => ?_
      have r5 := N5.new
      have B5 := hB'.fr0 N5.fr
      replace r0 := keep_fr B5.fr r1
      obtain ⟨g5, hg5⟩ : ∃ g, g = wr.heap.size := ⟨_, rfl⟩
      have hlt := hB'.lt
      rw [← hg5] at r5 hlt ⊢
      have B6 := B5.with (Q := fun k => W1.heap.size ≤ k ∧ k ≠ g5) fun k hk h => ⟨h, by have := hlt k hk; omega⟩
      have hg5l := Lib.hid (Array.getElem?_eq_some_iff.1 r5).1
      clear N5 hl hB' B5 hlt hg5
      go_wp2_with fail
      go_loopw [3, 26] (fun ov iv wr => ∃ (j : Nat) (a : Option Addr) (l c : Nat), j ≤ 32 ∧ iv = .int .i64 (j : Int) ∧ ov = .slice a l c ∧ Bw W1 (fun k => W1.heap.size ≤ k ∧ k ≠ g5) a l c (QL ++ fr.take j) wr ∧ wr.heap[g5]? = some (.cells X 78 (0, 0)) ∧ Hid (g5 < wr.heap.size)) (fun _ iv _ => 32 - (intOf iv).toNat)
      case atStart => exact ⟨0, a, l, c, Nat.zero_le _, rfl, rfl, by simpa using B6, r5, hg5l.out⟩
      case round =>
        obtain ⟨j, a, l, c, hj, rfl, rfl, hB, r5, hg⟩ := hrel
        clear B6 hg5l r0
        have r0 := keep_fr hB.fr r1
        by_cases hj32 : j < 32
        · have cj := HBy.out j hj32
          have dj := cell_is cj (by omega)
          have hT := Lib.hid (take_succ_getD fr j (by omega))
          obtain ⟨y, hy⟩ : ∃ y, y = fr.getD j 0 := ⟨_, rfl⟩
          rw [← hy] at cj dj hT
          clear hy
          have hB1 := hB.fr0 ((Fr.refl F0 wr).alloc (.cells #[.int .u8 (y.toNat : Int)] 5))
          obtain ⟨a7, n7, c7, w7, happ, B7, f7⟩ := hB1.app (m := 1) (fun k h => h.1) (fun k h => by rw [World.size_alloc] at h; have h1 := hB.fr.size; have h2 := hg.out; exact ⟨by omega, by omega⟩) (one_B8 wr y 5) rfl (by have := hQL.out.2; simp only [List.length_append, List.length_take, List.length_cons, List.length_nil]; omega)
          have r57 := f7.keeps (fun e => e.2 rfl) (keep_alloc (o := .cells #[.int .u8 (y.toNat : Int)] 5) r5)
          have hg7 := Lib.hid (Nat.lt_of_lt_of_le hg.out (Nat.le_trans (by simp) f7.size))
          have lj : (j : Int) < 32 := by omega
          clear hB hB1 f7
          go_wp2_with fail
          go_roundw
          case rel => exact ⟨j + 1, a7, n7, c7, by omega, by go_num, rfl, by rw [hT.out, ← List.append_assoc]; exact B7, r57, hg7.out⟩
          case measure => simp [intOf]; omega
        · have ej : fr.take j = fr := List.take_of_length_le (by omega)
          rw [ej] at hB
          have lj : ¬ (j : Int) < 32 := by omega
          clear ej
          go_wp2_with fail
          (with_reducible refine (H1.out _).mono ?_); rintro e w6 ⟨a6, n6, c6, rfl, hn6, hb6, f6⟩
          obtain ⟨a7, n7, c7, w7, happ7, B7, f7⟩ := (hB.fr0 f6).app (fun k h => h.1) (fun k h => by have h1 := hB.fr.size; have h2 := hg.out; have h3 := f6.size; exact ⟨by omega, by omega⟩) hb6 hn6 (by have := hQL.out.2; simp only [List.length_append, le_length]; omega)
          have r57 := f7.keeps (fun e => e.2 rfl) (keep_fr f6 r5)
          have hg7 := Lib.hid (Nat.lt_of_lt_of_le hg.out (Nat.le_trans f6.size f7.size))
          clear hB f6 f7 hb6 hn6 H1 r5 r0 hg
          go_wp2_with fail
          (with_reducible refine (H2.out _).mono ?_); rintro e w8 ⟨a8, n8, c8, rfl, hn8, hb8, f8⟩
          obtain ⟨a9, n9, c9, w9, happ9, B9, f9⟩ := (B7.fr0 f8).app (fun k h => h.1) (fun k h => by have h1 := B7.fr.size; have h2 := hg7.out; have h3 := f8.size; exact ⟨by omega, by omega⟩) hb8 hn8 (by have := hQL.out.2; have := csz_le kn; simp only [List.length_append, le_length, cnt_length]; omega)
          have r59 := f9.keeps (fun e => e.2 rfl) (keep_fr f8 r57)
          have hg9 := Lib.hid (Nat.lt_of_lt_of_le hg7.out (Nat.le_trans f8.size f9.size))
          obtain ⟨a10, n10, c10, w10, happ10, B10, f10⟩ := B9.appS (fun k h => h.1) (fun k h => by have h1 := B9.fr.size; have h2 := hg9.out; exact ⟨by omega, by omega⟩) ky (by have := hQL.out.2; have := csz_le kn; have := hkn2.out; simp only [List.length_append, le_length, cnt_length]; omega)
          have r510 := f10.keeps (fun e => e.2 rfl) r59
          have hg10 := Lib.hid (Nat.lt_of_lt_of_le hg9.out f10.size)
          clear B7 f8 f9 hb8 hn8 H2 r57 happ7 hg7 f10 B9 hg9
          go_wp2_with fail
          (with_reducible refine (H3.out _).mono ?_); rintro e w11 ⟨a11, n11, c11, rfl, hn11, hb11, f11⟩
          obtain ⟨a12, n12, c12, w12, happ12, B12, f12⟩ := (B10.fr0 f11).app (fun k h => h.1) (fun k h => by have h1 := B10.fr.size; have h2 := hg10.out; have h3 := f11.size; exact ⟨by omega, by omega⟩) hb11 hn11 (by have := hQL.out.2; have := csz_le kn; have := hkn2.out; simp only [List.length_append, le_length, cnt_length]; omega)
          have BE := Lib.hid (B12.with (Q := fun k => W1.heap.size ≤ k) fun k _ h => h.1)
          clear B10 f11 hb11 hn11 H3 r510 happ9 happ10 hg10 f12 B12 r59
          go_wp2_with fail
          go_roundw
          case rel =>
            refine ⟨k + 1, a12, n12, c12, by omega, by go_num, rfl, ?_⟩
            have := BE.out
            rw [hQL.out.1, hkn2.out] at this
            rw [HE.out]
            simp only [MI.bytes, ctd, List.append_assoc] at this ⊢
            exact this
          case measure => simp [intOf]; omega
    · obtain rfl : k = n := by omega
      have eL : ins.take k = ins := by rw [hn.out, List.take_length]
      rw [eL] at hB
      have hlen : (ins.flatMap MI.bytes).length ≤ 70 * 700 := by
        have := flat_len MI.bytes 700 ins fun x hx => MI.len (HI.out.ok x hx) (S3.out x hx)
        have h2 := hn.out
        rw [← h2] at this
        have h3 : k * 700 ≤ 70 * 700 := Nat.mul_le_mul_right _ s1
        omega
      have HC := Lib.hid (fun w => countB m w (by omega))
      clear eL
      obtain ⟨IL, hIL⟩ : ∃ IL, IL = PL ++ ins.flatMap MI.bytes := ⟨_, rfl⟩
      have hB' : Bw W1 (fun k => W1.heap.size ≤ k) a l c IL wr := by rw [hIL]; exact hB
      have hILl : IL.length ≤ 50000 := by have := HPL.out.1; rw [hIL, List.length_append]; omega
      replace hIL := Lib.hid (And.intro hIL hILl)
      clear hB hILl hlen
      go_wp2_with fail
      (with_reducible refine (HC.out _).mono ?_); rintro e w6 ⟨a6, n6, c6, rfl, hn6, hb6, f6⟩
      obtain ⟨a7, n7, c7, w7, happ7, B7, f7⟩ := (hB'.fr0 f6).app (fun k h => h) (fun k h => Nat.le_trans (Nat.le_trans hB'.fr.size f6.size) h) hb6 hn6 (by have := hIL.out.2; have := csz_le m; rw [cnt_length]; omega)
      replace r0 := keep_fr B7.fr r1
      have hPM : (IL ++ cnt m).length ≤ 50009 := by have := hIL.out.2; have := csz_le m; rw [List.length_append, cnt_length]; omega
      obtain ⟨PM, hPMe⟩ : ∃ PM, PM = IL ++ cnt m := ⟨_, rfl⟩
      rw [← hPMe] at B7 hPM
      have HPM := Lib.hid (And.intro hPM hPMe)
      clear hPM hPMe hB' hb6 f6 f7 HC hn6
      go_wp2_with fail
      go_loopw [3, 69] (fun ov iv wr => ∃ (j : Nat) (a : Option Addr) (l c : Nat), j ≤ m ∧ iv = .int .i64 (j : Int) ∧ ov = .slice a l c ∧ Bw W1 (fun k => W1.heap.size ≤ k) a l c (PM ++ (outs.take j).flatMap MO.bytes) wr) (fun _ iv _ => m - (intOf iv).toNat)
      case atStart => exact ⟨0, a7, n7, c7, Nat.zero_le _, rfl, rfl, by simpa using B7⟩
      case round =>
        obtain ⟨j, a, l, c, hj, rfl, rfl, hB⟩ := hrel
        clear B7 happ7 r0
        have r0 := keep_fr hB.fr r1
        by_cases hjm : j < m
        · have hjl : j < outs.length := by have := hm.out; omega
          obtain ⟨bb, off, rfl, hc⟩ := (HO.out.fr (f1.out.1.trans' hB.fr)).get j hjl
          have hok := HO.out.ok _ (List.getElem_mem hjl)
          have hl := load_rout_at (w := wr) (b := bb) (o := off + j * 2) hc
          have HE := Lib.hid (flat_take MO.bytes outs j hjl)
          have hlen : ((outs.take j).flatMap MO.bytes).length ≤ j * 700 := by
            have := flat_len MO.bytes 700 (outs.take j) fun x hx => MO.len (S4.out x (List.mem_of_mem_take hx))
            rw [List.length_take, Nat.min_eq_left (by omega)] at this
            exact this
          have hxk := S4.out _ (List.getElem_mem hjl)
          obtain ⟨x, hx⟩ : ∃ x, x = outs[j] := ⟨_, rfl⟩
          rw [← hx] at hl hok HE hxk
          clear hc hx
          have o1 := MO.one x
          obtain ⟨py, lk⟩ := x
          have hpy := hok.py
          simp only [MO.bytes, MO.row] at *
          clear hok
          obtain ⟨QL, hQL⟩ : ∃ QL, QL = PM ++ (outs.take j).flatMap MO.bytes := ⟨_, rfl⟩
          have hB' : Bw W1 (fun k => W1.heap.size ≤ k) a l c QL wr := by rw [hQL]; exact hB
          have hQ : QL.length ≤ 150000 := by have := HPM.out.1; rw [hQL, List.length_append]; omega
          replace hQL := Lib.hid (And.intro hQL hQ)
          have H1 := Lib.hid (fun w => putB8 py w (by omega))
          have H2 := Lib.hid (fun w => countB lk.length w (by omega))
          have hks := strOf_size lk
          obtain ⟨kn, hkn2⟩ : ∃ n, n = lk.length := ⟨_, rfl⟩
          rw [← hkn2] at hks H2 hxk
          replace hkn2 := Lib.hid hkn2
          clear hB hlen hQ
          have l3 : (j : Int) < (m : Int) := by omega
          go_upto_region 20 with fail
          first | refine wp_new fun W5 N5 => ?_ | refine wp_put fun W5 N5 => ?_
          have r5 := N5.new
          have B5 := hB'.fr0 N5.fr
          replace r0 := keep_fr B5.fr r1
          obtain ⟨g5, hg5⟩ : ∃ g, g = wr.heap.size := ⟨_, rfl⟩
          have hlt := hB'.lt
          rw [← hg5] at r5 hlt ⊢
          have B6 := B5.with (Q := fun k => W1.heap.size ≤ k ∧ k ≠ g5) fun k hk h => ⟨h, by have := hlt k hk; omega⟩
          have hg := Lib.hid (Array.getElem?_eq_some_iff.1 r5).1
          clear N5 hl hB' B5 hlt hg5
          go_wp2_with fail
          (with_reducible refine (H1.out _).mono ?_); rintro e w6 ⟨a6, n6, c6, rfl, hn6, hb6, f6⟩
          obtain ⟨a7, n7, c7, w7, happ7, B7, f7⟩ := (B6.fr0 f6).app (fun k h => h.1) (fun k h => by have h1 := B6.fr.size; have h2 := hg.out; have h3 := f6.size; exact ⟨by omega, by omega⟩) hb6 hn6 (by have := hQL.out.2; simp only [List.length_append, le_length]; omega)
          have r57 := f7.keeps (fun e => e.2 rfl) (keep_fr f6 r5)
          have hg7 := Lib.hid (Nat.lt_of_lt_of_le hg.out (Nat.le_trans f6.size f7.size))
          clear B6 f6 f7 hb6 hn6 H1 r5 r0 hg
          go_wp2_with fail
          (with_reducible refine (H2.out _).mono ?_); rintro e w8 ⟨a8, n8, c8, rfl, hn8, hb8, f8⟩
          obtain ⟨a9, n9, c9, w9, happ9, B9, f9⟩ := (B7.fr0 f8).app (fun k h => h.1) (fun k h => by have h1 := B7.fr.size; have h2 := hg7.out; have h3 := f8.size; exact ⟨by omega, by omega⟩) hb8 hn8 (by have := hQL.out.2; have := csz_le kn; simp only [List.length_append, le_length, cnt_length]; omega)
          have r59 := f9.keeps (fun e => e.2 rfl) (keep_fr f8 r57)
          have hg9 := Lib.hid (Nat.lt_of_lt_of_le hg7.out (Nat.le_trans f8.size f9.size))
          obtain ⟨a10, n10, c10, w10, happ10, B10, f10⟩ := B9.appS (fun k h => h.1) (fun k h => by have h1 := B9.fr.size; have h2 := hg9.out; exact ⟨by omega, by omega⟩) lk (by have := hQL.out.2; have := csz_le kn; have := hkn2.out; simp only [List.length_append, le_length, cnt_length]; omega)
          have BE := Lib.hid (B10.with (Q := fun k => W1.heap.size ≤ k) fun k _ h => h.1)
          clear B7 f8 f9 hb8 hn8 H2 r57 happ7 hg7 f10 B9 hg9 B10
          go_wp2_with fail
          go_roundw
          case rel =>
            refine ⟨j + 1, a10, n10, c10, by omega, by go_num, rfl, ?_⟩
            have := BE.out
            rw [hQL.out.1, hkn2.out] at this
            rw [HE.out]
            simp only [MO.bytes, ctd, List.append_assoc] at this ⊢
            exact this
          case measure => simp [intOf]; omega
        · obtain rfl : j = m := by omega
          have eL : outs.take j = outs := by rw [hm.out, List.take_length]
          rw [eL] at hB
          have hlen : (outs.flatMap MO.bytes).length ≤ 70 * 700 := by
            have := flat_len MO.bytes 700 outs fun x hx => MO.len (S4.out x hx)
            have h2 := hm.out
            rw [← h2] at this
            have h3 : j * 700 ≤ 70 * 700 := Nat.mul_le_mul_right _ s2
            omega
          have HP := Lib.hid (fun w => putB4 lt w (by omega))
          clear eL
          obtain ⟨QL, hQL⟩ : ∃ QL, QL = PM ++ outs.flatMap MO.bytes := ⟨_, rfl⟩
          have hB' : Bw W1 (fun k => W1.heap.size ≤ k) a l c QL wr := by rw [hQL]; exact hB
          have hQ : QL.length ≤ 150000 := by have := HPM.out.1; rw [hQL, List.length_append]; omega
          replace hQL := Lib.hid (And.intro hQL hQ)
          clear hB hQ hlen
          go_wp2_with fail
          (with_reducible refine (HP.out _).mono ?_); rintro e w6 ⟨a6, n6, c6, rfl, hn6, hb6, f6⟩
          obtain ⟨a7, n7, c7, w7, happ7, B7, f7⟩ := (hB'.fr0 f6).app (fun k h => h) (fun k h => Nat.le_trans (Nat.le_trans hB'.fr.size f6.size) h) hb6 hn6 (by have := hQL.out.2; rw [le_length]; omega)
          have hE : QL ++ le 4 lt = TB := by rw [hQL.out.1, HPM.out.2, hIL.out.1, HPL.out.2, hTB.out]; simp only [List.append_assoc]
          rw [hE] at B7
          have hBB := Lib.hid B7
          clear B7 hB' hb6 hn6 f6 f7 HP hE r0
          go_wp2_with fail
          go_ret
          exact ⟨a7, n7, c7, rfl, hBB.out.len, hBB.out.own.bs.2, f1.out.1.trans' hBB.out.fr⟩
end Go.Proofs.Ytaobgaoldfeehaa

/- Layer 9 (tx): the law TxParses, walked. -/
namespace Go.Proofs.Ytaobgaoldfeehaa
set_option linter.unusedVariables false
set_option linter.unusedSimpArgs false
open Go.RowKit

theorem own_none (w : World) : OwnB (w.alloc (.cells #[] 5)) (.slice (some ⟨w.heap.size, 0, none⟩) 0 0) [] := World.ownsRow_made w #[] 0 (Nat.zero_le _) (Nat.zero_le _) rfl
theorem OwnB.set9 {w : World} {g n c : Nat} {bs : List UInt8} (h : OwnB w (.slice (some ⟨g, 0, none⟩) n c) bs) (j : Nat) (u : UInt8) : OwnB (w.setCell ⟨g, j, none⟩ (B8 u)) (.slice (some ⟨g, 0, none⟩) n c) (bs.set j u) := by
  have hn := h.bs.1
  subst hn
  have := (World.ownsRow.stored h j (B8 u)).1
  simpa [OwnB, List.map_set] using this
theorem OwnB.form9 {w : World} {a : Option Addr} {n c : Nat} {bs : List UInt8} (h : OwnB w (.slice a n c) bs) (hne : 0 < bs.length) : ∃ g, a = some ⟨g, 0, none⟩ := by
  rcases h.2 with ⟨h1, h2⟩ | ⟨g, cap, cur, h1, _⟩
  · omega
  · simp only [Value.slice.injEq] at h1
    exact ⟨g, h1.1⟩
theorem OwnB.cell9 {w : World} {g n c : Nat} {bs : List UInt8} (h : OwnB w (.slice (some ⟨g, 0, none⟩) n c) bs) (j : Nat) (hj : j < bs.length) : w.cell? ⟨g, j, none⟩ = some (.int .u8 bs[j].toNat) ∧ w.frozen? ⟨g, j, none⟩ = false := by
  have hn := h.bs.1
  subst hn
  have h1 := World.ownsRow.cellAt h j (by omega)
  rw [List.getElem?_map, List.getElem?_eq_getElem hj] at h1
  exact ⟨h1, World.ownsRow.frozenAt h j⟩
/-- 'append([]byte{}, b...)'. -/
theorem copyB (w : World) (p : Option Addr) (c n : Nat) (bs : List UInt8) (h : Bs w p c bs) (hn : n = bs.length) (hl : bs.length ≤ 1000000) :
    ∃ a' c' w', (appBB 22 #[.slice (some ⟨w.heap.size, 0, none⟩) 0 0, .slice p n c]).run Try.prog (w.alloc (.cells #[] 5)) = .ok (.slice a' n c') w' ∧ OwnB w' (.slice a' n c') bs ∧ (∀ k, ablk a' = some k → w.heap.size ≤ k) ∧ Fr F0 w w' := by
  have B : Bw w (fun k => w.heap.size ≤ k) (some ⟨w.heap.size, 0, none⟩) 0 0 [] (w.alloc (.cells #[] 5)) := ⟨own_none w, (Fr.refl F0 w).alloc _, fun k hk => by cases hk; exact Nat.le_refl _⟩
  obtain ⟨a', n', c', w', hr, B', f⟩ := B.app (fun k h => h) (fun k h => by simp at h; omega) (Bs.fr7 h ((Fr.refl F0 w).alloc (.cells #[] 5))) hn (by simpa using hl)
  have e : n' = n := by have := B'.len; simp at this; omega
  subst e
  exact ⟨a', c', w', hr, B'.own, B'.new, B'.fr⟩
theorem TT.shape (t : TT) : ∃ (x0 x3 : Int) (ia oa : Option Addr) (n m ic oc : Nat), t.cells = #[.int .u32 x0, .slice ia n ic, .slice oa m oc, .int .u32 x3] ∧ n = t.m.ins.length ∧ m = t.m.outs.length :=
  ⟨_, _, _, _, _, _, _, _, rfl, by simp [TT.m], by simp [TT.m]⟩
theorem RT.shape (t : RT) : ∃ (x0 x3 : Int) (ia oa : Option Addr) (n m ic oc : Nat), t.cells = #[.int .u64 x0, .int .u64 x3, .slice ia n ic, .slice oa m oc] ∧ n = t.m.ins.length ∧ m = t.m.outs.length :=
  ⟨_, _, _, _, _, _, _, _, rfl, rfl, rfl⟩
theorem prs_few {b : List UInt8} {t : MT} (h : prs b = some t) : t.ins.length ≤ 70 ∧ t.outs.length ≤ 70 := by
  have := (prs_err h).2.2
  rw [MT.small, decide_eq_true_iff] at this
  exact ⟨this.1, this.2.1⟩

set_option maxRecDepth 100000 in
set_option maxHeartbeats 16000000 in
theorem txParses_any (bs : List UInt8) (p : Option Addr) (c : Nat) (w : World) (hb : Bs w p c bs) :
    Calls Try.prog 4 #[.slice p bs.length c] w fun e w' => e = .returned (.bool true) ∧ Fr F0 w w' := by
  have HL := Lib.hid lives09_any
  have HBb := Lib.hid hb
  obtain ⟨n, hn⟩ : ∃ n, n = bs.length := ⟨_, rfl⟩
  rw [← hn]
  replace hn := Lib.hid hn
  clear hb
  by_cases h5 : n ≤ 5000
  · have l1 : ¬ (5000 : Int) < (n : Int) := by omega
    have HPa := Lib.hid (fun a c w (h : Bs w a c bs) => tParse_any a n c bs w h hn.out (by have := hn.out; omega))
    have HPr := Lib.hid (fun w (h : Bs w p c bs) => r9Parse_any p n c bs w h hn.out (by have := hn.out; omega))
    have h5i : (n : Int) ≤ 5000 := by omega
    go_enter Try.func4, Try.ntmps4
    go_wp2_with fail
    (with_reducible refine (HL.out _).mono ?_); rintro e w1 ⟨rfl, F⟩
    obtain ⟨ao, co, w2, happ, ho2, hp2, f2⟩ := copyB w1 p c n bs (Bs.fr7 HBb.out F) hn.out (by have := hn.out; omega)
    have HO2 := Lib.hid ho2
    have HP2 := Lib.hid hp2
    clear ho2 hp2 HL
    go_wp2_with fail
    (with_reducible refine (HPa.out _ _ _ HO2.out.bs.2).mono ?_); rintro e w3 ⟨t, E, rfl, hE, hT, f3⟩
    obtain ⟨x0, x3, ia, oa, n1, m1, ic, oc, hC, hn1, hm1⟩ := t.shape
    rw [hC]
    have HE := Lib.hid hE
    have HT := Lib.hid hT
    have HC := Lib.hid (And.intro hC (And.intro hn1 hm1))
    have F3 : Fr F0 w w3 := (F.trans' f2).trans' f3
    have HF := Lib.hid (And.intro F (And.intro f2 f3))
    have ho3 : OwnB w3 (.slice ao n co) bs := HO2.out.fr f3 fun _ _ f => f
    have hlt2 := Lib.hid (show ∀ k, ablk ao = some k → k < w2.heap.size from fun k hk => HO2.out.lt k (by rw [ablk_own]; exact hk))
    clear hE hT hC hn1 hm1 F f2 f3 happ HPa
    go_upto_region 5 with fail
    first | refine wp_new fun W4 N4 => ?_ | refine wp_put fun W4 N4 => ?_
    have r4 := N4.new
    have f4 := N4.fr
    have ho4 : OwnB W4 (.slice ao n co) bs := ho3.fr f4 fun _ _ f => f
    have hT4 := Lib.hid (HT.out.fr f4 fun _ f => f.elim)
    have g4l := Lib.hid (show w2.heap.size ≤ w3.heap.size from HF.out.2.2.size)
    clear N4 ho3 HO2 HT
    generalize w3.heap.size = g4 at *
    have F4 := Lib.hid (F3.trans' f4)
    clear F3 f4
    go_wp2_with fail
    go_loopw [29] (fun iv wr => ∃ k : Nat, k ≤ n ∧ iv = .int .i64 k ∧ (∃ bs', OwnB wr (.slice ao n co) bs' ∧ bs'.length = n) ∧ Fr (fun j => ablk ao = some j) W4 wr) (fun iv _ => n - (intOf iv).toNat)
    case atStart => exact ⟨0, Nat.zero_le _, rfl, ⟨bs, ho4, hn.out.symm⟩, Fr.refl _ _⟩
    case round =>
      obtain ⟨k, hk, rfl, ⟨bs', ho', hl'⟩, hf⟩ := hrel
      clear ho4
      by_cases hkn : k < n
      · obtain ⟨g, rfl⟩ := ho'.form9 (by omega)
        obtain ⟨hc1, hz1⟩ := ho'.cell9 k (by omega)
        rw [cell_at] at hc1
        rw [frozen_at] at hz1
        have hx8 := (bs'[k]'(by omega)).toNat_lt
        generalize (bs'[k]'(by omega)).toNat = v at *
        have hxor : bits .xor .u8 (v : Int) 255 = ((v ^^^ 255 : Nat) : Int) := u8_xor_nat v 255 (by omega) (by omega)
        have hv8 : v ^^^ 255 < 256 := Nat.xor_lt_two_pow (n := 8) (by omega) (by omega)
        generalize v ^^^ 255 = u at *
        have HS := Lib.hid (ho'.set9 k (UInt8.ofNat u))
        have HFs := Lib.hid (Fr.setCell hf (p := ⟨g, k, none⟩) (fun _ => rfl) (B8 (UInt8.ofNat u)))
        have hB8 : B8 (UInt8.ofNat u) = .int .u8 u := by simp [B8, Nat.mod_eq_of_lt hv8]
        rw [hB8] at HS HFs
        have HLn := Lib.hid hl'
        clear hl' ho' hB8 hf r4
        go_wp2
        go_roundw
        case rel => exact ⟨k + 1, by omega, by go_num, ⟨_, HS.out, by rw [List.length_set]; exact HLn.out⟩, HFs.out⟩
        case measure => simp [intOf]; omega
      · obtain rfl : n = k := by omega
        clear ho' hl' hkn hk
        have hTr : TNew w2.heap.size wr t := hT4.out.fr hf fun j hj => hlt2.out j hj
        have r4' := hf.keeps (fun e => by have := hlt2.out g4 e; have := g4l.out; omega) r4
        have Fr5 : Fr F0 w wr := F4.out.trans hf fun i hi e => by have := HP2.out i e; have := HF.out.1.size; omega
        clear r4 hf hT4 hlt2 g4l F4 HP2 HF
        replace hTr := Lib.hid hTr
        go_wp2_with fail
        (with_reducible refine (HPr.out _ (Bs.fr7 HBb.out Fr5)).mono ?_); rintro e w5 ⟨r, ok, rfl, hr, hR, f5⟩
        clear HPr
        replace r4' := keep_fr f5 r4'
        obtain ⟨y0, y3, ia2, oa2, n2, m2, ic2, oc2, hC2, hn2, hm2⟩ := r.shape
        rw [hC2]
        have HR := Lib.hid hR
        have HC2 := Lib.hid hC2
        have F5 := Lib.hid (And.intro (Fr5.trans' f5) f5)
        clear hR hC2 Fr5 f5
        have HE' := HE.out
        clear HE
        rcases HE' with ⟨hp, rfl⟩ | ⟨hp, rfl, rfl⟩
        · obtain ⟨rfl, hq⟩ : ok = true ∧ prs bs = some r.m := by
            rcases hr with h | ⟨_, h⟩
            · exact h
            · rw [hp] at h; cases h
          have hm : r.m = t.m := by rw [hp] at hq; exact (Option.some.inj hq).symm
          rw [hm, ← HC.out.2.1] at hn2
          rw [hm, ← HC.out.2.2] at hm2
          subst hn2 hm2
          have hq' := Lib.hid (And.intro hp hm)
          clear hr hq hp hm
          go_upto_region 11 with fail
          first | refine wp_new fun W6 N6 => ?_ | refine wp_put fun W6 N6 => ?_
          have r7 := N6.new
          have n47 := N6.ne r4'
          have r4 := N6.old r4'
          have F6 := Lib.hid (And.intro (F5.out.1.trans' N6.fr) (F5.out.2.trans' N6.fr))
          have HR6 := Lib.hid (HR.out.fr N6.fr)
          clear N6 r4' F5 HR
          generalize w5.heap.size = g7 at *
          have hT6 : t.Ok W6 := hTr.out.ok.fr F6.out.2
          have HBy : Calls Try.prog 11 #[.agg t.cells] W6 fun e w' => ∃ a c, e = .returned (.tuple #[.slice a n c, .int .i64 0]) ∧ Bs w' a c bs ∧ Fr F0 W6 w' := (tBytes_any t W6 hT6).mono fun e w' ⟨a, k, c, he, hk, hb, f, _⟩ => by
            obtain ⟨e1, e2, _⟩ := prs_err hq'.out.1
            rw [e1] at he
            rw [e2] at hb hk
            exact ⟨a, c, by rw [he, hk, hn.out], hb, f⟩
          rw [HC.out.1] at HBy
          replace HBy := Lib.hid HBy
          have hT6 := Lib.hid hT6
          clear hTr
          go_upto_region 15 with fail
          go_wp2_with fail
          (with_reducible refine HBy.out.mono ?_); rintro e w8 ⟨ax, cx, rfl, hb8, f8⟩
          replace r4 := keep_fr f8 r4
          replace r7 := keep_fr f8 r7
          have HRf := Lib.hid (show ∀ w', Fr F0 w8 w' → Calls Try.prog 8 #[.agg #[.int .u32 x0, .slice ia n2 ic, .slice oa m2 oc, .int .u32 x3]] w' fun e w'' => ∃ r1 : RT, e = .returned (.agg r1.cells) ∧ r1.m = t.m ∧ r1.Ok w'' ∧ Fr F0 w' w'' from fun w' f => by
            have h70 := prs_few hq'.out.1
            have := Ref09_any t w' (hT6.out.fr (f8.trans' f)) (by simpa [TT.m] using h70)
            rw [HC.out.1] at this
            exact this)
          have hby := (prs_inv hq'.out.1).1
          have hsm := (prs_err hq'.out.1).2.2
          have HW1 := Lib.hid (show ∀ (r1 : RT) w', r1.Ok w' → r1.m = t.m → Calls Try.prog 9 #[.agg r1.cells] w' (NewB bs w') from fun r1 w' h hm => by
            have := r9Write_any r1 w' h (by rw [hm]; exact hsm)
            rw [hm, ← hby] at this
            exact this)
          have HW2 := Lib.hid (show ∀ w', Fr F0 w8 w' → Calls Try.prog 9 #[.agg #[.int .u64 y0, .int .u64 y3, .slice ia2 n2 ic2, .slice oa2 m2 oc2]] w' (NewB bs w') from fun w' f => by
            have := HW1.out r w' (HR6.out.fr (f8.trans' f)) hq'.out.2
            rw [HC2.out] at this
            exact this)
          have HB8 := Lib.hid hb8
          have HBw := Lib.hid (Bs.fr7 HBb.out (F6.out.1.trans' f8))
          have F8 := Lib.hid (F6.out.1.trans' f8)
          clear f8 hb8 hby hsm HBy hT6 HR6 F6 HBb HC HC2 hq'
          go_upto_region 16 with fail
          refine wp_region_noPanic ?_
          refine wp_region_held_drew (S := (fun w' => (w'.heap[g4]? = some (.cells #[.int .u32 x0, .slice ia n2 ic, .slice oa m2 oc, .int .u32 x3] 28 (0, 0)) ∧ w'.heap[g7]? = some (.cells #[.int .u64 y0, .int .u64 y3, .slice ia2 n2 ic2, .slice oa2 m2 oc2] 37 (0, 0))) ∧ ((convert 22 9 (.slice ax n cx)).run Try.prog w' = .ok (.string (strOf bs)) w' ∧ (convert 22 9 (.slice p n c)).run Try.prog w' = .ok (.string (strOf bs)) w') ∧ Fr F0 w8 w')) (by kernel_rfl) ?_ (fun hHeld => ?_)
          · ((try dsimp only) <;> (first | exact ⟨⟨r4, r7⟩, ⟨bs_str7 (Bs.fr7 HB8.out (Fr.refl F0 w8).drew) hn.out, bs_str7 (Bs.fr7 HBw.out (Fr.refl F0 w8).drew) hn.out⟩, (Fr.refl F0 w8).drew⟩ | exact hHeld | exact ⟨⟨keep_fr f5 hHeld.1.1, keep_fr f5 hHeld.1.2⟩, ⟨bs_str7 (Bs.fr7 HB8.out (hHeld.2.2.trans' f5)) hn.out, bs_str7 (Bs.fr7 HBw.out (hHeld.2.2.trans' f5)) hn.out⟩, hHeld.2.2.trans' f5⟩))
          refine rtake 0 ?_
          refine rtake 1 ?_
          refine rtake 2 ?_
          refine rtake 3 ?_
          refine rtake 4 ?_
          refine rtake 5 ?_
          refine rtake 6 ?_
          refine rtake 7 ?_
          refine rtake 8 ?_
          refine rtake 9 ?_
          refine rtake 10 ?_
          refine rtake 14 ?_
          refine wpAnyH_ready (rs := [11]) (by kernel_rfl) (by simp) ?_
          refine AllReadyH.cons (o := ⟨_, _, _, _, _, _⟩) rfl (fun K hK => ?_) AllReadyH.nil
          go_simp
          ((with_reducible refine (HRf.out _ hHeld.2.2).mono ?_); rintro e w11 ⟨r1, rfl, hm11, ok11, f5⟩)
          refine hK.out _ _ ?_ (fun hHeld => ?_)
          · ((try dsimp only) <;> (first | exact ⟨⟨r4, r7⟩, ⟨bs_str7 (Bs.fr7 HB8.out (Fr.refl F0 w8).drew) hn.out, bs_str7 (Bs.fr7 HBw.out (Fr.refl F0 w8).drew) hn.out⟩, (Fr.refl F0 w8).drew⟩ | exact hHeld | exact ⟨⟨keep_fr f5 hHeld.1.1, keep_fr f5 hHeld.1.2⟩, ⟨bs_str7 (Bs.fr7 HB8.out (hHeld.2.2.trans' f5)) hn.out, bs_str7 (Bs.fr7 HBw.out (hHeld.2.2.trans' f5)) hn.out⟩, hHeld.2.2.trans' f5⟩))
          clear hK K
          try (simp only [Act.put, List.setIfInBounds_toArray]; dsimp only [List.set_cons_zero, List.set_cons_succ])
          refine wpAnyH_ready (rs := [12]) (by kernel_rfl) (by simp) ?_
          refine AllReadyH.cons (o := ⟨_, _, _, _, _, _⟩) rfl (fun K hK => ?_) AllReadyH.nil
          go_simp
          ((with_reducible refine (HW1.out r1 _ ok11 hm11).mono ?_); rintro e w12 ⟨a12, n12, c12, rfl, hn12, hb12, f5⟩; have hs12 := bs_str7 hb12 hn12; replace hn12 := Lib.hid hn12)
          refine hK.out _ _ ?_ (fun hHeld => ?_)
          · ((try dsimp only) <;> (first | exact ⟨⟨r4, r7⟩, ⟨bs_str7 (Bs.fr7 HB8.out (Fr.refl F0 w8).drew) hn.out, bs_str7 (Bs.fr7 HBw.out (Fr.refl F0 w8).drew) hn.out⟩, (Fr.refl F0 w8).drew⟩ | exact hHeld | exact ⟨⟨keep_fr f5 hHeld.1.1, keep_fr f5 hHeld.1.2⟩, ⟨bs_str7 (Bs.fr7 HB8.out (hHeld.2.2.trans' f5)) hn.out, bs_str7 (Bs.fr7 HBw.out (hHeld.2.2.trans' f5)) hn.out⟩, hHeld.2.2.trans' f5⟩))
          clear hK K
          try (simp only [Act.put, List.setIfInBounds_toArray]; dsimp only [List.set_cons_zero, List.set_cons_succ])
          refine wpAnyH_ready (rs := [13, 15]) (by kernel_rfl) (by simp) ?_
          refine AllReadyH.cons (o := ⟨_, _, _, _, _, _⟩) rfl (fun K hK => ?_) (AllReadyH.cons (o := ⟨_, _, _, _, _, _⟩) rfl (fun K hK => ?_) AllReadyH.nil)
          go_simp
          refine hK.out _ _ ?_ (fun hHeld => ?_)
          · ((try dsimp only) <;> (first | exact ⟨⟨r4, r7⟩, ⟨bs_str7 (Bs.fr7 HB8.out (Fr.refl F0 w8).drew) hn.out, bs_str7 (Bs.fr7 HBw.out (Fr.refl F0 w8).drew) hn.out⟩, (Fr.refl F0 w8).drew⟩ | exact hHeld | exact ⟨⟨keep_fr f5 hHeld.1.1, keep_fr f5 hHeld.1.2⟩, ⟨bs_str7 (Bs.fr7 HB8.out (hHeld.2.2.trans' f5)) hn.out, bs_str7 (Bs.fr7 HBw.out (hHeld.2.2.trans' f5)) hn.out⟩, hHeld.2.2.trans' f5⟩))
          clear hK K
          try (simp only [Act.put, List.setIfInBounds_toArray]; dsimp only [List.set_cons_zero, List.set_cons_succ])
          refine wpAnyH_ready (rs := [15]) (by kernel_rfl) (by simp) ?_
          refine AllReadyH.cons (o := ⟨_, _, _, _, _, _⟩) rfl (fun K hK => ?_) AllReadyH.nil
          go_simp
          ((with_reducible refine (HW2.out _ hHeld.2.2).mono ?_); rintro e w15 ⟨a15, n15, c15, rfl, hn15, hb15, f5⟩; have hs15 := bs_str7 hb15 hn15; have hs1215 := bs_str7 (Bs.fr7 hb12 f5) hn12.out; clear hn15)
          refine hK.out _ _ ?_ (fun hHeld => ?_)
          · ((try dsimp only) <;> (first | exact ⟨⟨r4, r7⟩, ⟨bs_str7 (Bs.fr7 HB8.out (Fr.refl F0 w8).drew) hn.out, bs_str7 (Bs.fr7 HBw.out (Fr.refl F0 w8).drew) hn.out⟩, (Fr.refl F0 w8).drew⟩ | exact hHeld | exact ⟨⟨keep_fr f5 hHeld.1.1, keep_fr f5 hHeld.1.2⟩, ⟨bs_str7 (Bs.fr7 HB8.out (hHeld.2.2.trans' f5)) hn.out, bs_str7 (Bs.fr7 HBw.out (hHeld.2.2.trans' f5)) hn.out⟩, hHeld.2.2.trans' f5⟩))
          clear hK K
          try (simp only [Act.put, List.setIfInBounds_toArray]; dsimp only [List.set_cons_zero, List.set_cons_succ])
          refine wpAnyH_ready (rs := [16]) (by kernel_rfl) (by simp) ?_
          refine AllReadyH.cons (o := ⟨_, _, _, _, _, _⟩) rfl (fun K hK => ?_) AllReadyH.nil
          go_simp
          refine hK.out _ _ ?_ (fun hHeld => ?_)
          · ((try dsimp only) <;> (first | exact ⟨⟨r4, r7⟩, ⟨bs_str7 (Bs.fr7 HB8.out (Fr.refl F0 w8).drew) hn.out, bs_str7 (Bs.fr7 HBw.out (Fr.refl F0 w8).drew) hn.out⟩, (Fr.refl F0 w8).drew⟩ | exact hHeld | exact ⟨⟨keep_fr f5 hHeld.1.1, keep_fr f5 hHeld.1.2⟩, ⟨bs_str7 (Bs.fr7 HB8.out (hHeld.2.2.trans' f5)) hn.out, bs_str7 (Bs.fr7 HBw.out (hHeld.2.2.trans' f5)) hn.out⟩, hHeld.2.2.trans' f5⟩))
          clear hK K
          try (simp only [Act.put, List.setIfInBounds_toArray]; dsimp only [List.set_cons_zero, List.set_cons_succ])
          refine rtake 17 ?_
          refine rtake 18 ?_
          refine rtake 19 ?_
          refine rtake 20 ?_
          refine rtake 21 ?_
          refine rtake 22 ?_
          refine rtake 23 ?_
          refine rtake 24 ?_
          refine rtake 25 ?_
          refine rtake 26 ?_
          refine rtake 27 ?_
          refine rtake 28 ?_
          refine rtake 29 ?_
          refine rtake 30 ?_
          refine rtake 31 ?_
          refine rtake 32 ?_
          refine rtake 33 ?_
          refine rtake 34 ?_
          refine rtake 35 ?_
          refine rtake 36 ?_
          refine rtake 37 ?_
          refine wpAnyH_done (by kernel_rfl) ?_ _
          refine NoPanic.normal ?_
          rotate_left
          go_simp
          ((with_reducible refine (HW2.out _ hHeld.2.2).mono ?_); rintro e w15 ⟨a15, n15, c15, rfl, hn15, hb15, f5⟩; have hs15 := bs_str7 hb15 hn15; have hs1215 := bs_str7 (Bs.fr7 hb12 f5) hn12.out; clear hn15)
          refine hK.out _ _ ?_ (fun hHeld => ?_)
          · ((try dsimp only) <;> (first | exact ⟨⟨r4, r7⟩, ⟨bs_str7 (Bs.fr7 HB8.out (Fr.refl F0 w8).drew) hn.out, bs_str7 (Bs.fr7 HBw.out (Fr.refl F0 w8).drew) hn.out⟩, (Fr.refl F0 w8).drew⟩ | exact hHeld | exact ⟨⟨keep_fr f5 hHeld.1.1, keep_fr f5 hHeld.1.2⟩, ⟨bs_str7 (Bs.fr7 HB8.out (hHeld.2.2.trans' f5)) hn.out, bs_str7 (Bs.fr7 HBw.out (hHeld.2.2.trans' f5)) hn.out⟩, hHeld.2.2.trans' f5⟩))
          clear hK K
          try (simp only [Act.put, List.setIfInBounds_toArray]; dsimp only [List.set_cons_zero, List.set_cons_succ])
          refine wpAnyH_ready (rs := [13, 16]) (by kernel_rfl) (by simp) ?_
          refine AllReadyH.cons (o := ⟨_, _, _, _, _, _⟩) rfl (fun K hK => ?_) (AllReadyH.cons (o := ⟨_, _, _, _, _, _⟩) rfl (fun K hK => ?_) AllReadyH.nil)
          go_simp
          refine hK.out _ _ ?_ (fun hHeld => ?_)
          · ((try dsimp only) <;> (first | exact ⟨⟨r4, r7⟩, ⟨bs_str7 (Bs.fr7 HB8.out (Fr.refl F0 w8).drew) hn.out, bs_str7 (Bs.fr7 HBw.out (Fr.refl F0 w8).drew) hn.out⟩, (Fr.refl F0 w8).drew⟩ | exact hHeld | exact ⟨⟨keep_fr f5 hHeld.1.1, keep_fr f5 hHeld.1.2⟩, ⟨bs_str7 (Bs.fr7 HB8.out (hHeld.2.2.trans' f5)) hn.out, bs_str7 (Bs.fr7 HBw.out (hHeld.2.2.trans' f5)) hn.out⟩, hHeld.2.2.trans' f5⟩))
          clear hK K
          try (simp only [Act.put, List.setIfInBounds_toArray]; dsimp only [List.set_cons_zero, List.set_cons_succ])
          refine wpAnyH_ready (rs := [16]) (by kernel_rfl) (by simp) ?_
          refine AllReadyH.cons (o := ⟨_, _, _, _, _, _⟩) rfl (fun K hK => ?_) AllReadyH.nil
          go_simp
          refine hK.out _ _ ?_ (fun hHeld => ?_)
          · ((try dsimp only) <;> (first | exact ⟨⟨r4, r7⟩, ⟨bs_str7 (Bs.fr7 HB8.out (Fr.refl F0 w8).drew) hn.out, bs_str7 (Bs.fr7 HBw.out (Fr.refl F0 w8).drew) hn.out⟩, (Fr.refl F0 w8).drew⟩ | exact hHeld | exact ⟨⟨keep_fr f5 hHeld.1.1, keep_fr f5 hHeld.1.2⟩, ⟨bs_str7 (Bs.fr7 HB8.out (hHeld.2.2.trans' f5)) hn.out, bs_str7 (Bs.fr7 HBw.out (hHeld.2.2.trans' f5)) hn.out⟩, hHeld.2.2.trans' f5⟩))
          clear hK K
          try (simp only [Act.put, List.setIfInBounds_toArray]; dsimp only [List.set_cons_zero, List.set_cons_succ])
          refine rtake 17 ?_
          refine rtake 18 ?_
          refine rtake 19 ?_
          refine rtake 20 ?_
          refine rtake 21 ?_
          refine rtake 22 ?_
          refine rtake 23 ?_
          refine rtake 24 ?_
          refine rtake 25 ?_
          refine rtake 26 ?_
          refine rtake 27 ?_
          refine rtake 28 ?_
          refine rtake 29 ?_
          refine rtake 30 ?_
          refine rtake 31 ?_
          refine rtake 32 ?_
          refine rtake 33 ?_
          refine rtake 34 ?_
          refine rtake 35 ?_
          refine rtake 36 ?_
          refine rtake 37 ?_
          refine wpAnyH_done (by kernel_rfl) ?_ _
          refine NoPanic.normal ?_
          rotate_left
          go_simp
          refine hK.out _ _ ?_ (fun hHeld => ?_)
          · ((try dsimp only) <;> (first | exact ⟨⟨r4, r7⟩, ⟨bs_str7 (Bs.fr7 HB8.out (Fr.refl F0 w8).drew) hn.out, bs_str7 (Bs.fr7 HBw.out (Fr.refl F0 w8).drew) hn.out⟩, (Fr.refl F0 w8).drew⟩ | exact hHeld | exact ⟨⟨keep_fr f5 hHeld.1.1, keep_fr f5 hHeld.1.2⟩, ⟨bs_str7 (Bs.fr7 HB8.out (hHeld.2.2.trans' f5)) hn.out, bs_str7 (Bs.fr7 HBw.out (hHeld.2.2.trans' f5)) hn.out⟩, hHeld.2.2.trans' f5⟩))
          clear hK K
          try (simp only [Act.put, List.setIfInBounds_toArray]; dsimp only [List.set_cons_zero, List.set_cons_succ])
          refine wpAnyH_ready (rs := [13]) (by kernel_rfl) (by simp) ?_
          refine AllReadyH.cons (o := ⟨_, _, _, _, _, _⟩) rfl (fun K hK => ?_) AllReadyH.nil
          go_simp
          refine hK.out _ _ ?_ (fun hHeld => ?_)
          · ((try dsimp only) <;> (first | exact ⟨⟨r4, r7⟩, ⟨bs_str7 (Bs.fr7 HB8.out (Fr.refl F0 w8).drew) hn.out, bs_str7 (Bs.fr7 HBw.out (Fr.refl F0 w8).drew) hn.out⟩, (Fr.refl F0 w8).drew⟩ | exact hHeld | exact ⟨⟨keep_fr f5 hHeld.1.1, keep_fr f5 hHeld.1.2⟩, ⟨bs_str7 (Bs.fr7 HB8.out (hHeld.2.2.trans' f5)) hn.out, bs_str7 (Bs.fr7 HBw.out (hHeld.2.2.trans' f5)) hn.out⟩, hHeld.2.2.trans' f5⟩))
          clear hK K
          try (simp only [Act.put, List.setIfInBounds_toArray]; dsimp only [List.set_cons_zero, List.set_cons_succ])
          refine rtake 17 ?_
          refine rtake 18 ?_
          refine rtake 19 ?_
          refine rtake 20 ?_
          refine rtake 21 ?_
          refine rtake 22 ?_
          refine rtake 23 ?_
          refine rtake 24 ?_
          refine rtake 25 ?_
          refine rtake 26 ?_
          refine rtake 27 ?_
          refine rtake 28 ?_
          refine rtake 29 ?_
          refine rtake 30 ?_
          refine rtake 31 ?_
          refine rtake 32 ?_
          refine rtake 33 ?_
          refine rtake 34 ?_
          refine rtake 35 ?_
          refine rtake 36 ?_
          refine rtake 37 ?_
          refine wpAnyH_done (by kernel_rfl) ?_ _
          refine NoPanic.normal ?_
          rotate_left
          all_goals
            go_wp2
            go_ret
            exact ⟨by first | rfl | simp, F8.out.trans' hHeld.2.2⟩
        · obtain ⟨rfl, hq⟩ : ok = false ∧ True := by
            rcases hr with ⟨_, h⟩ | ⟨h, _⟩
            · rw [hp] at h; cases h
            · exact ⟨h, trivial⟩
          have hz := HC.out.1
          obtain ⟨rfl, rfl, rfl, rfl⟩ : ia = none ∧ n1 = 0 ∧ oa = none ∧ m1 = 0 := by
            have h1 := congrArg (fun c : Array Value => c[1]?) hz
            have h2 := congrArg (fun c : Array Value => c[2]?) hz
            simp [TT.zero, TT.cells] at h1 h2
            exact ⟨h1.1.symm, h1.2.1.symm, h2.1.symm, h2.2.1.symm⟩
          clear hq hr hp hz
          go_upto_region 11 with fail
          first | refine wp_new fun W6 N6 => ?_ | refine wp_put fun W6 N6 => ?_
          have r4 := N6.old r4'
          have F6 := Lib.hid (F5.out.1.trans' N6.fr)
          clear N6 r4' F5 HR
          go_wp2_with fail
          go_ret
          exact ⟨rfl, F6.out⟩
  · have l1 : (5000 : Int) < (n : Int) := by omega
    go_enter Try.func4, Try.ntmps4
    go_wp2_with fail
    (with_reducible refine (HL.out _).mono ?_); rintro e w1 ⟨rfl, F⟩
    go_wp2_with fail
    (with_reducible refine (HL.out _).mono ?_); rintro e w2 ⟨rfl, f⟩
    go_wp2
    go_ret
    exact ⟨rfl, F.trans' f⟩
end Go.Proofs.Ytaobgaoldfeehaa

/- Layer 9 (tx): the law TxApart, walked. -/
namespace Go.Proofs.Ytaobgaoldfeehaa
set_option linter.unusedVariables false
set_option linter.unusedSimpArgs false
open Go.RowKit

theorem byte_same (bs : List UInt8) (q v y : Nat) (hq : q < bs.length) (hv : (bs[q]).toNat = v) (hy : y < 256) : (bs = bs.set q (UInt8.ofNat (v ^^^ y))) ↔ y = 0 := by
  have hv8 : v < 256 := by rw [← hv]; exact UInt8.toNat_lt _
  have hx : v ^^^ y < 256 := Nat.xor_lt_two_pow (n := 8) (by omega) (by omega)
  constructor
  · intro h
    have h1 := congrArg (fun l : List UInt8 => l[q]?) h
    simp only [List.getElem?_eq_getElem hq, List.getElem?_set_self hq, Option.some.injEq] at h1
    have h2 := congrArg UInt8.toNat h1
    rw [hv, UInt8.toNat_ofNat', Nat.mod_eq_of_lt hx] at h2
    have h3 : v ^^^ (v ^^^ y) = 0 := by rw [← h2, Nat.xor_self]
    rw [← Nat.xor_assoc, Nat.xor_self, Nat.zero_xor] at h3
    exact h3
  · rintro rfl
    rw [Nat.xor_zero, ← hv, UInt8.ofNat_toNat, List.set_getElem_self]

theorem parse_no {bs : List UInt8} {w w' : World} {e : Ending} (h : ParseQ bs w e w') (hp : prs bs = none) : e = .returned (.tuple #[.agg #[.int .u32 0, .slice none 0 0, .slice none 0 0, .int .u32 0], .int .i64 2]) ∧ Fr F0 w w' := by
  obtain ⟨t, E, rfl, h1, _, f⟩ := h
  rcases h1 with ⟨h2, _⟩ | ⟨_, rfl, rfl⟩
  · rw [hp] at h2; cases h2
  · exact ⟨rfl, f⟩

theorem Bs.upto9 {w : World} {a : Option Addr} {c : Nat} {bs : List UInt8} (h : Bs w a c bs) (k : Nat) : Bs w a c (bs.take k) := by
  refine Sl.mk (by simp) ?_ h.most h.nil (fun j u hj => ?_)
  · have := h.room
    simp only [List.length_take]
    omega
  · rw [List.map_take, List.getElem?_take] at hj
    split at hj
    · exact h.cell j u hj
    · cases hj
theorem parse_less {bs : List UInt8} {b0 off c n m : Nat} {w : World} {t : MT} (h : Bs w (some ⟨b0, off, none⟩) c bs) (hn : n = bs.length) (h5 : n ≤ 5000) (hm : n = m + 1) (hp : prs bs = some t) :
    Calls Try.prog 7 #[.slice (some ⟨b0, off, none⟩) m c] w fun e w' => e = .returned (.tuple #[.agg #[.int .u32 0, .slice none 0 0, .slice none 0 0, .int .u32 0], .int .i64 2]) ∧ Fr F0 w w' := by
  have hl : m = bs.dropLast.length := by simp; omega
  have hne : bs ≠ [] := by rintro rfl; simp at hn; omega
  have hb : Bs w (some ⟨b0, off, none⟩) c bs.dropLast := by rw [List.dropLast_eq_take]; exact h.upto9 _
  exact (tParse_any _ m c bs.dropLast w hb hl (by omega)).mono fun e w' q => parse_no q (prs_less hp hne)
/-- 'append(append([]byte{}, a...), 0)', parsed. -/
theorem parse_more {bs : List UInt8} {p : Option Addr} {c n : Nat} {w : World} {t : MT} (h : Bs w p c bs) (hn : n = bs.length) (h5 : n ≤ 5000) (hp : prs bs = some t) :
    ∃ a c' w1 a2 n2 c2 w2, (appBB 22 #[.slice (some ⟨w.heap.size, 0, none⟩) 0 0, .slice p n c]).run Try.prog (w.alloc (.cells #[] 5)) = .ok (.slice a n c') w1 ∧
      (appBB 22 #[.slice a n c', .slice (some ⟨w1.heap.size, 0, none⟩) 1 1]).run Try.prog (w1.alloc (.cells #[.int .u8 0] 5)) = .ok (.slice a2 n2 c2) w2 ∧ Fr F0 w w2 ∧
      Calls Try.prog 7 #[.slice a2 n2 c2] w2 fun e w' => e = .returned (.tuple #[.agg #[.int .u32 0, .slice none 0 0, .slice none 0 0, .int .u32 0], .int .i64 2]) ∧ Fr F0 w2 w' := by
  obtain ⟨a, c', w1, h1, ho, hp1, f1⟩ := copyB w p c n bs h hn (by omega)
  have B : Bw w (fun k => w.heap.size ≤ k) a n c' bs w1 := ⟨ho, f1, hp1⟩
  have fa := (Fr.refl F0 w1).alloc (.cells #[.int .u8 0] 5)
  obtain ⟨a2, n2, c2, w2, h2, B2, f2⟩ := (B.fr0 fa).app (fun k h => h) (fun k h => by have := f1.size; simp at h; omega) (one_byte w1 0) rfl (by simp; omega)
  refine ⟨a, c', w1, a2, n2, c2, w2, h1, h2, B2.fr, ?_⟩
  exact (tParse_any _ n2 c2 _ w2 B2.own.bs.2 B2.len (by simp; omega)).mono fun e w' q => parse_no q (prs_more hp _)

set_option maxRecDepth 100000 in
set_option maxHeartbeats 16000000 in
theorem txApart_any (bs : List UInt8) (p : Option Addr) (c : Nat) (x : Int) (y : Nat) (hy : y < 256) (w : World) (hb : Bs w p c bs) :
    Calls Try.prog 3 #[.slice p bs.length c, .int .i64 x, .int .u8 (y : Int)] w fun e w' => e = .returned (.bool true) ∧ Fr F0 w w' := by
  have HL := Lib.hid lives09_any
  have HBb := Lib.hid hb
  obtain ⟨n, hn⟩ : ∃ n, n = bs.length := ⟨_, rfl⟩
  rw [← hn]
  replace hn := Lib.hid hn
  by_cases h5 : n ≤ 5000
  · have l1 : ¬ (5000 : Int) < (n : Int) := by omega
    have h5i : (n : Int) ≤ 5000 := by omega
    have HPa := Lib.hid (fun a c w (h : Bs w a c bs) => tParse_any a n c bs w h hn.out (by have := hn.out; omega))
    go_enter Try.func3, Try.ntmps3
    go_wp2_with fail
    (with_reducible refine (HL.out _).mono ?_); rintro e w1 ⟨rfl, F⟩
    clear HL
    go_wp2_with fail
    (with_reducible refine (HPa.out _ _ _ (Bs.fr7 HBb.out F)).mono ?_); rintro e w2 ⟨t, E, rfl, hE, hT, f⟩
    replace F := F.trans' f
    obtain ⟨x0, x3, ia, oa, n1, m1, ic, oc, hC, hn1, hm1⟩ := t.shape
    rw [hC]
    have HE := Lib.hid hE
    have HT := Lib.hid hT.ok
    have HC := Lib.hid hC
    clear hE hT hC hn1 hm1 f HPa
    go_upto_region 4 with fail
    first | refine wp_new fun W3 N3 => ?_ | refine wp_put fun W3 N3 => ?_
    have r7 := N3.new
    have hT3 := Lib.hid (HT.out.fr N3.fr)
    replace F := F.trans' N3.fr
    clear N3 HT
    generalize w2.heap.size = g7 at *
    have HE' := HE.out
    clear HE
    rcases HE' with ⟨hp, rfl⟩ | ⟨hp, rfl, rfl⟩
    · by_cases h0 : n = 0
      · subst h0
        go_wp2_with fail
        go_ret
        exact ⟨rfl, F⟩
      have l0 : ((n : Int) == 0) = false := beq_false_of_ne (by omega)
      have hp' := Lib.hid hp
      clear hp
      go_upto_region 6 with fail
      obtain ⟨ao, co, w4, happ, ho4, hp4, f4⟩ := copyB W3 p c n bs (Bs.fr7 HBb.out F) hn.out (by have := hn.out; omega)
      obtain ⟨go, rfl⟩ := ho4.form9 (by have := hn.out; omega)
      replace hp4 := hp4 go rfl
      have hg7 := (Array.getElem?_eq_some_iff.1 r7).1
      replace r7 := keep_fr f4 r7
      go_upto_region 7 with fail
      obtain ⟨Z, hZ⟩ : ∃ Z : Nat, IntKind.u64.wrap x = (Z : Int) := ⟨(x % 18446744073709551616).toNat, by rw [IntKind.wrap_u64]; omega⟩
      have hZ2 : Z < 18446744073709551616 := by rw [IntKind.wrap_u64] at hZ; omega
      have eN : IntKind.u64.wrap (n : Int) = (n : Int) := by rw [IntKind.wrap_u64]; omega
      obtain ⟨q, hq⟩ : ∃ q, q = Z % n := ⟨_, rfl⟩
      have hqn : q < n := by rw [hq]; exact Nat.mod_lt _ (by omega)
      have eR : Int.tmod (Z : Int) (n : Int) = (q : Int) := by rw [Int.tmod_eq_emod_of_nonneg (by omega), hq, Int.natCast_emod]
      have eQ : IntKind.u64.wrap (q : Int) = (q : Int) := by rw [IntKind.wrap_u64]; omega
      have eI : IntKind.i64.wrap (q : Int) = (q : Int) := IntWalk.i64_in _ (by omega)
      have lq : (q : Int) < (n : Int) := by omega
      obtain ⟨hc1, hz1⟩ := ho4.cell9 q (by have := hn.out; omega)
      rw [cell_at] at hc1
      rw [frozen_at] at hz1
      have hx8 := (bs[q]'(by have := hn.out; omega)).toNat_lt
      have hlt : q < bs.length := by have := hn.out; omega
      have hsame := Lib.hid (fun v hv => byte_same bs q v y hlt hv hy)
      obtain ⟨v, hv⟩ : ∃ v, (bs[q]'(by have := hn.out; omega)).toNat = v := ⟨_, rfl⟩
      rw [hv] at hc1 hx8
      have hsm := hsame.out v hv
      have hxor : bits .xor .u8 (v : Int) (y : Int) = ((v ^^^ y : Nat) : Int) := u8_xor_nat v y (by omega) (by omega)
      have hv8 : v ^^^ y < 256 := Nat.xor_lt_two_pow (n := 8) (by omega) (by omega)
      generalize v ^^^ y = u at *
      have hB8 : B8 (UInt8.ofNat u) = .int .u8 u := by simp [B8, Nat.mod_eq_of_lt hv8]
      have HS := ho4.set9 q (UInt8.ofNat u)
      have HFs := Fr.setCell f4 (p := ⟨go, q, none⟩) (fun e => by simp only at e; omega) (B8 (UInt8.ofNat u))
      have r7' : (w4.setCell ⟨go, q, none⟩ (B8 (UInt8.ofNat u))).heap[g7]? = some (.cells #[.int .u32 x0, .slice ia n1 ic, .slice oa m1 oc, .int .u32 x3] 28 (0, 0)) := by
        rw [Below.heap_setCell _ _ _ _ (by simp only; omega)]
        exact r7
      rw [hB8] at HS HFs r7'
      replace HS := Lib.hid HS
      replace HFs := Lib.hid HFs
      replace r7' := Lib.hid r7'
      replace hsm := Lib.hid hsm
      replace hq := Lib.hid hq
      obtain ⟨cs, hcs⟩ : ∃ cs, cs = bs.set q (UInt8.ofNat u) := ⟨_, rfl⟩
      rw [← hcs] at HS hsm
      have hcl := Lib.hid (show n = cs.length by rw [hcs, List.length_set]; exact hn.out)
      clear hsame hv hcs hB8 ho4 happ hp4 hx8 hv8 hlt hg7
      go_upto_region 8 with fail
      generalize w4.setCell ⟨go, q, none⟩ (.int .u8 (u : Int)) = W5 at *
      have HPc := Lib.hid (tParse_any _ n co cs W5 HS.out.bs.2 hcl.out (by have := hcl.out; omega))
      replace F := F.trans' HFs.out
      have hT5 := Lib.hid (hT3.out.fr HFs.out)
      clear hT3 HS HFs r7 hc1 hz1 hxor f4
      have r7 := r7'.out
      clear r7'
      go_wp2_with fail
      (with_reducible refine HPc.out.mono ?_); rintro e w6 ⟨t2, E2, rfl, hE2, hT2, f⟩
      obtain ⟨y0, y3, ia2, oa2, n2, m2, ic2, oc2, hC2, hn2, hm2⟩ := t2.shape
      rw [hC2]
      have HE2 := Lib.hid hE2
      have HT2 := Lib.hid hT2.ok
      have HC2 := Lib.hid hC2
      replace F := F.trans' f
      replace hT5 := Lib.hid (hT5.out.fr f)
      replace r7 := keep_fr f r7
      clear hE2 hT2 hC2 hn2 hm2 f HPc
      go_upto_region 9 with fail
      first | refine wp_new fun W7 N7 => ?_ | refine wp_put fun W7 N7 => ?_
      have r10 := N7.new
      replace r7 := N7.old r7
      replace hT5 := Lib.hid (hT5.out.fr N7.fr)
      have hT7 := Lib.hid (HT2.out.fr N7.fr)
      replace F := F.trans' N7.fr
      clear N7 HT2
      generalize w6.heap.size = g10 at *
      obtain ⟨m, hm⟩ : ∃ m : Nat, n = m + 1 := ⟨n - 1, by omega⟩
      have lm : (m : Int) ≤ (c : Int) := by have := HBb.out.room; have := hn.out; omega
      have lm2 : (c : Int) ≤ 9223372036854775807 := by have := HBb.out.most; unfold maxLen at this; omega
      have hB7 := Bs.fr7 HBb.out F
      obtain ⟨b0, off, rfl, hz⟩ := hB7.at 0 (by have := hn.out; omega)
      have HPm := Lib.hid (parse_less hB7 hn.out h5 hm hp'.out)
      have HP1 := Lib.hid (fun (w' : World) (f : Fr F0 W7 w') => parse_more (Bs.fr7 HBb.out (F.trans' f)) hn.out h5 hp'.out)
      subst hm
      clear hz hB7
      go_wp2_with fail
      (with_reducible refine (HPm.out).mono ?_); rintro e w8 ⟨rfl, f8⟩
      clear HPm
      go_upto_region 10 with fail
      first | refine wp_new fun W9 N9 => ?_ | refine wp_put fun W9 N9 => ?_
      replace f8 := f8.trans' N9.fr
      clear N9
      obtain ⟨a1, c1, v1, a2, k2, c2, v2, hap1, hap2, fB, hcall⟩ := HP1.out W9 f8
      replace f8 := Lib.hid (f8.trans' fB)
      replace hcall := Lib.hid hcall
      clear fB HP1
      go_wp2_with fail
      (with_reducible refine (hcall.out).mono ?_); rintro e w10 ⟨rfl, f10⟩
      replace f8 := Lib.hid (f8.out.trans' f10)
      clear hcall hap1 hap2 f10
      go_upto_region 11 with fail
      first | refine wp_new fun W11 N11 => ?_ | refine wp_put fun W11 N11 => ?_
      replace f8 := f8.out.trans' N11.fr
      clear N11
      replace r7 := keep_fr f8 r7
      replace r10 := keep_fr f8 r10
      replace hT5 := Lib.hid (hT5.out.fr f8)
      replace hT7 := Lib.hid (hT7.out.fr f8)
      replace F := Lib.hid (F.trans' f8)
      clear f8
      go_upto_region 13 with fail
      have HE2' := HE2.out
      clear HE2
      rcases HE2' with ⟨hp2, rfl⟩ | ⟨hp2, rfl, rfl⟩
      · have hby := (prs_inv hp'.out).1
        have hsm1 := (prs_err hp'.out).2.2
        have hby2 := (prs_inv hp2).1
        have hsm2 := (prs_err hp2).2.2
        have HR1 := Lib.hid (show ∀ w', Fr F0 W11 w' → Calls Try.prog 8 #[.agg #[.int .u32 x0, .slice ia n1 ic, .slice oa m1 oc, .int .u32 x3]] w' fun e w'' => ∃ r1 : RT, e = .returned (.agg r1.cells) ∧ r1.m = t.m ∧ r1.Ok w'' ∧ Fr F0 w' w'' from fun w' f => by
          have h70 := prs_few hp'.out
          have := Ref09_any t w' (hT5.out.fr f) (by simpa [TT.m] using h70)
          rw [HC.out] at this
          exact this)
        have HR2 := Lib.hid (show ∀ w', Fr F0 W11 w' → Calls Try.prog 8 #[.agg #[.int .u32 y0, .slice ia2 n2 ic2, .slice oa2 m2 oc2, .int .u32 y3]] w' fun e w'' => ∃ r1 : RT, e = .returned (.agg r1.cells) ∧ r1.m = t2.m ∧ r1.Ok w'' ∧ Fr F0 w' w'' from fun w' f => by
          have h70 := prs_few hp2
          have := Ref09_any t2 w' (hT7.out.fr f) (by simpa [TT.m] using h70)
          rw [HC2.out] at this
          exact this)
        have HW1 := Lib.hid (show ∀ (r1 : RT) w', r1.Ok w' → r1.m = t.m → Calls Try.prog 9 #[.agg r1.cells] w' (NewB bs w') from fun r1 w' h hm => by
          have := r9Write_any r1 w' h (by rw [hm]; exact hsm1)
          rw [hm, ← hby] at this
          exact this)
        have HW2 := Lib.hid (show ∀ (r1 : RT) w', r1.Ok w' → r1.m = t2.m → Calls Try.prog 9 #[.agg r1.cells] w' (NewB cs w') from fun r1 w' h hm => by
          have := r9Write_any r1 w' h (by rw [hm]; exact hsm2)
          rw [hm, ← hby2] at this
          exact this)
        obtain ⟨z, hz⟩ : ∃ z, z = decide (y = 0) := ⟨_, rfl⟩
        have hs : (strOf bs == strOf cs) = z := by
          rw [strOf_beq, hz]
          exact decide_eq_decide.2 hsm.out
        have ey : ((y : Int) == 0) = z := by
          rw [hz]
          by_cases h : y = 0
          · subst h; rfl
          · rw [decide_eq_false h]; exact beq_false_of_ne (by omega)
        rw [beq_toListBytes] at hs
        clear hby hby2 hsm1 hsm2 hT5 hT7 HC HC2 hp' hp2 hsm hz hq hZ hZ2 eN eR eQ eI lq hqn lm lm2 hcl hn HBb h0 l0 h5 h5i hy l1
        refine wp_region_noPanic ?_
        refine wp_region_held_drew (S := (fun w' => (w'.heap[g7]? = some (.cells #[.int .u32 x0, .slice ia n1 ic, .slice oa m1 oc, .int .u32 x3] 28 (0, 0)) ∧ w'.heap[g10]? = some (.cells #[.int .u32 y0, .slice ia2 n2 ic2, .slice oa2 m2 oc2, .int .u32 y3] 28 (0, 0))) ∧ Fr F0 W11 w')) (by kernel_rfl) ?_ (fun hHeld => ?_)
        · ((try dsimp only) <;> (first | exact ⟨⟨r7, r10⟩, (Fr.refl F0 W11).drew⟩ | exact hHeld | exact ⟨⟨keep_fr f5 hHeld.1.1, keep_fr f5 hHeld.1.2⟩, hHeld.2.trans' f5⟩))
        refine rtake 0 ?_
        refine rtake 1 ?_
        refine rtake 2 ?_
        refine rtake 3 ?_
        refine rtake 7 ?_
        refine rtake 12 ?_
        refine rtake 13 ?_
        refine wpAnyH_ready (rs := [4]) (by kernel_rfl) (by simp) ?_
        refine AllReadyH.cons (o := ⟨_, _, _, _, _, _⟩) rfl (fun K hK => ?_) AllReadyH.nil
        go_simp
        ((with_reducible refine (HR1.out _ hHeld.2).mono ?_); rintro e v4 ⟨r1, rfl, hm4, ok4, f5⟩)
        refine hK.out _ _ ?_ (fun hHeld => ?_)
        · ((try dsimp only) <;> (first | exact ⟨⟨r7, r10⟩, (Fr.refl F0 W11).drew⟩ | exact hHeld | exact ⟨⟨keep_fr f5 hHeld.1.1, keep_fr f5 hHeld.1.2⟩, hHeld.2.trans' f5⟩))
        clear hK K
        try (simp only [Act.put, List.setIfInBounds_toArray]; dsimp only [List.set_cons_zero, List.set_cons_succ])
        refine wpAnyH_ready (rs := [5]) (by kernel_rfl) (by simp) ?_
        refine AllReadyH.cons (o := ⟨_, _, _, _, _, _⟩) rfl (fun K hK => ?_) AllReadyH.nil
        go_simp
        ((with_reducible refine (HW1.out r1 _ ok4 hm4).mono ?_); rintro e v5 ⟨a5, n5, c5, rfl, hn5, hb5, f5⟩; have hs5 := bs_str7 hb5 hn5; replace hn5 := Lib.hid hn5)
        refine hK.out _ _ ?_ (fun hHeld => ?_)
        · ((try dsimp only) <;> (first | exact ⟨⟨r7, r10⟩, (Fr.refl F0 W11).drew⟩ | exact hHeld | exact ⟨⟨keep_fr f5 hHeld.1.1, keep_fr f5 hHeld.1.2⟩, hHeld.2.trans' f5⟩))
        clear hK K
        try (simp only [Act.put, List.setIfInBounds_toArray]; dsimp only [List.set_cons_zero, List.set_cons_succ])
        refine wpAnyH_ready (rs := [6, 8]) (by kernel_rfl) (by simp) ?_
        refine AllReadyH.cons (o := ⟨_, _, _, _, _, _⟩) rfl (fun K hK => ?_) (AllReadyH.cons (o := ⟨_, _, _, _, _, _⟩) rfl (fun K hK => ?_) AllReadyH.nil)
        go_simp
        refine hK.out _ _ ?_ (fun hHeld => ?_)
        · ((try dsimp only) <;> (first | exact ⟨⟨r7, r10⟩, (Fr.refl F0 W11).drew⟩ | exact hHeld | exact ⟨⟨keep_fr f5 hHeld.1.1, keep_fr f5 hHeld.1.2⟩, hHeld.2.trans' f5⟩))
        clear hK K
        try (simp only [Act.put, List.setIfInBounds_toArray]; dsimp only [List.set_cons_zero, List.set_cons_succ])
        refine wpAnyH_ready (rs := [8]) (by kernel_rfl) (by simp) ?_
        refine AllReadyH.cons (o := ⟨_, _, _, _, _, _⟩) rfl (fun K hK => ?_) AllReadyH.nil
        go_simp
        ((with_reducible refine (HR2.out _ hHeld.2).mono ?_); rintro e v8 ⟨r8, rfl, hm8, ok8, f5⟩; replace hb5 := Bs.fr7 hb5 f5; have hs8 := bs_str7 hb5 hn5.out)
        refine hK.out _ _ ?_ (fun hHeld => ?_)
        · ((try dsimp only) <;> (first | exact ⟨⟨r7, r10⟩, (Fr.refl F0 W11).drew⟩ | exact hHeld | exact ⟨⟨keep_fr f5 hHeld.1.1, keep_fr f5 hHeld.1.2⟩, hHeld.2.trans' f5⟩))
        clear hK K
        try (simp only [Act.put, List.setIfInBounds_toArray]; dsimp only [List.set_cons_zero, List.set_cons_succ])
        refine wpAnyH_ready (rs := [9]) (by kernel_rfl) (by simp) ?_
        refine AllReadyH.cons (o := ⟨_, _, _, _, _, _⟩) rfl (fun K hK => ?_) AllReadyH.nil
        go_simp
        ((with_reducible refine (HW2.out r8 _ ok8 hm8).mono ?_); rintro e v9 ⟨a9, n9, c9, rfl, hn9, hb9, f5⟩; have hs9 := bs_str7 hb9 hn9; clear hn9; replace hb5 := Bs.fr7 hb5 f5; have hs59 := bs_str7 hb5 hn5.out)
        refine hK.out _ _ ?_ (fun hHeld => ?_)
        · ((try dsimp only) <;> (first | exact ⟨⟨r7, r10⟩, (Fr.refl F0 W11).drew⟩ | exact hHeld | exact ⟨⟨keep_fr f5 hHeld.1.1, keep_fr f5 hHeld.1.2⟩, hHeld.2.trans' f5⟩))
        clear hK K
        try (simp only [Act.put, List.setIfInBounds_toArray]; dsimp only [List.set_cons_zero, List.set_cons_succ])
        refine wpAnyH_ready (rs := [10]) (by kernel_rfl) (by simp) ?_
        refine AllReadyH.cons (o := ⟨_, _, _, _, _, _⟩) rfl (fun K hK => ?_) AllReadyH.nil
        go_simp
        refine hK.out _ _ ?_ (fun hHeld => ?_)
        · ((try dsimp only) <;> (first | exact ⟨⟨r7, r10⟩, (Fr.refl F0 W11).drew⟩ | exact hHeld | exact ⟨⟨keep_fr f5 hHeld.1.1, keep_fr f5 hHeld.1.2⟩, hHeld.2.trans' f5⟩))
        clear hK K
        try (simp only [Act.put, List.setIfInBounds_toArray]; dsimp only [List.set_cons_zero, List.set_cons_succ])
        refine rtake 11 ?_
        refine rtake 14 ?_
        refine rtake 15 ?_
        refine rtake 16 ?_
        refine wpAnyH_done (by kernel_rfl) ?_ _
        refine NoPanic.normal ?_
        rotate_left
        go_simp
        ((with_reducible refine (HR2.out _ hHeld.2).mono ?_); rintro e v8 ⟨r8, rfl, hm8, ok8, f5⟩; replace hb5 := Bs.fr7 hb5 f5; have hs8 := bs_str7 hb5 hn5.out)
        refine hK.out _ _ ?_ (fun hHeld => ?_)
        · ((try dsimp only) <;> (first | exact ⟨⟨r7, r10⟩, (Fr.refl F0 W11).drew⟩ | exact hHeld | exact ⟨⟨keep_fr f5 hHeld.1.1, keep_fr f5 hHeld.1.2⟩, hHeld.2.trans' f5⟩))
        clear hK K
        try (simp only [Act.put, List.setIfInBounds_toArray]; dsimp only [List.set_cons_zero, List.set_cons_succ])
        refine wpAnyH_ready (rs := [6, 9]) (by kernel_rfl) (by simp) ?_
        refine AllReadyH.cons (o := ⟨_, _, _, _, _, _⟩) rfl (fun K hK => ?_) (AllReadyH.cons (o := ⟨_, _, _, _, _, _⟩) rfl (fun K hK => ?_) AllReadyH.nil)
        go_simp
        refine hK.out _ _ ?_ (fun hHeld => ?_)
        · ((try dsimp only) <;> (first | exact ⟨⟨r7, r10⟩, (Fr.refl F0 W11).drew⟩ | exact hHeld | exact ⟨⟨keep_fr f5 hHeld.1.1, keep_fr f5 hHeld.1.2⟩, hHeld.2.trans' f5⟩))
        clear hK K
        try (simp only [Act.put, List.setIfInBounds_toArray]; dsimp only [List.set_cons_zero, List.set_cons_succ])
        refine wpAnyH_ready (rs := [9]) (by kernel_rfl) (by simp) ?_
        refine AllReadyH.cons (o := ⟨_, _, _, _, _, _⟩) rfl (fun K hK => ?_) AllReadyH.nil
        go_simp
        ((with_reducible refine (HW2.out r8 _ ok8 hm8).mono ?_); rintro e v9 ⟨a9, n9, c9, rfl, hn9, hb9, f5⟩; have hs9 := bs_str7 hb9 hn9; clear hn9; replace hb5 := Bs.fr7 hb5 f5; have hs59 := bs_str7 hb5 hn5.out)
        refine hK.out _ _ ?_ (fun hHeld => ?_)
        · ((try dsimp only) <;> (first | exact ⟨⟨r7, r10⟩, (Fr.refl F0 W11).drew⟩ | exact hHeld | exact ⟨⟨keep_fr f5 hHeld.1.1, keep_fr f5 hHeld.1.2⟩, hHeld.2.trans' f5⟩))
        clear hK K
        try (simp only [Act.put, List.setIfInBounds_toArray]; dsimp only [List.set_cons_zero, List.set_cons_succ])
        refine wpAnyH_ready (rs := [10]) (by kernel_rfl) (by simp) ?_
        refine AllReadyH.cons (o := ⟨_, _, _, _, _, _⟩) rfl (fun K hK => ?_) AllReadyH.nil
        go_simp
        refine hK.out _ _ ?_ (fun hHeld => ?_)
        · ((try dsimp only) <;> (first | exact ⟨⟨r7, r10⟩, (Fr.refl F0 W11).drew⟩ | exact hHeld | exact ⟨⟨keep_fr f5 hHeld.1.1, keep_fr f5 hHeld.1.2⟩, hHeld.2.trans' f5⟩))
        clear hK K
        try (simp only [Act.put, List.setIfInBounds_toArray]; dsimp only [List.set_cons_zero, List.set_cons_succ])
        refine rtake 11 ?_
        refine rtake 14 ?_
        refine rtake 15 ?_
        refine rtake 16 ?_
        refine wpAnyH_done (by kernel_rfl) ?_ _
        refine NoPanic.normal ?_
        rotate_left
        go_simp
        ((with_reducible refine (HW2.out r8 _ ok8 hm8).mono ?_); rintro e v9 ⟨a9, n9, c9, rfl, hn9, hb9, f5⟩; have hs9 := bs_str7 hb9 hn9; clear hn9; replace hb5 := Bs.fr7 hb5 f5; have hs59 := bs_str7 hb5 hn5.out)
        refine hK.out _ _ ?_ (fun hHeld => ?_)
        · ((try dsimp only) <;> (first | exact ⟨⟨r7, r10⟩, (Fr.refl F0 W11).drew⟩ | exact hHeld | exact ⟨⟨keep_fr f5 hHeld.1.1, keep_fr f5 hHeld.1.2⟩, hHeld.2.trans' f5⟩))
        clear hK K
        try (simp only [Act.put, List.setIfInBounds_toArray]; dsimp only [List.set_cons_zero, List.set_cons_succ])
        refine wpAnyH_ready (rs := [6, 10]) (by kernel_rfl) (by simp) ?_
        refine AllReadyH.cons (o := ⟨_, _, _, _, _, _⟩) rfl (fun K hK => ?_) (AllReadyH.cons (o := ⟨_, _, _, _, _, _⟩) rfl (fun K hK => ?_) AllReadyH.nil)
        go_simp
        refine hK.out _ _ ?_ (fun hHeld => ?_)
        · ((try dsimp only) <;> (first | exact ⟨⟨r7, r10⟩, (Fr.refl F0 W11).drew⟩ | exact hHeld | exact ⟨⟨keep_fr f5 hHeld.1.1, keep_fr f5 hHeld.1.2⟩, hHeld.2.trans' f5⟩))
        clear hK K
        try (simp only [Act.put, List.setIfInBounds_toArray]; dsimp only [List.set_cons_zero, List.set_cons_succ])
        refine wpAnyH_ready (rs := [10]) (by kernel_rfl) (by simp) ?_
        refine AllReadyH.cons (o := ⟨_, _, _, _, _, _⟩) rfl (fun K hK => ?_) AllReadyH.nil
        go_simp
        refine hK.out _ _ ?_ (fun hHeld => ?_)
        · ((try dsimp only) <;> (first | exact ⟨⟨r7, r10⟩, (Fr.refl F0 W11).drew⟩ | exact hHeld | exact ⟨⟨keep_fr f5 hHeld.1.1, keep_fr f5 hHeld.1.2⟩, hHeld.2.trans' f5⟩))
        clear hK K
        try (simp only [Act.put, List.setIfInBounds_toArray]; dsimp only [List.set_cons_zero, List.set_cons_succ])
        refine rtake 11 ?_
        refine rtake 14 ?_
        refine rtake 15 ?_
        refine rtake 16 ?_
        refine wpAnyH_done (by kernel_rfl) ?_ _
        refine NoPanic.normal ?_
        rotate_left
        go_simp
        refine hK.out _ _ ?_ (fun hHeld => ?_)
        · ((try dsimp only) <;> (first | exact ⟨⟨r7, r10⟩, (Fr.refl F0 W11).drew⟩ | exact hHeld | exact ⟨⟨keep_fr f5 hHeld.1.1, keep_fr f5 hHeld.1.2⟩, hHeld.2.trans' f5⟩))
        clear hK K
        try (simp only [Act.put, List.setIfInBounds_toArray]; dsimp only [List.set_cons_zero, List.set_cons_succ])
        refine wpAnyH_ready (rs := [6]) (by kernel_rfl) (by simp) ?_
        refine AllReadyH.cons (o := ⟨_, _, _, _, _, _⟩) rfl (fun K hK => ?_) AllReadyH.nil
        go_simp
        refine hK.out _ _ ?_ (fun hHeld => ?_)
        · ((try dsimp only) <;> (first | exact ⟨⟨r7, r10⟩, (Fr.refl F0 W11).drew⟩ | exact hHeld | exact ⟨⟨keep_fr f5 hHeld.1.1, keep_fr f5 hHeld.1.2⟩, hHeld.2.trans' f5⟩))
        clear hK K
        try (simp only [Act.put, List.setIfInBounds_toArray]; dsimp only [List.set_cons_zero, List.set_cons_succ])
        refine rtake 11 ?_
        refine rtake 14 ?_
        refine rtake 15 ?_
        refine rtake 16 ?_
        refine wpAnyH_done (by kernel_rfl) ?_ _
        refine NoPanic.normal ?_
        rotate_left
        all_goals
          go_wp2
          go_ret
          exact ⟨by first | rfl | simp, F.out.trans' hHeld.2⟩
      · clear HC HC2 hp2 hT5 hT7 hp' hZ hZ2 eN eR eQ eI lq hqn lm lm2 hcl hq
        refine wp_region_noPanic ?_
        refine wp_region_held_drew (S := (fun w' => Fr F0 W11 w')) (by kernel_rfl) ?_ (fun hHeld => ?_)
        · ((try dsimp only) <;> (first | exact (Fr.refl F0 W11).drew | exact hHeld))
        refine rtake 0 ?_
        refine rtake 1 ?_
        refine rtake 2 ?_
        refine rleave 3 ?_
        refine rleave 4 ?_
        refine rleave 5 ?_
        refine rleave 6 ?_
        refine rleave 7 ?_
        refine rleave 8 ?_
        refine rleave 9 ?_
        refine rleave 10 ?_
        refine rleave 11 ?_
        refine rleave 12 ?_
        refine rleave 13 ?_
        refine rleave 14 ?_
        refine rtake 15 ?_
        refine rtake 16 ?_
        refine wpAnyH_done (by kernel_rfl) ?_ _
        refine NoPanic.normal ?_
        all_goals
          go_wp2
          go_ret
          exact ⟨by first | rfl | simp, F.out.trans' hHeld⟩
    · clear hT3
      go_wp2_with fail
      go_ret
      exact ⟨rfl, F⟩
  · have l1 : (5000 : Int) < (n : Int) := by omega
    go_enter Try.func3, Try.ntmps3
    go_wp2_with fail
    (with_reducible refine (HL.out _).mono ?_); rintro e w1 ⟨rfl, F⟩
    go_wp2_with fail
    (with_reducible refine (HL.out _).mono ?_); rintro e w2 ⟨rfl, f⟩
    go_wp2
    go_ret
    exact ⟨rfl, F.trans' f⟩
end Go.Proofs.Ytaobgaoldfeehaa
