import Derived.Test.YthoaalnjmklclaaZ11
/- Layer 9 (tx): the document's transactions in memory; Few. -/
namespace Go.Proofs.Ythoaalnjmklclaa
set_option linter.unusedVariables false
set_option linter.unusedSimpArgs false
open Go.RowKit

def rowR (fr : List UInt8) (a b c : Value) : Array Value := (fr.map B8 ++ [a, b, c]).toArray
theorem rowR_size {fr : List UInt8} (h : fr.length = 32) (a b c : Value) : (rowR fr a b c).size = 35 := by simp [rowR, h]
/-- Its cells, on the document's side. -/
def MI.row (x : MI) : List Value := x.fr.map B8 ++ [.int .u64 (x.ix : Int), .int .u64 (x.sq : Int), .string (strOf x.ky)]
def MO.row (x : MO) : List Value := [.int .u64 (x.py : Int), .string (strOf x.lk)]
theorem MI.row_eq (x : MI) : x.row.toArray = rowR x.fr (.int .u64 (x.ix : Int)) (.int .u64 (x.sq : Int)) (.string (strOf x.ky)) := rfl
theorem MI.row_length {x : MI} (h : x.Ok) : x.row.length = 35 := by simp [MI.row, h.fr]
theorem MO.row_length (x : MO) : x.row.length = 2 := rfl
theorem MI.one (x : MI) : rowOne x.row.toArray := by
  unfold rowOne
  rw [Array.all_eq_true_iff_forall_mem]
  intro v hv
  simp only [MI.row, List.mem_toArray, List.mem_append, List.mem_map, List.mem_cons, List.not_mem_nil, or_false] at hv
  rcases hv with ⟨_, _, rfl⟩ | rfl | rfl | rfl <;> rfl
theorem MO.one (x : MO) : rowOne x.row.toArray := by
  unfold rowOne
  rw [Array.all_eq_true_iff_forall_mem]
  intro v hv
  simp only [MO.row, List.mem_toArray, List.mem_cons, List.not_mem_nil, or_false] at hv
  rcases hv with rfl | rfl <;> rfl

theorem Try.infoRIns : (Try.prog.info? 78).map (fun i => (i.zero, i.size, i.bytes)) = some (some (.agg (rowR zero32 (.int .u64 0) (.int .u64 0) (.string (strOf [])))), 35, 64) := by kernel_rfl
def buildRIns (parts : Array (Nat × Value)) : Sem Value := Instr.buildSlice 34 1 parts
@[go_sem ↓ high] theorem build_RIns (p : Array (Nat × Value)) : Instr.buildSlice 34 1 p = buildRIns p := rfl
theorem run_buildRIns (w : World) (X : Array Value) (h : X.size = 35) : (buildRIns #[(0, .agg X)]).run Try.prog w = .ok (.slice (some ⟨w.heap.size, 0, none⟩) 1 1) (w.alloc (.cells X 78)) := by
  obtain ⟨i0, hi, hz, hs, _⟩ := info_parts Try.infoRIns
  exact run_slice1 w 34 78 X 35 i0 _ Try.underlying34 hi hz hs (by omega) (by omega) h
def appRIns (ty : TypeId) (args : Array Value) : Sem Value := Builtin.append_ #[34, 34] ty args
@[go_sem ↓ high] theorem app_RIns (ty : TypeId) (args : Array Value) : Builtin.append_ #[34, 34] ty args = appRIns ty args := rfl
/-- A list that is read. -/
structure MIs (w : World) (a : Option Addr) (c : Nat) (l : List MI) : Prop where
  sl : Sl w 35 a c l.length (l.flatMap MI.row)
  ok : ∀ x ∈ l, x.Ok
theorem MIs.fr {w w' : World} {a : Option Addr} {c : Nat} {l : List MI} (h : MIs w a c l) (f : Fr F0 w w') : MIs w' a c l := ⟨h.sl.fr7 f, h.ok⟩
theorem MIs.most {w : World} {a : Option Addr} {c : Nat} {l : List MI} (h : MIs w a c l) : l.length ≤ 9223372036854775807 := by have h1 := h.sl.room; have h2 := h.sl.most; unfold maxLen at h2; omega
theorem MIs.get {w : World} {a : Option Addr} {c : Nat} {l : List MI} (h : MIs w a c l) (k : Nat) (hk : k < l.length) : ∃ b off, a = some ⟨b, off, none⟩ ∧ ∀ i u, (MI.row l[k])[i]? = some u → w.cell? ⟨b, off + k * 35 + i, none⟩ = some u := by
  have hr : ∀ x ∈ l, (MI.row x).length = 35 := fun x hx => MI.row_length (by first | exact h.ok x hx | exact hx)
  have hg := flat_get MI.row 35 l hr k hk
  have h0 := hr _ (List.getElem_mem hk)
  obtain ⟨b, off, e, _⟩ := h.sl.cell (k * 35 + 0) _ ((hg 0 (by omega)).trans (List.getElem?_eq_getElem (by omega)))
  refine ⟨b, off, e, fun i u hi => ?_⟩
  have hi' : i < 35 := by have := (List.getElem?_eq_some_iff.1 hi).1; omega
  obtain ⟨b', off', e', hc⟩ := h.sl.cell (k * 35 + i) u ((hg i hi').trans hi)
  rw [e] at e'
  cases e'
  rw [Nat.add_assoc]
  exact hc
/-- A list that the call itself has made: its blocks are B or later ones. -/
structure OwnRIns (B : Nat) (w : World) (v : Value) (l : List MI) : Prop where
  own : w.ownsRow 0 78 35 v l.length (l.flatMap MI.row)
  blk : ∀ k, v.ownBlock = some k → B ≤ k
  ok : ∀ x ∈ l, x.Ok
theorem OwnRIns.nil (B : Nat) (w : World) : OwnRIns B w (.slice none 0 0) [] := ⟨World.ownsRow_nil _ _ _ _, fun k h => (by cases h), fun x h => (by cases h)⟩
theorem OwnRIns.fr {B : Nat} {S : Nat → Prop} {w w' : World} {v : Value} {l : List MI} (h : OwnRIns B w v l) (f : Fr S w w') (hs : ∀ k, S k → k < B) : OwnRIns B w' v l :=
  ⟨own_fr h.own f fun k hk e => by have h1 := h.blk k hk; have h2 := hs k e; omega, h.blk, h.ok⟩
theorem OwnRIns.fr0 {B : Nat} {w w' : World} {v : Value} {l : List MI} (h : OwnRIns B w v l) (f : Fr F0 w w') : OwnRIns B w' v l := h.fr f fun _ e => e.elim
theorem OwnRIns.frS {B : Nat} {S : Nat → Prop} {w w' : World} {v : Value} {l : List MI} (h : OwnRIns B w v l) (f : Fr S w w') (h1 : ∀ k, v.ownBlock = some k → ¬ S k) : OwnRIns B w' v l :=
  ⟨own_fr h.own f h1, h.blk, h.ok⟩
theorem OwnRIns.lt {B : Nat} {w : World} {v : Value} {l : List MI} (h : OwnRIns B w v l) : ∀ k, v.ownBlock = some k → k < w.heap.size := fun k hk => (World.ownsRow.lt h.own k hk).2
theorem OwnRIns.is {B : Nat} {w : World} {v : Value} {l : List MI} (h : OwnRIns B w v l) : ∃ a c, v = .slice a l.length c ∧ MIs w a c l := by
  obtain ⟨a, c, rfl⟩ := own_slice h.own
  exact ⟨a, c, rfl, (Sl.of_own h.own).2, h.ok⟩
theorem OwnRIns.app {B : Nat} {w : World} {v : Value} {l : List MI} (h : OwnRIns B w v l) (x : MI) (hx : x.Ok) (hB : B ≤ w.heap.size) (hl : l.length ≤ 100000) (ty : TypeId) :
    ∃ a c w', (appRIns ty #[v, .slice (some ⟨w.heap.size, 0, none⟩) 1 1]).run Try.prog (w.alloc (.cells (MI.row x).toArray 78)) = .ok (.slice a (l.length + 1) c) w' ∧ OwnRIns B w' (.slice a (l.length + 1) c) (l ++ [x]) ∧
      Fr (fun k => v.ownBlock = some k) w w' ∧ w.heap.size < w'.heap.size ∧ ∀ k, ablk a = some k → v.ownBlock = some k ∨ w.heap.size ≤ k := by
  obtain ⟨i0, hi, hz, hs, hb⟩ := info_parts Try.infoRIns
  have hr : (MI.row x).length = 35 := MI.row_length (by first | exact h.ok x hx | exact hx)
  obtain ⟨W, hW⟩ : ∃ W, W = w.alloc (.cells (MI.row x).toArray 78) := ⟨_, rfl⟩
  have hnew := heap_alloc_new w (.cells (MI.row x).toArray 78)
  have fW : Fr F0 w W := by rw [hW]; exact (Fr.refl F0 w).alloc _
  have sW : W.heap.size = w.heap.size + 1 := by rw [hW]; simp
  rw [← hW] at hnew ⊢
  have hsl : Sl W 35 (some ⟨w.heap.size, 0, none⟩) 1 1 (MI.row x) := ⟨by rw [hr, Nat.one_mul], Nat.le_refl _, by unfold maxLen; omega, (fun e => by cases e), fun j u hj => ⟨_, _, rfl, by rw [cell_at, hnew, cellAt_cells, Nat.zero_add]; simpa using hj⟩⟩
  obtain ⟨v', w', hrun, hown, hg, hnw⟩ := run_app (P := Try.prog) (w := W) 34 ty 78 i0 _ 35 64 Try.underlying34 hi hz hs hb rfl (by omega) v l.length _ (own_fr h.own fW fun _ _ f => f) (some ⟨w.heap.size, 0, none⟩) 1 1 (MI.row x) hsl
    (by exact one_of (MI.one x)) (by unfold maxLen; omega) (by omega)
  obtain ⟨a, c, rfl⟩ := own_slice hown
  have F : Fr (fun k => v.ownBlock = some k) w w' := (fW.of0).grown hg fun k hk hl => hk
  have hnw' : ∀ k, ablk a = some k → v.ownBlock = some k ∨ w.heap.size ≤ k := fun k hk => by
    rcases hnw k (by rw [ablk_own]; exact hk) with e | e
    · exact .inl e
    · exact .inr (by omega)
  refine ⟨a, c, w', hrun, ⟨?_, fun k hk => ?_, fun y hy => ?_⟩, F, by have := hg.size; omega, hnw'⟩
  · rw [List.length_append, List.flatMap_append]
    simpa using hown
  · rw [ablk_own] at hk
    rcases hnw' k hk with e | e
    · exact h.blk k e
    · omega
  · rw [List.mem_append, List.mem_singleton] at hy
    rcases hy with hy | rfl
    · exact h.ok y hy
    · exact hx

theorem Try.infoROuts : (Try.prog.info? 80).map (fun i => (i.zero, i.size, i.bytes)) = some (some (.agg #[.int .u64 0, .string (strOf [])]), 2, 24) := by kernel_rfl
def buildROuts (parts : Array (Nat × Value)) : Sem Value := Instr.buildSlice 35 1 parts
@[go_sem ↓ high] theorem build_ROuts (p : Array (Nat × Value)) : Instr.buildSlice 35 1 p = buildROuts p := rfl
theorem run_buildROuts (w : World) (X : Array Value) (h : X.size = 2) : (buildROuts #[(0, .agg X)]).run Try.prog w = .ok (.slice (some ⟨w.heap.size, 0, none⟩) 1 1) (w.alloc (.cells X 80)) := by
  obtain ⟨i0, hi, hz, hs, _⟩ := info_parts Try.infoROuts
  exact run_slice1 w 35 80 X 2 i0 _ Try.underlying35 hi hz hs (by omega) (by omega) h
def appROuts (ty : TypeId) (args : Array Value) : Sem Value := Builtin.append_ #[35, 35] ty args
@[go_sem ↓ high] theorem app_ROuts (ty : TypeId) (args : Array Value) : Builtin.append_ #[35, 35] ty args = appROuts ty args := rfl
/-- A list that is read. -/
structure MOs (w : World) (a : Option Addr) (c : Nat) (l : List MO) : Prop where
  sl : Sl w 2 a c l.length (l.flatMap MO.row)
  ok : ∀ x ∈ l, x.Ok
theorem MOs.fr {w w' : World} {a : Option Addr} {c : Nat} {l : List MO} (h : MOs w a c l) (f : Fr F0 w w') : MOs w' a c l := ⟨h.sl.fr7 f, h.ok⟩
theorem MOs.most {w : World} {a : Option Addr} {c : Nat} {l : List MO} (h : MOs w a c l) : l.length ≤ 9223372036854775807 := by have h1 := h.sl.room; have h2 := h.sl.most; unfold maxLen at h2; omega
theorem MOs.get {w : World} {a : Option Addr} {c : Nat} {l : List MO} (h : MOs w a c l) (k : Nat) (hk : k < l.length) : ∃ b off, a = some ⟨b, off, none⟩ ∧ ∀ i u, (MO.row l[k])[i]? = some u → w.cell? ⟨b, off + k * 2 + i, none⟩ = some u := by
  have hr : ∀ x ∈ l, (MO.row x).length = 2 := fun x hx => MO.row_length x
  have hg := flat_get MO.row 2 l hr k hk
  have h0 := hr _ (List.getElem_mem hk)
  obtain ⟨b, off, e, _⟩ := h.sl.cell (k * 2 + 0) _ ((hg 0 (by omega)).trans (List.getElem?_eq_getElem (by omega)))
  refine ⟨b, off, e, fun i u hi => ?_⟩
  have hi' : i < 2 := by have := (List.getElem?_eq_some_iff.1 hi).1; omega
  obtain ⟨b', off', e', hc⟩ := h.sl.cell (k * 2 + i) u ((hg i hi').trans hi)
  rw [e] at e'
  cases e'
  rw [Nat.add_assoc]
  exact hc
/-- A list that the call itself has made: its blocks are B or later ones. -/
structure OwnROuts (B : Nat) (w : World) (v : Value) (l : List MO) : Prop where
  own : w.ownsRow 0 80 2 v l.length (l.flatMap MO.row)
  blk : ∀ k, v.ownBlock = some k → B ≤ k
  ok : ∀ x ∈ l, x.Ok
theorem OwnROuts.nil (B : Nat) (w : World) : OwnROuts B w (.slice none 0 0) [] := ⟨World.ownsRow_nil _ _ _ _, fun k h => (by cases h), fun x h => (by cases h)⟩
theorem OwnROuts.fr {B : Nat} {S : Nat → Prop} {w w' : World} {v : Value} {l : List MO} (h : OwnROuts B w v l) (f : Fr S w w') (hs : ∀ k, S k → k < B) : OwnROuts B w' v l :=
  ⟨own_fr h.own f fun k hk e => by have h1 := h.blk k hk; have h2 := hs k e; omega, h.blk, h.ok⟩
theorem OwnROuts.fr0 {B : Nat} {w w' : World} {v : Value} {l : List MO} (h : OwnROuts B w v l) (f : Fr F0 w w') : OwnROuts B w' v l := h.fr f fun _ e => e.elim
theorem OwnROuts.frS {B : Nat} {S : Nat → Prop} {w w' : World} {v : Value} {l : List MO} (h : OwnROuts B w v l) (f : Fr S w w') (h1 : ∀ k, v.ownBlock = some k → ¬ S k) : OwnROuts B w' v l :=
  ⟨own_fr h.own f h1, h.blk, h.ok⟩
theorem OwnROuts.lt {B : Nat} {w : World} {v : Value} {l : List MO} (h : OwnROuts B w v l) : ∀ k, v.ownBlock = some k → k < w.heap.size := fun k hk => (World.ownsRow.lt h.own k hk).2
theorem OwnROuts.is {B : Nat} {w : World} {v : Value} {l : List MO} (h : OwnROuts B w v l) : ∃ a c, v = .slice a l.length c ∧ MOs w a c l := by
  obtain ⟨a, c, rfl⟩ := own_slice h.own
  exact ⟨a, c, rfl, (Sl.of_own h.own).2, h.ok⟩
theorem OwnROuts.app {B : Nat} {w : World} {v : Value} {l : List MO} (h : OwnROuts B w v l) (x : MO) (hx : x.Ok) (hB : B ≤ w.heap.size) (hl : l.length ≤ 100000) (ty : TypeId) :
    ∃ a c w', (appROuts ty #[v, .slice (some ⟨w.heap.size, 0, none⟩) 1 1]).run Try.prog (w.alloc (.cells (MO.row x).toArray 80)) = .ok (.slice a (l.length + 1) c) w' ∧ OwnROuts B w' (.slice a (l.length + 1) c) (l ++ [x]) ∧
      Fr (fun k => v.ownBlock = some k) w w' ∧ w.heap.size < w'.heap.size ∧ ∀ k, ablk a = some k → v.ownBlock = some k ∨ w.heap.size ≤ k := by
  obtain ⟨i0, hi, hz, hs, hb⟩ := info_parts Try.infoROuts
  have hr : (MO.row x).length = 2 := MO.row_length x
  obtain ⟨W, hW⟩ : ∃ W, W = w.alloc (.cells (MO.row x).toArray 80) := ⟨_, rfl⟩
  have hnew := heap_alloc_new w (.cells (MO.row x).toArray 80)
  have fW : Fr F0 w W := by rw [hW]; exact (Fr.refl F0 w).alloc _
  have sW : W.heap.size = w.heap.size + 1 := by rw [hW]; simp
  rw [← hW] at hnew ⊢
  have hsl : Sl W 2 (some ⟨w.heap.size, 0, none⟩) 1 1 (MO.row x) := ⟨by rw [hr, Nat.one_mul], Nat.le_refl _, by unfold maxLen; omega, (fun e => by cases e), fun j u hj => ⟨_, _, rfl, by rw [cell_at, hnew, cellAt_cells, Nat.zero_add]; simpa using hj⟩⟩
  obtain ⟨v', w', hrun, hown, hg, hnw⟩ := run_app (P := Try.prog) (w := W) 35 ty 80 i0 _ 2 24 Try.underlying35 hi hz hs hb rfl (by omega) v l.length _ (own_fr h.own fW fun _ _ f => f) (some ⟨w.heap.size, 0, none⟩) 1 1 (MO.row x) hsl
    (by exact one_of (MO.one x)) (by unfold maxLen; omega) (by omega)
  obtain ⟨a, c, rfl⟩ := own_slice hown
  have F : Fr (fun k => v.ownBlock = some k) w w' := (fW.of0).grown hg fun k hk hl => hk
  have hnw' : ∀ k, ablk a = some k → v.ownBlock = some k ∨ w.heap.size ≤ k := fun k hk => by
    rcases hnw k (by rw [ablk_own]; exact hk) with e | e
    · exact .inl e
    · exact .inr (by omega)
  refine ⟨a, c, w', hrun, ⟨?_, fun k hk => ?_, fun y hy => ?_⟩, F, by have := hg.size; omega, hnw'⟩
  · rw [List.length_append, List.flatMap_append]
    simpa using hown
  · rw [ablk_own] at hk
    rcases hnw' k hk with e | e
    · exact h.blk k e
    · omega
  · rw [List.mem_append, List.mem_singleton] at hy
    rcases hy with hy | rfl
    · exact h.ok y hy
    · exact hx

theorem Try.szRIn : (Try.prog.info? 78).map (·.size) = some 35 := by kernel_rfl
@[go_sem ↓ high] theorem load_rin (p : Value) : Instr.loadAt 78 p = loadRowAt 78 p := rfl
@[go_sem ↓ high] theorem store_rin (p v : Value) : Instr.storeAt 78 p v = storeRowAt 78 p v := rfl
@[go_sem] theorem run_load_rin (w : World) (g : Nat) : (loadRowAt 78 (.pointer (some ⟨g, 0, none⟩))).run Try.prog w = rowOut Try.prog 78 (.pointer (some ⟨g, 0, none⟩)) w 35 w.heap[g]? :=
  run_loadRowAt w _ g 35 _ Try.underlying78 rfl Try.szRIn
@[go_sem] theorem run_store_rin (w : World) (g : Nat) (cells : Array Value) : (storeRowAt 78 (.pointer (some ⟨g, 0, none⟩)) (.agg cells)).run Try.prog w = rowIn Try.prog 78 (.pointer (some ⟨g, 0, none⟩)) cells g w 35 w.heap[g]? :=
  run_storeRowAt w _ g 35 cells Try.szRIn
def buildRIn (parts : Array (Nat × Value)) : Sem Value := Instr.build 78 parts
@[go_sem ↓ high] theorem build_rin (p : Array (Nat × Value)) : Instr.build 78 p = buildRIn p := rfl
theorem run_buildRIn (w : World) (parts : Array (Nat × Value)) (cells : Array Value) (h : Try.prog.built 78 parts.toList = some cells) : (buildRIn parts).run Try.prog w = .ok (.agg cells) w := run_build w _ parts cells h
theorem Try.szROut : (Try.prog.info? 80).map (·.size) = some 2 := by kernel_rfl
@[go_sem ↓ high] theorem load_rout (p : Value) : Instr.loadAt 80 p = loadRowAt 80 p := rfl
@[go_sem ↓ high] theorem store_rout (p v : Value) : Instr.storeAt 80 p v = storeRowAt 80 p v := rfl
@[go_sem] theorem run_load_rout (w : World) (g : Nat) : (loadRowAt 80 (.pointer (some ⟨g, 0, none⟩))).run Try.prog w = rowOut Try.prog 80 (.pointer (some ⟨g, 0, none⟩)) w 2 w.heap[g]? :=
  run_loadRowAt w _ g 2 _ Try.underlying80 rfl Try.szROut
@[go_sem] theorem run_store_rout (w : World) (g : Nat) (cells : Array Value) : (storeRowAt 80 (.pointer (some ⟨g, 0, none⟩)) (.agg cells)).run Try.prog w = rowIn Try.prog 80 (.pointer (some ⟨g, 0, none⟩)) cells g w 2 w.heap[g]? :=
  run_storeRowAt w _ g 2 cells Try.szROut
theorem load_rin_at {w : World} {b o : Nat} {t : MI} (h : t.Ok) (hc : ∀ i u, t.row[i]? = some u → w.cell? ⟨b, o + i, none⟩ = some u) : (loadRowAt 78 (.pointer (some ⟨b, o, none⟩))).run Try.prog w = .ok (.agg t.row.toArray) w :=
  run_loadAt_mid (P := Try.prog) w b o 78 t.row _ hc Try.underlying78 rfl (by rw [Try.szRIn, MI.row_length h])
theorem load_rout_at {w : World} {b o : Nat} {t : MO} (hc : ∀ i u, t.row[i]? = some u → w.cell? ⟨b, o + i, none⟩ = some u) : (loadRowAt 80 (.pointer (some ⟨b, o, none⟩))).run Try.prog w = .ok (.agg t.row.toArray) w :=
  run_loadAt_mid (P := Try.prog) w b o 80 t.row _ hc Try.underlying80 rfl (by rw [Try.szROut, MO.row_length])
theorem thirtytwo (l : List UInt8) (h : l.length = 32) : ∃ x0 x1 x2 x3 x4 x5 x6 x7 x8 x9 x10 x11 x12 x13 x14 x15 x16 x17 x18 x19 x20 x21 x22 x23 x24 x25 x26 x27 x28 x29 x30 x31, l = [x0, x1, x2, x3, x4, x5, x6, x7, x8, x9, x10, x11, x12, x13, x14, x15, x16, x17, x18, x19, x20, x21, x22, x23, x24, x25, x26, x27, x28, x29, x30, x31] := by
  match l, h with
  | [x0, x1, x2, x3, x4, x5, x6, x7, x8, x9, x10, x11, x12, x13, x14, x15, x16, x17, x18, x19, x20, x21, x22, x23, x24, x25, x26, x27, x28, x29, x30, x31], _ => exact ⟨x0, x1, x2, x3, x4, x5, x6, x7, x8, x9, x10, x11, x12, x13, x14, x15, x16, x17, x18, x19, x20, x21, x22, x23, x24, x25, x26, x27, x28, x29, x30, x31, rfl⟩
set_option maxRecDepth 100000 in
theorem built_rin (l : List UInt8) (h : l.length = 32) (x y : Int) (s : ByteArray) : Try.prog.built 78 [(0, .agg (l.map B8).toArray), (1, .int .u64 x), (2, .int .u64 y), (3, .string s)] = some (rowR l (.int .u64 x) (.int .u64 y) (.string s)) := by
  obtain ⟨x0, x1, x2, x3, x4, x5, x6, x7, x8, x9, x10, x11, x12, x13, x14, x15, x16, x17, x18, x19, x20, x21, x22, x23, x24, x25, x26, x27, x28, x29, x30, x31, rfl⟩ := thirtytwo l h
  kernel_rfl

/-- A transaction of the document's in memory. -/
structure RT where
  m : MT
  ia : Option Addr
  ic : Nat
  oa : Option Addr
  oc : Nat
def RT.cells (r : RT) : Array Value := #[.int .u64 (r.m.vr : Int), .int .u64 (r.m.lt : Int), .slice r.ia r.m.ins.length r.ic, .slice r.oa r.m.outs.length r.oc]
structure RT.Ok (w : World) (r : RT) : Prop where
  vr : r.m.vr < 4294967296
  lt : r.m.lt < 4294967296
  ins : MIs w r.ia r.ic r.m.ins
  outs : MOs w r.oa r.oc r.m.outs
theorem RT.Ok.fr {w w' : World} {r : RT} (h : r.Ok w) (f : Fr F0 w w') : r.Ok w' := ⟨h.vr, h.lt, h.ins.fr f, h.outs.fr f⟩
theorem RT.Ok.m {w : World} {r : RT} (h : r.Ok w) : r.m.Ok := ⟨h.vr, h.lt, h.ins.ok, h.outs.ok⟩
end Go.Proofs.Ythoaalnjmklclaa

/- Layer 9 (tx): the law's Few and Ref. -/
namespace Go.Proofs.Ythoaalnjmklclaa
set_option linter.unusedVariables false
set_option linter.unusedSimpArgs false
open Go.RowKit

theorem MT.small_any (t : TT) : t.m.small = (decide (t.ins.length ≤ 70) && (decide (t.outs.length ≤ 70) && (t.ins.all (fun t => decide (t.m.ky.length ≤ 600)) && t.outs.all (fun t => decide (t.m.lk.length ≤ 600))))) := by
  rw [Bool.eq_iff_iff, MT.small, decide_eq_true_iff]
  simp [TT.m]
set_option maxRecDepth 100000 in
set_option maxHeartbeats 8000000 in
theorem Few09_any (t : TT) (w : World) (h : t.Ok w) : Calls Try.prog 12 #[.agg t.cells] w fun e w' => e = .returned (.bool t.m.small) ∧ Fr F0 w w' := by
  rw [MT.small_any]
  obtain ⟨hv, ht, hi, ho⟩ := h
  have m1 := hi.most
  have m2 := ho.most
  clear hv ht
  obtain ⟨vr, ia, ic, ins, oa, oc, outs, lt⟩ := t
  simp only [TT.cells] at *
  have HI := Lib.hid hi
  have HO := Lib.hid ho
  have rI := hi.sl.room
  have rO := ho.sl.room
  clear hi ho
  obtain ⟨n, hn⟩ : ∃ n, n = ins.length := ⟨_, rfl⟩
  obtain ⟨m, hm⟩ : ∃ n, n = outs.length := ⟨_, rfl⟩
  rw [← hn] at m1 rI ⊢
  rw [← hm] at m2 rO ⊢
  replace hn := Lib.hid hn
  replace hm := Lib.hid hm
  have F := (Fr.refl F0 w).alloc (.cells #[.int .u32 (vr : Int), .slice ia n ic, .slice oa m oc, .int .u32 (lt : Int)] 28)
  by_cases q1 : 70 < n
  · have l1 : (70 : Int) < (n : Int) := by omega
    go_enter Try.func12, Try.ntmps12
    go_wp2
    go_ret
    exact ⟨by rw [decide_eq_false (by omega : ¬ n ≤ 70)]; rfl, F⟩
  have l1 : ¬ (70 : Int) < (n : Int) := by omega
  by_cases q2 : 70 < m
  · have l2 : (70 : Int) < (m : Int) := by omega
    go_enter Try.func12, Try.ntmps12
    go_wp2
    go_ret
    exact ⟨by rw [decide_eq_false (by omega : ¬ m ≤ 70)]; simp, F⟩
  have l2 : ¬ (70 : Int) < (m : Int) := by omega
  rw [decide_eq_true (by omega : n ≤ 70), decide_eq_true (by omega : m ≤ 70), Bool.true_and, Bool.true_and]
  have r0 := heap_alloc_new w (.cells #[.int .u32 (vr : Int), .slice ia n ic, .slice oa m oc, .int .u32 (lt : Int)] 28)
  go_enter Try.func12, Try.ntmps12
  go_wp2_with fail
  go_loopw [20] (fun iv wr => ∃ k : Nat, k ≤ n ∧ iv = .int .i64 k ∧ Hid ((ins.take k).all (fun t => decide (t.m.ky.length ≤ 600)) = true) ∧ wr.heap[w.heap.size]? = some (.cells #[.int .u32 (vr : Int), .slice ia n ic, .slice oa m oc, .int .u32 (lt : Int)] 28 (0, 0)) ∧ Fr F0 w wr) (fun iv _ => n - (intOf iv).toNat)
  case atStart => exact ⟨0, Nat.zero_le _, rfl, by simp [Hid], r0, F⟩
  case round =>
    obtain ⟨k, hk, rfl, HK, hb, hf⟩ := hrel
    clear r0 F
    by_cases hkn : k < n
    · have hkl : k < ins.length := by have := hn.out; omega
      obtain ⟨hok, bb, off, rfl, hc⟩ := (HI.out.fr hf).get k hkl
      have hl := load_in (w := wr) (b := bb) (o := off + k * 35) hok.m hc
      have K := TI.cellsOf hok.m
      obtain ⟨t, ht⟩ : ∃ t, t = ins[k] := ⟨_, rfl⟩
      rw [← ht] at hl K
      have sz := K.size
      have o1 := K.one
      have c33 := K.c33
      clear hc hok K
      replace ht := Lib.hid ht
      generalize hX : t.row.toArray = X at *
      obtain ⟨kn, hkn2⟩ : ∃ n, n = t.m.ky.length := ⟨_, rfl⟩
      rw [← hkn2] at c33
      have d33 := cell_is c33 (by omega)
      have l3 : (k : Int) < (n : Int) := by omega
      go_upto_region 6 with fail
      refine wp_put fun W4 N4 => ?_
      have r5 := N4.new
      replace hb := N4.old hb
      replace hf := hf.trans' N4.fr
      clear N4 hl
      by_cases q3 : 600 < kn
      · have l4 : (600 : Int) < (kn : Int) := by omega
        go_wp2
        go_ret
        refine ⟨?_, hf⟩
        have : (ins.all fun t => decide (t.m.ky.length ≤ 600)) = false := by
          rw [List.all_eq_false]
          exact ⟨t, by rw [ht.out]; exact List.getElem_mem hkl, by simp; omega⟩
        rw [this]
        rfl
      · have l4 : ¬ (600 : Int) < (kn : Int) := by omega
        go_wp2
        go_roundw
        case rel =>
          refine ⟨k + 1, by omega, by go_num, ?_, hb, hf⟩
          rw [Hid, List.take_succ_eq_append_getElem hkl, List.all_append, HK.out, ← ht.out]
          simp
          omega
        case measure => simp [intOf]; omega
    · obtain rfl : k = n := by omega
      have HK2 := HK.out
      rw [hn.out, List.take_length] at HK2
      replace HK2 := Lib.hid HK2
      go_wp2_with fail
      go_loopw [32] (fun iv wr => ∃ j : Nat, j ≤ m ∧ iv = .int .i64 j ∧ Hid ((outs.take j).all (fun t => decide (t.m.lk.length ≤ 600)) = true) ∧ Fr F0 w wr) (fun iv _ => m - (intOf iv).toNat)
      case atStart => exact ⟨0, Nat.zero_le _, rfl, by simp [Hid], hf⟩
      case round =>
        obtain ⟨j, hj, rfl, HJ, hf⟩ := hrel
        clear hb
        by_cases hjm : j < m
        · have hjl : j < outs.length := by have := hm.out; omega
          obtain ⟨hok, bb, off, rfl, hc⟩ := (HO.out.fr hf).get j hjl
          have hl := load_out (w := wr) (b := bb) (o := off + j * 2) hc
          obtain ⟨t, ht⟩ : ∃ t, t = outs[j] := ⟨_, rfl⟩
          rw [← ht] at hl
          clear hc hok
          obtain ⟨⟨py, lk⟩, xa, xc⟩ := t
          simp only [TO.row] at hl
          obtain ⟨kn, hkn2⟩ : ∃ n, n = lk.length := ⟨_, rfl⟩
          rw [← hkn2] at hl
          replace hkn2 := Lib.hid hkn2
          have o2 := row2_one (py : Int) xa kn xc
          replace ht := Lib.hid ht
          have l3 : (j : Int) < (m : Int) := by omega
          go_upto_region 12 with fail
          first | refine wp_new fun W4 N4 => ?_ | refine wp_put fun W4 N4 => ?_
          have r5 := N4.new
          replace hf := hf.trans' N4.fr
          clear N4 hl
          by_cases q3 : 600 < kn
          · have l4 : (600 : Int) < (kn : Int) := by omega
            go_wp2
            go_ret
            refine ⟨?_, hf⟩
            have : (outs.all fun t => decide (t.m.lk.length ≤ 600)) = false := by
              rw [List.all_eq_false]
              exact ⟨⟨⟨py, lk⟩, xa, xc⟩, by rw [ht.out]; exact List.getElem_mem hjl, by have := hkn2.out; simp; omega⟩
            rw [this, Bool.and_false]
            rfl
          · have l4 : ¬ (600 : Int) < (kn : Int) := by omega
            go_wp2
            go_roundw
            case rel =>
              refine ⟨j + 1, by omega, by go_num, ?_, hf⟩
              rw [Hid, List.take_succ_eq_append_getElem hjl, List.all_append, HJ.out, ← ht.out]
              have := hkn2.out
              simp
              omega
            case measure => simp [intOf]; omega
        · obtain rfl : j = m := by omega
          have HJ2 := HJ.out
          rw [hm.out, List.take_length] at HJ2
          replace HJ2 := Lib.hid HJ2
          go_wp2
          go_ret
          exact ⟨by rw [HK2.out, HJ2.out]; rfl, hf⟩

theorem load_hash0 {w : World} {g : Nat} {t : TI} {C : Array Value} {ty : TypeId} (K : InC t C) (h : t.m.Ok) (hg : w.heap[g]? = some (.cells C ty (0, 0))) : (loadRowAt 66 (.pointer (some ⟨g, 0, none⟩))).run Try.prog w = .ok (.agg (t.m.fr.map B8).toArray) w := by
  have := run_loadAt_mid (P := Try.prog) w g 0 66 (t.m.fr.map B8) _ (fun j v hj => by
    rw [Nat.zero_add, cell_at, hg, cellAt_cells]
    have hj' : (C.extract 0 32)[j]? = some v := by rw [K.x0]; simpa using hj
    rw [Array.getElem?_extract] at hj'
    split at hj'
    · simpa using hj'
    · cases hj') Try.underlying66 rfl (by
      have : (Try.prog.info? 66).map (·.size) = some 32 := by kernel_rfl
      rw [this]; simp [h.fr])
  exact this
@[go_sem ↓ high] theorem load_hash9 (p : Value) : Instr.loadAt 66 p = loadRowAt 66 p := rfl

theorem Try.szRTx : (Try.prog.info? 37).map (·.size) = some 4 := by kernel_rfl
set_option maxRecDepth 100000 in
set_option maxHeartbeats 16000000 in
theorem Ref09_any (t : TT) (w : World) (h : t.Ok w) (hsm : t.ins.length ≤ 70 ∧ t.outs.length ≤ 70) : Calls Try.prog 8 #[.agg t.cells] w fun e w' => ∃ r : RT, e = .returned (.agg r.cells) ∧ r.m = t.m ∧ r.Ok w' ∧ Fr F0 w w' := by
  obtain ⟨hv, ht, hi, ho⟩ := h
  have m1 := hi.most
  have m2 := ho.most
  obtain ⟨vr, ia, ic, ins, oa, oc, outs, lt⟩ := t
  simp only [TT.cells, TT.m] at *
  have HI := Lib.hid hi
  have HO := Lib.hid ho
  have rI := hi.sl.room
  have rO := ho.sl.room
  clear hi ho
  obtain ⟨n, hn⟩ : ∃ n, n = ins.length := ⟨_, rfl⟩
  obtain ⟨m, hm⟩ : ∃ n, n = outs.length := ⟨_, rfl⟩
  rw [← hn] at m1 rI hsm ⊢
  rw [← hm] at m2 rO hsm ⊢
  replace hn := Lib.hid hn
  replace hm := Lib.hid hm
  have F := (Fr.refl F0 w).alloc (.cells #[.int .u32 (vr : Int), .slice ia n ic, .slice oa m oc, .int .u32 (lt : Int)] 28)
  have r0 := heap_alloc_new w (.cells #[.int .u32 (vr : Int), .slice ia n ic, .slice oa m oc, .int .u32 (lt : Int)] 28)
  go_enter Try.func8, Try.ntmps8
  go_upto_region 1 with fail
  refine wp_new fun W1 N1 => ?_
  have r2 := N1.new
  replace r0 := N1.old r0
  replace F := F.trans' N1.fr
  have ne0 := N1.ne (heap_alloc_new w (.cells #[.int .u32 (vr : Int), .slice ia n ic, .slice oa m oc, .int .u32 (lt : Int)] 28))
  clear N1
  rw [World.size_alloc] at r2 ne0
  obtain ⟨g2, hg2⟩ : ∃ g, g = w.heap.size + 1 := ⟨_, rfl⟩
  obtain ⟨b0, hb0⟩ : ∃ g, g = w.heap.size := ⟨_, rfl⟩
  rw [← hg2] at r2 ne0 ⊢
  rw [← hb0] at r0 ne0 ⊢
  have hs2 : w.heap.size ≤ g2 := by omega
  have hs0 : w.heap.size ≤ b0 := by omega
  clear hg2 hb0
  go_upto_region 2 with fail
  refine wp_new fun W2 N2 => ?_
  have r3 := N2.new
  have ne2 := N2.ne r2
  have ne03 := N2.ne r0
  replace r0 := N2.old r0
  replace r2 := N2.old r2
  have hs3 : w.heap.size ≤ W1.heap.size := F.size
  replace F := F.trans' N2.fr
  clear N2
  obtain ⟨g3, hg3⟩ : ∃ g, g = W1.heap.size := ⟨_, rfl⟩
  rw [← hg3] at r3 ne2 ne03 hs3 ⊢
  clear hg3
  obtain ⟨B4, hB4⟩ : ∃ x, x = W2.heap.size := ⟨_, rfl⟩
  have hG := Lib.hid (show g3 < B4 ∧ g2 < B4 ∧ b0 < B4 ∧ w.heap.size ≤ g3 ∧ w.heap.size ≤ g2 ∧ w.heap.size ≤ b0 ∧ w.heap.size ≤ B4 from ⟨by rw [hB4]; exact (Array.getElem?_eq_some_iff.1 r3).1, by rw [hB4]; exact (Array.getElem?_eq_some_iff.1 r2).1, by rw [hB4]; exact (Array.getElem?_eq_some_iff.1 r0).1, hs3, hs2, hs0, by rw [hB4]; exact F.size⟩)
  have hz0 := Lib.hid (Nat.le_of_eq hB4)
  clear hs3 hs2 hs0 hB4
  go_wp2_with fail
  go_loopw [18] (fun iv wr => ∃ (k : Nat) (vi : Value), k ≤ n ∧ iv = .int .i64 (k : Int) ∧ Hid (OwnRIns B4 wr vi ((ins.take k).map TI.m)) ∧ wr.heap[g3]? = some (.cells #[.int .u64 (vr : Int), .int .u64 (lt : Int), vi, .slice none 0 0] 37 (0, 0)) ∧
    wr.heap[g2]? = some (.cells #[.int .u64 0, .int .u64 0, .slice none 0 0, .slice none 0 0] 37 (0, 0)) ∧ wr.heap[b0]? = some (.cells #[.int .u32 (vr : Int), .slice ia n ic, .slice oa m oc, .int .u32 (lt : Int)] 28 (0, 0)) ∧ Fr F0 w wr ∧ Hid (B4 ≤ wr.heap.size)) (fun iv _ => n - (intOf iv).toNat)
  case atStart => exact ⟨0, _, Nat.zero_le _, rfl, OwnRIns.nil _ _, r3, r2, r0, F, hz0.out⟩
  case round =>
    obtain ⟨k, vi, hk, rfl, HV, q3, q2, q0, hF, hz⟩ := hrel
    clear r3 r2 r0 F
    by_cases hkn : k < n
    · have hkl : k < ins.length := by have := hn.out; omega
      obtain ⟨hok, bb, off, rfl, hc⟩ := (HI.out.fr hF).get k hkl
      have hl := load_in (w := wr) (b := bb) (o := off + k * 35) hok.m hc
      have hT := Lib.hid (take_map TI.m ins k hkl)
      have hlen : ((ins.take k).map TI.m).length = k := by rw [List.length_map, List.length_take]; omega
      obtain ⟨t, ht⟩ : ∃ t, t = ins[k] := ⟨_, rfl⟩
      rw [← ht] at hl hok hT
      have K := TI.cellsOf hok.m
      have sz := K.size
      have o1 := K.one
      have c32 := K.c32
      have c33 := K.c33
      have c34 := K.c34
      have hix := hok.m.ix
      have hsq := hok.m.sq
      have HK := Lib.hid (fun (X : Array Value) (e : X = t.row.toArray) (W : World) (g : Nat) (hg : W.heap[g]? = some (.cells X 68 (0, 0))) => load_hash0 (t := t) (C := X) (by rw [e]; exact K) hok.m hg)
      clear hc ht K
      obtain ⟨X, hX⟩ : ∃ X, X = t.row.toArray := ⟨_, rfl⟩
      rw [← hX] at hl sz o1 c32 c33 c34
      replace HK := Lib.hid (HK.out X hX)
      clear hX
      have d32 := cell_is c32 (by omega)
      have d33 := cell_is c33 (by omega)
      have d34 := cell_is c34 (by omega)
      obtain ⟨x, xa, xc⟩ := t
      dsimp only at c32 c33 c34 d32 d33 d34 hix hsq hok hT
      have hbr := fun w => run_buildRIn w #[(0, .agg (x.fr.map B8).toArray), (1, .int .u64 (x.ix : Int)), (2, .int .u64 (x.sq : Int)), (3, .string (strOf x.ky))] _ (built_rin x.fr hok.m.fr _ _ _)
      rw [← MI.row_eq] at hbr
      obtain ⟨kn, hkn2⟩ : ∃ n, n = x.ky.length := ⟨_, rfl⟩
      rw [← hkn2] at c33 d33
      replace hkn2 := Lib.hid hkn2
      have l3 : (k : Int) < (n : Int) := by omega
      go_upto_region 5 with fail
      refine wp_put fun W5 N5 => ?_
      have r5 := N5.new
      obtain ⟨g5, hg5⟩ : ∃ g, g = wr.heap.size := ⟨_, rfl⟩
      rw [← hg5] at r5 ⊢
      clear hg5
      replace q3 := N5.old q3
      replace q2 := N5.old q2
      replace q0 := N5.old q0
      have hz5 := Lib.hid (Nat.le_trans hz.out N5.fr.size)
      have hF5 := hF.trans' N5.fr
      have HV5 := HV.out.fr0 N5.fr
      have hlf := HK.out _ _ r5
      have hstr := bs_str7 (Bs.fr7 hok.b N5.fr) hkn2.out
      have hbs := run_buildRIns W5 x.row.toArray (MI.row_length hok.m)
      obtain ⟨a7, c7, w7, happ, O7, f7, s7, n7⟩ := HV5.app x hok.m (by have := hG.out; have := hz5.out; omega) (by have := hsm; rw [hlen]; omega) 34
      rw [hlen] at happ O7
      have q37 := f7.keeps (fun e => by have h1 := HV5.blk g3 e; have h2 := hG.out; omega) q3
      have q27 := f7.keeps (fun e => by have h1 := HV5.blk g2 e; have h2 := hG.out; omega) q2
      have q07 := f7.keeps (fun e => by have h1 := HV5.blk b0 e; have h2 := hG.out; omega) q0
      have F7 : Fr F0 w w7 := hF5.trans f7 (fun i hi e => by have h1 := HV5.blk i e; have h2 := hG.out; omega)
      have hz7 := Lib.hid (Nat.le_trans hz5.out (Nat.le_of_lt s7))
      dsimp only at hlf
      clear N5 hl HV5 f7 n7 hF q2 q0
      go_upto_region 6 with fail
      refine wp_cell q37 fun W8 r8 f8 => ?_
      have hGo := hG.out
      have q28 := f8.keeps (fun e => ne2 e) q27
      have q08 := f8.keeps (fun e => ne03 e) q07
      have F8 : Fr F0 w W8 := F7.trans f8 (fun i hi e => by omega)
      have O8 := Lib.hid (O7.fr f8 (fun i e => by omega))
      have hz8 := Lib.hid (Nat.le_trans hz7.out f8.size)
      clear hGo f8 q37 q27 q07 F7 O7 hz7 happ hbs hstr hlf hbr
      go_wp2_with fail
      go_roundw
      case rel => exact ⟨k + 1, _, by omega, by go_num, by rw [hT.out]; exact O8.out, r8, q28, q08, F8, hz8.out⟩
      case measure => simp [intOf]; omega
    · obtain rfl : k = n := by omega
      have eL : (ins.take k).map TI.m = ins.map TI.m := by rw [hn.out, List.take_length]
      rw [eL] at HV
      clear eL
      obtain ⟨B5, hB5⟩ : ∃ x, x = wr.heap.size := ⟨_, rfl⟩
      have hlo := Lib.hid (show ∀ i, vi.ownBlock = some i → i < B5 from by rw [hB5]; exact HV.out.lt)
      have hG5 := Lib.hid (show g3 < B5 ∧ g2 < B5 ∧ b0 < B5 ∧ w.heap.size ≤ g3 ∧ w.heap.size ≤ g2 ∧ w.heap.size ≤ b0 ∧ w.heap.size ≤ B5 ∧ B4 ≤ B5 from by have h1 := hG.out; have h2 := hz.out; omega)
      have hz5 := Lib.hid (Nat.le_of_eq hB5)
      clear hB5
      go_wp2_with fail
      go_loopw [43] (fun iv wr => ∃ (j : Nat) (vo : Value), j ≤ m ∧ iv = .int .i64 (j : Int) ∧ Hid (OwnRIns B4 wr vi (ins.map TI.m)) ∧ Hid (OwnROuts B5 wr vo ((outs.take j).map TO.m)) ∧ wr.heap[g3]? = some (.cells #[.int .u64 (vr : Int), .int .u64 (lt : Int), vi, vo] 37 (0, 0)) ∧
        wr.heap[g2]? = some (.cells #[.int .u64 0, .int .u64 0, .slice none 0 0, .slice none 0 0] 37 (0, 0)) ∧ Fr F0 w wr ∧ Hid (B5 ≤ wr.heap.size)) (fun iv _ => m - (intOf iv).toNat)
      case atStart => exact ⟨0, _, Nat.zero_le _, rfl, HV.out, OwnROuts.nil _ _, q3, q2, hF, hz5.out⟩
      case round =>
        obtain ⟨j, vo, hj, rfl, HV, HO2, q3, q2, hF, hz⟩ := hrel
        clear q0
        by_cases hjm : j < m
        · have hjl : j < outs.length := by have := hm.out; omega
          obtain ⟨hok, bb, off, rfl, hc⟩ := (HO.out.fr hF).get j hjl
          have hl := load_out (w := wr) (b := bb) (o := off + j * 2) hc
          have hT := Lib.hid (take_map TO.m outs j hjl)
          have hlen : ((outs.take j).map TO.m).length = j := by rw [List.length_map, List.length_take]; omega
          obtain ⟨t, ht⟩ : ∃ t, t = outs[j] := ⟨_, rfl⟩
          rw [← ht] at hl hok hT
          clear hc ht
          obtain ⟨⟨py, lk⟩, xa, xc⟩ := t
          simp only [TO.row] at hl
          dsimp only at hok hT
          have hpy := hok.m.py
          dsimp only at hpy
          obtain ⟨kn, hkn2⟩ : ∃ n, n = lk.length := ⟨_, rfl⟩
          rw [← hkn2] at hl
          replace hkn2 := Lib.hid hkn2
          have o2 := row2_one (py : Int) xa kn xc
          have l3 : (j : Int) < (m : Int) := by omega
          go_upto_region 10 with fail
          first | refine wp_new fun W5 N5 => ?_ | refine wp_put fun W5 N5 => ?_
          have r5 := N5.new
          obtain ⟨g5, hg5⟩ : ∃ g, g = wr.heap.size := ⟨_, rfl⟩
          rw [← hg5] at r5 ⊢
          clear hg5
          replace q3 := N5.old q3
          replace q2 := N5.old q2
          have hz5' := Lib.hid (Nat.le_trans hz.out N5.fr.size)
          have hF5 := hF.trans' N5.fr
          have HV5 := HV.out.fr0 N5.fr
          have HO5 := HO2.out.fr0 N5.fr
          have hstr := bs_str7 (Bs.fr7 hok.b N5.fr) hkn2.out
          have hbs := run_buildROuts W5 (MO.row ⟨py, lk⟩).toArray rfl
          obtain ⟨a7, c7, w7, happ, O7, f7, s7, n7⟩ := HO5.app ⟨py, lk⟩ hok.m (by have := hG5.out; have := hz5'.out; omega) (by have := hsm; rw [hlen]; omega) 35
          rw [hlen] at happ O7
          have q37 := f7.keeps (fun e => by have h1 := HO5.blk g3 e; have h2 := hG5.out; omega) q3
          have q27 := f7.keeps (fun e => by have h1 := HO5.blk g2 e; have h2 := hG5.out; omega) q2
          have F7 : Fr F0 w w7 := hF5.trans f7 (fun i hi e => by have h1 := HO5.blk i e; have h2 := hG5.out; omega)
          have V7 := HV5.frS f7 (fun i h1 h2 => by have := hlo.out i h1; have := HO5.blk i h2; omega)
          have hz7 := Lib.hid (Nat.le_trans hz5'.out (Nat.le_of_lt s7))
          simp only [MO.row] at hbs happ
          clear N5 hl HV5 HO5 f7 n7 hF q2
          go_upto_region 11 with fail
          refine wp_cell q37 fun W8 r8 f8 => ?_
          have hGo := hG5.out
          have q28 := f8.keeps (fun e => ne2 e) q27
          have F8 : Fr F0 w W8 := F7.trans f8 (fun i hi e => by omega)
          have O8 := Lib.hid (O7.fr f8 (fun i e => by omega))
          have V8 := Lib.hid (V7.fr f8 (fun i e => by have := hG.out; omega))
          have hz8 := Lib.hid (Nat.le_trans hz7.out f8.size)
          clear hGo f8 q37 q27 F7 O7 V7 hz7 happ hbs hstr
          go_wp2_with fail
          go_roundw
          case rel => exact ⟨j + 1, _, by omega, by go_num, V8.out, by rw [hT.out]; exact O8.out, r8, q28, F8, hz8.out⟩
          case measure => simp [intOf]; omega
        · obtain rfl : j = m := by omega
          have eL : (outs.take j).map TO.m = outs.map TO.m := by rw [hm.out, List.take_length]
          rw [eL] at HO2
          clear eL
          obtain ⟨ai, ci, rfl, hTi⟩ := HV.out.is
          obtain ⟨ao, co, rfl, hTo⟩ := HO2.out.is
          obtain ⟨n1, hn1⟩ : ∃ n1, n1 = (ins.map TI.m).length := ⟨_, rfl⟩
          obtain ⟨n2, hn2⟩ : ∃ n2, n2 = (outs.map TO.m).length := ⟨_, rfl⟩
          rw [← hn1, ← hn2] at q3
          replace hn1 := Lib.hid hn1
          replace hn2 := Lib.hid hn2
          have hTT := Lib.hid (And.intro hTi hTo)
          have hbI := Lib.hid (show ∀ i, ablk ai = some i → g2 < i from fun i hi => by have := HV.out.blk i (by rw [ablk_own]; exact hi); have := hG.out; omega)
          have hbO := Lib.hid (show ∀ i, ablk ao = some i → g2 < i from fun i hi => by have := HO2.out.blk i (by rw [ablk_own]; exact hi); have := hG5.out; omega)
          clear hTi hTo HV HO2
          go_wp2_with fail
          refine bodyPost_ret (results_cell_row rfl _ _ g2 _ _ _ _ rfl (set4 q2) Try.underlying37 rfl (by rw [Try.szRTx]; rfl)) rfl ?_
          have hg2l : w.heap.size ≤ g2 := hG.out.2.2.2.2.1
          refine ⟨⟨⟨vr, ins.map TI.m, outs.map TO.m, lt⟩, ai, ci, ao, co⟩, by rw [RT.cells, hn1.out, hn2.out], rfl, ?_, hF.set4 hg2l⟩
          have fE : Fr (fun k => k = g2) wr _ := Fr.set4g (w := wr) (g := g2) (a' := .int .u64 (vr : Int)) (b' := .int .u64 (lt : Int)) (c' := .slice ai n1 ci) (d' := .slice ao n2 co)
          exact ⟨hv, ht, ⟨hTT.out.1.sl.fr fE fun i hi e => by have := hbI.out i hi; omega, hTT.out.1.ok⟩, ⟨hTT.out.2.sl.fr fE fun i hi e => by have := hbO.out i hi; omega, hTT.out.2.ok⟩⟩
end Go.Proofs.Ythoaalnjmklclaa
