import Derived.Test.YthpcajpiflpmdaaDoorZ2
import Derived.Test.YthpcajpiflpmdaaDoorZ3
import Derived.Test.YthpcajpiflpmdaaDoorZ5
import Derived.Test.YthpcajpiflpmdaaDoorZ7
import Derived.Great.BuildSlice
import Derived.Great.FillDense
import Derived.Test.YthpcajpiflpmdaaDoorZ1
import Derived.Test.YthpcajpiflpmdaaDoorZ9
import Derived.Test.YthpcajpiflpmdaaDoorZ11
import Derived.Test.YthpcajpiflpmdaaDoorZ4
import Derived.WideKeyArr2
import Derived.Below
/- Layer 10 (merkle): hashes and rows of hashes in memory. -/
namespace Go.Proofs.YthpcajpiflpmdaaDoor
set_option linter.unusedVariables false
set_option linter.unusedSimpArgs false
open Go.RowKit

def z32 : List UInt8 := List.replicate 32 0
theorem z32_length : z32.length = 32 := rfl
/-- A hash as a value's cells. -/
def hc (h : List UInt8) : Array Value := (h.map B8).toArray
theorem hc_size {h : List UInt8} (e : h.length = 32) : (hc h).size = 32 := by simp [hc, e]
theorem hc_one (h : List UInt8) : rowOne (hc h) := by
  unfold rowOne hc
  rw [Array.all_eq_true_iff_forall_mem]
  intro v hv
  simp only [List.mem_toArray, List.mem_map] at hv
  obtain ⟨x, _, rfl⟩ := hv
  rfl
theorem hc_one' (h : List UInt8) : ∀ u ∈ h.map B8, u.oneCell' = true := fun u hu => by
  rw [List.mem_map] at hu
  obtain ⟨x, _, rfl⟩ := hu
  rfl

theorem Tryd.szHashJ : (Tryd.prog.info? 28).map (·.size) = some 32 := by kernel_rfl
theorem Tryd.szArrJ : (Tryd.prog.info? 27).map (·.size) = some 32 := by kernel_rfl
theorem Tryd.builtHJ : Tryd.prog.built 28 [] = some (hc z32) := by kernel_rfl
theorem Tryd.builtAJ : Tryd.prog.built 27 [] = some (hc z32) := by kernel_rfl
theorem Tryd.infoHashJ : (Tryd.prog.info? 28).map (fun i => (i.zero, i.size, i.bytes)) = some (some (.agg (hc z32)), 32, 32) := by kernel_rfl
theorem Tryd.infoArrJ : (Tryd.prog.info? 27).map (fun i => (i.zero, i.size, i.bytes)) = some (some (.agg (hc z32)), 32, 32) := by kernel_rfl
@[go_sem ↓ high] theorem load_hashJ (p : Value) : Instr.loadAt 28 p = loadRowAt 28 p := rfl
@[go_sem ↓ high] theorem store_hashJ (p v : Value) : Instr.storeAt 28 p v = storeRowAt 28 p v := rfl
@[go_sem] theorem run_load_hashJ (w : World) (g : Nat) : (loadRowAt 28 (.pointer (some ⟨g, 0, none⟩))).run Tryd.prog w = rowOut Tryd.prog 28 (.pointer (some ⟨g, 0, none⟩)) w 32 w.heap[g]? :=
  run_loadRowAt w _ g 32 _ Tryd.underlying28 rfl Tryd.szHashJ
@[go_sem] theorem run_store_hashJ (w : World) (g : Nat) (cells : Array Value) : (storeRowAt 28 (.pointer (some ⟨g, 0, none⟩)) (.agg cells)).run Tryd.prog w = rowIn Tryd.prog 28 (.pointer (some ⟨g, 0, none⟩)) cells g w 32 w.heap[g]? :=
  run_storeRowAt w _ g 32 cells Tryd.szHashJ
/-- A hash of nothing but zeros. -/
def buildZ (t : TypeId) (parts : Array (Nat × Value)) : Sem Value := Instr.build t parts
@[go_sem ↓ high] theorem build_hashJ (p : Array (Nat × Value)) : Instr.build 28 p = buildZ 28 p := rfl
@[go_sem ↓ high] theorem build_arrJ (p : Array (Nat × Value)) : Instr.build 27 p = buildZ 27 p := rfl
@[go_sem] theorem run_buildZh (w : World) : (buildZ 28 #[]).run Tryd.prog w = .ok (.agg (hc z32)) w := run_build w _ #[] _ Tryd.builtHJ
@[go_sem] theorem run_buildZa (w : World) : (buildZ 27 #[]).run Tryd.prog w = .ok (.agg (hc z32)) w := run_build w _ #[] _ Tryd.builtAJ

set_option maxRecDepth 100000 in
theorem run_equalIn_hashJ (w : World) (l m : List UInt8) (hl : l.length = 32) (hm : m.length = 32) : (Op.equalIn 10000 28 (.agg (hc l)) (.agg (hc m))).run Tryd.prog w = .ok (decide (l = m)) w := by
  obtain ⟨i0, hi, _⟩ := info_parts Tryd.infoU8
  rw [hc, hc, run_equalIn_array w 9999 _ _ Tryd.underlying28 hi, show Tryd.prog.cellsOf 5 = 1 by kernel_rfl, run_eqItems_bytes w 5 9998 (by kernel_rfl) Tryd.underlying5 l m 32 hl hm _ (fun j hj => List.mem_range.1 hj)]
  congr 1
  rw [Bool.eq_iff_iff]
  simp only [List.all_eq_true, List.mem_range, decide_eq_true_eq]
  constructor
  · intro h
    apply List.ext_getElem (by omega)
    intro j h1 h2
    have := h j (by omega)
    simpa [List.getD, List.getElem?_eq_getElem h1, List.getElem?_eq_getElem h2] using this
  · rintro rfl j _
    rfl
set_option maxRecDepth 100000 in
theorem run_equalIn_arrJ (w : World) (l m : List UInt8) (hl : l.length = 32) (hm : m.length = 32) : (Op.equalIn 10000 27 (.agg (hc l)) (.agg (hc m))).run Tryd.prog w = .ok (decide (l = m)) w := by
  obtain ⟨i0, hi, _⟩ := info_parts Tryd.infoU8
  rw [hc, hc, run_equalIn_array w 9999 _ _ Tryd.underlying27 hi, show Tryd.prog.cellsOf 5 = 1 by kernel_rfl, run_eqItems_bytes w 5 9998 (by kernel_rfl) Tryd.underlying5 l m 32 hl hm _ (fun j hj => List.mem_range.1 hj)]
  congr 1
  rw [Bool.eq_iff_iff]
  simp only [List.all_eq_true, List.mem_range, decide_eq_true_eq]
  constructor
  · intro h
    apply List.ext_getElem (by omega)
    intro j h1 h2
    have := h j (by omega)
    simpa [List.getD, List.getElem?_eq_getElem h1, List.getElem?_eq_getElem h2] using this
  · rintro rfl j _
    rfl

/-- A row of hashes in memory. -/
structure Hs (w : World) (a : Option Addr) (c : Nat) (l : List (List UInt8)) : Prop where
  sl : Sl w 32 a c l.length (l.flatMap fun h => h.map B8)
  ok : all32 l
theorem Hs.fr {w w' : World} {a : Option Addr} {c : Nat} {l : List (List UInt8)} (h : Hs w a c l) (f : Fr F0 w w') : Hs w' a c l := ⟨Sl.fr h.sl f fun _ _ f => f, h.ok⟩
theorem Hs.frx {S : Nat → Prop} {w w' : World} {a : Option Addr} {c : Nat} {l : List (List UInt8)} (h : Hs w a c l) (f : Fr S w w') (hs : ∀ k, ablk a = some k → ¬ S k) : Hs w' a c l := ⟨Sl.fr h.sl f hs, h.ok⟩
theorem Hs.room {w : World} {a : Option Addr} {c : Nat} {l : List (List UInt8)} (h : Hs w a c l) : l.length ≤ c ∧ l.length ≤ 9223372036854775807 := ⟨h.sl.room, by have h1 := h.sl.room; have h2 := h.sl.most; unfold maxLen at h2; omega⟩
theorem Hs.nothing (w : World) : Hs w none 0 [] := ⟨Sl.nothing w 32, fun _ h => by cases h⟩
theorem flat_len : ∀ (l : List (List UInt8)), all32 l → (l.flatMap fun h => h.map B8).length = l.length * 32
  | [], _ => rfl
  | x :: l, h => by
    rw [List.flatMap_cons, List.length_append, flat_len l (fun y hy => h y (by simp [hy])), List.length_map, h x (by simp), List.length_cons]
    omega
theorem flat_at : ∀ (l : List (List UInt8)), all32 l → ∀ k, k < l.length → ∀ j, j < 32 → (l.flatMap fun h => h.map B8)[k * 32 + j]? = ((l.getD k []).map B8)[j]?
  | [], _, k, h, j, _ => absurd h (by simp)
  | x :: l, hl, 0, _, j, hj => by
    rw [List.flatMap_cons, Nat.zero_mul, Nat.zero_add, List.getElem?_append_left (by rw [List.length_map, hl x (by simp)]; exact hj)]
    rfl
  | x :: l, hl, k + 1, h, j, hj => by
    have e : (x.map B8).length = 32 := by rw [List.length_map, hl x (by simp)]
    rw [List.flatMap_cons, List.getElem?_append_right (by rw [e]; omega), e, show (k + 1) * 32 + j - 32 = k * 32 + j by omega, flat_at l (fun y hy => hl y (by simp [hy])) k (by simpa using h) j hj]
    rfl
theorem Hs.get {w : World} {a : Option Addr} {c : Nat} {l : List (List UInt8)} (h : Hs w a c l) (k : Nat) (hk : k < l.length) :
    ∃ b off, a = some ⟨b, off, none⟩ ∧ ∀ j u, ((l.getD k []).map B8)[j]? = some u → w.cell? ⟨b, off + k * 32 + j, none⟩ = some u := by
  have h0 := h.ok.get hk
  obtain ⟨b, off, e, _⟩ := h.sl.cell (k * 32 + 0) _ ((flat_at l h.ok k hk 0 (by omega)).trans (List.getElem?_eq_getElem (by rw [List.length_map, h0]; omega)))
  refine ⟨b, off, e, fun j u hj => ?_⟩
  have hj' : j < 32 := by have := (List.getElem?_eq_some_iff.1 hj).1; rw [List.length_map, h0] at this; exact this
  obtain ⟨b', off', e', hc⟩ := h.sl.cell (k * 32 + j) u ((flat_at l h.ok k hk j hj').trans hj)
  rw [e] at e'
  cases e'
  rw [Nat.add_assoc]
  exact hc
theorem load_midH {w : World} {b o : Nat} {h : List UInt8} (hl : h.length = 32) (hc' : ∀ j u, (h.map B8)[j]? = some u → w.cell? ⟨b, o + j, none⟩ = some u) : (loadRowAt 28 (.pointer (some ⟨b, o, none⟩))).run Tryd.prog w = .ok (.agg (hc h)) w :=
  run_loadAt_mid (P := Tryd.prog) w b o 28 (h.map B8) _ hc' Tryd.underlying28 rfl (by rw [Tryd.szHashJ, List.length_map, hl])
theorem load_midA {w : World} {b o : Nat} {h : List UInt8} (hl : h.length = 32) (hc' : ∀ j u, (h.map B8)[j]? = some u → w.cell? ⟨b, o + j, none⟩ = some u) : (loadRowAt 27 (.pointer (some ⟨b, o, none⟩))).run Tryd.prog w = .ok (.agg (hc h)) w :=
  run_loadAt_mid (P := Tryd.prog) w b o 27 (h.map B8) _ hc' Tryd.underlying27 rfl (by rw [Tryd.szArrJ, List.length_map, hl])
/-- The k-th is read. -/
theorem Hs.load {w : World} {a : Option Addr} {c : Nat} {l : List (List UInt8)} (h : Hs w a c l) (k : Nat) (hk : k < l.length) :
    ∃ b off, a = some ⟨b, off, none⟩ ∧ (∀ W, Fr F0 w W → (loadRowAt 28 (.pointer (some ⟨b, off + k * 32, none⟩))).run Tryd.prog W = .ok (.agg (hc (l.getD k []))) W) ∧
      (∀ W, Fr F0 w W → (loadRowAt 27 (.pointer (some ⟨b, off + k * 32, none⟩))).run Tryd.prog W = .ok (.agg (hc (l.getD k []))) W) := by
  obtain ⟨b, off, e, _⟩ := h.get k hk
  refine ⟨b, off, e, fun W f => ?_, fun W f => ?_⟩
  · obtain ⟨b', off', e', hc'⟩ := (h.fr f).get k hk
    rw [e] at e'
    cases e'
    exact load_midH (h.ok.get hk) hc'
  · obtain ⟨b', off', e', hc'⟩ := (h.fr f).get k hk
    rw [e] at e'
    cases e'
    exact load_midA (h.ok.get hk) hc'

/-- A row that the call itself has made: its block is B or a later one. -/
structure OwnL (et : TypeId) (B : Nat) (w : World) (v : Value) (l : List (List UInt8)) : Prop where
  own : w.ownsRow 0 et 32 v l.length (l.flatMap fun h => h.map B8)
  blk : ∀ k, v.ownBlock = some k → B ≤ k
  ok : all32 l
theorem OwnL.nil (et : TypeId) (B : Nat) (w : World) : OwnL et B w (.slice none 0 0) [] := ⟨World.ownsRow_nil _ _ _ _, fun k h => (by cases h), fun x h => (by cases h)⟩
theorem own_frJ {S : Nat → Prop} {w w' : World} {base e size n : Nat} {v : Value} {xs : List Value} (h : w.ownsRow base e size v n xs) (hf : Fr S w w') (hs : ∀ k, v.ownBlock = some k → ¬ S k) : w'.ownsRow base e size v n xs := by
  refine ⟨h.1, ?_⟩
  rcases h.2 with hn | ⟨g, cap, cur, rfl, hb, hg, r⟩
  · exact .inl hn
  · exact .inr ⟨g, cap, cur, rfl, hb, hf.keeps (hs g rfl) hg, r⟩
theorem OwnL.frS {et B : Nat} {S : Nat → Prop} {w w' : World} {v : Value} {l : List (List UInt8)} (h : OwnL et B w v l) (f : Fr S w w') (h1 : ∀ k, v.ownBlock = some k → ¬ S k) : OwnL et B w' v l := ⟨own_frJ h.own f h1, h.blk, h.ok⟩
theorem OwnL.fr0 {et B : Nat} {w w' : World} {v : Value} {l : List (List UInt8)} (h : OwnL et B w v l) (f : Fr F0 w w') : OwnL et B w' v l := h.frS f fun _ _ e => e
theorem OwnL.lt {et B : Nat} {w : World} {v : Value} {l : List (List UInt8)} (h : OwnL et B w v l) : ∀ k, v.ownBlock = some k → k < w.heap.size := fun k hk => (World.ownsRow.lt h.own k hk).2
theorem OwnL.mono {et B B' : Nat} {w : World} {v : Value} {l : List (List UInt8)} (h : OwnL et B w v l) (hb : B' ≤ B) : OwnL et B' w v l := ⟨h.own, fun k hk => Nat.le_trans hb (h.blk k hk), h.ok⟩
theorem OwnL.is {et B : Nat} {w : World} {v : Value} {l : List (List UInt8)} (h : OwnL et B w v l) : ∃ a c, v = .slice a l.length c ∧ Hs w a c l := by
  obtain ⟨a, c, rfl⟩ := own_slice h.own
  exact ⟨a, c, rfl, (Sl.of_own h.own).2, h.ok⟩

/-- '[]T{x}', x a whole struct. -/
theorem run_slice1J {P : Program} (w : World) (t e : TypeId) (X : Array Value) (n : Nat) (ie : TypeInfo) (z : Value) (hu : P.underlying t = some (.slice e)) (hie : P.info? e = some ie) (hz : ie.zero = some z) (hs : ie.size = n) (h0 : 0 < n) (h1 : n ≤ 1000) (hX : X.size = n) :
    (Instr.buildSlice t 1 #[(0, .agg X)]).run P w = .ok (.slice (some ⟨w.heap.size, 0, none⟩) 1 1) (w.alloc (.cells X e)) := by
  subst hs
  refine run_buildSlice w t e 1 _ X ie z hu hie hz (by rw [Nat.one_mul]; have : 2 ^ 24 = 16777216 := rfl; omega) (by omega) ?_
  have := Great.fill_whole h0 [.agg X] ((Array.range (1 * ie.size)).map (z.cells[· % z.cells.size]!)) (fun v hv => by rw [List.mem_singleton] at hv; subst hv; exact hX) (by simp)
  simpa [Value.cells] using this
def buildL (t : TypeId) (parts : Array (Nat × Value)) : Sem Value := Instr.buildSlice t 1 parts
@[go_sem ↓ high] theorem build_L1 (p : Array (Nat × Value)) : Instr.buildSlice 22 1 p = buildL 22 p := rfl
@[go_sem ↓ high] theorem build_L2 (p : Array (Nat × Value)) : Instr.buildSlice 25 1 p = buildL 25 p := rfl
theorem run_buildLh (w : World) (X : Array Value) (h : X.size = 32) : (buildL 22 #[(0, .agg X)]).run Tryd.prog w = .ok (.slice (some ⟨w.heap.size, 0, none⟩) 1 1) (w.alloc (.cells X 28)) := by
  obtain ⟨i0, hi, hz, hs, _⟩ := info_parts Tryd.infoHashJ
  exact run_slice1J w 22 28 X 32 i0 _ Tryd.underlying22 hi hz hs (by omega) (by omega) h
theorem run_buildLa (w : World) (X : Array Value) (h : X.size = 32) : (buildL 25 #[(0, .agg X)]).run Tryd.prog w = .ok (.slice (some ⟨w.heap.size, 0, none⟩) 1 1) (w.alloc (.cells X 27)) := by
  obtain ⟨i0, hi, hz, hs, _⟩ := info_parts Tryd.infoArrJ
  exact run_slice1J w 25 27 X 32 i0 _ Tryd.underlying25 hi hz hs (by omega) (by omega) h

def appL (t ty : TypeId) (args : Array Value) : Sem Value := Builtin.append_ #[t, t] ty args
@[go_sem ↓ high] theorem app_L1 (ty : TypeId) (args : Array Value) : Builtin.append_ #[22, 22] ty args = appL 22 ty args := rfl
@[go_sem ↓ high] theorem app_L2 (ty : TypeId) (args : Array Value) : Builtin.append_ #[25, 25] ty args = appL 25 ty args := rfl
/-- One more. -/
theorem OwnL.app' {st et B : Nat} (hu : Tryd.prog.underlying st = some (.slice et)) {z : Value} (hi3 : (Tryd.prog.info? et).map (fun i => (i.zero, i.size, i.bytes)) = some (some z, 32, 32)) (hzc : z.cells.size = 32)
    {w : World} {v : Value} {l : List (List UInt8)} (h : OwnL et B w v l) (x : List UInt8) (hx : x.length = 32) (hB : B ≤ w.heap.size) (hl : l.length ≤ 100000) (ty : TypeId) :
    ∃ a c w', (appL st ty #[v, .slice (some ⟨w.heap.size, 0, none⟩) 1 1]).run Tryd.prog (w.alloc (.cells (hc x) et)) = .ok (.slice a (l.length + 1) c) w' ∧ OwnL et B w' (.slice a (l.length + 1) c) (l ++ [x]) ∧
      Fr (fun k => v.ownBlock = some k) w w' ∧ w.heap.size < w'.heap.size ∧ ∀ k, ablk a = some k → v.ownBlock = some k ∨ w.heap.size ≤ k := by
  obtain ⟨i0, hi, hz, hs, hb⟩ := info_parts hi3
  obtain ⟨W, hW⟩ : ∃ W, W = w.alloc (.cells (hc x) et) := ⟨_, rfl⟩
  have hnew := heap_alloc_new w (.cells (hc x) et)
  have fW : Fr F0 w W := by rw [hW]; exact (Fr.refl F0 w).alloc _
  have sW : W.heap.size = w.heap.size + 1 := by rw [hW]; simp
  rw [← hW] at hnew ⊢
  have hsl : Sl W 32 (some ⟨w.heap.size, 0, none⟩) 1 1 (x.map B8) := ⟨by rw [List.length_map, hx], Nat.le_refl _, by unfold maxLen; omega, (fun e => by cases e), fun j u hj => ⟨_, _, rfl, by rw [cell_at, hnew, cellAt_cells, Nat.zero_add, hc]; simpa using hj⟩⟩
  obtain ⟨v', w', hrun, hown, hg, hnw⟩ := run_app (P := Tryd.prog) (w := W) st ty et i0 _ 32 32 hu hi hz hs hb hzc (by omega) v l.length _ (own_frJ h.own fW fun _ _ f => f) (some ⟨w.heap.size, 0, none⟩) 1 1 (x.map B8) hsl
    (hc_one' x) (by unfold maxLen; omega) (by omega)
  obtain ⟨a, c, rfl⟩ := own_slice hown
  have F : Fr (fun k => v.ownBlock = some k) w w' := (fW.of0).grown hg fun k hk hl => hk
  have hnw' : ∀ k, ablk a = some k → v.ownBlock = some k ∨ w.heap.size ≤ k := fun k hk => by
    rcases hnw k (by rw [ablk_own]; exact hk) with e | e
    · exact .inl e
    · exact .inr (by omega)
  refine ⟨a, c, w', hrun, ⟨?_, fun k hk => ?_, fun y hy => ?_⟩, F, by have := hg.size; omega, hnw'⟩
  · rw [List.length_append, List.flatMap_append]
    simpa using hown
  · rw [ablk_own] at hk
    rcases hnw' k hk with e | e
    · exact h.blk k e
    · omega
  · rw [List.mem_append, List.mem_singleton] at hy
    rcases hy with hy | rfl
    · exact h.ok y hy
    · exact hx
theorem OwnL.appH {B : Nat} {w : World} {v : Value} {l : List (List UInt8)} (h : OwnL 28 B w v l) (x : List UInt8) (hx : x.length = 32) (hB : B ≤ w.heap.size) (hl : l.length ≤ 100000) (ty : TypeId) :
    ∃ a c w', (appL 22 ty #[v, .slice (some ⟨w.heap.size, 0, none⟩) 1 1]).run Tryd.prog (w.alloc (.cells (hc x) 28)) = .ok (.slice a (l.length + 1) c) w' ∧ OwnL 28 B w' (.slice a (l.length + 1) c) (l ++ [x]) ∧
      Fr (fun k => v.ownBlock = some k) w w' ∧ w.heap.size < w'.heap.size ∧ ∀ k, ablk a = some k → v.ownBlock = some k ∨ w.heap.size ≤ k :=
  h.app' Tryd.underlying22 Tryd.infoHashJ rfl x hx hB hl ty
theorem OwnL.appA {B : Nat} {w : World} {v : Value} {l : List (List UInt8)} (h : OwnL 27 B w v l) (x : List UInt8) (hx : x.length = 32) (hB : B ≤ w.heap.size) (hl : l.length ≤ 100000) (ty : TypeId) :
    ∃ a c w', (appL 25 ty #[v, .slice (some ⟨w.heap.size, 0, none⟩) 1 1]).run Tryd.prog (w.alloc (.cells (hc x) 27)) = .ok (.slice a (l.length + 1) c) w' ∧ OwnL 27 B w' (.slice a (l.length + 1) c) (l ++ [x]) ∧
      Fr (fun k => v.ownBlock = some k) w w' ∧ w.heap.size < w'.heap.size ∧ ∀ k, ablk a = some k → v.ownBlock = some k ∨ w.heap.size ≤ k :=
  h.app' Tryd.underlying25 Tryd.infoArrJ rfl x hx hB hl ty
/-- '[]T{}'. -/
def buildL0 (t : TypeId) (parts : Array (Nat × Value)) : Sem Value := Instr.buildSlice t 0 parts
@[go_sem ↓ high] theorem build_L01 (p : Array (Nat × Value)) : Instr.buildSlice 22 0 p = buildL0 22 p := rfl
@[go_sem ↓ high] theorem build_L02 (p : Array (Nat × Value)) : Instr.buildSlice 25 0 p = buildL0 25 p := rfl
theorem run_slice0 {P : Program} (w : World) (t e : TypeId) (ie : TypeInfo) (z : Value) (hu : P.underlying t = some (.slice e)) (hie : P.info? e = some ie) (hz : ie.zero = some z) :
    (Instr.buildSlice t 0 #[]).run P w = .ok (.slice (some ⟨w.heap.size, 0, none⟩) 0 0) (w.alloc (.cells #[] e)) := by
  simp [Instr.buildSlice, run_underlying hu, sizeOf, typeInfo, zeroValue, hie, hz, newRow, Instr.fill, Array.range_zero']
theorem OwnL.new0 (et : TypeId) (w : World) : OwnL et w.heap.size (w.alloc (.cells #[] et)) (.slice (some ⟨w.heap.size, 0, none⟩) 0 0) [] :=
  ⟨World.ownsRow_made w #[] 0 (Nat.zero_le _) (Nat.zero_le _) (by simp), fun k hk => by cases hk; exact Nat.le_refl _, fun _ h => by cases h⟩
theorem run_buildL0h (w : World) : (buildL0 22 #[]).run Tryd.prog w = .ok (.slice (some ⟨w.heap.size, 0, none⟩) 0 0) (w.alloc (.cells #[] 28)) := by
  obtain ⟨i0, hi, hz, hs, _⟩ := info_parts Tryd.infoHashJ
  exact run_slice0 w 22 28 i0 _ Tryd.underlying22 hi hz
theorem run_buildL0a (w : World) : (buildL0 25 #[]).run Tryd.prog w = .ok (.slice (some ⟨w.heap.size, 0, none⟩) 0 0) (w.alloc (.cells #[] 27)) := by
  obtain ⟨i0, hi, hz, hs, _⟩ := info_parts Tryd.infoArrJ
  exact run_slice0 w 25 27 i0 _ Tryd.underlying25 hi hz
attribute [go_sem] run_buildL0h run_buildL0a
/-- 'make([]Hash, 0, n)'. -/
theorem run_make_H (w : World) (n : Nat) (hn : n ≤ 1000000) : ∃ C, (Instr.makeSlice 22 (.int .i64 0) (.int .i64 (n : Int))).run Tryd.prog w = .ok (.slice (some ⟨w.heap.size, 0, none⟩) 0 n) (w.alloc (.cells C 28)) ∧
    OwnL 28 w.heap.size (w.alloc (.cells C 28)) (.slice (some ⟨w.heap.size, 0, none⟩) 0 n) [] := by
  obtain ⟨i0, hi, hz, hs, hb⟩ := info_parts Tryd.infoHashJ
  have := run_make (P := Tryd.prog) w 22 28 i0 _ Tryd.underlying22 hi hz .i64 .i64 0 (n : Int) (by omega) (by omega) (by rw [hb]; omega) (by omega)
  simp only [Int.toNat_zero, Int.toNat_natCast] at this
  exact ⟨_, this, World.ownsRow_made w _ n (Nat.zero_le _) (by unfold maxLen; omega) (by rw [size_madeCells, hs]), fun k hk => by cases hk; exact Nat.le_refl _, fun _ h => by cases h⟩
end Go.Proofs.YthpcajpiflpmdaaDoor

/- Layer 10 (merkle): two hashes, put together: the program's own joined, and the document's Both. -/
namespace Go.Proofs.YthpcajpiflpmdaaDoor
set_option linter.unusedVariables false
set_option linter.unusedSimpArgs false
open Go.RowKit

theorem Pts.of2J {w : World} {g : Nat} {a b : Option Addr} {n m c d : Nat} {l k : List UInt8} {t : TypeId} {fr : Nat × Nat} (h : w.heap[g]? = some (.cells #[.slice a n c, .slice b m d] t fr))
    (h1 : Bs w a c l) (h2 : Bs w b d k) (hn : n = l.length) (hm : m = k.length) : Pts w (some ⟨g, 0, none⟩) [(a, c, l), (b, d, k)] := by
  subst hn hm
  refine ⟨fun i hi => ⟨g, 0, rfl, ?_⟩, fun i hi => ?_⟩
  · rw [Nat.zero_add, cell_at, h]
    match i, hi with
    | 0, _ => rfl
    | 1, _ => rfl
  · match i, hi with
    | 0, _ => exact h1
    | 1, _ => exact h2
theorem Bs.of_r8J {w : World} {g n : Nat} {t : TypeId} {fr : Nat × Nat} {L : List UInt8} (h : w.heap[g]? = some (.cells (hc L) t fr)) (hn : n = L.length) (hm : n ≤ 1000000) : Bs w (some ⟨g, 0, none⟩) n L := by
  subst hn
  exact ⟨by simp, Nat.le_refl _, by unfold maxLen; omega, (fun e => by cases e), fun j u hj => ⟨g, 0, rfl, by rw [Nat.zero_add, cell_of_row w g j _ t _ h, hc]; simpa using hj⟩⟩

theorem any_new {P : World → Prop} {w : World} {z : Array Value} {t : TypeId} (k : ∀ W, NewRow w W w.heap.size z t → P W) : P (w.alloc (.cells z t)) := k _ ⟨heap_alloc_new _ _, fun h => keep_alloc h, (Fr.refl F0 w).alloc _, fun h => by have := (Array.getElem?_eq_some_iff.1 h).1; omega⟩
theorem any_newd {P : World → Prop} {w : World} {z : Array Value} {t : TypeId} (k : ∀ W, NewRow w W w.heap.size z t → P W) : P (w.alloc (.cells z t)).drew := k _ ⟨heap_alloc_new _ _, fun h => keep_alloc h, ((Fr.refl F0 w).alloc _).drew, fun h => by have := (Array.getElem?_eq_some_iff.1 h).1; omega⟩

set_option maxRecDepth 100000 in
set_option maxHeartbeats 4000000 in
theorem mJoined_any (A B : List UInt8) (hA : A.length = 32) (hB : B.length = 32) (w : World) (hcub : Cub w) :
    Calls Tryd.prog 30 #[.agg (hc A), .agg (hc B)] w fun e w' => e = .returned (.agg (hc (hh A B))) ∧ Fr F0 w w' := by
  have sA := hc_size hA
  have sB := hc_size hB
  have HA := Lib.hid hA
  have HB := Lib.hid hB
  have HC := Lib.hid hcub
  obtain ⟨X, hX⟩ : ∃ X, X = hc A := ⟨_, rfl⟩
  obtain ⟨Y, hY⟩ : ∃ Y, Y = hc B := ⟨_, rfl⟩
  rw [← hX] at sA ⊢
  rw [← hY] at sB ⊢
  replace hX := Lib.hid hX
  replace hY := Lib.hid hY
  clear hA hB hcub
  have sR := hc_size (hh_length A B)
  have oR := hc_one (hh A B)
  obtain ⟨R, hR⟩ : ∃ R, R = hc (hh A B) := ⟨_, rfl⟩
  rw [← hR] at sR oR ⊢
  replace hR := Lib.hid hR
  go_enter Tryd.func30, Tryd.ntmps30
  go_upto_region 1 with fail
  refine wp_new fun W0 N0 => ?_
  have r4 := N0.new
  have r2 := N0.old (keep_alloc (heap_alloc_new w (.cells X 28)))
  have r3 := N0.old (heap_alloc_new (w.alloc (.cells X 28)) (.cells Y 28))
  have F := ((Fr.refl F0 w).alloc (.cells X 28)).alloc (.cells Y 28) |>.trans' N0.fr
  have F' : Fr F0 w W0 := F
  clear N0 F
  simp only [World.size_alloc] at r4 r3
  have g4l := Lib.hid (show ¬ w.heap.size + 2 < w.heap.size by omega)
  obtain ⟨g2, hg2⟩ : ∃ g, g = w.heap.size := ⟨_, rfl⟩
  obtain ⟨g3, hg3⟩ : ∃ g, g = w.heap.size + 1 := ⟨_, rfl⟩
  obtain ⟨g4, hg4⟩ : ∃ g, g = w.heap.size + 2 := ⟨_, rfl⟩
  try rw [show w.heap.size + 1 + 1 = w.heap.size + 2 from rfl] at r4
  rw [← hg4] at r4 g4l
  rw [← hg3] at r3
  rw [← hg2] at r2
  try rw [← hg4]
  try rw [← hg3]
  try rw [← hg2]
  replace hg2 := Lib.hid hg2
  replace hg3 := Lib.hid hg3
  replace hg4 := Lib.hid hg4
  generalize hZ : #[Value.int IntKind.u8 0, Value.int IntKind.u8 0, Value.int IntKind.u8 0, Value.int IntKind.u8 0, Value.int IntKind.u8 0, Value.int IntKind.u8 0, Value.int IntKind.u8 0, Value.int IntKind.u8 0, Value.int IntKind.u8 0, Value.int IntKind.u8 0, Value.int IntKind.u8 0, Value.int IntKind.u8 0, Value.int IntKind.u8 0, Value.int IntKind.u8 0, Value.int IntKind.u8 0, Value.int IntKind.u8 0, Value.int IntKind.u8 0, Value.int IntKind.u8 0, Value.int IntKind.u8 0, Value.int IntKind.u8 0, Value.int IntKind.u8 0, Value.int IntKind.u8 0, Value.int IntKind.u8 0, Value.int IntKind.u8 0, Value.int IntKind.u8 0, Value.int IntKind.u8 0, Value.int IntKind.u8 0, Value.int IntKind.u8 0, Value.int IntKind.u8 0, Value.int IntKind.u8 0, Value.int IntKind.u8 0, Value.int IntKind.u8 0] = Z at *
  have sZ : Z.size = 32 := by rw [← hZ]; rfl
  clear hZ
  have HCat := Lib.hid (fun g W (h2 : W.heap[g2]? = some (.cells X 28 (0, 0))) (h3 : W.heap[g3]? = some (.cells Y 28 (0, 0))) (hn : W.heap[g]? = some (.cells #[.slice (some ⟨g2, 0, none⟩) 32 32, .slice (some ⟨g3, 0, none⟩) 32 32] 49 (0, 0))) =>
    show Calls Tryd.prog 38 #[.slice (some ⟨g, 0, none⟩) 2 2] W fun e w' => ∃ a c, e = .returned (.slice a 64 c) ∧ Bs w' a c (A ++ B) ∧ Fr F0 W w' from by
      refine (slConcat_any [(some ⟨g2, 0, none⟩, 32, A), (some ⟨g3, 0, none⟩, 32, B)] (some ⟨g, 0, none⟩) 2 2 rfl (by omega) W (Pts.of2J hn (Bs.of_r8J (by rw [← hX.out]; exact h2) HA.out.symm (by omega)) (Bs.of_r8J (by rw [← hY.out]; exact h3) HB.out.symm (by omega)) HA.out.symm HB.out.symm) (by simp [cat, HA.out, HB.out])).mono ?_
      rintro e w' ⟨a, c, rfl, hb, f, _⟩
      have e3 : cat [((some ⟨g2, 0, none⟩, 32, A) : Pt), (some ⟨g3, 0, none⟩, 32, B)] = A ++ B := by simp [cat]
      rw [e3] at hb ⊢
      exact ⟨a, c, by rw [List.length_append, HA.out, HB.out], hb, f⟩)
  have HDbl := Lib.hid (fun a c W (hb : Bs W a c (A ++ B)) (f : Fr F0 w W) => Double_any a 64 c (A ++ B) (by rw [List.length_append, HA.out, HB.out]) (by rw [List.length_append, HA.out, HB.out]; omega) W hb (HC.out.fr f fun e => e))
  change Hid (∀ a c W, Bs W a c (A ++ B) → Fr F0 w W → Calls Tryd.prog 21 #[.slice a 64 c] W fun e w' => e = .returned (.agg (hc (hh A B))) ∧ Fr F0 W w') at HDbl
  rw [← hR.out] at HDbl
  refine wp_region_noPanic ?_
  refine wp_region_held_drew (S := (fun w' => Fr F0 w w')) (by kernel_rfl) ?_ (fun hHeld => ?_)
  · ((try dsimp only) <;> (first | exact F'.drew | exact hHeld | exact F'.trans' N3.fr | exact hHeld.trans' f5 | exact hHeld.setRow (fun h => absurd h g4l.out) _ | exact (hHeld.setRow (fun h => absurd h g4l.out) _).drew))
  refine rtake 0 ?_
  refine rtake 1 ?_
  refine wpAnyH_ready (rs := [2]) (by kernel_rfl) (by simp) ?_
  refine AllReadyH.cons (o := ⟨_, _, _, _, _, _⟩) rfl (fun K hK => ?_) AllReadyH.nil
  go_simp
  (refine any_newd (P := K _) fun W3 N3 => ?_; have q2 := N3.old r2; have q3 := N3.old r3; have q4 := N3.old r4; have q5 := N3.new)
  refine hK.out _ _ ?_ (fun hHeld => ?_)
  · ((try dsimp only) <;> (first | exact F'.drew | exact hHeld | exact F'.trans' N3.fr | exact hHeld.trans' f5 | exact hHeld.setRow (fun h => absurd h g4l.out) _ | exact (hHeld.setRow (fun h => absurd h g4l.out) _).drew))
  clear hK K
  try (simp only [Act.put, List.setIfInBounds_toArray]; dsimp only [List.set_cons_zero, List.set_cons_succ])
  refine wpAnyH_ready (rs := [3]) (by kernel_rfl) (by simp) ?_
  refine AllReadyH.cons (o := ⟨_, _, _, _, _, _⟩) rfl (fun K hK => ?_) AllReadyH.nil
  go_simp
  ((with_reducible refine (HCat.out _ _ q2 q3 q5).mono ?_); rintro e w3 ⟨a3, c3, rfl, hb3, f5⟩; replace q4 := keep_fr f5 q4)
  refine hK.out _ _ ?_ (fun hHeld => ?_)
  · ((try dsimp only) <;> (first | exact F'.drew | exact hHeld | exact F'.trans' N3.fr | exact hHeld.trans' f5 | exact hHeld.setRow (fun h => absurd h g4l.out) _ | exact (hHeld.setRow (fun h => absurd h g4l.out) _).drew))
  clear hK K
  try (simp only [Act.put, List.setIfInBounds_toArray]; dsimp only [List.set_cons_zero, List.set_cons_succ])
  refine wpAnyH_ready (rs := [4]) (by kernel_rfl) (by simp) ?_
  refine AllReadyH.cons (o := ⟨_, _, _, _, _, _⟩) rfl (fun K hK => ?_) AllReadyH.nil
  go_simp
  ((with_reducible refine (HDbl.out _ _ _ hb3 hHeld).mono ?_); rintro e w4 ⟨rfl, f5⟩; replace q4 := keep_fr f5 q4)
  refine hK.out _ _ ?_ (fun hHeld => ?_)
  · ((try dsimp only) <;> (first | exact F'.drew | exact hHeld | exact F'.trans' N3.fr | exact hHeld.trans' f5 | exact hHeld.setRow (fun h => absurd h g4l.out) _ | exact (hHeld.setRow (fun h => absurd h g4l.out) _).drew))
  clear hK K
  try (simp only [Act.put, List.setIfInBounds_toArray]; dsimp only [List.set_cons_zero, List.set_cons_succ])
  refine wpAnyH_ready (rs := [5]) (by kernel_rfl) (by simp) ?_
  refine AllReadyH.cons (o := ⟨_, _, _, _, _, _⟩) rfl (fun K hK => ?_) AllReadyH.nil
  go_simp
  refine hK.out _ _ ?_ (fun hHeld => ?_)
  · ((try dsimp only) <;> (first | exact F'.drew | exact hHeld | exact F'.trans' N3.fr | exact hHeld.trans' f5 | exact hHeld.setRow (fun h => absurd h g4l.out) _ | exact (hHeld.setRow (fun h => absurd h g4l.out) _).drew))
  clear hK K
  try (simp only [Act.put, List.setIfInBounds_toArray]; dsimp only [List.set_cons_zero, List.set_cons_succ])
  refine wpAnyH_done (by kernel_rfl) ?_ _
  refine NoPanic.normal ?_
  have q6 := setRow_heap _ _ _ R _ _ q4
  generalize w4.setRow g4 R = w5 at *
  go_wp2
  refine bodyPost_ret (results_cell_row rfl _ _ g4 _ _ _ _ rfl q6 Tryd.underlying28 rfl (by rw [Tryd.szHashJ, sR])) rfl ⟨rfl, hHeld⟩

set_option maxRecDepth 100000 in
set_option maxHeartbeats 4000000 in
theorem r10Both_any (A B : List UInt8) (hA : A.length = 32) (hB : B.length = 32) (w : World) :
    Calls Tryd.prog 20 #[.agg (hc A), .agg (hc B)] w fun e w' => e = .returned (.agg (hc (hh A B))) ∧ Fr F0 w w' := by
  have sA := hc_size hA
  have sB := hc_size hB
  have HA := Lib.hid hA
  have HB := Lib.hid hB
  have hGA := Lib.hid (fun k (hk : k < 32) => show (hc A)[k]? = some (.int .u8 ((A.getD k 0).toNat : Int)) from by
    rw [hc, List.getD_eq_getElem?_getD, List.getElem?_eq_getElem (by omega)]; simp [B8, List.getElem?_eq_getElem (show k < A.length by omega)])
  have hGB := Lib.hid (fun k (hk : k < 32) => show (hc B)[k]? = some (.int .u8 ((B.getD k 0).toNat : Int)) from by
    rw [hc, List.getD_eq_getElem?_getD, List.getElem?_eq_getElem (by omega)]; simp [B8, List.getElem?_eq_getElem (show k < B.length by omega)])
  obtain ⟨X, hX⟩ : ∃ X, X = hc A := ⟨_, rfl⟩
  obtain ⟨Y, hY⟩ : ∃ Y, Y = hc B := ⟨_, rfl⟩
  rw [← hX] at sA hGA ⊢
  rw [← hY] at sB hGB ⊢
  clear hA hB hX hY
  have sR := hc_size (hh_length A B)
  have oR := hc_one (hh A B)
  have HDbl := Lib.hid (fun a c W (hb : Bs W a c (A ++ B)) => show Calls Tryd.prog 31 #[.slice a 64 c] W fun e w' => e = .returned (.agg (hc (hh A B))) ∧ Fr F0 W w' from r2Double_any a 64 c (A ++ B) (by rw [List.length_append, HA.out, HB.out]) (by rw [List.length_append, HA.out, HB.out]; omega) W hb)
  generalize hc (hh A B) = R at *
  go_enter Tryd.func20, Tryd.ntmps20
  go_upto_region 2 with fail
  generalize hZ : #[Value.int IntKind.u8 0, Value.int IntKind.u8 0, Value.int IntKind.u8 0, Value.int IntKind.u8 0, Value.int IntKind.u8 0, Value.int IntKind.u8 0, Value.int IntKind.u8 0, Value.int IntKind.u8 0, Value.int IntKind.u8 0, Value.int IntKind.u8 0, Value.int IntKind.u8 0, Value.int IntKind.u8 0, Value.int IntKind.u8 0, Value.int IntKind.u8 0, Value.int IntKind.u8 0, Value.int IntKind.u8 0, Value.int IntKind.u8 0, Value.int IntKind.u8 0, Value.int IntKind.u8 0, Value.int IntKind.u8 0, Value.int IntKind.u8 0, Value.int IntKind.u8 0, Value.int IntKind.u8 0, Value.int IntKind.u8 0, Value.int IntKind.u8 0, Value.int IntKind.u8 0, Value.int IntKind.u8 0, Value.int IntKind.u8 0, Value.int IntKind.u8 0, Value.int IntKind.u8 0, Value.int IntKind.u8 0, Value.int IntKind.u8 0] = Z at *
  have sZ : Z.size = 32 := by rw [← hZ]; rfl
  clear hZ
  obtain ⟨W1, hW1⟩ : ∃ W, W = ((w.alloc (.cells X 27)).alloc (.cells Y 27)).alloc (.cells Z 27) := ⟨_, rfl⟩
  have q2 : W1.heap[w.heap.size]? = some (.cells X 27 (0, 0)) := by rw [hW1]; exact keep_alloc (keep_alloc (heap_alloc_new w _))
  have q3 : W1.heap[w.heap.size + 1]? = some (.cells Y 27 (0, 0)) := by rw [hW1]; have := heap_alloc_new (w.alloc (.cells X 27)) (.cells Y 27); rw [World.size_alloc] at this; exact keep_alloc this
  have q4 : W1.heap[w.heap.size + 1 + 1]? = some (.cells Z 27 (0, 0)) := by rw [hW1]; have := heap_alloc_new ((w.alloc (.cells X 27)).alloc (.cells Y 27)) (.cells Z 27); rw [World.size_alloc, World.size_alloc] at this; exact this
  have F1 : Fr F0 w W1 := by rw [hW1]; exact (((Fr.refl F0 w).alloc _).alloc _).alloc _
  have sW : W1.heap.size = w.heap.size + 1 + 1 + 1 := by rw [hW1]; simp
  have O0 : OwnB (W1.alloc (.cells #[] 5)) (.slice (some ⟨w.heap.size + 1 + 1 + 1, 0, none⟩) 0 0) [] := by rw [← sW]; exact World.ownsRow_made W1 #[] 0 (Nat.zero_le _) (Nat.zero_le _) rfl
  have b0 : ∀ i, ablk (some (⟨w.heap.size + 1 + 1 + 1, 0, none⟩ : Addr)) = some i → W1.heap.size ≤ i := fun i e => by cases e; rw [sW]; exact Nat.le_refl _
  refine wp_of_world (W1.alloc (.cells #[] 5)) (by rw [hW1]) ?_
  clear hW1 sW
  replace q2 := Lib.hid q2
  replace q3 := Lib.hid q3
  replace q4 := Lib.hid q4
  obtain ⟨g2, hg2⟩ : ∃ g, g = w.heap.size := ⟨_, rfl⟩
  obtain ⟨g3, hg3⟩ : ∃ g, g = w.heap.size + 1 := ⟨_, rfl⟩
  obtain ⟨g4, hg4⟩ : ∃ g, g = w.heap.size + 1 + 1 := ⟨_, rfl⟩
  obtain ⟨a0, ha0⟩ : ∃ a : Option Addr, a = some ⟨w.heap.size + 1 + 1 + 1, 0, none⟩ := ⟨_, rfl⟩
  rw [← ha0] at O0 b0 ⊢
  rw [← hg4] at q4 ⊢
  rw [← hg3] at q3 ⊢
  rw [← hg2] at q2 ⊢
  have g4l := Lib.hid (show ¬ g4 < w.heap.size by omega)
  have F2 : Fr F0 W1 (W1.alloc (.cells #[] 5)) := (Fr.refl F0 W1).alloc _
  clear hg2 hg3 hg4 ha0
  generalize W1.alloc (.cells #[] 5) = W2 at *
  replace b0 := Lib.hid b0
  replace F1 := Lib.hid F1
  go_wp2
  go_loopw [5, 6, 9] (fun ov iv jv wr => ∃ (k : Nat) (a : Option Addr) (m c : Nat), k ≤ 32 ∧ jv = .int .i64 k ∧ ov = .slice a m c ∧ OwnB wr (.slice a m c) (A.take k) ∧ Fr F0 W1 wr ∧ Hid (∀ i, ablk a = some i → W1.heap.size ≤ i)) (fun _ _ jv _ => 32 - (intOf jv).toNat)
  case atStart => exact ⟨0, a0, 0, 0, Nat.zero_le _, rfl, rfl, O0, F2, b0⟩
  case round =>
    clear O0 F2 b0
    obtain ⟨k, a, m, c, hk, rfl, rfl, po, fo, bo⟩ := hrel
    by_cases hkn : k < 32
    · have cA := (cell_at _ _ _).symm.trans ((cell_of_row _ g2 k _ _ _ (fo.keeps (fun f => f) q2.out)).trans (hGA.out k hkn))
      have hll := Lib.hid (show (A.take k).length = k by rw [List.length_take, HA.out]; omega)
      have hm := Lib.hid (OwnB.bs po).1
      have hT := Lib.hid (take_succ_getD A k (by have := HA.out; omega))
      generalize A.getD k 0 = z at *
      have O1 := po.fr ((Fr.refl F0 wr).alloc (.cells #[.int .u8 (z.toNat : Int)] 5)) fun _ _ => id
      have B1 := one_B8 wr z 5
      go_wp2_with (at_builtin; refine wpList_appBN (m + 1) rfl _ _ rfl (.slice a m c) _ rfl O1 _ _ _ _ rfl B1 rfl (by rw [hm.out]; rfl) (by have := hll.out; have := hm.out; omega) ?_; intro a' c' w1 ho1 hgr hb; have HB := Lib.hid hb; clear hb)
      have hf1 := own_app fo bo.out hgr
      have hb1 := own_new (fo.alloc _) bo.out HB.out
      go_roundw
      case rel =>
        refine ⟨k + 1, a', _, c', by omega, by go_num, rfl, ?_, hf1, hb1⟩
        rw [hT.out]
        exact ho1
      case measure => simp [intOf]; omega
    · have hk2 : k = 32 := by omega
      rw [hk2, List.take_of_length_le (Nat.le_of_eq HA.out)] at po
      clear hk2
      go_wp2
      go_loopw [5, 7, 19] (fun ov iv jv wr => ∃ (k : Nat) (a : Option Addr) (m c : Nat), k ≤ 32 ∧ jv = .int .i64 k ∧ ov = .slice a m c ∧ OwnB wr (.slice a m c) (A ++ B.take k) ∧ Fr F0 W1 wr ∧ Hid (∀ i, ablk a = some i → W1.heap.size ≤ i)) (fun _ _ jv _ => 32 - (intOf jv).toNat)
      case atStart => exact ⟨0, a, m, c, Nat.zero_le _, rfl, rfl, by simpa using po, fo, bo⟩
      case round =>
        clear po fo bo
        obtain ⟨k, a, m, c, hk, rfl, rfl, po, fo, bo⟩ := hrel
        by_cases hkn : k < 32
        · have cB := (cell_at _ _ _).symm.trans ((cell_of_row _ g3 k _ _ _ (fo.keeps (fun f => f) q3.out)).trans (hGB.out k hkn))
          have hll := Lib.hid (show (A ++ B.take k).length = 32 + k by rw [List.length_append, List.length_take, HA.out, HB.out]; omega)
          have hm := Lib.hid (OwnB.bs po).1
          have hT := Lib.hid (take_succ_getD B k (by have := HB.out; omega))
          generalize B.getD k 0 = z at *
          have O1 := po.fr ((Fr.refl F0 wr).alloc (.cells #[.int .u8 (z.toNat : Int)] 5)) fun _ _ => id
          have B1 := one_B8 wr z 5
          go_wp2_with (at_builtin; refine wpList_appBN (m + 1) rfl _ _ rfl (.slice a m c) _ rfl O1 _ _ _ _ rfl B1 rfl (by rw [hm.out]; rfl) (by have := hll.out; have := hm.out; omega) ?_; intro a' c' w1 ho1 hgr hb; have HB := Lib.hid hb; clear hb)
          have hf1 := own_app fo bo.out hgr
          have hb1 := own_new (fo.alloc _) bo.out HB.out
          go_roundw
          case rel =>
            refine ⟨k + 1, a', _, c', by omega, by go_num, rfl, ?_, hf1, hb1⟩
            rw [hT.out, ← List.append_assoc]
            exact ho1
          case measure => simp [intOf]; omega
        · have hk3 : k = 32 := by omega
          rw [hk3, List.take_of_length_le (Nat.le_of_eq HB.out)] at po
          clear hk3
          have hm := (OwnB.bs po).1
          have hb := (OwnB.bs po).2
          rw [List.length_append, HA.out, HB.out] at hm
          subst hm
          go_wp2_with fail
          (with_reducible refine (HDbl.out a c _ hb).mono ?_); rintro e w3 ⟨rfl, f3⟩
          have q5 := keep_fr (fo.trans' f3) q4.out
          have q6 := setRow_heap _ _ _ R _ _ q5
          have F9 := ((F1.out.trans' fo).trans' f3).setRow (fun h => absurd h g4l.out) R
          go_wp2
          refine bodyPost_ret (results_cell_row rfl _ _ g4 _ _ _ _ rfl q6 Tryd.underlying27 rfl (by rw [Tryd.szArrJ, sR])) rfl ⟨rfl, F9⟩
end Go.Proofs.YthpcajpiflpmdaaDoor

/- Layer 10 (merkle): the document's row above, root, way. -/
namespace Go.Proofs.YthpcajpiflpmdaaDoor
set_option linter.unusedVariables false
set_option linter.unusedSimpArgs false
open Go.RowKit

/-- A row of hashes that is new memory. -/
def NewHs (l : List (List UInt8)) (w : World) (e : Ending) (w' : World) : Prop := ∃ a c, e = .returned (.slice a l.length c) ∧ Hs w' a c l ∧ Fr F0 w w' ∧ ∀ k, ablk a = some k → w.heap.size ≤ k
theorem OwnL.new_ {et : TypeId} {w w' : World} {v : Value} {l : List (List UInt8)} (h : OwnL et w.heap.size w' v l) (f : Fr F0 w w') : NewHs l w (.returned v) w' := by
  obtain ⟨a, c, rfl, hs⟩ := h.is
  exact ⟨a, c, rfl, hs, f, fun k hk => h.blk k (by rw [ablk_own]; exact hk)⟩

set_option maxRecDepth 100000 in
set_option maxHeartbeats 8000000 in
theorem r10Up_any (l : List (List UInt8)) (a : Option Addr) (n c : Nat) (w : World) (h : Hs w a c l) (hn : n = l.length) (hl : l.length ≤ 1000) :
    Calls Tryd.prog 22 #[.slice a n c] w (NewHs (up l) w) := by
  have HH := Lib.hid h
  have hN : n ≤ 1000 := by omega
  have hr := h.room
  rw [← hn] at hr
  replace hn := Lib.hid hn
  clear h hl
  go_enter Tryd.func22, Tryd.ntmps22
  have O0 := OwnL.new0 27 w
  have F1 := (Fr.refl F0 w).alloc (.cells #[] 27)
  go_wp2
  go_loopw [3, 4] (fun ov iv wr => ∃ (k p : Nat), Hid (p = 2 * k) ∧ k ≤ (n + 1) / 2 ∧ iv = .int .i64 p ∧ OwnL 27 w.heap.size wr ov ((up l).take k) ∧ Fr F0 w wr) (fun _ iv _ => n + 1 - (intOf iv).toNat)
  case atStart => exact ⟨0, 0, rfl, Nat.zero_le _, rfl, O0, F1⟩
  case round =>
    clear O0 F1
    obtain ⟨k, p, hp, hk, rfl, ho, fo⟩ := hrel
    by_cases hlt : p < n
    · have hpl : 2 * k < l.length := by have := hn.out; have := hp.out; omega
      obtain ⟨b, off, rfl, _, HL1⟩ := HH.out.load (2 * k) hpl
      have hT := up_take l k hpl
      have hAl := HH.out.ok.get hpl
      have hMl : (mate l k).length = 32 := by rw [mate]; split; exact HH.out.ok.get (by assumption); exact hAl
      obtain ⟨q, hq⟩ : ∃ q, q = p + 1 := ⟨_, rfl⟩
      have hM : mate l k = if q < n then l.getD q [] else l.getD (2 * k) [] := by rw [mate, hq, hp.out, hn.out]
      rw [show off + 2 * k * 32 = off + p * 32 by rw [hp.out]] at HL1
      obtain ⟨A0, hA0⟩ : ∃ A0, A0 = l.getD (2 * k) [] := ⟨_, rfl⟩
      obtain ⟨M, hMM⟩ : ∃ M, M = mate l k := ⟨_, rfl⟩
      rw [← hA0] at HL1 hT hAl hM
      rw [← hMM] at hT hMl hM
      replace hA0 := Lib.hid hA0
      clear hMM
      have sX := hc_size hAl
      have hBo := Lib.hid (fun W => r10Both_any A0 M hAl hMl W)
      have hRl := hh_length A0 M
      obtain ⟨R, hR⟩ : ∃ R, R = hh A0 M := ⟨_, rfl⟩
      rw [← hR] at hT hRl hBo
      clear hR
      have sR := hc_size hRl
      have oR := hc_one R
      have l1 : (p : Int) < (n : Int) := by omega
      have hw1 : IntKind.i64.wrap ((p : Int) + 1) = (q : Int) := by rw [IntKind.wrap_i64]; omega
      have hw2 : IntKind.i64.wrap ((p : Int) + 2) = (p : Int) + 2 := by rw [IntKind.wrap_i64]; omega
      have HL2 : q < n → ∃ b' off', some ⟨b, off, none⟩ = some (⟨b', off', none⟩ : Addr) ∧ ∀ W, Fr F0 w W → (loadRowAt 27 (.pointer (some ⟨b', off' + q * 32, none⟩))).run Tryd.prog W = .ok (.agg (hc (l.getD q []))) W := fun hq9 => by
        obtain ⟨b', off', e, _, h2⟩ := HH.out.load q (by have := hn.out; omega)
        exact ⟨b', off', e, h2⟩
      have hlen : ((up l).take k).length ≤ 1000 := by rw [List.length_take]; omega
      have HO := Lib.hid (fun W (f : Fr F0 wr W) => (ho.fr0 f).appA R hRl (by have := fo.size; have := f.size; omega) (by omega) 25)
      have HB := Lib.hid (fun i (e : u3.ownBlock = some i) (hi : i < w.heap.size) => by have := ho.blk i e; omega : ∀ i, u3.ownBlock = some i → i < w.heap.size → False)
      obtain ⟨tl, htl⟩ : ∃ n, n = ((up l).take k).length + 1 := ⟨_, rfl⟩
      rw [← htl] at HO
      replace htl := Lib.hid htl
      replace hlen := Lib.hid hlen
      have hbl := fun W => run_buildLa W (hc R) sR
      have HR : ∀ v w5, OwnL 27 w.heap.size w5 v ((up l).take k ++ [R]) → Fr F0 w w5 → ∃ (k' p' : Nat), Hid (p' = 2 * k') ∧ k' ≤ (n + 1) / 2 ∧ (Value.int .i64 ((p : Int) + 2)) = .int .i64 p' ∧ OwnL 27 w.heap.size w5 v ((up l).take k') ∧ Fr F0 w w5 := fun v w5 h1 h2 =>
        ⟨k + 1, p + 2, by rw [Hid, hp.out]; omega, by have := hp.out; omega, by go_num, by rw [hT]; exact h1, h2⟩
      replace HR := Lib.hid HR
      replace fo := Lib.hid fo
      clear hT ho
      by_cases h2 : q < n
      · rw [if_pos h2] at hM
        obtain ⟨b', off', e, HL2⟩ := HL2 h2
        cases e
        rw [← hM] at HL2
        have l2 : (q : Int) < (n : Int) := by omega
        clear h2 hM
        replace hq := Lib.hid hq
        replace HL1 := Lib.hid HL1
        replace HL2 := Lib.hid HL2
        generalize hc A0 = X at *
        generalize hc M = Y at *
        go_upto_region 6 with fail
        refine wp_region_noPanic ?_
        refine wp_region_held_drew (S := (fun w' => ((loadRowAt 27 (.pointer (some ⟨b, off + p * 32, none⟩))).run Tryd.prog w' = .ok (.agg X) w' ∧ (loadRowAt 27 (.pointer (some ⟨b, off + q * 32, none⟩))).run Tryd.prog w' = .ok (.agg Y) w') ∧ Fr F0 w w')) (by kernel_rfl) ?_ (fun hHeld => ?_)
        · ((try dsimp only) <;> (first | exact ⟨⟨HL1.out _ fo.out.drew, HL2.out _ fo.out.drew⟩, fo.out.drew⟩ | exact hHeld | exact ⟨⟨HL1.out _ (hHeld.2.trans' f5), HL2.out _ (hHeld.2.trans' f5)⟩, hHeld.2.trans' f5⟩ | exact ⟨⟨HL1.out _ (hHeld.2.alloc _), HL2.out _ (hHeld.2.alloc _)⟩, hHeld.2.alloc _⟩ | exact ⟨⟨HL1.out _ f7, HL2.out _ f7⟩, f7⟩))
        refine rtake 0 ?_
        refine rtake 1 ?_
        refine rtake 2 ?_
        refine rtake 3 ?_
        refine rtake 4 ?_
        refine rtake 5 ?_
        refine rtake 6 ?_
        refine rtake 7 ?_
        refine rtake 8 ?_
        refine rtake 9 ?_
        refine wpAnyH_ready (rs := [10]) (by kernel_rfl) (by simp) ?_
        refine AllReadyH.cons (o := ⟨_, _, _, _, _, _⟩) rfl (fun K hK => ?_) AllReadyH.nil
        go_simp
        ((with_reducible refine (hBo.out _).mono ?_); rintro e w3 ⟨rfl, f5⟩; obtain ⟨a5, c5, w5, happ, ho5, f6, hs5, hb5⟩ := HO.out w3 ((Fr.refl F0 wr).drew.trans' f5); have f7 : Fr F0 w w5 := (hHeld.2.trans' f5).trans f6 (fun i hi e => HB.out i e hi))
        refine hK.out _ _ ?_ (fun hHeld => ?_)
        · ((try dsimp only) <;> (first | exact ⟨⟨HL1.out _ fo.out.drew, HL2.out _ fo.out.drew⟩, fo.out.drew⟩ | exact hHeld | exact ⟨⟨HL1.out _ (hHeld.2.trans' f5), HL2.out _ (hHeld.2.trans' f5)⟩, hHeld.2.trans' f5⟩ | exact ⟨⟨HL1.out _ (hHeld.2.alloc _), HL2.out _ (hHeld.2.alloc _)⟩, hHeld.2.alloc _⟩ | exact ⟨⟨HL1.out _ f7, HL2.out _ f7⟩, f7⟩))
        clear hK K
        try (simp only [Act.put, List.setIfInBounds_toArray]; dsimp only [List.set_cons_zero, List.set_cons_succ])
        refine wpAnyH_ready (rs := [11]) (by kernel_rfl) (by simp) ?_
        refine AllReadyH.cons (o := ⟨_, _, _, _, _, _⟩) rfl (fun K hK => ?_) AllReadyH.nil
        go_simp
        refine hK.out _ _ ?_ (fun hHeld => ?_)
        · ((try dsimp only) <;> (first | exact ⟨⟨HL1.out _ fo.out.drew, HL2.out _ fo.out.drew⟩, fo.out.drew⟩ | exact hHeld | exact ⟨⟨HL1.out _ (hHeld.2.trans' f5), HL2.out _ (hHeld.2.trans' f5)⟩, hHeld.2.trans' f5⟩ | exact ⟨⟨HL1.out _ (hHeld.2.alloc _), HL2.out _ (hHeld.2.alloc _)⟩, hHeld.2.alloc _⟩ | exact ⟨⟨HL1.out _ f7, HL2.out _ f7⟩, f7⟩))
        clear hK K
        try (simp only [Act.put, List.setIfInBounds_toArray]; dsimp only [List.set_cons_zero, List.set_cons_succ])
        refine wpAnyH_ready (rs := [12]) (by kernel_rfl) (by simp) ?_
        refine AllReadyH.cons (o := ⟨_, _, _, _, _, _⟩) rfl (fun K hK => ?_) AllReadyH.nil
        go_simp
        refine hK.out _ _ ?_ (fun hHeld => ?_)
        · ((try dsimp only) <;> (first | exact ⟨⟨HL1.out _ fo.out.drew, HL2.out _ fo.out.drew⟩, fo.out.drew⟩ | exact hHeld | exact ⟨⟨HL1.out _ (hHeld.2.trans' f5), HL2.out _ (hHeld.2.trans' f5)⟩, hHeld.2.trans' f5⟩ | exact ⟨⟨HL1.out _ (hHeld.2.alloc _), HL2.out _ (hHeld.2.alloc _)⟩, hHeld.2.alloc _⟩ | exact ⟨⟨HL1.out _ f7, HL2.out _ f7⟩, f7⟩))
        clear hK K
        try (simp only [Act.put, List.setIfInBounds_toArray]; dsimp only [List.set_cons_zero, List.set_cons_succ])
        refine rtake 13 ?_
        refine wpAnyH_done (by kernel_rfl) ?_ _
        refine NoPanic.normal ?_
        go_wp2
        go_roundw
        case rel => exact HR.out _ _ ho5 hHeld.2
        case measure => simp [intOf]; omega
      · rw [if_neg h2] at hM
        have l2 : ¬ (q : Int) < (n : Int) := by omega
        rw [hM] at hBo
        clear hM h2 HL2
        replace hq := Lib.hid hq
        replace HL1 := Lib.hid HL1
        generalize hc A0 = X at *
        go_upto_region 7 with fail
        refine wp_region_noPanic ?_
        refine wp_region_held_drew (S := (fun w' => (loadRowAt 27 (.pointer (some ⟨b, off + p * 32, none⟩))).run Tryd.prog w' = .ok (.agg X) w' ∧ Fr F0 w w')) (by kernel_rfl) ?_ (fun hHeld => ?_)
        · ((try dsimp only) <;> (first | exact ⟨HL1.out _ fo.out.drew, fo.out.drew⟩ | exact hHeld | exact ⟨HL1.out _ (hHeld.2.trans' f5), hHeld.2.trans' f5⟩ | exact ⟨HL1.out _ (hHeld.2.alloc _), hHeld.2.alloc _⟩ | exact ⟨HL1.out _ f7, f7⟩))
        refine rtake 0 ?_
        refine rtake 1 ?_
        refine rtake 2 ?_
        refine rtake 3 ?_
        refine rtake 4 ?_
        refine rtake 5 ?_
        refine rtake 6 ?_
        refine rtake 7 ?_
        refine rtake 8 ?_
        refine wpAnyH_ready (rs := [9]) (by kernel_rfl) (by simp) ?_
        refine AllReadyH.cons (o := ⟨_, _, _, _, _, _⟩) rfl (fun K hK => ?_) AllReadyH.nil
        go_simp
        ((with_reducible refine (hBo.out _).mono ?_); rintro e w3 ⟨rfl, f5⟩; obtain ⟨a5, c5, w5, happ, ho5, f6, hs5, hb5⟩ := HO.out w3 ((Fr.refl F0 wr).drew.trans' f5); have f7 : Fr F0 w w5 := (hHeld.2.trans' f5).trans f6 (fun i hi e => HB.out i e hi))
        refine hK.out _ _ ?_ (fun hHeld => ?_)
        · ((try dsimp only) <;> (first | exact ⟨HL1.out _ fo.out.drew, fo.out.drew⟩ | exact hHeld | exact ⟨HL1.out _ (hHeld.2.trans' f5), hHeld.2.trans' f5⟩ | exact ⟨HL1.out _ (hHeld.2.alloc _), hHeld.2.alloc _⟩ | exact ⟨HL1.out _ f7, f7⟩))
        clear hK K
        try (simp only [Act.put, List.setIfInBounds_toArray]; dsimp only [List.set_cons_zero, List.set_cons_succ])
        refine wpAnyH_ready (rs := [10]) (by kernel_rfl) (by simp) ?_
        refine AllReadyH.cons (o := ⟨_, _, _, _, _, _⟩) rfl (fun K hK => ?_) AllReadyH.nil
        go_simp
        refine hK.out _ _ ?_ (fun hHeld => ?_)
        · ((try dsimp only) <;> (first | exact ⟨HL1.out _ fo.out.drew, fo.out.drew⟩ | exact hHeld | exact ⟨HL1.out _ (hHeld.2.trans' f5), hHeld.2.trans' f5⟩ | exact ⟨HL1.out _ (hHeld.2.alloc _), hHeld.2.alloc _⟩ | exact ⟨HL1.out _ f7, f7⟩))
        clear hK K
        try (simp only [Act.put, List.setIfInBounds_toArray]; dsimp only [List.set_cons_zero, List.set_cons_succ])
        refine wpAnyH_ready (rs := [11]) (by kernel_rfl) (by simp) ?_
        refine AllReadyH.cons (o := ⟨_, _, _, _, _, _⟩) rfl (fun K hK => ?_) AllReadyH.nil
        go_simp
        refine hK.out _ _ ?_ (fun hHeld => ?_)
        · ((try dsimp only) <;> (first | exact ⟨HL1.out _ fo.out.drew, fo.out.drew⟩ | exact hHeld | exact ⟨HL1.out _ (hHeld.2.trans' f5), hHeld.2.trans' f5⟩ | exact ⟨HL1.out _ (hHeld.2.alloc _), hHeld.2.alloc _⟩ | exact ⟨HL1.out _ f7, f7⟩))
        clear hK K
        try (simp only [Act.put, List.setIfInBounds_toArray]; dsimp only [List.set_cons_zero, List.set_cons_succ])
        refine rtake 12 ?_
        refine wpAnyH_done (by kernel_rfl) ?_ _
        refine NoPanic.normal ?_
        go_wp2
        go_roundw
        case rel => exact HR.out _ _ ho5 hHeld.2
        case measure => simp [intOf]; omega
    · have hk2 : (up l).length ≤ k := by rw [up_length]; have := hn.out; have := hp.out; omega
      rw [List.take_of_length_le hk2] at ho
      have l1 : ¬ (p : Int) < (n : Int) := by omega
      have R := Lib.hid (ho.new_ fo)
      clear ho fo hk2
      go_wp2
      go_ret
      exact R.out

/-- How long a slice is. -/
def lenOf : Value → Nat | .slice _ n _ => n | _ => 0

set_option maxRecDepth 100000 in
set_option maxHeartbeats 8000000 in
theorem r10Root_any (l : List (List UInt8)) (a : Option Addr) (n c : Nat) (w : World) (h : Hs w a c l) (hn : n = l.length) (h0 : 0 < l.length) (hl : l.length ≤ 1000) :
    Calls Tryd.prog 15 #[.slice a n c] w fun e w' => e = .returned (.agg (hc (rootM l))) ∧ Fr F0 w w' := by
  obtain ⟨T, hT⟩ : ∃ T, T = rootM l := ⟨_, rfl⟩
  have hTl : T.length = 32 := by rw [hT]; exact rootM_length l h.ok h0
  have hro := h.room
  rw [← hn] at hro
  rw [← hT]
  have sT := hc_size hTl
  have oT := hc_one T
  replace hT := Lib.hid hT
  have HH := Lib.hid (And.intro h (And.intro hn (And.intro h0 hl)))
  clear h hn h0 hl
  go_enter Tryd.func15, Tryd.ntmps15
  go_wp2
  generalize hZ : #[Value.int IntKind.u8 0, Value.int IntKind.u8 0, Value.int IntKind.u8 0, Value.int IntKind.u8 0, Value.int IntKind.u8 0, Value.int IntKind.u8 0, Value.int IntKind.u8 0, Value.int IntKind.u8 0, Value.int IntKind.u8 0, Value.int IntKind.u8 0, Value.int IntKind.u8 0, Value.int IntKind.u8 0, Value.int IntKind.u8 0, Value.int IntKind.u8 0, Value.int IntKind.u8 0, Value.int IntKind.u8 0, Value.int IntKind.u8 0, Value.int IntKind.u8 0, Value.int IntKind.u8 0, Value.int IntKind.u8 0, Value.int IntKind.u8 0, Value.int IntKind.u8 0, Value.int IntKind.u8 0, Value.int IntKind.u8 0, Value.int IntKind.u8 0, Value.int IntKind.u8 0, Value.int IntKind.u8 0, Value.int IntKind.u8 0, Value.int IntKind.u8 0, Value.int IntKind.u8 0, Value.int IntKind.u8 0, Value.int IntKind.u8 0] = Z at *
  have sZ : Z.size = 32 := by rw [← hZ]; rfl
  clear hZ
  refine wp_new fun W1 N1 => ?_
  have r2 := Lib.hid N1.new
  have F1 := Lib.hid N1.fr
  clear N1
  have g2l := Lib.hid (Nat.lt_irrefl w.heap.size)
  obtain ⟨g2, hg2⟩ : ∃ g, g = w.heap.size := ⟨_, rfl⟩
  rw [← hg2] at r2 ⊢
  have g2l : Hid (¬ g2 < w.heap.size) := by rw [Hid, hg2]; exact Nat.lt_irrefl _
  clear hg2
  have hs0 := Lib.hid (HH.out.1.fr F1.out)
  go_loopw [0] (fun lv wr => ∃ (row : List (List UInt8)) (m : Nat) (b : Option Addr) (d : Nat), lv = .slice b m d ∧ Hid (m = row.length) ∧ Hid (Hs wr b d row) ∧ Hid (rootM row = T) ∧ 0 < m ∧ m ≤ 1000 ∧ m ≤ d ∧ Fr F0 W1 wr) (fun lv _ => lenOf lv)
  case atStart => exact ⟨l, n, a, c, rfl, HH.out.2.1, hs0, hT.out.symm, by have := HH.out.2.1; have := HH.out.2.2.1; omega, by have := HH.out.2.1; have := HH.out.2.2.2; omega, hro.1, Fr.refl _ _⟩
  case round =>
    obtain ⟨row, m, b, d, rfl, hm, hs, hrt, m0, m1, md, fo⟩ := hrel
    by_cases h1 : 1 < m
    · have l1 : (1 : Int) < (m : Int) := by omega
      have HU := Lib.hid (r10Up_any row b m d wr hs.out hm.out (by have := hm.out; omega))
      go_wp2_with fail
      (with_reducible refine HU.out.mono ?_); rintro e w3 ⟨a3, c3, rfl, hs3, f3, _⟩
      have hm3 : (up row).length = (m + 1) / 2 := by rw [up_length, ← hm.out]
      have hd3 := hs3.room.1
      obtain ⟨m3, hm3'⟩ : ∃ k, k = (up row).length := ⟨_, rfl⟩
      rw [← hm3'] at hm3 hd3 ⊢
      replace hm3' := Lib.hid hm3'
      replace hm3 := Lib.hid hm3
      replace hs3 := Lib.hid hs3
      have hrt3 := Lib.hid (show rootM (up row) = T by rw [← rootM_up (by have := hm.out; omega)]; exact hrt.out)
      go_wp2
      go_roundw
      case rel => exact ⟨up row, m3, a3, c3, rfl, hm3', hs3, hrt3, by have := hm3.out; omega, by have := hm3.out; omega, hd3, fo.trans' f3⟩
      case measure => have := hm3.out; simp [lenOf]; omega
    · have l1 : ¬ (1 : Int) < (m : Int) := by omega
      obtain rfl : m = 1 := by omega
      obtain ⟨bb, off, rfl, HL, HLa⟩ := hs.out.load 0 (by have := hm.out; omega)
      have HL0 := HLa wr (Fr.refl _ _)
      rw [Nat.zero_mul, Nat.add_zero, show row.getD 0 [] = T from by rw [← hrt.out, rootM_one (by have := hm.out; omega)]] at HL0
      have q2 := keep_fr fo r2.out
      have F9 := Lib.hid ((F1.out.trans' fo).setRow (fun h => absurd h g2l.out) (hc T))
      have q6 := Lib.hid (setRow_heap _ _ _ (hc T) _ _ q2)
      clear HL HLa hs hrt fo hs0
      go_wp2
      refine bodyPost_ret (results_cell_row rfl _ _ g2 _ _ _ _ rfl q6.out Tryd.underlying27 rfl (by rw [Tryd.szArrJ, sT])) rfl ⟨rfl, F9.out⟩
end Go.Proofs.YthpcajpiflpmdaaDoor

/- Layer 10 (merkle): the document's Way. -/
namespace Go.Proofs.YthpcajpiflpmdaaDoor
set_option linter.unusedVariables false
set_option linter.unusedSimpArgs false
open Go.RowKit

theorem Hs.low {w : World} {a : Option Addr} {c : Nat} {l : List (List UInt8)} (h : Hs w a c l) (h0 : 0 < l.length) : ∀ k, ablk a = some k → k < w.heap.size := fun k hk => by
  obtain ⟨b, off, rfl, hcl⟩ := h.get 0 h0
  cases hk
  have := h.ok.get h0
  exact World.block_lt_of_cell? w _ (hcl 0 _ (List.getElem?_eq_getElem (by rw [List.length_map, this]; omega)))

set_option maxRecDepth 100000 in
set_option maxHeartbeats 8000000 in
theorem r10Way_any (l : List (List UInt8)) (a : Option Addr) (n c i : Nat) (w : World) (h : Hs w a c l) (hn : n = l.length) (hi : i < l.length) (hl : l.length ≤ 1000) :
    Calls Tryd.prog 17 #[.slice a n c, .int .i64 (i : Int)] w (NewHs (wayM l i) w) := by
  obtain ⟨T, hT⟩ : ∃ T, T = wayM l i := ⟨_, rfl⟩
  have hro := h.room
  rw [← hn] at hro
  have hTlen := wayM_length l i
  rw [← hT] at hTlen ⊢
  have hr11 : rows l.length ≤ l.length := by
    have : ∀ n, rows n ≤ n := fun n => by
      induction n using Nat.strongRecOn with
      | _ n ih =>
        by_cases h1 : n ≤ 1
        · rw [rows_le h1]; omega
        · have := ih ((n + 1) / 2) (by omega)
          rw [rows_gt (by omega)]; omega
    exact this _
  have hT1000 := Lib.hid (show T.length ≤ 1000 by omega)
  have hlow := h.low (by omega)
  replace hT := Lib.hid hT
  have hs0 := Lib.hid h
  have HH := Lib.hid (And.intro hn (And.intro hi hl))
  clear h hn hi hl hTlen hr11
  go_enter Tryd.func17, Tryd.ntmps17
  have O0 := OwnL.new0 27 w
  have F1 := (Fr.refl F0 w).alloc (.cells #[] 27)
  have hs1 := Lib.hid (hs0.out.fr F1)
  have hb0 := Lib.hid (show ∀ k, ablk a = some k → (Value.slice (some ⟨w.heap.size, 0, none⟩) 0 0).ownBlock ≠ some k from fun k hk e => by have := hlow k hk; cases e; exact Nat.lt_irrefl _ this)
  go_wp2
  go_loopw [0, 1, 5] (fun lv jv ov wr => ∃ (row out : List (List UInt8)) (m j : Nat) (b : Option Addr) (d : Nat), lv = .slice b m d ∧ jv = .int .i64 (j : Int) ∧ Hid (m = row.length) ∧ Hid (Hs wr b d row) ∧ OwnL 27 w.heap.size wr ov out ∧ Hid (out ++ wayM row j = T) ∧ j < m ∧ m ≤ 1000 ∧ m ≤ d ∧ Fr F0 w wr ∧ Hid (∀ k, ablk b = some k → ov.ownBlock ≠ some k)) (fun lv _ _ _ => lenOf lv)
  case atStart => exact ⟨l, [], n, i, a, c, rfl, rfl, HH.out.1, hs1, O0, hT.out.symm, by have := HH.out; omega, by have := HH.out; omega, hro.1, F1, hb0⟩
  case round =>
    clear O0 F1 hs1 hs0 hb0 hro hlow
    obtain ⟨row, out, m, j, b, d, rfl, rfl, hm, hs, ho, hw, jm, m1, md, fo, hbk⟩ := hrel
    by_cases h1 : 1 < m
    · have l1 : (1 : Int) < (m : Int) := by omega
      have hm1 : 1 < row.length := by have := hm.out; omega
      obtain ⟨q, hq⟩ : ∃ q, q = oth j m := ⟨_, rfl⟩
      have hqm : q < m := by rw [hq]; exact oth_lt jm
      have hql : q < row.length := by have := hm.out; omega
      have hwu := wayM_up (i := j) hm1
      rw [← hm.out, ← hq] at hwu
      obtain ⟨bb, off, rfl, _, HL⟩ := hs.out.load q hql
      have HLq := HL wr (Fr.refl F0 wr)
      have hXl := hs.out.ok.get hql
      obtain ⟨X, hX⟩ : ∃ X, X = row.getD q [] := ⟨_, rfl⟩
      rw [← hX] at HLq hXl hwu
      have hol : out.length ≤ 1000 := by have := congrArg List.length hw.out; rw [List.length_append] at this; have := hT1000.out; omega
      obtain ⟨a5, c5, w5, happ, ho5, f6, hs5, hb5⟩ := ho.appA X hXl fo.size (by omega) 25
      have f7 : Fr F0 w w5 := fo.trans f6 (fun i hi e => by have := ho.blk i e; omega)
      have hsl := hs.out.low (by have := hm.out; omega)
      have hs5' := Lib.hid (hs.out.frx f6 (fun k hk e => hbk.out k hk e))
      have hHU := Lib.hid (r10Up_any row (some ⟨bb, off, none⟩) m d w5 hs5'.out hm.out (by have := hm.out; omega))
      have hw5 := Lib.hid (show (out ++ [X]) ++ wayM (up row) (j / 2) = T by rw [List.append_assoc, List.singleton_append, ← hwu]; exact hw.out)
      have hml := Lib.hid (show (up row).length = (m + 1) / 2 by rw [up_length, hm.out])
      have sX := hc_size hXl
      have oX := hc_one X
      have hbl := fun W => run_buildLa W (hc X) sX
      obtain ⟨tl, htl⟩ : ∃ n, n = out.length + 1 := ⟨_, rfl⟩
      rw [← htl] at happ ho5
      have hlt5 := Lib.hid ho5.lt
      have hw2 : IntKind.i64.wrap ((j : Int) + 1) = (j : Int) + 1 := by rw [IntKind.wrap_i64]; omega
      replace htl := Lib.hid htl
      replace ho5 := Lib.hid ho5
      replace f7 := Lib.hid f7
      clear HL hs hw ho hbk hwu hX hXl hm1 hql hol fo f6 hb5 hsl hs5'
      by_cases hj : j % 2 = 1
      focus
        have e3 : q = j - 1 := by rw [hq, oth, if_neg (by rw [alone, decide_eq_true_iff]; omega), if_pos hj]
        have l2 : ((j : Int) % 2 == 1) = true := by rw [beq_iff_eq]; omega
        have hw1 : IntKind.i64.wrap ((j : Int) - 1) = (q : Int) := by rw [IntKind.wrap_i64]; omega
        clear e3 hq
        go_wp2_with fail
      rotate_left
      focus
        have l2 : ((j : Int) % 2 == 1) = false := by rw [beq_eq_false_iff_ne]; omega
        by_cases h2 : j + 1 < m
        focus
          have e3 : q = j + 1 := by rw [hq, oth, if_neg (by rw [alone, decide_eq_true_iff]; omega), if_neg hj]
          have l3 : (j : Int) + 1 < (m : Int) := by omega
          have hw1 : IntKind.i64.wrap ((j : Int) + 1) = (q : Int) := by rw [IntKind.wrap_i64]; omega
          have l4 : (q : Int) < (m : Int) := by omega
          clear e3 hq hw2
          go_wp2_with fail
        rotate_left
        focus
          have e3 : j = q := by rw [hq, oth, if_pos (by rw [alone, decide_eq_true_iff]; omega)]
          have l3 : ¬ (j : Int) + 1 < (m : Int) := by omega
          clear hq
          subst e3
          go_wp2_with fail
      all_goals
        (with_reducible refine hHU.out.mono ?_); rintro e w6 ⟨a6, c6, rfl, hs6, f8, hb6⟩
        have hd6 := hs6.room.1
        obtain ⟨m6, hm6⟩ : ∃ k, k = (up row).length := ⟨_, rfl⟩
        rw [← hm6] at hml hd6 ⊢
        replace hm6 := Lib.hid hm6
        replace hs6 := Lib.hid hs6
        have ho6 := Lib.hid (ho5.out.fr0 f8)
        have f9 := Lib.hid (f7.out.trans' f8)
        have hbk6 := Lib.hid (show ∀ k, ablk a6 = some k → (Value.slice a5 tl c5).ownBlock ≠ some k from fun k hk e => by have := hb6 k hk; have := hlt5.out k e; omega)
        clear hHU hb6 f8 happ HLq
        go_wp2
        go_roundw
        case rel => exact ⟨up row, out ++ [X], m6, j / 2, a6, c6, rfl, by go_num, hm6, hs6, ho6.out, hw5, by have := hml.out; omega, by have := hml.out; omega, hd6, f9.out, hbk6⟩
        case measure => have := hml.out; simp [lenOf]; omega
    · have l1 : ¬ (1 : Int) < (m : Int) := by omega
      have hw' := hw.out
      rw [wayM_one (by have := hm.out; omega), List.append_nil] at hw'
      subst hw'
      have R := Lib.hid (ho.new_ fo)
      clear ho fo hs hbk
      go_wp2
      go_ret
      exact R.out
end Go.Proofs.YthpcajpiflpmdaaDoor

/- Layer 10 (merkle): the document's Climb. -/
namespace Go.Proofs.YthpcajpiflpmdaaDoor
set_option linter.unusedVariables false
set_option linter.unusedSimpArgs false
open Go.RowKit

/-- A block of 32 cells, whatever they hold, that a world has just got. -/
theorem wp_new32 {P : Program} {c : Code} {Q : Exit → Act → World → Prop} {a : Act} {w : World} {t : TypeId}
    (k : ∀ W Z, Z.size = 32 → NewRow w W w.heap.size Z t → Code.wp P c Q a W) : Code.wp P c Q a (w.alloc (.cells #[Value.int IntKind.u8 0, Value.int IntKind.u8 0, Value.int IntKind.u8 0, Value.int IntKind.u8 0, Value.int IntKind.u8 0, Value.int IntKind.u8 0, Value.int IntKind.u8 0, Value.int IntKind.u8 0, Value.int IntKind.u8 0, Value.int IntKind.u8 0, Value.int IntKind.u8 0, Value.int IntKind.u8 0, Value.int IntKind.u8 0, Value.int IntKind.u8 0, Value.int IntKind.u8 0, Value.int IntKind.u8 0, Value.int IntKind.u8 0, Value.int IntKind.u8 0, Value.int IntKind.u8 0, Value.int IntKind.u8 0, Value.int IntKind.u8 0, Value.int IntKind.u8 0, Value.int IntKind.u8 0, Value.int IntKind.u8 0, Value.int IntKind.u8 0, Value.int IntKind.u8 0, Value.int IntKind.u8 0, Value.int IntKind.u8 0, Value.int IntKind.u8 0, Value.int IntKind.u8 0, Value.int IntKind.u8 0, Value.int IntKind.u8 0] t)) := wp_new fun W N => k W _ rfl N

set_option maxRecDepth 100000 in
set_option maxHeartbeats 8000000 in
theorem jc6 {s0 s3 s4 s5 s6 s7 s8 s9 s10 s11 s12 s13 s14 s15 s16 s17 s18 s19 s20 s21 s22 s23 s24 s25 s26 s27 s28 s29 s30 s31 s32 s33 s34 s35 s36 s37 s38 s39 s40 s41 s42 s43 s44 s45 s46 s47 s48 s49 s50 s51 s52 s53 s54 s55 s56 s57 s58 s59 s60 s61 s62 s63 s64 s65 s66 s67 s68 s69 s70 s71 s72 s73 s74 s75 s76 s77 s78 : Value} {K : Act → World → Prop} {Q : Exit → Act → World → Prop} (w : World) (i n : Nat) (hn : 1 ≤ n) (hb : n ≤ 100000) (b : Bool) (hb : b = alone i n)
    (hK : RowKit.Hid (∀ {u11 u25 u26 u27 u28 u29 u30 u31 u32 u33 : Value} {w' : World}, (u11 = .bool b ∧ w' = w) → K ⟨#[s0, .int .i64 (i : Int), .int .i64 (n : Int), s3, s4, s5, s6, s7, s8, s9, s10, u11, s12, s13, s14, s15, s16, s17, s18, s19, s20, s21, s22, s23, s24, u25, u26, u27, u28, u29, u30, u31, u32, u33, s34, s35, s36, s37, s38, s39, s40, s41, s42, s43, s44, s45, s46, s47, s48, s49, s50, s51, s52, s53, s54, s55, s56, s57, s58, s59, s60, s61, s62, s63, s64, s65, s66, s67, s68, s69, s70, s71, s72, s73, s74, s75, s76, s77, s78], []⟩ w')) :
    Code.wp Tryd.prog ((Tryd.f19.body.bind (findRegion 6)).getD .skip) (Exit.then K Q) ⟨#[s0, .int .i64 (i : Int), .int .i64 (n : Int), s3, s4, s5, s6, s7, s8, s9, s10, s11, s12, s13, s14, s15, s16, s17, s18, s19, s20, s21, s22, s23, s24, s25, s26, s27, s28, s29, s30, s31, s32, s33, s34, s35, s36, s37, s38, s39, s40, s41, s42, s43, s44, s45, s46, s47, s48, s49, s50, s51, s52, s53, s54, s55, s56, s57, s58, s59, s60, s61, s62, s63, s64, s65, s66, s67, s68, s69, s70, s71, s72, s73, s74, s75, s76, s77, s78], []⟩ w := by
  conv => arg 2; whnf
  by_cases h1 : n % 2 = 1
  · have l1 : ((n : Int) % 2 == 1) = true := by rw [beq_iff_eq]; omega
    have hw : IntKind.i64.wrap ((n : Int) - 1) = (n : Int) - 1 := by rw [IntKind.wrap_i64]; omega
    by_cases h2 : i + 1 = n
    · have l2 : ((i : Int) == (n : Int) - 1) = true := by rw [beq_iff_eq]; omega
      have e : alone i n = true := by rw [alone, decide_eq_true_iff]; exact ⟨h1, h2⟩
      rw [e] at hb
      subst hb
      clear h1 h2 e
      go_wp2_with fail
      exact hK.out ⟨rfl, rfl⟩
    · have l2 : ((i : Int) == (n : Int) - 1) = false := by rw [beq_eq_false_iff_ne]; omega
      have e : alone i n = false := by rw [alone, decide_eq_false_iff_not]; exact fun h => h2 h.2
      rw [e] at hb
      subst hb
      clear h1 h2 e
      go_wp2_with fail
      exact hK.out ⟨rfl, rfl⟩
  · have l1 : ((n : Int) % 2 == 1) = false := by rw [beq_eq_false_iff_ne]; omega
    have e : alone i n = false := by rw [alone, decide_eq_false_iff_not]; exact fun h => h1 h.1
    rw [e] at hb
    subst hb
    clear h1 e
    go_wp2_with fail
    exact hK.out ⟨rfl, rfl⟩

/-- What the document's Climb answers. -/
def ClimbR (wy : List (List UInt8)) (h : List UInt8) (i n : Nat) (w : World) (e : Ending) (w' : World) : Prop :=
  ∃ x, x.length = 32 ∧ e = .returned (.tuple #[.agg (hc x), .bool (climbM wy h i n).isSome]) ∧ (∀ v, climbM wy h i n = some v → x = v) ∧ Fr F0 w w'

theorem climbM_1 (wy : List (List UInt8)) (h : List UInt8) (i : Nat) : climbM wy h i 1 = if wy.length = 0 then some h else none := by cases wy <;> simp [climbM]
theorem climbM_nil (h : List UInt8) (i n : Nat) (h1 : n ≠ 1) : climbM [] h i n = none := by rw [climbM, if_neg h1]
theorem ClimbR.none {wy : List (List UInt8)} {h : List UInt8} {i n : Nat} {w w' : World} (e : climbM wy h i n = none) (x : List UInt8) (hx : x.length = 32) (f : Fr F0 w w') : ClimbR wy h i n w (.returned (.tuple #[.agg (hc x), .bool false])) w' :=
  ⟨x, hx, by rw [e]; rfl, (fun v hv => by rw [e] at hv; cases hv), f⟩
theorem ClimbR.some {wy : List (List UInt8)} {h : List UInt8} {i n : Nat} {w w' : World} {x : List UInt8} (e : climbM wy h i n = some x) (hx : x.length = 32) (f : Fr F0 w w') : ClimbR wy h i n w (.returned (.tuple #[.agg (hc x), .bool true])) w' :=
  ⟨x, hx, by rw [e]; rfl, (fun v hv => by rw [e] at hv; exact Option.some.inj hv), f⟩

set_option maxRecDepth 100000 in
set_option maxHeartbeats 16000000 in
theorem r10Climb_one (wy : List (List UInt8)) (h : List UInt8) (i n : Nat) (a : Option Addr) (m c : Nat) (w : World) (hm : m = wy.length) (hl : h.length = 32) (h1 : n = 1) :
    Calls Tryd.prog 19 #[.agg (hc h), .int .i64 (i : Int), .int .i64 (n : Int), .slice a m c] w (ClimbR wy h i n w) := by
  have sh := hc_size hl
  have oh := hc_one h
  have l1 : ((n : Int) == 1) = true := by rw [h1]; rfl
  have HR : ∀ w', Fr F0 w w' → ClimbR wy h i n w (.returned (.tuple #[.agg (hc h), .bool ((m : Int) == 0)])) w' := fun w' f => by
    by_cases h0 : m = 0
    · have e : climbM wy h i n = some h := by rw [h1, climbM_1, if_pos (by omega)]
      subst h0
      exact ClimbR.some e hl f
    · have e : climbM wy h i n = none := by rw [h1, climbM_1, if_neg (by omega)]
      rw [beq_eq_false_iff_ne.2 (by omega : (m : Int) ≠ 0)]
      exact ClimbR.none e h hl f
  generalize ClimbR wy h i n w = RR at *
  replace HR := Lib.hid HR
  generalize hc h = X at *
  clear h1 hm hl
  go_enter Tryd.func19, Tryd.ntmps19
  go_upto_region 1 with fail
  refine wp_new32 fun W1 Z sZ N1 => ?_
  have r8 := N1.new
  have r4 := N1.old (heap_alloc_new w (.cells X 27))
  have F := ((Fr.refl F0 w).alloc (.cells X 27)).trans' N1.fr
  clear N1
  rw [World.size_alloc] at r8
  have g8l : Hid (¬ w.heap.size + 1 < w.heap.size) := by rw [Hid]; omega
  obtain ⟨g8, hg8⟩ : ∃ g, g = w.heap.size + 1 := ⟨_, rfl⟩
  obtain ⟨g4, hg4⟩ : ∃ g, g = w.heap.size := ⟨_, rfl⟩
  rw [← hg8] at r8 g8l ⊢
  rw [← hg4] at r4 ⊢
  clear hg8 hg4
  have q8 := Lib.hid (setRow_heap _ _ _ X _ _ r8)
  have F9 := Lib.hid (F.setRow (fun h => absurd h g8l.out) X)
  replace g8l := Lib.hid g8l
  go_wp2
  refine bodyPost_ret (results_cell_row_tmp rfl _ _ g8 _ _ _ _ rfl q8.out Tryd.underlying27 rfl (by rw [Tryd.szArrJ, sh])) rfl ?_
  exact HR.out _ F9.out

set_option maxRecDepth 100000 in
set_option maxHeartbeats 16000000 in
theorem r10Climb_nil (h : List UInt8) (i n : Nat) (a : Option Addr) (c : Nat) (w : World) (hl : h.length = 32) (h1 : n ≠ 1) :
    Calls Tryd.prog 19 #[.agg (hc h), .int .i64 (i : Int), .int .i64 (n : Int), .slice a 0 c] w (ClimbR [] h i n w) := by
  have sh := hc_size hl
  have oh := hc_one h
  have sz := hc_size z32_length
  have oz := hc_one z32
  have l1 : ((n : Int) == 1) = false := beq_eq_false_iff_ne.2 (by omega)
  have HR := Lib.hid (fun w' (f : Fr F0 w w') => ClimbR.none (w := w) (climbM_nil h i n h1) z32 z32_length f)
  generalize ClimbR [] h i n w = RR at *
  generalize hc h = X at *
  clear h1 hl
  go_enter Tryd.func19, Tryd.ntmps19
  go_upto_region 1 with fail
  refine wp_new32 fun W1 Z sZ N1 => ?_
  have r8 := N1.new
  have r4 := N1.old (heap_alloc_new w (.cells X 27))
  have F := ((Fr.refl F0 w).alloc (.cells X 27)).trans' N1.fr
  clear N1
  rw [World.size_alloc] at r8
  have g8l : Hid (¬ w.heap.size + 1 < w.heap.size) := by rw [Hid]; omega
  obtain ⟨g8, hg8⟩ : ∃ g, g = w.heap.size + 1 := ⟨_, rfl⟩
  obtain ⟨g4, hg4⟩ : ∃ g, g = w.heap.size := ⟨_, rfl⟩
  rw [← hg8] at r8 g8l ⊢
  rw [← hg4] at r4 ⊢
  clear hg8 hg4
  have q8 := Lib.hid (setRow_heap _ _ _ (hc z32) _ _ r8)
  have F9 := Lib.hid (F.setRow (fun h => absurd h g8l.out) (hc z32))
  replace g8l := Lib.hid g8l
  go_wp2
  refine bodyPost_ret (results_cell_row_tmp rfl _ _ g8 _ _ _ _ rfl q8.out Tryd.underlying27 rfl (by rw [Tryd.szArrJ, sz])) rfl ?_
  exact HR.out _ F9.out

theorem Hs.tail {w : World} {b off c : Nat} {x : List UInt8} {r : List (List UInt8)} (h : Hs w (some ⟨b, off, none⟩) c (x :: r)) : Hs w (some ⟨b, off + 32, none⟩) (c - 1) r := by
  have hx := h.ok x (by simp)
  have hr : all32 r := fun y hy => h.ok y (by simp [hy])
  have h1 := h.sl.room
  have h2 := h.sl.most
  simp only [List.length_cons] at h1
  refine ⟨⟨flat_len r hr, by omega, by omega, (fun e => by cases e), fun j u hj => ?_⟩, hr⟩
  obtain ⟨b', off', e, hcl⟩ := h.sl.cell (32 + j) u (by rw [List.flatMap_cons, List.getElem?_append_right (by rw [List.length_map, hx]; omega), List.length_map, hx, show 32 + j - 32 = j by omega]; exact hj)
  cases e
  exact ⟨b, off + 32, rfl, by rw [Nat.add_assoc]; exact hcl⟩
theorem Hs.tail0 {w : World} (a : Option Addr) : Hs w a 0 [] := ⟨⟨rfl, Nat.le_refl _, Nat.zero_le _, fun _ => rfl, fun j u h => by simp at h⟩, fun _ h => by cases h⟩
theorem climbM_cons (x : List UInt8) (r : List (List UInt8)) (h : List UInt8) (i n : Nat) (h1 : n ≠ 1) : climbM (x :: r) h i n = if (decide (x = h) != alone i n) = true then none else climbM r (stpM i h x) (i / 2) ((n + 1) / 2) := by rw [climbM, if_neg h1]

set_option maxRecDepth 100000 in
set_option maxHeartbeats 16000000 in
theorem r10Climb_any : ∀ (wy : List (List UInt8)) (h : List UInt8) (i n : Nat) (a : Option Addr) (m c : Nat) (w : World), Hs w a c wy → m = wy.length → h.length = 32 → i < n → n ≤ 100000 → wy.length ≤ 1000 →
    Calls Tryd.prog 19 #[.agg (hc h), .int .i64 (i : Int), .int .i64 (n : Int), .slice a m c] w (ClimbR wy h i n w) := by
  intro wy
  induction wy with
  | nil =>
    intro h i n a m c w hs hm hl hin hn _
    subst hm
    by_cases h1 : n = 1
    · exact r10Climb_one [] h i n a _ c w rfl hl h1
    · exact r10Climb_nil h i n a c w hl h1
  | cons x r ih =>
    intro h i n a m c w hs hm hl hin hn hlen
    by_cases h1 : n = 1
    · exact r10Climb_one (x :: r) h i n a m c w hm hl h1
    have ecl := climbM_cons x r h i n h1
    have hxl := hs.ok x (by simp)
    have sh := hc_size hl
    have oh := hc_one h
    have sx := hc_size hxl
    have ox := hc_one x
    have sz := hc_size z32_length
    have oz := hc_one z32
    have l1 : ((n : Int) == 1) = false := beq_eq_false_iff_ne.2 (by omega)
    have l0 : ((m : Int) == 0) = false := beq_eq_false_iff_ne.2 (by rw [hm, List.length_cons]; omega)
    have hro := hs.room
    rw [← hm] at hro
    have hm0 : 0 < m := by rw [hm, List.length_cons]; omega
    obtain ⟨bb, off, rfl, _, HL⟩ := hs.load 0 (by simp)
    rw [Nat.zero_mul, Nat.add_zero, show (x :: r).getD 0 [] = x from rfl] at HL
    have heq := fun w => run_equalIn_arrJ w x h hxl hl
    obtain ⟨EQ, hEQ⟩ : ∃ b, b = decide (x = h) := ⟨_, rfl⟩
    obtain ⟨AL, hAL⟩ : ∃ b, b = alone i n := ⟨_, rfl⟩
    rw [← hEQ, ← hAL] at ecl
    rw [← hEQ] at heq
    have HN := Lib.hid (fun (e : (EQ != AL) = true) w' (f : Fr F0 w w') => ClimbR.none (w := w) (ecl.trans (if_pos e)) z32 z32_length f)
    have HS := Lib.hid (fun (e : (EQ != AL) = false) => ecl.trans (if_neg (by rw [e]; decide)))
    obtain ⟨X, hX⟩ : ∃ X, X = hc x := ⟨_, rfl⟩
    obtain ⟨Y, hY⟩ : ∃ Y, Y = hc h := ⟨_, rfl⟩
    rw [← hX] at sx ox HL heq
    rw [← hY] at sh oh heq ⊢
    obtain ⟨RR, hRR⟩ : ∃ RR, RR = ClimbR (x :: r) h i n w := ⟨_, rfl⟩
    rw [← hRR] at HN ⊢
    replace hRR := Lib.hid hRR
    replace hX := Lib.hid hX
    replace hY := Lib.hid hY
    replace HL := Lib.hid HL
    replace hs := Lib.hid (And.intro hs (And.intro hm (And.intro hl hxl)))
    replace hAL := Lib.hid hAL
    clear ecl hEQ hm hl hxl
    go_enter Tryd.func19, Tryd.ntmps19
    go_upto_region 1 with fail
    refine wp_new32 fun W1 Z sZ N1 => ?_
    have r8 := N1.new
    have r4 := N1.old (heap_alloc_new w (.cells Y 27))
    have F := ((Fr.refl F0 w).alloc (.cells Y 27)).trans' N1.fr
    clear N1
    rw [World.size_alloc] at r8
    have g8l : Hid (¬ w.heap.size + 1 < w.heap.size) := by rw [Hid]; omega
    have g48 : Hid (w.heap.size ≠ w.heap.size + 1) := by rw [Hid]; omega
    obtain ⟨g8, hg8⟩ : ∃ g, g = w.heap.size + 1 := ⟨_, rfl⟩
    obtain ⟨g4, hg4⟩ : ∃ g, g = w.heap.size := ⟨_, rfl⟩
    rw [← hg8] at r8 g8l g48 ⊢
    rw [← hg4] at r4 g48 ⊢
    clear hg8 hg4
    have HL1 := HL.out W1 F
    have g108 := Lib.hid (show W1.heap.size ≠ g8 from fun e => by have := (Array.getElem?_eq_some_iff.1 r8).1; omega)
    go_upto_region 6 with fail
    refine wp_put fun W3 N3 => ?_
    have r10 := N3.new
    replace r8 := N3.old r8
    replace r4 := N3.old r4
    replace F := F.trans' N3.fr
    clear N3 HL1
    generalize W1.heap.size = g10 at *
    refine jc6 W3 i n (by omega) hn AL hAL.out (Lib.hid ?_)
    rename_i wq
    rintro ⟨rfl, hw⟩; replace hw := hw.symm; subst hw
    by_cases hea : (EQ != AL) = true
    · replace HN := Lib.hid (HN.out hea)
      have q8 := Lib.hid (setRow_heap _ _ _ (hc z32) _ _ r8)
      have F9 := Lib.hid (F.setRow (fun h => absurd h g8l.out) (hc z32))
      clear HS ih
      cases EQ <;> cases AL
      · cases hea
      · clear hea
        go_wp2
        refine bodyPost_ret (results_cell_row_tmp rfl _ _ g8 _ _ _ _ rfl q8.out Tryd.underlying27 rfl (by rw [Tryd.szArrJ, sz])) rfl ?_
        exact HN.out _ F9.out
      · clear hea
        go_wp2
        refine bodyPost_ret (results_cell_row_tmp rfl _ _ g8 _ _ _ _ rfl q8.out Tryd.underlying27 rfl (by rw [Tryd.szArrJ, sz])) rfl ?_
        exact HN.out _ F9.out
      · cases hea
    · have hea' : (EQ != AL) = false := by cases h9 : (EQ != AL) <;> simp_all
      have HS' := Lib.hid (HS.out hea')
      obtain rfl : AL = EQ := by cases EQ <;> cases AL <;> simp_all
      clear HN HS hea hea' hAL
      obtain ⟨S, hS⟩ : ∃ S, S = stpM i h x := ⟨_, rfl⟩
      have hSl : S.length = 32 := by rw [hS]; exact stpM_length _ _ _
      have sS := hc_size hSl
      have oS := hc_one S
      obtain ⟨i2, hi2⟩ : ∃ k, k = i / 2 := ⟨_, rfl⟩
      obtain ⟨n2, hn2⟩ : ∃ k, k = (n + 1) / 2 := ⟨_, rfl⟩
      have ei : (i : Int) / 2 = (i2 : Int) := by omega
      have en : ((n : Int) + 1).tdiv 2 = (n2 : Int) := by rw [Int.tdiv_eq_ediv_of_nonneg (by omega)]; omega
      have ewi : IntKind.i64.wrap (i2 : Int) = (i2 : Int) := by rw [IntKind.wrap_i64]; omega
      have ewn2 : IntKind.i64.wrap (n2 : Int) = (n2 : Int) := by rw [IntKind.wrap_i64]; omega
      have ewn : IntKind.i64.wrap ((n : Int) + 1) = (n : Int) + 1 := by rw [IntKind.wrap_i64]; omega
      rw [← hS, ← hi2, ← hn2] at HS'
      obtain ⟨B, hB⟩ : ∃ B, B = (climbM r S i2 n2).isSome := ⟨_, rfl⟩
      have HI : Hid (∀ (aa : Option Addr) (W : World), (c = 1 ∨ aa = some ⟨bb, off + 32, none⟩) → Fr F0 w W → Calls Tryd.prog 19 #[.agg (hc S), .int .i64 (i2 : Int), .int .i64 (n2 : Int), .slice aa (m - 1) (c - 1)] W fun e w' =>
          ∃ xx, xx.length = 32 ∧ e = .returned (.tuple #[.agg (hc xx), .bool B]) ∧ (∀ w2, Fr F0 w w2 → RR (.returned (.tuple #[.agg (hc xx), .bool B])) w2) ∧ Fr F0 W w') := fun aa W hca f => by
        have hm1 : m - 1 = r.length := by rw [hs.out.2.1, List.length_cons]; rfl
        have hsr : Hs W aa (c - 1) r := by
          rcases hca with e | e
          · have : r = [] := List.length_eq_zero_iff.1 (by omega)
            rw [e, this]
            exact Hs.tail0 _
          · rw [e]; exact (hs.out.1.fr f).tail
        refine (ih S i2 n2 aa (m - 1) (c - 1) W hsr hm1 hSl (by omega) (by omega) (by simp only [List.length_cons] at hlen; omega)).mono ?_
        rintro e w' ⟨xx, hxx, rfl, hv, f'⟩
        rw [← hB]
        exact ⟨xx, hxx, rfl, fun w2 f2 => by rw [hRR.out]; exact ⟨xx, hxx, by rw [HS'.out, hB], fun v hv' => hv v (by rw [← HS'.out]; exact hv'), f2⟩, f'⟩
      have HBo1 : Hid (i % 2 = 1 → ∀ W, Calls Tryd.prog 20 #[.agg X, .agg Y] W fun e w' => e = .returned (.agg (hc S)) ∧ Fr F0 W w') := fun hio W => by
        have := r10Both_any x h hs.out.2.2.2 hs.out.2.2.1 W
        rw [← hX.out, ← hY.out] at this
        rwa [hS, stpM, if_pos hio]
      have HBo2 : Hid (¬ i % 2 = 1 → ∀ W, Calls Tryd.prog 20 #[.agg Y, .agg X] W fun e w' => e = .returned (.agg (hc S)) ∧ Fr F0 W w') := fun hio W => by
        have := r10Both_any h x hs.out.2.2.1 hs.out.2.2.2 W
        rw [← hX.out, ← hY.out] at this
        rwa [hS, stpM, if_neg hio]
      replace hS := Lib.hid hS
      replace hB := Lib.hid hB
      replace hi2 := Lib.hid hi2
      replace hn2 := Lib.hid hn2
      clear ih HS' hs hX hY
      generalize hc S = V at *
      have hca := Lib.hid (show c = 1 ∨ cutA (some ⟨bb, off, none⟩) c 1 32 = some ⟨bb, off + 32, none⟩ from by
        by_cases e : c = 1
        · exact .inl e
        · refine .inr ?_
          rw [cutA, if_neg e]; rfl)
      have l3 : (1 : Int) ≤ (m : Int) := by omega
      have hIc := Lib.hid (fun W f => HI.out (cutA (some ⟨bb, off, none⟩) c 1 32) W hca.out f)
      clear HI hca
      by_cases hio : i % 2 = 1
      · have l2 : ((i : Int) % 2 == 1) = true := by rw [beq_iff_eq]; omega
        replace HBo1 := Lib.hid (HBo1.out hio)
        clear HBo2 hio
        cases AL
        all_goals
          go_upto_region 10 with fail
          refine wp_region_noPanic ?_
          refine wp_region_held_drew (S := (fun w' => (w'.heap[g10]? = some (.cells X 27 (0, 0)) ∧ w'.heap[g4]? = some (.cells Y 27 (0, 0))) ∧ Fr F0 w w')) (by kernel_rfl) ?_ (fun hHeld => ?_)
          · ((try dsimp only) <;> (first | exact ⟨⟨r10, r4⟩, F.drew⟩ | exact hHeld | exact ⟨⟨keep_fr f5 hHeld.1.1, keep_fr f5 hHeld.1.2⟩, hHeld.2.trans' f5⟩ | exact ⟨⟨(setRow_other _ _ _ _ g108.out).trans hHeld.1.1, (setRow_other _ _ _ _ g48.out).trans hHeld.1.2⟩, hHeld.2.setRow (fun h => absurd h g8l.out) _⟩))
          refine rtake 0 ?_
          refine rtake 1 ?_
          refine rtake 3 ?_
          refine rtake 4 ?_
          refine rtake 5 ?_
          refine rtake 6 ?_
          refine rtake 7 ?_
          refine rtake 8 ?_
          refine rtake 9 ?_
          refine wpAnyH_ready (rs := [2]) (by kernel_rfl) (by simp) ?_
          refine AllReadyH.cons (o := ⟨_, _, _, _, _, _⟩) rfl (fun K hK => ?_) AllReadyH.nil
          go_simp
          ((with_reducible refine (HBo1.out _).mono ?_); rintro e w3 ⟨rfl, f5⟩; have q8 := keep_fr ((Fr.refl F0 W3).drew.trans' f5) r8)
          refine hK.out _ _ ?_ (fun hHeld => ?_)
          · ((try dsimp only) <;> (first | exact ⟨⟨r10, r4⟩, F.drew⟩ | exact hHeld | exact ⟨⟨keep_fr f5 hHeld.1.1, keep_fr f5 hHeld.1.2⟩, hHeld.2.trans' f5⟩ | exact ⟨⟨(setRow_other _ _ _ _ g108.out).trans hHeld.1.1, (setRow_other _ _ _ _ g48.out).trans hHeld.1.2⟩, hHeld.2.setRow (fun h => absurd h g8l.out) _⟩))
          clear hK K
          try (simp only [Act.put, List.setIfInBounds_toArray]; dsimp only [List.set_cons_zero, List.set_cons_succ])
          refine wpAnyH_ready (rs := [10]) (by kernel_rfl) (by simp) ?_
          refine AllReadyH.cons (o := ⟨_, _, _, _, _, _⟩) rfl (fun K hK => ?_) AllReadyH.nil
          go_simp
          ((with_reducible refine (hIc.out _ hHeld.2).mono ?_); rintro e w4 ⟨xx, hxx, rfl, hRx, f5⟩; replace q8 := keep_fr f5 q8; have sxx := hc_size hxx; have oxx := hc_one xx; replace hRx := Lib.hid hRx)
          refine hK.out _ _ ?_ (fun hHeld => ?_)
          · ((try dsimp only) <;> (first | exact ⟨⟨r10, r4⟩, F.drew⟩ | exact hHeld | exact ⟨⟨keep_fr f5 hHeld.1.1, keep_fr f5 hHeld.1.2⟩, hHeld.2.trans' f5⟩ | exact ⟨⟨(setRow_other _ _ _ _ g108.out).trans hHeld.1.1, (setRow_other _ _ _ _ g48.out).trans hHeld.1.2⟩, hHeld.2.setRow (fun h => absurd h g8l.out) _⟩))
          clear hK K
          try (simp only [Act.put, List.setIfInBounds_toArray]; dsimp only [List.set_cons_zero, List.set_cons_succ])
          refine rtake 11 ?_
          refine rtake 12 ?_
          refine wpAnyH_ready (rs := [13]) (by kernel_rfl) (by simp) ?_
          refine AllReadyH.cons (o := ⟨_, _, _, _, _, _⟩) rfl (fun K hK => ?_) AllReadyH.nil
          go_simp
          refine hK.out _ _ ?_ (fun hHeld => ?_)
          · ((try dsimp only) <;> (first | exact ⟨⟨r10, r4⟩, F.drew⟩ | exact hHeld | exact ⟨⟨keep_fr f5 hHeld.1.1, keep_fr f5 hHeld.1.2⟩, hHeld.2.trans' f5⟩ | exact ⟨⟨(setRow_other _ _ _ _ g108.out).trans hHeld.1.1, (setRow_other _ _ _ _ g48.out).trans hHeld.1.2⟩, hHeld.2.setRow (fun h => absurd h g8l.out) _⟩))
          clear hK K
          try (simp only [Act.put, List.setIfInBounds_toArray]; dsimp only [List.set_cons_zero, List.set_cons_succ])
          refine rtake 14 ?_
          refine wpAnyH_done (by kernel_rfl) ?_ _
          refine NoPanic.normal ?_
          have q9 := setRow_heap _ _ _ (hc xx) _ _ q8
          generalize w4.setRow g8 (hc xx) = w5 at *
          go_wp2
          refine bodyPost_ret (results_cell_row_tmp rfl _ _ g8 _ _ _ _ rfl q9 Tryd.underlying27 rfl (by rw [Tryd.szArrJ, sxx])) rfl ?_
          exact hRx.out _ hHeld.2
      · have l2 : ((i : Int) % 2 == 1) = false := by rw [beq_eq_false_iff_ne]; omega
        replace HBo2 := Lib.hid (HBo2.out hio)
        clear HBo1 hio
        cases AL
        all_goals
          go_upto_region 11 with fail
          refine wp_region_noPanic ?_
          refine wp_region_held_drew (S := (fun w' => (w'.heap[g10]? = some (.cells X 27 (0, 0)) ∧ w'.heap[g4]? = some (.cells Y 27 (0, 0))) ∧ Fr F0 w w')) (by kernel_rfl) ?_ (fun hHeld => ?_)
          · ((try dsimp only) <;> (first | exact ⟨⟨r10, r4⟩, F.drew⟩ | exact hHeld | exact ⟨⟨keep_fr f5 hHeld.1.1, keep_fr f5 hHeld.1.2⟩, hHeld.2.trans' f5⟩ | exact ⟨⟨(setRow_other _ _ _ _ g108.out).trans hHeld.1.1, (setRow_other _ _ _ _ g48.out).trans hHeld.1.2⟩, hHeld.2.setRow (fun h => absurd h g8l.out) _⟩))
          refine rtake 0 ?_
          refine rtake 1 ?_
          refine rtake 3 ?_
          refine rtake 4 ?_
          refine rtake 5 ?_
          refine rtake 6 ?_
          refine rtake 7 ?_
          refine rtake 8 ?_
          refine rtake 9 ?_
          refine wpAnyH_ready (rs := [2]) (by kernel_rfl) (by simp) ?_
          refine AllReadyH.cons (o := ⟨_, _, _, _, _, _⟩) rfl (fun K hK => ?_) AllReadyH.nil
          go_simp
          ((with_reducible refine (HBo2.out _).mono ?_); rintro e w3 ⟨rfl, f5⟩; have q8 := keep_fr ((Fr.refl F0 W3).drew.trans' f5) r8)
          refine hK.out _ _ ?_ (fun hHeld => ?_)
          · ((try dsimp only) <;> (first | exact ⟨⟨r10, r4⟩, F.drew⟩ | exact hHeld | exact ⟨⟨keep_fr f5 hHeld.1.1, keep_fr f5 hHeld.1.2⟩, hHeld.2.trans' f5⟩ | exact ⟨⟨(setRow_other _ _ _ _ g108.out).trans hHeld.1.1, (setRow_other _ _ _ _ g48.out).trans hHeld.1.2⟩, hHeld.2.setRow (fun h => absurd h g8l.out) _⟩))
          clear hK K
          try (simp only [Act.put, List.setIfInBounds_toArray]; dsimp only [List.set_cons_zero, List.set_cons_succ])
          refine wpAnyH_ready (rs := [10]) (by kernel_rfl) (by simp) ?_
          refine AllReadyH.cons (o := ⟨_, _, _, _, _, _⟩) rfl (fun K hK => ?_) AllReadyH.nil
          go_simp
          ((with_reducible refine (hIc.out _ hHeld.2).mono ?_); rintro e w4 ⟨xx, hxx, rfl, hRx, f5⟩; replace q8 := keep_fr f5 q8; have sxx := hc_size hxx; have oxx := hc_one xx; replace hRx := Lib.hid hRx)
          refine hK.out _ _ ?_ (fun hHeld => ?_)
          · ((try dsimp only) <;> (first | exact ⟨⟨r10, r4⟩, F.drew⟩ | exact hHeld | exact ⟨⟨keep_fr f5 hHeld.1.1, keep_fr f5 hHeld.1.2⟩, hHeld.2.trans' f5⟩ | exact ⟨⟨(setRow_other _ _ _ _ g108.out).trans hHeld.1.1, (setRow_other _ _ _ _ g48.out).trans hHeld.1.2⟩, hHeld.2.setRow (fun h => absurd h g8l.out) _⟩))
          clear hK K
          try (simp only [Act.put, List.setIfInBounds_toArray]; dsimp only [List.set_cons_zero, List.set_cons_succ])
          refine rtake 11 ?_
          refine rtake 12 ?_
          refine wpAnyH_ready (rs := [13]) (by kernel_rfl) (by simp) ?_
          refine AllReadyH.cons (o := ⟨_, _, _, _, _, _⟩) rfl (fun K hK => ?_) AllReadyH.nil
          go_simp
          refine hK.out _ _ ?_ (fun hHeld => ?_)
          · ((try dsimp only) <;> (first | exact ⟨⟨r10, r4⟩, F.drew⟩ | exact hHeld | exact ⟨⟨keep_fr f5 hHeld.1.1, keep_fr f5 hHeld.1.2⟩, hHeld.2.trans' f5⟩ | exact ⟨⟨(setRow_other _ _ _ _ g108.out).trans hHeld.1.1, (setRow_other _ _ _ _ g48.out).trans hHeld.1.2⟩, hHeld.2.setRow (fun h => absurd h g8l.out) _⟩))
          clear hK K
          try (simp only [Act.put, List.setIfInBounds_toArray]; dsimp only [List.set_cons_zero, List.set_cons_succ])
          refine rtake 14 ?_
          refine wpAnyH_done (by kernel_rfl) ?_ _
          refine NoPanic.normal ?_
          have q9 := setRow_heap _ _ _ (hc xx) _ _ q8
          generalize w4.setRow g8 (hc xx) = w5 at *
          go_wp2
          refine bodyPost_ret (results_cell_row_tmp rfl _ _ g8 _ _ _ _ rfl q9 Tryd.underlying27 rfl (by rw [Tryd.szArrJ, sxx])) rfl ?_
          exact hRx.out _ hHeld.2
end Go.Proofs.YthpcajpiflpmdaaDoor

/- Arguments that are rows of hashes, opened. -/
namespace Go.Proofs.YthpcajpiflpmdaaDoor
set_option linter.unusedVariables false
set_option linter.unusedSimpArgs false
open Go.RowKit Go.ChangeShapes Go.WideShapes Go.Deep

theorem flat_get {α β : Type} (f : α → List β) (n : Nat) : ∀ (l : List α), (∀ x ∈ l, (f x).length = n) → ∀ (k : Nat) (h : k < l.length) (i : Nat), i < n → (l.flatMap f)[k * n + i]? = (f l[k])[i]?
  | [], _, k, h, i, _ => absurd h (by simp)
  | x :: l, hl, 0, _, i, hi => by
    rw [List.flatMap_cons, Nat.zero_mul, Nat.zero_add, List.getElem?_append_left (by rw [hl x (by simp)]; exact hi)]
    rfl
  | x :: l, hl, k + 1, h, i, hi => by
    have e := hl x (by simp)
    rw [List.flatMap_cons, List.getElem?_append_right (by rw [e, Nat.succ_mul]; omega), e, show (k + 1) * n + i - n = k * n + i by rw [Nat.succ_mul]; omega,
      flat_get f n l (fun y hy => hl y (by simp [hy])) k (by simpa using h) i hi]
    rfl
theorem flat_size {α β : Type} (f : α → List β) (n : Nat) (l : List α) (h : ∀ x ∈ l, (f x).length = n) : (l.flatMap f).length = l.length * n := by
  induction l with
  | nil => simp
  | cons x l ih => rw [List.flatMap_cons, List.length_append, h x (by simp), ih fun y hy => h y (by simp [hy]), List.length_cons, Nat.succ_mul, Nat.add_comm]
theorem Sl.of_rows {α : Type} (row : α → List Value) (size : Nat) {w : World} {ad : Addr} {n c : Nat} (l : List α) (hs : ∀ x ∈ l, (row x).length = size) (hl : l.length = n) (hn : n ≤ c) (hc : c ≤ maxLen)
    (h : ∀ i (hi : i < l.length) j u, (row l[i])[j]? = some u → w.cell? ((ad.add (i * size)).add j) = some u) : Sl w size (some ad) c n (l.flatMap row) := by
  subst hl
  refine ⟨flat_size row size l hs, hn, hc, (fun e => by cases e), fun j u hj => ?_⟩
  have hjl : j < l.length * size := by
    have := (List.getElem?_eq_some_iff.1 hj).1
    rwa [flat_size row size l hs] at this
  have hsz : 0 < size := by
    rcases Nat.eq_zero_or_pos size with rfl | h
    · omega
    · exact h
  have hi : j / size < l.length := Nat.div_lt_of_lt_mul (by rw [Nat.mul_comm]; exact hjl)
  have hr : j % size < size := Nat.mod_lt _ hsz
  have e : j / size * size + j % size = j := by rw [Nat.mul_comm]; exact Nat.div_add_mod j size
  rw [← e, flat_get row size l hs _ hi _ hr] at hj
  have hc1 := h _ hi _ _ hj
  have h0l : 0 < l.length := Nat.lt_of_le_of_lt (Nat.zero_le _) hi
  have h0s : 0 < (row l[0]).length := by rw [hs _ (List.getElem_mem h0l)]; exact hsz
  have hs0 := World.cell?_spot (h 0 h0l 0 _ (List.getElem?_eq_getElem h0s))
  obtain ⟨b, off, spot⟩ := ad
  simp [Addr.add] at hs0
  subst hs0
  rw [Addr.add_lit, Addr.add_lit, Nat.add_assoc, e] at hc1
  exact ⟨b, off, rfl, hc1⟩
theorem bytes_of9 (cs : List Value) (n : Nat) (hl : cs.length = n) (h : ∀ i, i < n → ∃ z : Int, (cs.drop i).take 1 = [.int .u8 z] ∧ (Lit.int .u8 z).wf = true) : ∃ l : List UInt8, l.length = n ∧ cs = l.map B8 := by
  induction n generalizing cs with
  | zero => exact ⟨[], rfl, List.eq_nil_of_length_eq_zero hl⟩
  | succ n ih =>
    match cs, hl with
    | c :: cs, hl =>
      obtain ⟨z, e, wf⟩ := h 0 (by omega)
      obtain ⟨l, h1, h2⟩ := ih cs (by simpa using hl) (fun i hi => by simpa using h (i + 1) (by omega))
      simp at e
      have hb : 0 ≤ z ∧ z ≤ 255 := bounds_u8 wf
      refine ⟨UInt8.ofNat z.toNat :: l, by simp [h1], ?_⟩
      rw [List.map_cons, ← h2, e]
      congr 1
      simp only [B8, UInt8.toNat_ofNat']
      congr 1
      omega

section
variable {H : Type} {enc : TypeId × Value → H} {w : World} {base : Nat} {spare : Nat → Bool} {held : Bool}

theorem cells_hash9 {fuel : Nat} {cs : List Value} {y : DataW H × List MemPlace} (hf : DataW.trod enc Tryd.prog w base spare held fuel 28 cs = some y) (hl : cs.length = 32) : ∃ l : List UInt8, l.length = 32 ∧ cs = l.map B8 := by
  obtain ⟨xs, m, rfl, hx, hlen, hn, hel⟩ := DataW.trod_array Tryd.underlying28 hf
  have c1 : Tryd.prog.cellsOf 5 = 1 := by kernel_rfl
  refine bytes_of9 cs 32 hl (fun i hi => ?_)
  have h := hel i hi
  rw [c1, Nat.mul_one] at h
  rw [List.getElem?_eq_getElem (show i < xs.length by omega)] at h
  obtain ⟨z, e, _, wf⟩ := DataW.trod_int Tryd.underlying5 h
  exact ⟨z, e, wf⟩
set_option maxRecDepth 100000 in
theorem open_hashes {fuel : Nat} {a : Option Addr} {n c : Nat} {x : DataW H × List MemPlace} (h : DataW.trod enc Tryd.prog w base spare held fuel 22 [.slice a n c] = some x) :
    ∃ l : List (List UInt8), l.length = n ∧ Hs w a c l := by
  rcases open_slice Tryd.underlying22 h with ⟨hcs, _⟩ | ⟨ad, len, cap, m, k, D, Pl, hcs, _, hl, hm, hmm, _, hi⟩
  · simp only [List.cons.injEq, Value.slice.injEq, and_true] at hcs
    obtain ⟨rfl, rfl, rfl⟩ := hcs
    exact ⟨[], rfl, Hs.nothing w⟩
  · simp only [List.cons.injEq, Value.slice.injEq, and_true] at hcs
    obtain ⟨rfl, rfl, rfl⟩ := hcs
    have hnm : n ≤ m := by rw [hmm]; split <;> omega
    have hC : Tryd.prog.cellsOf 28 = 32 := by kernel_rfl
    have one : ∀ i, i < n → ∃ t : List UInt8, t.length = 32 ∧ (∀ j u, (t.map B8)[j]? = some u → w.cell? ((ad.add (i * 32)).add j) = some u) := by
      intro i hin
      obtain ⟨cs, h1, h2⟩ := hi i (by omega)
      rw [hC] at h1
      obtain ⟨_, hlen, hat⟩ := World.cells?_some h1
      obtain ⟨l, h3, rfl⟩ := cells_hash9 h2 hlen
      refine ⟨l, h3, fun j u hj => ?_⟩
      have hjl := (List.getElem?_eq_some_iff.1 hj).1
      rw [hat j (by omega)]
      exact hj
    obtain ⟨T, hT⟩ := choose_lt (α := List UInt8) (n := n) (p := fun i t => t.length = 32 ∧ (∀ j u, (t.map B8)[j]? = some u → w.cell? ((ad.add (i * 32)).add j) = some u)) one
    have hok : ∀ t ∈ (List.range n).map T, t.length = 32 := fun t ht => by
      simp only [List.mem_map, List.mem_range] at ht
      obtain ⟨i, hin, rfl⟩ := ht
      exact (hT i hin).1
    refine ⟨(List.range n).map T, by simp, ?_⟩
    have hsl := Sl.of_rows (w := w) (ad := ad) (n := n) (c := c) (fun h : List UInt8 => h.map B8) 32 ((List.range n).map T) (fun t ht => by rw [List.length_map]; exact hok t ht) (by simp) (by omega) hm (fun i hi j u hj => by
      simp only [List.length_map, List.length_range] at hi
      simp only [List.getElem_map, List.getElem_range] at hj
      exact (hT i hi).2 j u hj)
    exact ⟨by simpa using hsl, hok⟩
set_option maxRecDepth 100000 in
theorem open_hashl {r : Reach} {b0 : Nat} {v : Value} {d : DataW H} {ps : List MemPlace} (hd : DataW.Trod enc Tryd.prog w base spare held 28 v d ps) (hv : Value.okWide Tryd.prog w r b0 28 v) :
    ∃ h : List UInt8, h.length = 32 ∧ v = .agg (hc h) := by
  simp only [Value.okWide, Tryd.underlying28] at hv
  obtain ⟨cs, rfl, hs, _⟩ := hv
  obtain ⟨fuel, hf⟩ := hd
  have h32 : Tryd.prog.cellsOf 28 = 32 := by kernel_rfl
  obtain ⟨l, h1, h2⟩ := cells_hash9 hf (by rw [← h32, ← hs]; rfl)
  refine ⟨l, h1, ?_⟩
  congr 1
  exact Array.toList_inj.1 (by rw [hc]; exact (show cs.toList = _ from h2))
end
end Go.Proofs.YthpcajpiflpmdaaDoor
