import Derived.Test.YtkaoadijijahhaaZ1
import Derived.Deep.MidRow
/- Words that serve in all layers: new blocks in a walk, loads out of the middle of a block, bytes as strings. -/
namespace Go.Proofs.Ytkaoadijijahhaa
set_option maxRecDepth 100000
set_option linter.unusedVariables false
set_option linter.unusedSimpArgs false
open Go.RowKit

theorem own_app {w wr w1 : World} {a : Option Addr} {n c : Nat} {o : Obj} (hf : Fr F0 w wr) (hb : ∀ k, ablk a = some k → w.heap.size ≤ k) (hg : (wr.alloc o).grownBy w1 (Value.slice a n c).ownBlock) : Fr F0 w w1 := by
  refine (hf.alloc o).grown hg fun i hi hl => ?_
  rw [ablk_own] at hi
  have := hb i hi
  omega
theorem own_app0 {w wr w1 : World} {a : Option Addr} {n c : Nat} (hf : Fr F0 w wr) (hb : ∀ k, ablk a = some k → w.heap.size ≤ k) (hg : wr.grownBy w1 (Value.slice a n c).ownBlock) : Fr F0 w w1 := by
  refine hf.grown hg fun i hi hl => ?_
  rw [ablk_own] at hi
  have := hb i hi
  omega
theorem own_new {w wr : World} {a a' : Option Addr} {n c : Nat} (hf : Fr F0 w wr) (hb : ∀ k, ablk a = some k → w.heap.size ≤ k) (h : ∀ k, ablk a' = some k → (Value.slice a n c).ownBlock = some k ∨ wr.heap.size ≤ k) : ∀ k, ablk a' = some k → w.heap.size ≤ k := by
  intro k hk
  rcases h k hk with h | h
  · rw [ablk_own] at h
    exact hb k h
  · exact Nat.le_trans hf.size h

theorem take_succ_getD (l : List UInt8) (k : Nat) (h : k < l.length) : l.take (k + 1) = l.take k ++ [l.getD k 0] := by
  rw [List.take_add_one, List.getElem?_eq_getElem h]
  simp [List.getD, List.getElem?_eq_getElem h]
theorem one_B8 (w : World) (x : UInt8) (t : TypeId) : Bs (w.alloc (.cells #[.int .u8 (x.toNat : Int)] t)) (some ⟨w.heap.size, 0, none⟩) 1 [x] := by
  refine ⟨rfl, Nat.le_refl _, by simp [maxLen], fun h => by simp at h, fun j u hj => ⟨_, _, rfl, ?_⟩⟩
  match j, hj with
  | 0, hj =>
    simp only [List.map_cons, List.map_nil, List.getElem?_cons_zero, Option.some.injEq] at hj
    subst hj
    simp [B8]


theorem wp_put {P : Program} {c : Code} {Q : Exit → Act → World → Prop} {a : Act} {w : World} {z cs : Array Value} {t : TypeId} (k : ∀ W, NewRow w W w.heap.size cs t → Code.wp P c Q a W) : Code.wp P c Q a ((w.alloc (.cells z t)).setRow w.heap.size cs) := k _ (put_new w z cs t)
theorem wp_new {P : Program} {c : Code} {Q : Exit → Act → World → Prop} {a : Act} {w : World} {z : Array Value} {t : TypeId} (k : ∀ W, NewRow w W w.heap.size z t → Code.wp P c Q a W) : Code.wp P c Q a (w.alloc (.cells z t)) := k _ ⟨heap_alloc_new _ _, fun h => keep_alloc h, (Fr.refl F0 w).alloc _, fun h => by have := (Array.getElem?_eq_some_iff.1 h).1; omega⟩
theorem calls_new {P : Program} {f : FuncId} {args : Array Value} {Q : Ending → World → Prop} {w : World} {z : Array Value} {t : TypeId} (k : ∀ W, NewRow w W w.heap.size z t → Calls P f args W Q) : Calls P f args (w.alloc (.cells z t)) Q := k _ ⟨heap_alloc_new _ _, fun h => keep_alloc h, (Fr.refl F0 w).alloc _, fun h => by have := (Array.getElem?_eq_some_iff.1 h).1; omega⟩

theorem calls_cell {P : Program} {f : FuncId} {args : Array Value} {Q : Ending → World → Prop} {w : World} {g i : Nat} {v : Value} {cs : Array Value} {t : TypeId} {fr : Nat × Nat} (h : w.heap[g]? = some (.cells cs t fr))
    (k : ∀ W, W.heap[g]? = some (.cells (cs.setIfInBounds i v) t fr) → Fr (fun k => k = g) w W → Calls P f args W Q) : Calls P f args (w.setCell ⟨g, i, none⟩ v) Q :=
  k _ (by rw [heap_setCell_at, h]; rfl) (Fr.setCell (S := fun k => k = g) (Fr.refl _ _) (p := ⟨g, i, none⟩) (fun _ => rfl) _)
theorem calls_row {P : Program} {f : FuncId} {args : Array Value} {Q : Ending → World → Prop} {w : World} {g : Nat} {c cs : Array Value} {t : TypeId} {fr : Nat × Nat} (h : w.heap[g]? = some (.cells cs t fr))
    (k : ∀ W, W.heap[g]? = some (.cells c t fr) → Fr (fun k => k = g) w W → Calls P f args W Q) : Calls P f args (w.setRow g c) Q :=
  k _ (new_row h) (Fr.setRow (S := fun k => k = g) (Fr.refl _ _) (fun _ => rfl) _)

/-- What a load of n cells from o on in a block of m cells answers. -/
def midOut (P : Program) (t : TypeId) (p : Value) (w : World) (n o m : Nat) : Option Obj → Result Value
  | some (.cells cs _ _) => if cs.size = m then .ok (.agg (cs.extract o (o + n))) w else (loadRowAt t p).run P w
  | _ => (loadRowAt t p).run P w
theorem midOut_cells {P : Program} {t : TypeId} {p : Value} {w : World} {n o m : Nat} {cs : Array Value} {t' : TypeId} {fr : Nat × Nat} (h : cs.size = m) :
    midOut P t p w n o m (some (.cells cs t' fr)) = .ok (.agg (cs.extract o (o + n))) w := if_pos h
theorem run_loadMid {P : Program} (w : World) (t : TypeId) (g o n m : Nat) (d : TypeDesc) (hom : o + n ≤ m) (hu : P.underlying t = some d) (hd : d.isRow = true) (hi : (P.info? t).map (·.size) = some n) :
    (loadRowAt t (.pointer (some ⟨g, o, none⟩))).run P w = midOut P t (.pointer (some ⟨g, o, none⟩)) w n o m w.heap[g]? := by
  cases hg : w.heap[g]? with
  | none => rfl
  | some ob =>
    cases ob with
    | cells cs t' fr =>
      by_cases h : cs.size = m
      · rw [midOut_cells h]
        have hl : (cs.extract o (o + n)).toList.length = n := by simp; omega
        have := run_loadAt_mid (P := P) w g o t (cs.extract o (o + n)).toList d (fun j v hj => by
          rw [cell_at, hg, cellAt_cells]
          have hj' : j < n := by have := (List.getElem?_eq_some_iff.1 hj).1; omega
          rw [Array.getElem?_toList, Array.getElem?_extract] at hj
          split at hj
          · exact hj
          · cases hj) hu hd (by rw [hi, hl])
        rw [Array.toArray_toList] at this
        exact this
      · simp only [midOut, h, if_false]
    | _ => rfl

theorem cell_is {C : Array Value} {i : Nat} {v : Value} (h : C[i]? = some v) (hi : i < C.size) : C[i] = v := (Array.getElem?_eq_some_iff.1 h).2


theorem Bs.fr7 {w w' : World} {a : Option Addr} {c : Nat} {l : List UInt8} (h : Bs w a c l) (f : Fr F0 w w') : Bs w' a c l := Sl.fr h f fun _ _ f => f

theorem strOf_beq (l m : List UInt8) : (strOf l == strOf m) = decide (l = m) := by
  rw [beq_toListBytes, strOf_toList, strOf_toList]
  by_cases h : l = m
  · subst h; simp
  · rw [decide_eq_false h]; exact beq_false_of_ne h

theorem Bs.of_cells {w : World} {g o n : Nat} {A : Array Value} {t : TypeId} {f : Nat × Nat} {l : List UInt8} (h : w.heap[g]? = some (.cells A t f)) (hl : l.length = n) (hn : n ≤ 1000) (e : A.extract o (o + n) = (l.map B8).toArray) : Bs w (some ⟨g, o, none⟩) n l := by
  subst hl
  refine Sl.mk (by simp) (Nat.le_refl _) (by unfold maxLen; omega) (fun h => by cases h) (fun j u hj => ⟨g, o, rfl, ?_⟩)
  rw [cell_at, h, cellAt_cells]
  have hj' : (A.extract o (o + l.length))[j]? = some u := by rw [e]; simpa using hj
  rw [Array.getElem?_extract] at hj'
  split at hj'
  · exact hj'
  · cases hj'

/-- Cells put into a row from o on. -/
def putMid (cs : Array Value) (o : Nat) : List Value → Array Value
  | [] => cs
  | v :: r => putMid (cs.setIfInBounds o v) (o + 1) r
theorem putMid_size (cs : Array Value) (o : Nat) (vs : List Value) : (putMid cs o vs).size = cs.size := by
  induction vs generalizing cs o with
  | nil => rfl
  | cons v r ih => rw [putMid, ih]; simp
theorem putMid_parts (pre mid post vs : List Value) (h : mid.length = vs.length) : putMid (pre ++ (mid ++ post)).toArray pre.length vs = (pre ++ (vs ++ post)).toArray := by
  induction vs generalizing pre mid with
  | nil =>
    obtain rfl : mid = [] := List.eq_nil_of_length_eq_zero (by simpa using h)
    rfl
  | cons v r ih =>
    match mid, h with
    | x :: mid, h =>
      rw [putMid]
      have e : (pre ++ (x :: mid ++ post)).toArray.setIfInBounds pre.length v = ((pre ++ [v]) ++ (mid ++ post)).toArray := by
        rw [List.setIfInBounds_toArray, List.set_append_right _ _ (Nat.le_refl _), Nat.sub_self]
        simp
      rw [e]
      have := ih (pre ++ [v]) mid (by simpa using h)
      rw [List.length_append] at this
      rw [show pre.length + 1 = pre.length + [v].length from rfl, this]
      simp
theorem setRow_again (w : World) (g : Nat) (a b : Array Value) : (w.setRow g a).setRow g b = w.setRow g b := by
  unfold World.setRow
  simp only [World.mk.injEq, true_and, and_true]
  apply Array.ext_getElem?
  intro i
  simp only [Array.getElem?_modify]
  split
  · cases w.heap[i]? with
    | none => rfl
    | some o => cases o <;> rfl
  · rfl
theorem setCells_row (g : Nat) : ∀ (vs : List Value) (o : Nat) (w : World) (cs : Array Value) (t : TypeId) (fr : Nat × Nat), vs ≠ [] → w.heap[g]? = some (.cells cs t fr) → w.setCells g o vs = w.setRow g (putMid cs o vs)
  | [], _, _, _, _, _, h, _ => absurd rfl h
  | v :: r, o, w, cs, t, fr, _, hg => by
    rw [World.setCells, setCell_eq_setRow w g o cs t fr v hg, putMid]
    by_cases hr : r = []
    · subst hr; rfl
    · rw [setCells_row g r (o + 1) _ (cs.setIfInBounds o v) t fr hr (new_row hg), setRow_again]
/-- What a store of n cells from o on into a block of m cells does. -/
def midIn (P : Program) (t : TypeId) (p : Value) (cells : Array Value) (g : Nat) (w : World) (n o m : Nat) : Option Obj → Result Unit
  | some (.cells cs _ fr) => if fr = (0, 0) ∧ cs.size = m ∧ cells.size = n ∧ cells.all (·.oneCell') = true then .ok () (w.setRow g (putMid cs o cells.toList)) else (storeRowAt t p (.agg cells)).run P w
  | _ => (storeRowAt t p (.agg cells)).run P w
theorem midIn_cells {P : Program} {t : TypeId} {p : Value} {cells : Array Value} {g : Nat} {w : World} {n o m : Nat} {cs : Array Value} {t' : TypeId} (h : cs.size = m) (h1 : cells.size = n) (h2 : rowOne cells) :
    midIn P t p cells g w n o m (some (.cells cs t' (0, 0))) = .ok () (w.setRow g (putMid cs o cells.toList)) := if_pos ⟨rfl, h, h1, h2⟩
theorem run_storeMid {P : Program} (w : World) (t : TypeId) (g o n m : Nat) (cells : Array Value) (h0 : 0 < n) (hom : o + n ≤ m) (hi : (P.info? t).map (·.size) = some n) :
    (storeRowAt t (.pointer (some ⟨g, o, none⟩)) (.agg cells)).run P w = midIn P t (.pointer (some ⟨g, o, none⟩)) cells g w n o m w.heap[g]? := by
  cases hg : w.heap[g]? with
  | none => rfl
  | some ob =>
    cases ob with
    | cells cs t' fr =>
      by_cases h : fr = (0, 0) ∧ cs.size = m ∧ cells.size = n ∧ cells.all (·.oneCell') = true
      · obtain ⟨rfl, h1, h2, h3⟩ := h
        rw [midIn_cells h1 h2 h3]
        have := run_storeAt_mid (P := P) w g o t cells (fun j hj => by
          replace hj : j < n := by rw [← h2]; exact hj
          rw [cell_at, frozen_at, hg, cellAt_cells, frozenAt_cells]
          refine ⟨?_, rfl⟩
          rw [Array.getElem?_eq_getElem (by omega)]
          rfl) (by rw [hi, h2]) h3
        rw [← setCells_row g cells.toList o w cs t' (0, 0) (fun e => by have : cells.size = 0 := (by rw [← Array.length_toList, e]; rfl); omega) hg]
        exact this
      · simp only [midIn, h, if_false]
    | _ => rfl
attribute [simp high] midOut_cells midIn_cells
end Go.Proofs.Ytkaoadijijahhaa
