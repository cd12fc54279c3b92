import Derived.Test.YtkekdbnmeobgiaaZ2
import Derived.Deep.MidRow
import Derived.RangeFuncFrom
/- Words that serve in all layers: new blocks in a walk, loads out of the middle of a block, bytes as strings. -/
namespace Go.Proofs.Ytkekdbnmeobgiaa
set_option maxRecDepth 100000
set_option linter.unusedVariables false
set_option linter.unusedSimpArgs false
open Go.RowKit

theorem own_app {w wr w1 : World} {a : Option Addr} {n c : Nat} {o : Obj} (hf : Fr F0 w wr) (hb : ∀ k, ablk a = some k → w.heap.size ≤ k) (hg : (wr.alloc o).grownBy w1 (Value.slice a n c).ownBlock) : Fr F0 w w1 := by
  refine (hf.alloc o).grown hg fun i hi hl => ?_
  rw [ablk_own] at hi
  have := hb i hi
  omega
theorem own_app0 {w wr w1 : World} {a : Option Addr} {n c : Nat} (hf : Fr F0 w wr) (hb : ∀ k, ablk a = some k → w.heap.size ≤ k) (hg : wr.grownBy w1 (Value.slice a n c).ownBlock) : Fr F0 w w1 := by
  refine hf.grown hg fun i hi hl => ?_
  rw [ablk_own] at hi
  have := hb i hi
  omega
theorem own_new {w wr : World} {a a' : Option Addr} {n c : Nat} (hf : Fr F0 w wr) (hb : ∀ k, ablk a = some k → w.heap.size ≤ k) (h : ∀ k, ablk a' = some k → (Value.slice a n c).ownBlock = some k ∨ wr.heap.size ≤ k) : ∀ k, ablk a' = some k → w.heap.size ≤ k := by
  intro k hk
  rcases h k hk with h | h
  · rw [ablk_own] at h
    exact hb k h
  · exact Nat.le_trans hf.size h

theorem take_succ_getD (l : List UInt8) (k : Nat) (h : k < l.length) : l.take (k + 1) = l.take k ++ [l.getD k 0] := by
  rw [List.take_add_one, List.getElem?_eq_getElem h]
  simp [List.getD, List.getElem?_eq_getElem h]
theorem one_B8 (w : World) (x : UInt8) (t : TypeId) : Bs (w.alloc (.cells #[.int .u8 (x.toNat : Int)] t)) (some ⟨w.heap.size, 0, none⟩) 1 [x] := by
  refine ⟨rfl, Nat.le_refl _, by simp [maxLen], fun h => by simp at h, fun j u hj => ⟨_, _, rfl, ?_⟩⟩
  match j, hj with
  | 0, hj =>
    simp only [List.map_cons, List.map_nil, List.getElem?_cons_zero, Option.some.injEq] at hj
    subst hj
    simp [B8]


theorem wp_put {P : Program} {c : Code} {Q : Exit → Act → World → Prop} {a : Act} {w : World} {z cs : Array Value} {t : TypeId} (k : ∀ W, NewRow w W w.heap.size cs t → Code.wp P c Q a W) : Code.wp P c Q a ((w.alloc (.cells z t)).setRow w.heap.size cs) := k _ (put_new w z cs t)
theorem wp_new {P : Program} {c : Code} {Q : Exit → Act → World → Prop} {a : Act} {w : World} {z : Array Value} {t : TypeId} (k : ∀ W, NewRow w W w.heap.size z t → Code.wp P c Q a W) : Code.wp P c Q a (w.alloc (.cells z t)) := k _ ⟨heap_alloc_new _ _, fun h => keep_alloc h, (Fr.refl F0 w).alloc _, fun h => by have := (Array.getElem?_eq_some_iff.1 h).1; omega⟩
theorem calls_new {P : Program} {f : FuncId} {args : Array Value} {Q : Ending → World → Prop} {w : World} {z : Array Value} {t : TypeId} (k : ∀ W, NewRow w W w.heap.size z t → Calls P f args W Q) : Calls P f args (w.alloc (.cells z t)) Q := k _ ⟨heap_alloc_new _ _, fun h => keep_alloc h, (Fr.refl F0 w).alloc _, fun h => by have := (Array.getElem?_eq_some_iff.1 h).1; omega⟩

theorem calls_cell {P : Program} {f : FuncId} {args : Array Value} {Q : Ending → World → Prop} {w : World} {g i : Nat} {v : Value} {cs : Array Value} {t : TypeId} {fr : Nat × Nat} (h : w.heap[g]? = some (.cells cs t fr))
    (k : ∀ W, W.heap[g]? = some (.cells (cs.setIfInBounds i v) t fr) → Fr (fun k => k = g) w W → Calls P f args W Q) : Calls P f args (w.setCell ⟨g, i, none⟩ v) Q :=
  k _ (by rw [heap_setCell_at, h]; rfl) (Fr.setCell (S := fun k => k = g) (Fr.refl _ _) (p := ⟨g, i, none⟩) (fun _ => rfl) _)
theorem calls_row {P : Program} {f : FuncId} {args : Array Value} {Q : Ending → World → Prop} {w : World} {g : Nat} {c cs : Array Value} {t : TypeId} {fr : Nat × Nat} (h : w.heap[g]? = some (.cells cs t fr))
    (k : ∀ W, W.heap[g]? = some (.cells c t fr) → Fr (fun k => k = g) w W → Calls P f args W Q) : Calls P f args (w.setRow g c) Q :=
  k _ (new_row h) (Fr.setRow (S := fun k => k = g) (Fr.refl _ _) (fun _ => rfl) _)

/-- What a load of n cells from o on in a block of m cells answers. -/
def midOut (P : Program) (t : TypeId) (p : Value) (w : World) (n o m : Nat) : Option Obj → Result Value
  | some (.cells cs _ _) => if cs.size = m then .ok (.agg (cs.extract o (o + n))) w else (loadRowAt t p).run P w
  | _ => (loadRowAt t p).run P w
theorem midOut_cells {P : Program} {t : TypeId} {p : Value} {w : World} {n o m : Nat} {cs : Array Value} {t' : TypeId} {fr : Nat × Nat} (h : cs.size = m) :
    midOut P t p w n o m (some (.cells cs t' fr)) = .ok (.agg (cs.extract o (o + n))) w := if_pos h
theorem run_loadMid {P : Program} (w : World) (t : TypeId) (g o n m : Nat) (d : TypeDesc) (hom : o + n ≤ m) (hu : P.underlying t = some d) (hd : d.isRow = true) (hi : (P.info? t).map (·.size) = some n) :
    (loadRowAt t (.pointer (some ⟨g, o, none⟩))).run P w = midOut P t (.pointer (some ⟨g, o, none⟩)) w n o m w.heap[g]? := by
  cases hg : w.heap[g]? with
  | none => rfl
  | some ob =>
    cases ob with
    | cells cs t' fr =>
      by_cases h : cs.size = m
      · rw [midOut_cells h]
        have hl : (cs.extract o (o + n)).toList.length = n := by simp; omega
        have := run_loadAt_mid (P := P) w g o t (cs.extract o (o + n)).toList d (fun j v hj => by
          rw [cell_at, hg, cellAt_cells]
          have hj' : j < n := by have := (List.getElem?_eq_some_iff.1 hj).1; omega
          rw [Array.getElem?_toList, Array.getElem?_extract] at hj
          split at hj
          · exact hj
          · cases hj) hu hd (by rw [hi, hl])
        rw [Array.toArray_toList] at this
        exact this
      · simp only [midOut, h, if_false]
    | _ => rfl

theorem cell_is {C : Array Value} {i : Nat} {v : Value} (h : C[i]? = some v) (hi : i < C.size) : C[i] = v := (Array.getElem?_eq_some_iff.1 h).2


theorem Bs.fr7 {w w' : World} {a : Option Addr} {c : Nat} {l : List UInt8} (h : Bs w a c l) (f : Fr F0 w w') : Bs w' a c l := Sl.fr h f fun _ _ f => f

theorem strOf_beq (l m : List UInt8) : (strOf l == strOf m) = decide (l = m) := by
  rw [beq_toListBytes, strOf_toList, strOf_toList]
  by_cases h : l = m
  · subst h; simp
  · rw [decide_eq_false h]; exact beq_false_of_ne h

theorem Bs.of_cells {w : World} {g o n : Nat} {A : Array Value} {t : TypeId} {f : Nat × Nat} {l : List UInt8} (h : w.heap[g]? = some (.cells A t f)) (hl : l.length = n) (hn : n ≤ 1000) (e : A.extract o (o + n) = (l.map B8).toArray) : Bs w (some ⟨g, o, none⟩) n l := by
  subst hl
  refine Sl.mk (by simp) (Nat.le_refl _) (by unfold maxLen; omega) (fun h => by cases h) (fun j u hj => ⟨g, o, rfl, ?_⟩)
  rw [cell_at, h, cellAt_cells]
  have hj' : (A.extract o (o + l.length))[j]? = some u := by rw [e]; simpa using hj
  rw [Array.getElem?_extract] at hj'
  split at hj'
  · exact hj'
  · cases hj'

/-- Cells put into a row from o on. -/
def putMid (cs : Array Value) (o : Nat) : List Value → Array Value
  | [] => cs
  | v :: r => putMid (cs.setIfInBounds o v) (o + 1) r
theorem putMid_size (cs : Array Value) (o : Nat) (vs : List Value) : (putMid cs o vs).size = cs.size := by
  induction vs generalizing cs o with
  | nil => rfl
  | cons v r ih => rw [putMid, ih]; simp
theorem putMid_parts (pre mid post vs : List Value) (h : mid.length = vs.length) : putMid (pre ++ (mid ++ post)).toArray pre.length vs = (pre ++ (vs ++ post)).toArray := by
  induction vs generalizing pre mid with
  | nil =>
    obtain rfl : mid = [] := List.eq_nil_of_length_eq_zero (by simpa using h)
    rfl
  | cons v r ih =>
    match mid, h with
    | x :: mid, h =>
      rw [putMid]
      have e : (pre ++ (x :: mid ++ post)).toArray.setIfInBounds pre.length v = ((pre ++ [v]) ++ (mid ++ post)).toArray := by
        rw [List.setIfInBounds_toArray, List.set_append_right _ _ (Nat.le_refl _), Nat.sub_self]
        simp
      rw [e]
      have := ih (pre ++ [v]) mid (by simpa using h)
      rw [List.length_append] at this
      rw [show pre.length + 1 = pre.length + [v].length from rfl, this]
      simp
theorem setRow_again (w : World) (g : Nat) (a b : Array Value) : (w.setRow g a).setRow g b = w.setRow g b := by
  unfold World.setRow
  simp only [World.mk.injEq, true_and, and_true]
  apply Array.ext_getElem?
  intro i
  simp only [Array.getElem?_modify]
  split
  · cases w.heap[i]? with
    | none => rfl
    | some o => cases o <;> rfl
  · rfl
theorem setCells_row (g : Nat) : ∀ (vs : List Value) (o : Nat) (w : World) (cs : Array Value) (t : TypeId) (fr : Nat × Nat), vs ≠ [] → w.heap[g]? = some (.cells cs t fr) → w.setCells g o vs = w.setRow g (putMid cs o vs)
  | [], _, _, _, _, _, h, _ => absurd rfl h
  | v :: r, o, w, cs, t, fr, _, hg => by
    rw [World.setCells, setCell_eq_setRow w g o cs t fr v hg, putMid]
    by_cases hr : r = []
    · subst hr; rfl
    · rw [setCells_row g r (o + 1) _ (cs.setIfInBounds o v) t fr hr (new_row hg), setRow_again]
/-- What a store of n cells from o on into a block of m cells does. -/
def midIn (P : Program) (t : TypeId) (p : Value) (cells : Array Value) (g : Nat) (w : World) (n o m : Nat) : Option Obj → Result Unit
  | some (.cells cs _ fr) => if fr = (0, 0) ∧ cs.size = m ∧ cells.size = n ∧ cells.all (·.oneCell') = true then .ok () (w.setRow g (putMid cs o cells.toList)) else (storeRowAt t p (.agg cells)).run P w
  | _ => (storeRowAt t p (.agg cells)).run P w
theorem midIn_cells {P : Program} {t : TypeId} {p : Value} {cells : Array Value} {g : Nat} {w : World} {n o m : Nat} {cs : Array Value} {t' : TypeId} (h : cs.size = m) (h1 : cells.size = n) (h2 : rowOne cells) :
    midIn P t p cells g w n o m (some (.cells cs t' (0, 0))) = .ok () (w.setRow g (putMid cs o cells.toList)) := if_pos ⟨rfl, h, h1, h2⟩
theorem run_storeMid {P : Program} (w : World) (t : TypeId) (g o n m : Nat) (cells : Array Value) (h0 : 0 < n) (hom : o + n ≤ m) (hi : (P.info? t).map (·.size) = some n) :
    (storeRowAt t (.pointer (some ⟨g, o, none⟩)) (.agg cells)).run P w = midIn P t (.pointer (some ⟨g, o, none⟩)) cells g w n o m w.heap[g]? := by
  cases hg : w.heap[g]? with
  | none => rfl
  | some ob =>
    cases ob with
    | cells cs t' fr =>
      by_cases h : fr = (0, 0) ∧ cs.size = m ∧ cells.size = n ∧ cells.all (·.oneCell') = true
      · obtain ⟨rfl, h1, h2, h3⟩ := h
        rw [midIn_cells h1 h2 h3]
        have := run_storeAt_mid (P := P) w g o t cells (fun j hj => by
          replace hj : j < n := by rw [← h2]; exact hj
          rw [cell_at, frozen_at, hg, cellAt_cells, frozenAt_cells]
          refine ⟨?_, rfl⟩
          rw [Array.getElem?_eq_getElem (by omega)]
          rfl) (by rw [hi, h2]) h3
        rw [← setCells_row g cells.toList o w cs t' (0, 0) (fun e => by have : cells.size = 0 := (by rw [← Array.length_toList, e]; rfl); omega) hg]
        exact this
      · simp only [midIn, h, if_false]
    | _ => rfl
attribute [simp high] midOut_cells midIn_cells
end Go.Proofs.Ytkekdbnmeobgiaa

/- Lists that a call makes for itself, of elements of any size. Nothing here speaks of the program. -/
namespace Go.Proofs.Ytkekdbnmeobgiaa
set_option maxRecDepth 100000
set_option linter.unusedVariables false
set_option linter.unusedSimpArgs false
open Go.RowKit

theorem own_frE {S : Nat → Prop} {w w' : World} {base e size n : Nat} {v : Value} {xs : List Value} (h : w.ownsRow base e size v n xs) (hf : Fr S w w') (hs : ∀ k, v.ownBlock = some k → ¬ S k) : w'.ownsRow base e size v n xs := by
  refine ⟨h.1, ?_⟩
  rcases h.2 with hn | ⟨g, cap, cur, rfl, hb, hg, r⟩
  · exact .inl hn
  · exact .inr ⟨g, cap, cur, rfl, hb, hf.keeps (hs g rfl) hg, r⟩
theorem grown_frE {A D : World} {row : Option Nat} (hg : A.grownBy D row) : Fr (fun k => row = some k) A D := (Fr.refl _ A).grown hg fun k hk _ => hk
theorem cell_notE {A : World} {B : Nat} {row : Option Nat} {k : Nat} {cs : Array Value} {t : TypeId} {fr : Nat × Nat} (hr : ∀ r, row = some r → B ≤ r ∧ ∃ o : Obj, A.heap[r]? = some o ∧ o.isCells = false) (h : A.heap[k]? = some (.cells cs t fr)) : ¬ row = some k := fun e => by
  obtain ⟨_, o, ho, hc⟩ := hr k e
  rw [h] at ho
  cases ho
  cases hc
theorem row_notE {A : World} {B : Nat} {row : Option Nat} {e0 size n : Nat} {v : Value} {xs : List Value} (hr : ∀ r, row = some r → B ≤ r ∧ ∃ o : Obj, A.heap[r]? = some o ∧ o.isCells = false) (h : A.ownsRow 0 e0 size v n xs) : ∀ k, v.ownBlock = some k → ¬ row = some k := fun k hk => by
  rcases h.2 with ⟨rfl, _⟩ | ⟨g, cap, cur, rfl, _, hg, _⟩
  · cases hk
  · cases hk
    exact cell_notE hr hg
theorem own_csE {A D : World} {B : Nat} {row : Option Nat} {k : Nat} {cs : Array Value} {t : TypeId} {fr : Nat × Nat} (hs : A.heap[k]? = some (.cells cs t fr)) (hg : A.grownBy D row) (hr : ∀ r, row = some r → B ≤ r ∧ ∃ o : Obj, A.heap[r]? = some o ∧ o.isCells = false) : D.heap[k]? = some (.cells cs t fr) := (grown_frE hg).keeps (cell_notE hr hs) hs

/-- A list that the call itself has made: its block is B or a later one. -/
structure OwnE {α : Type} (e size : Nat) (enc : α → List Value) (B : Nat) (w : World) (v : Value) (l : List α) : Prop where
  own : w.ownsRow 0 e size v l.length (l.flatMap enc)
  blk : ∀ k, v.ownBlock = some k → B ≤ k
section
variable {α : Type} {e size : Nat} {enc : α → List Value}
theorem OwnE.nil (B : Nat) (w : World) : OwnE e size enc B w (.slice none 0 0) [] := ⟨World.ownsRow_nil _ _ _ _, fun k h => (by cases h)⟩
theorem OwnE.frS {B : Nat} {S : Nat → Prop} {w w' : World} {v : Value} {l : List α} (h : OwnE e size enc B w v l) (f : Fr S w w') (h1 : ∀ k, v.ownBlock = some k → ¬ S k) : OwnE e size enc B w' v l := ⟨own_frE h.own f h1, h.blk⟩
theorem OwnE.fr0 {B : Nat} {w w' : World} {v : Value} {l : List α} (h : OwnE e size enc B w v l) (f : Fr F0 w w') : OwnE e size enc B w' v l := h.frS f fun _ _ e => e
theorem OwnE.lt {B : Nat} {w : World} {v : Value} {l : List α} (h : OwnE e size enc B w v l) : ∀ k, v.ownBlock = some k → k < w.heap.size := fun k hk => (World.ownsRow.lt h.own k hk).2
theorem OwnE.mono {B B' : Nat} {w : World} {v : Value} {l : List α} (h : OwnE e size enc B w v l) (hb : B' ≤ B) : OwnE e size enc B' w v l := ⟨h.own, fun k hk => Nat.le_trans hb (h.blk k hk)⟩
theorem OwnE.is {B : Nat} {w : World} {v : Value} {l : List α} (h : OwnE e size enc B w v l) : ∃ a c, v = .slice a l.length c ∧ Sl w size a c l.length (l.flatMap enc) := by
  obtain ⟨a, c, rfl⟩ := own_slice h.own
  exact ⟨a, c, rfl, (Sl.of_own h.own).2⟩
theorem OwnE.grown {B B' : Nat} {v : Value} {l : List α} {A D : World} {row : Option Nat} (h : OwnE e size enc B A v l) (hg : A.grownBy D row) (hr : ∀ r, row = some r → B' ≤ r ∧ ∃ o : Obj, A.heap[r]? = some o ∧ o.isCells = false) : OwnE e size enc B D v l := h.frS (grown_frE hg) (row_notE hr h.own)
/-- One more. -/
theorem OwnE.app {P : Program} {st ty bytes : Nat} {i : TypeInfo} {z : Value} (hu : P.underlying st = some (.slice e)) (hi : P.info? e = some i) (hz : i.zero = some z) (hs : i.size = size) (hb : i.bytes = bytes) (hzs : z.cells.size = size) (h0 : 0 < size) (hby : bytes ≤ 1000) (hsz : size ≤ 1000)
    {B : Nat} {w : World} {v : Value} {l : List α} (h : OwnE e size enc B w v l) (x : α) (hx : (enc x).length = size) (h1 : ∀ u ∈ enc x, u.oneCell' = true) (hB : B ≤ w.heap.size) (hl : l.length ≤ 100000) :
    ∃ a c w', (Builtin.append_ #[st, st] ty #[v, .slice (some ⟨w.heap.size, 0, none⟩) 1 1]).run P (w.alloc (.cells (enc x).toArray e)) = .ok (.slice a (l.length + 1) c) w' ∧ OwnE e size enc B w' (.slice a (l.length + 1) c) (l ++ [x]) ∧
      Fr (fun k => v.ownBlock = some k) w w' ∧ w.heap.size < w'.heap.size := by
  obtain ⟨W, hW⟩ : ∃ W, W = w.alloc (.cells (enc x).toArray e) := ⟨_, rfl⟩
  have hnew := heap_alloc_new w (.cells (enc x).toArray e)
  have fW : Fr F0 w W := by rw [hW]; exact (Fr.refl F0 w).alloc _
  have sW : W.heap.size = w.heap.size + 1 := by rw [hW]; simp
  rw [← hW] at hnew ⊢
  have hsl : Sl W size (some ⟨w.heap.size, 0, none⟩) 1 1 (enc x) := ⟨by omega, Nat.le_refl _, by unfold maxLen; omega, (fun e => by cases e), fun j u hj => ⟨_, _, rfl, by rw [cell_at, hnew, cellAt_cells, Nat.zero_add]; simpa using hj⟩⟩
  have hbb : (l.length + 1) * bytes ≤ 140737488355328 := Nat.le_trans (Nat.mul_le_mul (show l.length + 1 ≤ 100001 by omega) hby) (by decide)
  obtain ⟨v', w', hrun, hown, hg, hnw⟩ := run_app (P := P) (w := W) st ty e i _ size bytes hu hi hz hs hb hzs h0 v l.length _ (own_frE h.own fW fun _ _ f => f) (some ⟨w.heap.size, 0, none⟩) 1 1 (enc x) hsl
    h1 (by unfold maxLen; omega) hbb
  obtain ⟨a, c, rfl⟩ := own_slice hown
  refine ⟨a, c, w', hrun, ⟨?_, fun k hk => ?_⟩, (fW.of0).grown hg fun k hk hl => hk, by have := hg.size; omega⟩
  · rw [List.length_append, List.flatMap_append]
    simpa using hown
  · rcases hnw k hk with e | e
    · exact h.blk k e
    · omega
end
theorem wpIn_newE {F : Fence} {n : Nat} {P : Program} {c : Code} {Q : Exit → Act → World → Prop} {a : Act} {w : World} {z : Array Value} {t : TypeId} (k : ∀ W, NewRow w W w.heap.size z t → Code.wpIn F n P c Q a W) : Code.wpIn F n P c Q a (w.alloc (.cells z t)) := k _ ⟨heap_alloc_new _ _, fun h => keep_alloc h, (Fr.refl F0 w).alloc _, fun h => by have := (Array.getElem?_eq_some_iff.1 h).1; omega⟩
end Go.Proofs.Ytkekdbnmeobgiaa
