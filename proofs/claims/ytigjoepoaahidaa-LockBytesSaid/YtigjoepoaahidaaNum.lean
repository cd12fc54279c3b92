/- Whole rows of cells by value, and rows that hold a number, word by word. Nothing here speaks of the program. -/
import Derived.Test.YtigjoepoaahidaaFr
import Derived.Laws.Rows
import Derived.Laws.Tables
import Derived.Laws.StructEq
import Derived.ChangeKeysEq
import Derived.Below
namespace Go.Proofs.Ytigjoepoaahidaa
set_option linter.unusedVariables false
set_option linter.unusedSimpArgs false
open Go.RowKit

/-! ### whole rows -/

/-- 'load', 'store' of a whole row: behind a name that the walk does not open. -/
def loadRowAt (t : TypeId) (p : Value) : Sem Value := Instr.loadAt t p
def storeRowAt (t : TypeId) (p v : Value) : Sem Unit := Instr.storeAt t p v

def rowOut (P : Program) (t : TypeId) (p : Value) (w : World) (n : Nat) : Option Obj → Result Value
  | some (.cells cs _ _) => if cs.size = n then .ok (.agg cs) w else (Instr.loadAt t p).run P w
  | _ => (Instr.loadAt t p).run P w

theorem rowOut_cells {P : Program} {t : TypeId} {p : Value} {w : World} {n : Nat} {cs : Array Value} {t' : TypeId} {fr : Nat × Nat} (h : cs.size = n) :
    rowOut P t p w n (some (.cells cs t' fr)) = .ok (.agg cs) w := if_pos h

theorem run_loadRowAt {P : Program} (w : World) (t : TypeId) (g n : Nat) (d : TypeDesc) (hu : P.underlying t = some d) (hd : (match d with | .struct _ | .array _ _ => true | _ => false) = true) (hi : (P.info? t).map (·.size) = some n) :
    (loadRowAt t (.pointer (some ⟨g, 0, none⟩))).run P w = rowOut P t (.pointer (some ⟨g, 0, none⟩)) w n w.heap[g]? := by
  cases hg : w.heap[g]? with
  | none => rfl
  | some o =>
    cases o with
    | cells cs t' fr =>
      by_cases h : cs.size = n
      · rw [rowOut_cells h]
        show (Instr.loadAt t (.pointer (some ⟨g, 0, none⟩))).run P w = _
        simp only [Instr.loadAt, Instr.sureAddr, Sem.run_bind, Sem.run_pure, Result.andThen_ok]
        exact run_loadVar_row w g t' t cs fr d hg hu hd (by rw [hi, h])
      · simp [rowOut, h, loadRowAt]
    | _ => rfl

/-- All cells bear one value each. -/
def rowOne (cells : Array Value) : Prop := cells.all (·.oneCell') = true

def rowIn (P : Program) (t : TypeId) (p : Value) (cells : Array Value) (g : Nat) (w : World) (n : Nat) : Option Obj → Result Unit
  | some (.cells old _ fr) => if fr = (0, 0) ∧ old.size = n ∧ cells.size = n ∧ cells.all (·.oneCell') = true then .ok () (w.setRow g cells) else (Instr.storeAt t p (.agg cells)).run P w
  | _ => (Instr.storeAt t p (.agg cells)).run P w

theorem rowIn_cells {P : Program} {t : TypeId} {p : Value} {cells : Array Value} {g : Nat} {w : World} {n : Nat} {old : Array Value} {t' : TypeId} (h : old.size = n) (h1 : cells.size = n) (h2 : rowOne cells) :
    rowIn P t p cells g w n (some (.cells old t' (0, 0))) = .ok () (w.setRow g cells) := if_pos ⟨rfl, h, h1, h2⟩

theorem run_storeRowAt {P : Program} (w : World) (t : TypeId) (g n : Nat) (cells : Array Value) (hi : (P.info? t).map (·.size) = some n) :
    (storeRowAt t (.pointer (some ⟨g, 0, none⟩)) (.agg cells)).run P w = rowIn P t (.pointer (some ⟨g, 0, none⟩)) cells g w n w.heap[g]? := by
  cases hg : w.heap[g]? with
  | none => rfl
  | some o =>
    cases o with
    | cells old t' fr =>
      by_cases h : fr = (0, 0) ∧ old.size = n ∧ cells.size = n ∧ cells.all (·.oneCell') = true
      · obtain ⟨rfl, h1, h2, h3⟩ := h
        rw [rowIn_cells h1 h2 h3]
        show (Instr.storeAt t (.pointer (some ⟨g, 0, none⟩)) (.agg cells)).run P w = _
        simp only [Instr.storeAt, Instr.sureAddr, Sem.run_bind, Sem.run_pure, Result.andThen_ok]
        exact run_storeVar_row w g t' t old cells hg (by rw [hi, h2]) (by rw [h1, h2]) h3
      · simp only [rowIn, h, if_false]
        rfl
    | _ => rfl

/-! ### the heap behind an allocation, a store, a draw -/

def Obj.withRow (cs : Array Value) : Obj → Obj
  | .cells _ t fr => .cells cs t fr
  | o => o
def Obj.withCell (i : Nat) (v : Value) : Obj → Obj
  | .cells cs t fr => .cells (cs.setIfInBounds i v) t fr
  | o => o

theorem heap_setRow_at (w : World) (g : Nat) (cs : Array Value) : (w.setRow g cs).heap[g]? = (w.heap[g]?).map (Obj.withRow cs) := by
  simp only [World.setRow, Array.getElem?_modify, if_true]
  try congr 1
  try (funext o; cases o <;> rfl)

theorem heap_setRow_ne (w : World) (g k : Nat) (cs : Array Value) (h : k ≠ g) : (w.setRow g cs).heap[k]? = w.heap[k]? := setRow_other w g k cs h

theorem heap_setCell_at (w : World) (g i : Nat) (v : Value) : (w.setCell ⟨g, i, none⟩ v).heap[g]? = (w.heap[g]?).map (Obj.withCell i v) := by
  simp only [World.setCell, Array.getElem?_modify, if_true]
  try congr 1
  try (funext o; cases o <;> rfl)

theorem heap_setCell_ne' (w : World) (g i k : Nat) (v : Value) (h : k ≠ g) : (w.setCell ⟨g, i, none⟩ v).heap[k]? = w.heap[k]? := Below.heap_setCell _ _ _ _ h

theorem withRow_cells (cs c : Array Value) (t : TypeId) (fr : Nat × Nat) : Option.map (Obj.withRow cs) (some (.cells c t fr)) = some (.cells cs t fr) := rfl
theorem withCell_cells (i : Nat) (v : Value) (c : Array Value) (t : TypeId) (fr : Nat × Nat) : Option.map (Obj.withCell i v) (some (.cells c t fr)) = some (.cells (c.setIfInBounds i v) t fr) := rfl

def Obj.cellAt (i : Nat) : Option Obj → Option Value
  | some (.cells cs _ _) => cs[i]?
  | _ => none
theorem cellAt_cells (i : Nat) (cs : Array Value) (t : TypeId) (fr : Nat × Nat) : Obj.cellAt i (some (.cells cs t fr)) = cs[i]? := rfl
theorem cell_at (w : World) (g i : Nat) : w.cell? ⟨g, i, none⟩ = Obj.cellAt i w.heap[g]? := by
  simp only [World.cell?]
  cases w.heap[g]? with
  | none => rfl
  | some o => cases o <;> rfl

def Obj.frozenAt (i : Nat) : Option Obj → Bool
  | some (.cells _ _ (lo, hi)) => lo ≤ i && i < hi
  | _ => false
theorem frozenAt_cells (i : Nat) (cs : Array Value) (t : TypeId) : Obj.frozenAt i (some (.cells cs t (0, 0))) = false := by simp [Obj.frozenAt]
theorem frozen_at (w : World) (g i : Nat) : w.frozen? ⟨g, i, none⟩ = Obj.frozenAt i w.heap[g]? := by
  simp only [World.frozen?]
  cases w.heap[g]? with
  | none => rfl
  | some o => cases o <;> rfl

theorem heap_drew' (w : World) : w.drew.heap = w.heap := rfl

theorem Fr.setRow {S : Nat → Prop} {a w : World} (h : Fr S a w) {g : Nat} (hp : g < a.heap.size → S g) (cs : Array Value) : Fr S a (w.setRow g cs) :=
  h.trans (T := fun k => k = g) ⟨rfl, rfl, rfl, by simp, fun k _ hk => setRow_other w g k cs hk⟩ fun i hi e => by subst e; exact hp hi

theorem allocs_old (L : List Obj) : ∀ (w : World) (k : Nat), k < w.heap.size → (L.foldl World.alloc w).heap[k]? = w.heap[k]? := by
  induction L with
  | nil => intro w k _; rfl
  | cons A L ih =>
    intro w k hk
    rw [List.foldl_cons, ih _ _ (by simp; omega)]
    exact heap_alloc_old _ _ hk

/-- What a row of allocations has laid. -/
theorem heap_allocs (L : List Obj) : ∀ (w : World) (j : Nat), j < L.length → (L.foldl World.alloc w).heap[w.heap.size + j]? = L[j]? := by
  induction L with
  | nil => intro w j h; simp at h
  | cons A L ih =>
    intro w j h
    rw [List.foldl_cons]
    cases j with
    | zero =>
      rw [Nat.add_zero, allocs_old L _ _ (by simp)]
      exact heap_alloc_new w A
    | succ j =>
      have := ih (w.alloc A) j (by simpa using h)
      rw [World.size_alloc] at this
      rw [show w.heap.size + (j + 1) = w.heap.size + 1 + j by omega, this]
      rfl

theorem Fr.allocs {S : Nat → Prop} {a : World} (L : List Obj) : ∀ {w : World}, Fr S a w → Fr S a (L.foldl World.alloc w) := by
  induction L with
  | nil => intro w h; exact h
  | cons A L ih => intro w h; exact ih (h.alloc A)

theorem size_allocs (L : List Obj) : ∀ (w : World), (L.foldl World.alloc w).heap.size = w.heap.size + L.length := by
  induction L with
  | nil => intro w; rfl
  | cons A L ih => intro w; rw [List.foldl_cons, ih, World.size_alloc, List.length_cons]; omega

theorem keep_alloc {w : World} {o : Obj} {k : Nat} {x : Obj} (h : w.heap[k]? = some x) : (w.alloc o).heap[k]? = some x := by
  rw [heap_alloc_old _ _ (Array.getElem?_eq_some_iff.1 h).1]; exact h
theorem keep_fr {w w' : World} {k : Nat} {x : Obj} (f : Fr F0 w w') (h : w.heap[k]? = some x) : w'.heap[k]? = some x := f.keeps (fun f => f) h
theorem keep_row {w : World} {g : Nat} {c : Array Value} {k : Nat} {x : Obj} (hk : k ≠ g) (h : w.heap[k]? = some x) : (w.setRow g c).heap[k]? = some x := by rw [heap_setRow_ne _ _ _ _ hk]; exact h
theorem keep_drew {w : World} {k : Nat} {x : Obj} (h : w.heap[k]? = some x) : w.drew.heap[k]? = some x := h
theorem new_row {w : World} {g : Nat} {c : Array Value} {z : Array Value} {t : TypeId} {f : Nat × Nat} (h : w.heap[g]? = some (.cells z t f)) : (w.setRow g c).heap[g]? = some (.cells c t f) := by
  rw [heap_setRow_at, h]; rfl
theorem rowIn_of {P : Program} {t : TypeId} {p : Value} {cells : Array Value} {g : Nat} {w : World} {n : Nat} {old : Array Value} {t' : TypeId} {o : Option Obj} (ho : o = some (.cells old t' (0, 0))) (h : old.size = n) (h1 : cells.size = n) (h2 : rowOne cells) :
    rowIn P t p cells g w n o = .ok () (w.setRow g cells) := by subst ho; exact rowIn_cells h h1 h2
theorem rowOut_of {P : Program} {t : TypeId} {p : Value} {w : World} {n : Nat} {cs : Array Value} {t' : TypeId} {fr : Nat × Nat} {o : Option Obj} (ho : o = some (.cells cs t' fr)) (h : cs.size = n) :
    rowOut P t p w n o = .ok (.agg cs) w := by subst ho; exact rowOut_cells h

/-- A new row, laid and filled. -/
structure NewRow (w W : World) (g : Nat) (c : Array Value) (t : TypeId) : Prop where
  new : W.heap[g]? = some (.cells c t (0, 0))
  old : ∀ {k : Nat} {o : Obj}, w.heap[k]? = some o → W.heap[k]? = some o
  fr : Fr F0 w W
  ne : ∀ {k : Nat} {o : Obj}, w.heap[k]? = some o → k ≠ g

theorem put_new (w : World) (z c : Array Value) (t : TypeId) : NewRow w ((w.alloc (.cells z t)).setRow w.heap.size c) w.heap.size c t :=
  ⟨new_row (heap_alloc_new _ _), fun h => keep_row (by have := (Array.getElem?_eq_some_iff.1 h).1; omega) (keep_alloc h), ((Fr.refl F0 w).alloc _).setRow (fun h => by omega) _, fun h => by have := (Array.getElem?_eq_some_iff.1 h).1; omega⟩

/-! ### a number's words -/

/-- The i-th word of b bits. -/
def dgt (b x i : Nat) : Nat := x / 2 ^ (b * i) % 2 ^ b

theorem dgt_lt (b x i : Nat) : dgt b x i < 2 ^ b := Nat.mod_lt _ (Nat.two_pow_pos b)

/-- n cells that hold a number, the lowest word first. -/
def rowN (k : IntKind) (b n x : Nat) : Array Value := ((List.range n).map fun i => Value.int k (dgt b x i : Nat)).toArray

theorem rowN_size (k : IntKind) (b n x : Nat) : (rowN k b n x).size = n := by simp [rowN]

theorem rowN_one (k : IntKind) (b n x : Nat) : (rowN k b n x).all (·.oneCell') = true := by
  rw [Array.all_eq_true_iff_forall_mem]
  intro v hv
  simp only [rowN, List.mem_toArray, List.mem_map] at hv
  obtain ⟨i, _, rfl⟩ := hv
  rfl

theorem rowN_get (k : IntKind) (b n x i : Nat) (h : i < n) : (rowN k b n x)[i]? = some (.int k (dgt b x i : Nat)) := by
  simp [rowN, h]

theorem rowN_rowOne (k : IntKind) (b n x : Nat) : rowOne (rowN k b n x) := rowN_one k b n x

theorem rowN_getElem (k : IntKind) (b n x i : Nat) (h : i < (rowN k b n x).size) : (rowN k b n x)[i] = .int k (dgt b x i : Nat) := by
  simp [rowN]

/-- 'x[i]' of a row that is a value. -/
theorem run_index_row {P : Program} (w : World) (t e : TypeId) (n : Nat) (cs : Array Value) (k : IntKind) (i : Nat) (d : TypeDesc) (hu : P.underlying t = some (.array n e)) (he : P.underlying e = some d) (hd : (match d with | .struct _ | .array _ _ => true | _ => false) = false)
    (hi : (P.info? e).map (·.size) = some 1) (v : Value) (h1 : i < n) (hv : cs[i]? = some v) :
    (Instr.index t (.agg cs) (.int k (i : Int))).run P w = .ok v w := by
  cases hq : P.info? e with
  | none => simp [hq] at hi
  | some io =>
    have hs : io.size = 1 := by simpa [hq] using hi
    have hagg : (isAgg e).run P w = .ok false w := by
      unfold isAgg
      rw [Sem.run_bind, run_underlying he w]
      cases d <;> simp_all
    have h0 : (0 : Int) ≤ i ∧ (i : Int) < n := ⟨by omega, by omega⟩
    simp [Instr.index, asIntOf, Sem.run_bind, run_underlying hu w, h0, sizeOf, typeInfo, hq, hs, part, hagg, hv]
    try omega

/-- The number with its i-th word turned. -/
def putw (b z i v : Nat) : Nat := z % 2 ^ (b * i) + 2 ^ (b * i) * (v + 2 ^ b * (z / 2 ^ (b * (i + 1))))

theorem dgt_below (b x y i j : Nat) (h : j < i) (e : x % 2 ^ (b * i) = y % 2 ^ (b * i)) : dgt b x j = dgt b y j := by
  have key : ∀ z, dgt b z j = dgt b (z % 2 ^ (b * i)) j := by
    intro z
    obtain ⟨d, rfl⟩ : ∃ d, i = j + 1 + d := ⟨i - (j + 1), by omega⟩
    have e1 : 2 ^ (b * (j + 1 + d)) = 2 ^ (b * j) * (2 ^ b * 2 ^ (b * d)) := by
      rw [← Nat.pow_add, ← Nat.pow_add]; congr 1; simp [Nat.mul_add]; omega
    simp only [dgt]
    rw [e1, Nat.mod_mul_right_div_self, Nat.mod_mul_right_mod]
  rw [key x, key y, e]

theorem putw_mod (b z i v : Nat) : putw b z i v % 2 ^ (b * i) = z % 2 ^ (b * i) := by
  simp [putw, Nat.add_mul_mod_self_left]

theorem putw_div (b z i v : Nat) : putw b z i v / 2 ^ (b * i) = v + 2 ^ b * (z / 2 ^ (b * (i + 1))) := by
  rw [putw, Nat.add_mul_div_left _ _ (Nat.two_pow_pos _), Nat.div_eq_of_lt (Nat.mod_lt _ (Nat.two_pow_pos _)), Nat.zero_add]

theorem putw_dgt (b z i v j : Nat) (hv : v < 2 ^ b) : dgt b (putw b z i v) j = if j = i then v else dgt b z j := by
  by_cases h : j = i
  · subst h
    rw [if_pos rfl, dgt, putw_div, Nat.add_mul_mod_self_left, Nat.mod_eq_of_lt hv]
  · rw [if_neg h]
    by_cases h2 : j < i
    · exact dgt_below b _ _ i j h2 (putw_mod b z i v)
    · obtain ⟨d, rfl⟩ : ∃ d, j = i + 1 + d := ⟨j - (i + 1), by omega⟩
      have e1 : 2 ^ (b * (i + 1 + d)) = 2 ^ (b * i) * (2 ^ b * 2 ^ (b * d)) := by
        rw [← Nat.pow_add, ← Nat.pow_add]; congr 1; simp [Nat.mul_add]; omega
      have e2 : 2 ^ (b * (i + 1)) = 2 ^ (b * i) * 2 ^ b := by rw [← Nat.pow_add]; congr 1
      simp only [dgt]
      congr 1
      rw [e1, ← Nat.div_div_eq_div_mul, putw_div, ← Nat.div_div_eq_div_mul, Nat.add_mul_div_left _ _ (Nat.two_pow_pos _), Nat.div_eq_of_lt hv, Nat.zero_add, e2, ← Nat.div_div_eq_div_mul, ← Nat.div_div_eq_div_mul, ← Nat.div_div_eq_div_mul, Nat.div_div_eq_div_mul z, ← e2]

theorem rowN_set (k : IntKind) (b n z i v : Nat) (hv : v < 2 ^ b) : (rowN k b n z).setIfInBounds i (.int k (v : Nat)) = rowN k b n (putw b z i v) := by
  apply Array.ext_getElem?
  intro j
  by_cases hj : j < n
  · rw [rowN_get _ _ _ _ _ hj, putw_dgt _ _ _ _ _ hv]
    by_cases h : j = i
    · subst h
      rw [Array.getElem?_setIfInBounds_self_of_lt (by rw [rowN_size]; exact hj), if_pos rfl]
    · rw [Array.getElem?_setIfInBounds_ne (by omega), rowN_get _ _ _ _ _ hj, if_neg h]
  · rw [Array.getElem?_eq_none (by simp [rowN_size]; omega), Array.getElem?_eq_none (by rw [rowN_size]; omega)]

theorem rowN_congr (k : IntKind) (b n x y : Nat) (h : x % 2 ^ (b * n) = y % 2 ^ (b * n)) : rowN k b n x = rowN k b n y := by
  unfold rowN
  congr 1
  apply List.map_congr_left
  intro i hi
  rw [dgt_below b x y n i (List.mem_range.1 hi) h]

theorem rowN_mod (k : IntKind) (b n x : Nat) : rowN k b n (x % 2 ^ (b * n)) = rowN k b n x := rowN_congr _ _ _ _ _ (Nat.mod_mod _ _)

theorem mod_succ (b x n : Nat) : x % 2 ^ (b * (n + 1)) = x % 2 ^ (b * n) + 2 ^ (b * n) * dgt b x n := by
  rw [dgt, show b * (n + 1) = b * n + b by simp [Nat.mul_add], Nat.pow_add, Nat.mod_mul]

theorem mod_of_dgt (b x y : Nat) : ∀ n, (∀ i, i < n → dgt b x i = dgt b y i) → x % 2 ^ (b * n) = y % 2 ^ (b * n)
  | 0, _ => by simp [Nat.mod_one]
  | n + 1, h => by rw [mod_succ, mod_succ, mod_of_dgt b x y n fun i hi => h i (by omega), h n (by omega)]

theorem rowN_inj (k : IntKind) (b n x y : Nat) (h : rowN k b n x = rowN k b n y) : x % 2 ^ (b * n) = y % 2 ^ (b * n) := by
  refine mod_of_dgt b x y n fun i hi => ?_
  have := congrArg (·[i]?) h
  simp only [rowN_get _ _ _ _ _ hi, Option.some.injEq, Value.int.injEq, true_and] at this
  exact Int.ofNat.inj this

/-- A row whose words are given is a number's. -/
def ofDgts (b : Nat) (f : Nat → Nat) : Nat → Nat
  | 0 => 0
  | n + 1 => ofDgts b f n + 2 ^ (b * n) * f n

theorem ofDgts_lt (b : Nat) (f : Nat → Nat) : ∀ n, (∀ i, i < n → f i < 2 ^ b) → ofDgts b f n < 2 ^ (b * n)
  | 0, _ => by simp [ofDgts]
  | n + 1, h => by
    have h1 := ofDgts_lt b f n fun i hi => h i (by omega)
    have h2 := h n (by omega)
    rw [ofDgts, show b * (n + 1) = b * n + b by simp [Nat.mul_add], Nat.pow_add]
    have : 2 ^ (b * n) * (f n + 1) ≤ 2 ^ (b * n) * 2 ^ b := Nat.mul_le_mul_left _ h2
    rw [Nat.mul_add] at this
    omega

theorem dgt_ofDgts (b : Nat) (f : Nat → Nat) : ∀ n, (∀ i, i < n → f i < 2 ^ b) → ∀ i, i < n → dgt b (ofDgts b f n) i = f i
  | 0, _, i, hi => by omega
  | n + 1, h, i, hi => by
    have h1 := ofDgts_lt b f n fun i hi => h i (by omega)
    by_cases e : i = n
    · subst e
      rw [dgt, ofDgts, Nat.add_mul_div_left _ _ (Nat.two_pow_pos _), Nat.div_eq_of_lt h1, Nat.zero_add, Nat.mod_eq_of_lt (h i (by omega))]
    · rw [← dgt_ofDgts b f n (fun i hi => h i (by omega)) i (by omega)]
      refine dgt_below b _ _ n i (by omega) ?_
      rw [ofDgts, Nat.add_mul_mod_self_left]

theorem putw_new (b z i v : Nat) (hz : z < 2 ^ (b * i)) : putw b z i v = z + 2 ^ (b * i) * v := by
  have e2 : 2 ^ (b * (i + 1)) = 2 ^ (b * i) * 2 ^ b := by rw [← Nat.pow_add]; congr 1
  rw [putw, Nat.mod_eq_of_lt hz, Nat.div_eq_of_lt, Nat.mul_zero, Nat.add_zero]
  rw [e2]
  exact Nat.lt_of_lt_of_le hz (Nat.le_mul_of_pos_right _ (Nat.two_pow_pos b))
/-- A result that is one cell, an integer. -/
theorem res_cell1 {P : Program} {fn : Func} {p : Tmp} {ty : TypeId} {k : IntKind} (h : fn.results = #[.cell p ty]) (tmps : Array Value) (w : World) (g : Nat) (v : Value)
    (hp : tmps.getD p undef = .pointer (some ⟨g, 0, none⟩)) (hc : w.cell? ⟨g, 0, none⟩ = some v) (hu : P.underlying ty = some (.int k)) : (results fn tmps).run P w = .ok v w := by
  have hp' : tmps[p]?.getD undef = .pointer (some ⟨g, 0, none⟩) := by simpa using hp
  have hagg : (isAgg ty).run P w = .ok false w := by
    unfold isAgg
    rw [Sem.run_bind, run_underlying hu w]
    rfl
  simp [results, h, hp', asAddr, loadVar, Sem.run_bind, hagg, hc]

/-! ### two numbers' rows, held against each other -/
def rowEq (m x y : Nat) : Bool := decide (x % 2 ^ m = y % 2 ^ m)

theorem run_eqItems_rowN {P : Program} (w : World) (e : TypeId) (k : IntKind) (d : Nat) (hp : P.plainKey e = true) (he : P.underlying e = some (.int k)) (b n x y : Nat) :
    ∀ is : List Nat, (∀ i ∈ is, i < n) → (Op.eqItems (d + 1) e 1 (rowN k b n x) (rowN k b n y) is).run P w = .ok (is.all fun i => decide (dgt b x i = dgt b y i)) w
  | [], _ => by simp [Op.eqItems]
  | i :: is, h => by
    have hi := h i (by simp)
    have h1 := run_part_plain w hp (show (rowN k b n x)[i * 1]? = some (.int k (dgt b x i : Nat)) by rw [Nat.mul_one]; exact rowN_get _ _ _ _ _ hi)
    have h2 := run_part_plain w hp (show (rowN k b n y)[i * 1]? = some (.int k (dgt b y i : Nat)) by rw [Nat.mul_one]; exact rowN_get _ _ _ _ _ hi)
    have h4 := run_eqItems_rowN w e k d hp he b n x y is fun j hj => h j (by simp [hj])
    have hall : (List.all (i :: is) fun i => decide (dgt b x i = dgt b y i)) = (decide (dgt b x i = dgt b y i) && List.all is fun i => decide (dgt b x i = dgt b y i)) := rfl
    rw [hall]
    generalize (List.all is fun i => decide (dgt b x i = dgt b y i)) = r at *
    generalize dgt b x i = u at *
    generalize dgt b y i = v at *
    have h3 : (Op.equalIn (d + 1) e (.int k (u : Int)) (.int k (v : Int))).run P w = .ok (decide (u = v)) w := by
      have e1 : ((u : Int) == (v : Int)) = decide (u = v) := by
        by_cases hq : u = v
        · subst hq; simp
        · have h5 : ¬ (u : Int) = (v : Int) := by omega
          rw [decide_eq_false hq]
          exact beq_false_of_ne h5
      rw [← e1]
      simp [Op.equalIn, Sem.run_bind, run_underlying he]
    simp only [Op.eqItems, Sem.run_bind, h1, h2, h3, Result.andThen_ok]
    by_cases hq : u = v
    · simp [hq, h4]
    · simp [hq]

theorem run_eql_rowN {P : Program} (w : World) (t e : TypeId) (k : IntKind) (b n : Nat) (i : TypeInfo) (hu : P.underlying t = some (.array n e)) (hi : P.info? e = some i) (hc : P.cellsOf e = 1) (hp : P.plainKey e = true) (he : P.underlying e = some (.int k)) (x y : Nat) :
    (binOp .eql t (.agg (rowN k b n x)) (.agg (rowN k b n y))).run P w = .ok (.bool (rowEq (b * n) x y)) w := by
  rw [run_eql_struct, run_equalIn_array w 9999 _ _ hu hi, hc, run_eqItems_rowN w e k 9998 hp he b n x y _ (fun j hj => List.mem_range.1 hj)]
  simp only [Result.andThen_ok]
  congr 2
  unfold rowEq
  rw [Bool.eq_iff_iff]
  simp only [List.all_eq_true, List.mem_range, decide_eq_true_eq]
  constructor
  · intro h
    exact mod_of_dgt b x y n h
  · intro h j hj
    exact dgt_below b x y n j hj h

theorem run_neq_rowN {P : Program} (w : World) (t e : TypeId) (k : IntKind) (b n : Nat) (i : TypeInfo) (hu : P.underlying t = some (.array n e)) (hi : P.info? e = some i) (hc : P.cellsOf e = 1) (hp : P.plainKey e = true) (he : P.underlying e = some (.int k)) (x y : Nat) :
    (binOp .neq t (.agg (rowN k b n x)) (.agg (rowN k b n y))).run P w = .ok (.bool (!rowEq (b * n) x y)) w := by
  have := run_eql_rowN w t e k b n i hu hi hc hp he x y
  simp only [binOp] at this ⊢
  cases hq : (Op.equal t (.agg (rowN k b n x)) (.agg (rowN k b n y))).run P w with
  | ok v w' => simp_all
  | halt x w' => simp_all
end Go.Proofs.Ytigjoepoaahidaa
