/- Rows of words in memory, filled one by one; a result that is a whole row. Nothing here speaks of the program. -/
import Derived.Test.YtkppakhjfagdnaaDoorWord
import Derived.Test.YtkppakhjfagdnaaDoorNum
import Derived.Laws.Rows
import Derived.Below
import Derived.Laws.Tables
namespace Go.Proofs.YtkppakhjfagdnaaDoor
set_option linter.unusedVariables false
set_option linter.unusedSimpArgs false
open Go.RowKit

/-- So many cells, the first of them given, the others z. -/
def arrV (l : List Value) (z : Value) (n : Nat) : Array Value := (l ++ List.replicate (n - l.length) z).toArray

theorem arrV_size (l : List Value) (z : Value) (n : Nat) (h : l.length ≤ n) : (arrV l z n).size = n := by simp [arrV]; omega

theorem arrV_get (l : List Value) (z : Value) (n i : Nat) (h : i < l.length) : (arrV l z n)[i]? = some (l[i]) := by
  simp [arrV, List.getElem?_append_left, h]

theorem arrV_get0 (l : List Value) (z : Value) (n i : Nat) (h : l.length ≤ i) (h' : i < n) : (arrV l z n)[i]? = some z := by
  simp [arrV, List.getElem?_append_right, h, List.getElem?_replicate]
  omega

theorem arrV_set (l : List Value) (z : Value) (n k : Nat) (x : Value) (hk : k = l.length) (h : l.length < n) : (arrV l z n).setIfInBounds k x = arrV (l ++ [x]) z n := by
  subst hk
  apply Array.ext_getElem?
  intro i
  by_cases hi : i = l.length
  · subst hi
    rw [Array.getElem?_setIfInBounds_self_of_lt (by rw [arrV_size l z n (by omega)]; exact h), arrV_get _ _ _ _ (by simp)]
    simp
  · rw [Array.getElem?_setIfInBounds_ne (by omega)]
    by_cases hl : i < l.length
    · rw [arrV_get l z n i hl, arrV_get _ _ _ _ (by simp; omega)]
      simp [List.getElem_append_left, hl]
    · by_cases hn : i < n
      · rw [arrV_get0 l z n i (by omega) hn, arrV_get0 _ z n i (by simp; omega) hn]
      · rw [Array.getElem?_eq_none (by rw [arrV_size l z n (by omega)]; omega), Array.getElem?_eq_none (by rw [arrV_size _ z n (by simp; omega)]; omega)]

theorem arrV_full (l : List Value) (z : Value) (n : Nat) (h : l.length = n) : arrV l z n = l.toArray := by simp [arrV, h]

/-- So many cells, the first of them words. -/
def arrW (l : List Wd) (n : Nat) : Array Value := arrV (l.map W32) (.int .u32 0) n
/-- So many cells, the first of them bytes. -/
def arrB (l : List UInt8) (n : Nat) : Array Value := arrV (l.map B8) (.int .u8 0) n

theorem arrW_size (l : List Wd) (n : Nat) (h : l.length ≤ n) : (arrW l n).size = n := arrV_size _ _ _ (by simpa using h)
theorem arrW_get (l : List Wd) (n i : Nat) (h : i < l.length) : (arrW l n)[i]? = some (.int .u32 (wi (l.getD i 0))) := by
  rw [arrW, arrV_get _ _ _ _ (by simpa using h)]
  simp [List.getD, List.getElem?_eq_getElem h]
theorem arrW_get0 (l : List Wd) (n i : Nat) (h : l.length ≤ i) (h' : i < n) : (arrW l n)[i]? = some (.int .u32 0) := arrV_get0 _ _ _ _ (by simpa using h) h'
theorem arrW_set (l : List Wd) (n k : Nat) (x : Wd) (hk : k = l.length) (h : l.length < n) : (arrW l n).setIfInBounds k (.int .u32 (wi x)) = arrW (l ++ [x]) n := by
  rw [arrW, arrV_set _ _ _ _ _ (by simpa using hk) (by simpa using h)]
  simp [arrW, W32]
theorem arrW_full (l : List Wd) (n : Nat) (h : l.length = n) : arrW l n = (l.map W32).toArray := arrV_full _ _ _ (by simpa using h)

theorem arrB_set (l : List UInt8) (n k : Nat) (x : UInt8) (hk : k = l.length) (h : l.length < n) : (arrB l n).setIfInBounds k (.int .u8 (x.toNat : Int)) = arrB (l ++ [x]) n := by
  rw [arrB, arrV_set _ _ _ _ _ (by simpa using hk) (by simpa using h)]
  simp [arrB, B8]
theorem arrB_full (l : List UInt8) (n : Nat) (h : l.length = n) : arrB l n = (l.map B8).toArray := arrV_full _ _ _ (by simpa using h)
theorem arrB_get0 (l : List UInt8) (n i : Nat) (h : l.length ≤ i) (h' : i < n) : (arrB l n)[i]? = some (.int .u8 0) := arrV_get0 _ _ _ _ (by simpa using h) h'
theorem arrB_size (l : List UInt8) (n : Nat) (h : l.length ≤ n) : (arrB l n).size = n := arrV_size _ _ _ (by simpa using h)

/-- A block of cells behind a store into it. -/
theorem heap_setCell_in (w : World) (g i : Nat) (cs : Array Value) (t : TypeId) (fr : Nat × Nat) (v : Value) (hg : w.heap[g]? = some (.cells cs t fr)) :
    (w.setCell ⟨g, i, none⟩ v).heap[g]? = some (.cells (cs.setIfInBounds i v) t fr) := by
  rw [setCell_eq_setRow w g i cs t fr v hg]
  exact setRow_heap w g cs _ t fr hg

theorem oneW (l : List Value) (h : ∀ v ∈ l, v.oneCell' = true) : l.toArray.all (·.oneCell') = true := by
  simpa using h

theorem oneW_map (l : List Wd) : (l.map W32).toArray.all (·.oneCell') = true := oneW _ fun v h => by
  simp only [List.mem_map] at h
  obtain ⟨x, _, rfl⟩ := h
  rfl

theorem oneB_map (l : List UInt8) : (l.map B8).toArray.all (·.oneCell') = true := oneW _ Bs.one

/-- A row of words, read. -/
theorem row_get {w : World} {g n : Nat} {t : TypeId} {fr : Nat × Nat} {l : List Wd} (hg : w.heap[g]? = some (.cells (arrW l n) t fr)) (i : Nat) (h : i < l.length) : w.cell? ⟨g, i, none⟩ = some (.int .u32 (wi (l.getD i 0))) := by
  rw [cell_of_row w g i _ t fr hg]
  exact arrW_get l n i h

theorem row_some {w : World} {g i : Nat} {cs : Array Value} {t : TypeId} {fr : Nat × Nat} (hg : w.heap[g]? = some (.cells cs t fr)) (h : i < cs.size) : (w.cell? ⟨g, i, none⟩).isSome = true := by
  rw [cell_of_row w g i _ t fr hg]
  simp [h]

theorem rowB_get0 {w : World} {g i n : Nat} {l : List UInt8} {t : TypeId} {fr : Nat × Nat} (hg : w.heap[g]? = some (.cells (arrB l n) t fr)) (h : l.length ≤ i) (h' : i < n) : w.cell? ⟨g, i, none⟩ = some (.int .u8 0) := by
  rw [cell_of_row w g i _ t fr hg]
  exact arrB_get0 l n i h h'
theorem rowW_get0 {w : World} {g i n : Nat} {l : List Wd} {t : TypeId} {fr : Nat × Nat} (hg : w.heap[g]? = some (.cells (arrW l n) t fr)) (h : l.length ≤ i) (h' : i < n) : w.cell? ⟨g, i, none⟩ = some (.int .u32 0) := by
  rw [cell_of_row w g i _ t fr hg]
  exact arrW_get0 l n i h h'

theorem cell_setCell_ne (w : World) (p q : Addr) (v : Value) (h : q.block ≠ p.block) : (w.setCell p v).cell? q = w.cell? q :=
  World.cell?_of_block (Below.heap_setCell _ _ _ _ h)

theorem cell_drew (w : World) (p : Addr) : w.drew.cell? p = w.cell? p := rfl
theorem heap_drew (w : World) : w.drew.heap = w.heap := rfl

theorem cell_set_off (w : World) (g i j : Nat) (v : Value) (h : j ≠ i) : (w.setCell ⟨g, i, none⟩ v).cell? ⟨g, j, none⟩ = w.cell? ⟨g, j, none⟩ :=
  World.cell?_setCell_other w _ _ v (fun e => by cases e; exact h rfl)

theorem free_row {w : World} {g i : Nat} {cs : Array Value} {t : TypeId} (hg : w.heap[g]? = some (.cells cs t (0, 0))) : w.frozen? ⟨g, i, none⟩ = false := by
  simp [World.frozen?, hg]


theorem size_alloc (w : World) (o : Obj) : (w.alloc o).heap.size = w.heap.size + 1 := by simp
theorem heap3_0 (w : World) (A B C : Obj) : (((w.alloc A).alloc B).alloc C).heap[w.heap.size]? = some A := by
  rw [heap_alloc_old _ _ (by simp; omega), heap_alloc_old _ _ (by simp), heap_alloc_new]
theorem heap3_1 (w : World) (A B C : Obj) : (((w.alloc A).alloc B).alloc C).heap[w.heap.size + 1]? = some B := by
  rw [heap_alloc_old _ _ (by simp), heap_alloc2_new]
theorem heap3_2 (w : World) (A B C : Obj) : (((w.alloc A).alloc B).alloc C).heap[w.heap.size + 1 + 1]? = some C := by
  have := heap_alloc_new ((w.alloc A).alloc B) C
  simpa using this
end Go.Proofs.YtkppakhjfagdnaaDoor
