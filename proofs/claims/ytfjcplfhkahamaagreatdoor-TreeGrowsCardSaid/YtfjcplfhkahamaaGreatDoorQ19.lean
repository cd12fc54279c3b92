import Derived.Test.YtfjcplfhkahamaaGreatDoorQ18
import Derived.Test.YtfjcplfhkahamaaGreatDoorQ3
import Derived.OwnWalk
namespace Go.Proofs.YtfjcplfhkahamaaGreatDoor
set_option linter.unusedVariables false
set_option linter.unusedSimpArgs false
open Go.RowKit
theorem Tryz.infoN03 : (Tryz.prog.info? 93).map (fun i => (i.zero,i.size,i.bytes)) = some (some (.slice none 0 0),1,24) := by kernel_rfl
def isSl (u : Value) : Prop := ∃ a n c,u = .slice a n c
structure GrowN (w : World) (g n cap : Nat) (cur : Array Value) : Prop where
 at_ : w.heap[g]? = some (.cells cur 93 (0,0))
 le : n ≤ cap
 size : cur.size = cap
 sl : ∀ u ∈ cur.toList,isSl u
theorem GrowN.new (w : World) : GrowN (w.alloc (.cells #[] 93)) w.heap.size 0 0 #[] := ⟨heap_alloc_new _ _,Nat.le_refl _,rfl,fun u h => by simp at h⟩
theorem GrowN.fr {w w' : World} {g n cap : Nat} {cur : Array Value} (h : GrowN w g n cap cur) (f : Fr F0 w w') : GrowN w' g n cap cur := ⟨keep_fr f h.at_,h.le,h.size,h.sl⟩
theorem zeroN (k : Nat) : ∀ u ∈ (Builtin.zeroCells (Value.slice none 0 0).cells k).toList,isSl u := by
 intro u hu
 simp [Builtin.zeroCells,Value.cells] at hu
 obtain ⟨j,_,e⟩ := hu
 rw [Nat.mod_one] at e
 exact ⟨none,0,0,e.symm⟩
def appN (t ty : TypeId) (args : Array Value) : Sem Value := Builtin.append_ #[t,t] ty args
@[go_sem ↓ high] theorem app_N1 (ty : TypeId) (args : Array Value) : Builtin.append_ #[141,141] ty args = appN 141 ty args := rfl
theorem GrowN.app {w : World} {g n cap : Nat} {cur : Array Value} (h : GrowN w g n cap cur) (a : Option Addr) (m c : Nat) (hn : n ≤ 100000) (ty : TypeId) :
  ∃ g' cap' cur' w',(appN 141 ty #[.slice (some ⟨g,0,none⟩) n cap,.slice (some ⟨w.heap.size,0,none⟩) 1 1]).run Tryz.prog (w.alloc (.cells #[.slice a m c] 93)) = .ok (.slice (some ⟨g',0,none⟩) (n + 1) cap') w' ∧
   GrowN w' g' (n + 1) cap' cur' ∧ cur'.toList.take (n + 1) = cur.toList.take n ++ [.slice a m c] ∧ Fr (fun k => k = g) w w' ∧ (g' = g ∨ w.heap.size ≤ g') := by
 obtain ⟨i0,hi,hz,hs,hb⟩ := info_parts Tryz.infoN03
 have hnew : ∀ j u,[Value.slice a m c][j]? = some u → (w.alloc (.cells #[.slice a m c] 93)).cell? ((⟨w.heap.size,0,none⟩ : Addr).add j) = some u := by
  intro j u hj
  rw [Addr.add_lit,Nat.zero_add,cell_of_row _ _ _ _ _ _ (heap_alloc_new w _)]
  simpa using hj
 have hat := keep_alloc (o := .cells #[.slice a m c] 93) h.at_
 have hgl : g < w.heap.size := (Array.getElem?_eq_some_iff.1 h.at_).1
 have hle := h.le
 have hsz := h.size
 by_cases hroom : n + 1 ≤ cap
 ·have hr := run_append_room (P := Tryz.prog) (w := w.alloc (.cells #[.slice a m c] 93)) 141 ty 93 i0 Tryz.underlying141 hi g n cap cur hat ⟨w.heap.size,0,none⟩ 1 1 [.slice a m c] (by rw [hs]; rfl) hnew (by intro u hu; simp at hu; rw [hu]; rfl) hroom (by rw [hs]; simp; omega)
  rw [hs,Nat.mul_one] at hr
  obtain ⟨C2,hC2⟩ : ∃ C2,C2 = (cur.toList.take n ++ [Value.slice a m c] ++ cur.toList.drop (n + [Value.slice a m c].length)).toArray := ⟨_,rfl⟩
  rw [← hC2] at hr
  refine ⟨g,cap,C2,_,hr,⟨new_row hat,hroom,?_,?_⟩,?_,?_,.inl rfl⟩
  ·rw [hC2]; simp; omega
  ·intro u hu
   rw [hC2] at hu
   simp only [List.mem_append] at hu
   rcases hu with (hu | hu) | hu
   ·exact h.sl u (List.mem_of_mem_take hu)
   ·simp at hu; exact ⟨_,_,_,hu⟩
   ·exact h.sl u (List.mem_of_mem_drop hu)
  ·rw [hC2]
   show List.take (n + 1) (cur.toList.take n ++ [Value.slice a m c] ++ _) = _
   rw [List.take_append_of_le_length (by simp; omega)]
   rw [List.take_of_length_le (by simp only [List.length_append,List.length_take,List.length_singleton]; omega)]
  ·exact Fr.setRow (S := fun k => k = g) (((Fr.refl F0 w).alloc _).of0) (fun _ => rfl) _
 ·have hcap : cap = n := by omega
  have hold : ∀ j v,(cur.toList.take n)[j]? = some v → (w.alloc (.cells #[.slice a m c] 93)).cell? ((⟨g,0,none⟩ : Addr).add j) = some v := by
   intro j u hj
   rw [Addr.add_lit,Nat.zero_add,cell_of_row _ _ _ _ _ _ hat]
   rw [List.getElem?_take] at hj
   split at hj
   ·simpa using hj
   ·cases hj
  have hr := run_append_grow (P := Tryz.prog) (w := w.alloc (.cells #[.slice a m c] 93)) 141 ty 93 i0 (.slice none 0 0) Tryz.underlying141 hi hz ⟨g,0,none⟩ n cap (cur.toList.take n) (by rw [hs]; simp; omega) hold ⟨w.heap.size,0,none⟩ 1 1 [.slice a m c] (by rw [hs]; rfl) hnew (by omega) (by omega) (growslice_fits (by omega) (by rw [hb]; omega))
  obtain ⟨GC,hGC⟩ : ∃ GC,GC = grownCap (w.alloc (.cells #[.slice a m c] 93)) (n + 1) cap 93 := ⟨_,rfl⟩
  have hge := grownCap_ge (w.alloc (.cells #[.slice a m c] 93)) (n + 1) cap 93
  rw [← hGC] at hr hge
  obtain ⟨C2,hC2⟩ : ∃ C2,C2 = (cur.toList.take n).toArray ++ [Value.slice a m c].toArray ++ Builtin.zeroCells (Value.slice none 0 0).cells (GC - (n + 1)) := ⟨_,rfl⟩
  rw [← hC2] at hr
  refine ⟨_,GC,C2,_,hr,⟨heap_alloc_new _ _,hge,?_,?_⟩,?_,?_,.inr (by simp)⟩
  ·rw [hC2]
   simp only [Array.size_append,List.size_toArray,List.length_take,List.length_singleton,size_zeroCells]
   rw [show (Value.slice none 0 0).cells.size = 1 from rfl,Array.length_toList]
   omega
  ·intro u hu
   rw [hC2] at hu
   simp only [Array.toList_append,List.mem_append] at hu
   rcases hu with (hu | hu) | hu
   ·exact h.sl u (List.mem_of_mem_take hu)
   ·simp at hu; exact ⟨_,_,_,hu⟩
   ·exact zeroN _ u hu
  ·rw [hC2]
   simp only [Array.toList_append]
   rw [List.take_append_of_le_length (by simp; omega)]
   rw [List.take_of_length_le (by simp only [List.length_append,List.length_take,List.length_singleton]; omega)]
  ·exact ((((Fr.refl F0 w).alloc _).drew.alloc _).of0)
theorem GrowN.keepN {w w' : World} {g n cap : Nat} {cur : Array Value} (h : GrowN w g n cap cur) {a : Option Addr} {c x : Nat} (hx : Ns w a c x) (f : Fr (fun k => k = g) w w') : Ns w' a c x := by
 refine Sl.frn hx f fun hne b hb e => ?_
 subst e
 obtain ⟨u,hu⟩ : ∃ u,((dg x).map U64)[0]? = some u := by
  cases h0 : (dg x).map U64 with
  |nil => exact absurd h0 hne
  |cons u r => exact ⟨u,rfl⟩
 obtain ⟨b',off,e,hc⟩ := hx.cell 0 u hu
 subst e
 cases hb
 rw [cell_of_row _ _ _ _ _ _ h.at_] at hc
 have hm : u ∈ cur.toList := by
  have := Array.getElem?_eq_some_iff.1 hc
  obtain ⟨h1,h2⟩ := this
  rw [← h2]
  simp
 obtain ⟨a2,n2,c2,e2⟩ := h.sl u hm
 rw [List.getElem?_map] at hu
 cases h1 : (dg x)[0]? with
 |none => rw [h1] at hu; cases hu
 |some z =>
  rw [h1] at hu
  simp [U64] at hu
  rw [← hu] at e2
  cases e2
end Go.Proofs.YtfjcplfhkahamaaGreatDoor
