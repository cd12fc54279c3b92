import Derived.Test.YtedffdlkmpmdlaaGreatDoorFz11
import Derived.Test.YtedffdlkmpmdlaaGreatDoorFz13
import Derived.Test.YtedffdlkmpmdlaaGreatDoorFz6
import Derived.Test.YtedffdlkmpmdlaaGreatDoorFz17
import Derived.Great.BuildSlice
import Derived.Great.FillDense
import Derived.Test.YtedffdlkmpmdlaaGreatDoorFz2
import Derived.Test.YtedffdlkmpmdlaaGreatDoorFz4
import Derived.OwnWalk
import Derived.Test.YtedffdlkmpmdlaaGreatDoorFz1
import Derived.Deep.Cut
import Derived.Test.YtedffdlkmpmdlaaGreatDoorFz15
import Derived.Sort.CutIn
import Derived.RangeFuncFrom
import Derived.Scope
set_option maxRecDepth 100000
set_option maxHeartbeats 64000000
namespace Go.Proofs.YtedffdlkmpmdlaaGreatDoor
set_option maxRecDepth 100000
set_option linter.unusedVariables false
set_option linter.unusedSimpArgs false
open Go.RowKit
def z32 : List UInt8 := List.replicate 32 0
theorem z32_length : z32.length = 32 := rfl
def hc (h : List UInt8) : Array Value := (h.map B8).toArray
theorem hc_size {h : List UInt8} (e : h.length = 32) : (hc h).size = 32 := by simp [hc,e]
theorem hc_one (h : List UInt8) : rowOne (hc h) := by
 unfold rowOne hc
 rw [Array.all_eq_true_iff_forall_mem]
 intro v hv
 simp only [List.mem_toArray,List.mem_map] at hv
 obtain ⟨x,_,rfl⟩ := hv
 rfl
theorem hc_one' (h : List UInt8) : ∀ u ∈ h.map B8,u.oneCell' = true := fun u hu => by
 rw [List.mem_map] at hu
 obtain ⟨x,_,rfl⟩ := hu
 rfl
theorem Tryz.szHashJ : (Tryz.prog.info? 25).map (·.size) = some 32 := by kernel_rfl
theorem Tryz.szArrJ : (Tryz.prog.info? 24).map (·.size) = some 32 := by kernel_rfl
theorem Tryz.builtHJ : Tryz.prog.built 25 [] = some (hc z32) := by kernel_rfl
theorem Tryz.infoHashJ : (Tryz.prog.info? 25).map (fun i => (i.zero,i.size,i.bytes)) = some (some (.agg (hc z32)),32,32) := by kernel_rfl
@[go_sem ↓ high] theorem load_hashJ (p : Value) : Instr.loadAt 25 p = loadRowAt 25 p := rfl
@[go_sem ↓ high] theorem store_hashJ (p v : Value) : Instr.storeAt 25 p v = storeRowAt 25 p v := rfl
@[go_sem] theorem run_load_hashJ (w : World) (g : Nat) : (loadRowAt 25 (.pointer (some ⟨g,0,none⟩))).run Tryz.prog w = rowOut Tryz.prog 25 (.pointer (some ⟨g,0,none⟩)) w 32 w.heap[g]? :=
 run_loadRowAt w _ g 32 _ Tryz.underlying25 rfl Tryz.szHashJ
@[go_sem] theorem run_store_hashJ (w : World) (g : Nat) (cells : Array Value) : (storeRowAt 25 (.pointer (some ⟨g,0,none⟩)) (.agg cells)).run Tryz.prog w = rowIn Tryz.prog 25 (.pointer (some ⟨g,0,none⟩)) cells g w 32 w.heap[g]? :=
 run_storeRowAt w _ g 32 cells Tryz.szHashJ
def buildZ (t : TypeId) (parts : Array (Nat × Value)) : Sem Value := Instr.build t parts
@[go_sem ↓ high] theorem build_hashJ (p : Array (Nat × Value)) : Instr.build 25 p = buildZ 25 p := rfl
@[go_sem ↓ high] theorem build_arrJ (p : Array (Nat × Value)) : Instr.build 24 p = buildZ 24 p := rfl
@[go_sem] theorem run_buildZh (w : World) : (buildZ 25 #[]).run Tryz.prog w = .ok (.agg (hc z32)) w := run_build w _ #[] _ Tryz.builtHJ
theorem run_equalIn_hashJ (w : World) (l m : List UInt8) (hl : l.length = 32) (hm : m.length = 32) : (Op.equalIn 10000 25 (.agg (hc l)) (.agg (hc m))).run Tryz.prog w = .ok (decide (l = m)) w := by
 obtain ⟨i0,hi,_⟩ := info_parts Tryz.infoU8
 rw [hc,hc,run_equalIn_array w 9999 _ _ Tryz.underlying25 hi,show Tryz.prog.cellsOf 5 = 1 by kernel_rfl,run_eqItems_bytes w 5 9998 (by kernel_rfl) Tryz.underlying5 l m 32 hl hm _ (fun j hj => List.mem_range.1 hj)]
 congr 1
 rw [Bool.eq_iff_iff]
 simp only [List.all_eq_true,List.mem_range,decide_eq_true_eq]
 constructor
 ·intro h
  apply List.ext_getElem (by omega)
  intro j h1 h2
  have := h j (by omega)
  simpa [List.getD,List.getElem?_eq_getElem h1,List.getElem?_eq_getElem h2] using this
 ·rintro rfl j _
  rfl
structure Hs (w : World) (a : Option Addr) (c : Nat) (l : List (List UInt8)) : Prop where
 sl : Sl w 32 a c l.length (l.flatMap fun h => h.map B8)
 ok : all32 l
theorem Hs.fr {w w' : World} {a : Option Addr} {c : Nat} {l : List (List UInt8)} (h : Hs w a c l) (f : Fr F0 w w') : Hs w' a c l := ⟨Sl.fr h.sl f fun _ _ f => f,h.ok⟩
theorem Hs.room {w : World} {a : Option Addr} {c : Nat} {l : List (List UInt8)} (h : Hs w a c l) : l.length ≤ c ∧ l.length ≤ 9223372036854775807 := ⟨h.sl.room,by have h1 := h.sl.room; have h2 := h.sl.most; unfold maxLen at h2; omega⟩
theorem flat_len : ∀ (l : List (List UInt8)),all32 l → (l.flatMap fun h => h.map B8).length = l.length * 32
 |[],_ => rfl
 |x :: l,h => by
  rw [List.flatMap_cons,List.length_append,flat_len l (fun y hy => h y (by simp [hy])),List.length_map,h x (by simp),List.length_cons]
  omega
theorem flat_at : ∀ (l : List (List UInt8)),all32 l → ∀ k,k < l.length → ∀ j,j < 32 → (l.flatMap fun h => h.map B8)[k * 32 + j]? = ((l.getD k []).map B8)[j]?
 |[],_,k,h,j,_ => absurd h (by simp)
 |x :: l,hl,0,_,j,hj => by
  rw [List.flatMap_cons,Nat.zero_mul,Nat.zero_add,List.getElem?_append_left (by rw [List.length_map,hl x (by simp)]; exact hj)]
  rfl
 |x :: l,hl,k + 1,h,j,hj => by
  have e : (x.map B8).length = 32 := by rw [List.length_map,hl x (by simp)]
  rw [List.flatMap_cons,List.getElem?_append_right (by rw [e]; omega),e,show (k + 1) * 32 + j - 32 = k * 32 + j by omega,flat_at l (fun y hy => hl y (by simp [hy])) k (by simpa using h) j hj]
  rfl
theorem Hs.get {w : World} {a : Option Addr} {c : Nat} {l : List (List UInt8)} (h : Hs w a c l) (k : Nat) (hk : k < l.length) :
  ∃ b off,a = some ⟨b,off,none⟩ ∧ ∀ j u,((l.getD k []).map B8)[j]? = some u → w.cell? ⟨b,off + k * 32 + j,none⟩ = some u := by
 have h0 := h.ok.get hk
 obtain ⟨b,off,e,_⟩ := h.sl.cell (k * 32 + 0) _ ((flat_at l h.ok k hk 0 (by omega)).trans (List.getElem?_eq_getElem (by rw [List.length_map,h0]; omega)))
 refine ⟨b,off,e,fun j u hj => ?_⟩
 have hj' : j < 32 := by have := (List.getElem?_eq_some_iff.1 hj).1; rw [List.length_map,h0] at this; exact this
 obtain ⟨b',off',e',hc⟩ := h.sl.cell (k * 32 + j) u ((flat_at l h.ok k hk j hj').trans hj)
 rw [e] at e'
 cases e'
 rw [Nat.add_assoc]
 exact hc
theorem load_midH {w : World} {b o : Nat} {h : List UInt8} (hl : h.length = 32) (hc' : ∀ j u,(h.map B8)[j]? = some u → w.cell? ⟨b,o + j,none⟩ = some u) : (loadRowAt 25 (.pointer (some ⟨b,o,none⟩))).run Tryz.prog w = .ok (.agg (hc h)) w :=
 run_loadAt_mid (P := Tryz.prog) w b o 25 (h.map B8) _ hc' Tryz.underlying25 rfl (by rw [Tryz.szHashJ,List.length_map,hl])
theorem load_midA {w : World} {b o : Nat} {h : List UInt8} (hl : h.length = 32) (hc' : ∀ j u,(h.map B8)[j]? = some u → w.cell? ⟨b,o + j,none⟩ = some u) : (loadRowAt 24 (.pointer (some ⟨b,o,none⟩))).run Tryz.prog w = .ok (.agg (hc h)) w :=
 run_loadAt_mid (P := Tryz.prog) w b o 24 (h.map B8) _ hc' Tryz.underlying24 rfl (by rw [Tryz.szArrJ,List.length_map,hl])
theorem Hs.load {w : World} {a : Option Addr} {c : Nat} {l : List (List UInt8)} (h : Hs w a c l) (k : Nat) (hk : k < l.length) :
  ∃ b off,a = some ⟨b,off,none⟩ ∧ (∀ W,Fr F0 w W → (loadRowAt 25 (.pointer (some ⟨b,off + k * 32,none⟩))).run Tryz.prog W = .ok (.agg (hc (l.getD k []))) W) ∧
   (∀ W,Fr F0 w W → (loadRowAt 24 (.pointer (some ⟨b,off + k * 32,none⟩))).run Tryz.prog W = .ok (.agg (hc (l.getD k []))) W) := by
 obtain ⟨b,off,e,_⟩ := h.get k hk
 refine ⟨b,off,e,fun W f => ?_,fun W f => ?_⟩
 ·obtain ⟨b',off',e',hc'⟩ := (h.fr f).get k hk
  rw [e] at e'
  cases e'
  exact load_midH (h.ok.get hk) hc'
 ·obtain ⟨b',off',e',hc'⟩ := (h.fr f).get k hk
  rw [e] at e'
  cases e'
  exact load_midA (h.ok.get hk) hc'
structure OwnL (et : TypeId) (B : Nat) (w : World) (v : Value) (l : List (List UInt8)) : Prop where
 own : w.ownsRow 0 et 32 v l.length (l.flatMap fun h => h.map B8)
 blk : ∀ k,v.ownBlock = some k → B ≤ k
 ok : all32 l
theorem OwnL.nil (et : TypeId) (B : Nat) (w : World) : OwnL et B w (.slice none 0 0) [] := ⟨World.ownsRow_nil _ _ _ _,fun k h => (by cases h),fun x h => (by cases h)⟩
theorem own_frJ {S : Nat → Prop} {w w' : World} {base e size n : Nat} {v : Value} {xs : List Value} (h : w.ownsRow base e size v n xs) (hf : Fr S w w') (hs : ∀ k,v.ownBlock = some k → ¬ S k) : w'.ownsRow base e size v n xs := by
 refine ⟨h.1,?_⟩
 rcases h.2 with hn | ⟨g,cap,cur,rfl,hb,hg,r⟩
 ·exact .inl hn
 ·exact .inr ⟨g,cap,cur,rfl,hb,hf.keeps (hs g rfl) hg,r⟩
theorem OwnL.frS {et B : Nat} {S : Nat → Prop} {w w' : World} {v : Value} {l : List (List UInt8)} (h : OwnL et B w v l) (f : Fr S w w') (h1 : ∀ k,v.ownBlock = some k → ¬ S k) : OwnL et B w' v l := ⟨own_frJ h.own f h1,h.blk,h.ok⟩
theorem OwnL.fr0 {et B : Nat} {w w' : World} {v : Value} {l : List (List UInt8)} (h : OwnL et B w v l) (f : Fr F0 w w') : OwnL et B w' v l := h.frS f fun _ _ e => e
theorem OwnL.mono {et B B' : Nat} {w : World} {v : Value} {l : List (List UInt8)} (h : OwnL et B w v l) (hb : B' ≤ B) : OwnL et B' w v l := ⟨h.own,fun k hk => Nat.le_trans hb (h.blk k hk),h.ok⟩
theorem OwnL.is {et B : Nat} {w : World} {v : Value} {l : List (List UInt8)} (h : OwnL et B w v l) : ∃ a c,v = .slice a l.length c ∧ Hs w a c l := by
 obtain ⟨a,c,rfl⟩ := own_slice h.own
 exact ⟨a,c,rfl,(Sl.of_own h.own).2,h.ok⟩
theorem run_slice1J {P : Program} (w : World) (t e : TypeId) (X : Array Value) (n : Nat) (ie : TypeInfo) (z : Value) (hu : P.underlying t = some (.slice e)) (hie : P.info? e = some ie) (hz : ie.zero = some z) (hs : ie.size = n) (h0 : 0 < n) (h1 : n ≤ 1000) (hX : X.size = n) :
  (Instr.buildSlice t 1 #[(0,.agg X)]).run P w = .ok (.slice (some ⟨w.heap.size,0,none⟩) 1 1) (w.alloc (.cells X e)) := by
 subst hs
 refine run_buildSlice w t e 1 _ X ie z hu hie hz (by rw [Nat.one_mul]; have : 2 ^ 24 = 16777216 := rfl; omega) (by omega) ?_
 have := Great.fill_whole h0 [.agg X] ((Array.range (1 * ie.size)).map (z.cells[· % z.cells.size]!)) (fun v hv => by rw [List.mem_singleton] at hv; subst hv; exact hX) (by simp)
 simpa [Value.cells] using this
def buildL (t : TypeId) (parts : Array (Nat × Value)) : Sem Value := Instr.buildSlice t 1 parts
@[go_sem ↓ high] theorem build_L1 (p : Array (Nat × Value)) : Instr.buildSlice 54 1 p = buildL 54 p := rfl
theorem run_buildLh (w : World) (X : Array Value) (h : X.size = 32) : (buildL 54 #[(0,.agg X)]).run Tryz.prog w = .ok (.slice (some ⟨w.heap.size,0,none⟩) 1 1) (w.alloc (.cells X 25)) := by
 obtain ⟨i0,hi,hz,hs,_⟩ := info_parts Tryz.infoHashJ
 exact run_slice1J w 54 25 X 32 i0 _ Tryz.underlying54 hi hz hs (by omega) (by omega) h
def appL (t ty : TypeId) (args : Array Value) : Sem Value := Builtin.append_ #[t,t] ty args
@[go_sem ↓ high] theorem app_L1 (ty : TypeId) (args : Array Value) : Builtin.append_ #[54,54] ty args = appL 54 ty args := rfl
theorem OwnL.app' {st et B : Nat} (hu : Tryz.prog.underlying st = some (.slice et)) {z : Value} (hi3 : (Tryz.prog.info? et).map (fun i => (i.zero,i.size,i.bytes)) = some (some z,32,32)) (hzc : z.cells.size = 32)
  {w : World} {v : Value} {l : List (List UInt8)} (h : OwnL et B w v l) (x : List UInt8) (hx : x.length = 32) (hB : B ≤ w.heap.size) (hl : l.length ≤ 100000) (ty : TypeId) :
  ∃ a c w',(appL st ty #[v,.slice (some ⟨w.heap.size,0,none⟩) 1 1]).run Tryz.prog (w.alloc (.cells (hc x) et)) = .ok (.slice a (l.length + 1) c) w' ∧ OwnL et B w' (.slice a (l.length + 1) c) (l ++ [x]) ∧
   Fr (fun k => v.ownBlock = some k) w w' ∧ w.heap.size < w'.heap.size ∧ ∀ k,ablk a = some k → v.ownBlock = some k ∨ w.heap.size ≤ k := by
 obtain ⟨i0,hi,hz,hs,hb⟩ := info_parts hi3
 obtain ⟨W,hW⟩ : ∃ W,W = w.alloc (.cells (hc x) et) := ⟨_,rfl⟩
 have hnew := heap_alloc_new w (.cells (hc x) et)
 have fW : Fr F0 w W := by rw [hW]; exact (Fr.refl F0 w).alloc _
 have sW : W.heap.size = w.heap.size + 1 := by rw [hW]; simp
 rw [← hW] at hnew ⊢
 have hsl : Sl W 32 (some ⟨w.heap.size,0,none⟩) 1 1 (x.map B8) := ⟨by rw [List.length_map,hx],Nat.le_refl _,by unfold maxLen; omega,(fun e => by cases e),fun j u hj => ⟨_,_,rfl,by rw [cell_at,hnew,cellAt_cells,Nat.zero_add,hc]; simpa using hj⟩⟩
 obtain ⟨v',w',hrun,hown,hg,hnw⟩ := run_app (P := Tryz.prog) (w := W) st ty et i0 _ 32 32 hu hi hz hs hb hzc (by omega) v l.length _ (own_frJ h.own fW fun _ _ f => f) (some ⟨w.heap.size,0,none⟩) 1 1 (x.map B8) hsl
  (hc_one' x) (by unfold maxLen; omega) (by omega)
 obtain ⟨a,c,rfl⟩ := own_slice hown
 have F : Fr (fun k => v.ownBlock = some k) w w' := (fW.of0).grown hg fun k hk hl => hk
 have hnw' : ∀ k,ablk a = some k → v.ownBlock = some k ∨ w.heap.size ≤ k := fun k hk => by
  rcases hnw k (by rw [ablk_own]; exact hk) with e | e
  ·exact .inl e
  ·exact .inr (by omega)
 refine ⟨a,c,w',hrun,⟨?_,fun k hk => ?_,fun y hy => ?_⟩,F,by have := hg.size; omega,hnw'⟩
 ·rw [List.length_append,List.flatMap_append]
  simpa using hown
 ·rw [ablk_own] at hk
  rcases hnw' k hk with e | e
  ·exact h.blk k e
  ·omega
 ·rw [List.mem_append,List.mem_singleton] at hy
  rcases hy with hy | rfl
  ·exact h.ok y hy
  ·exact hx
theorem OwnL.appH {B : Nat} {w : World} {v : Value} {l : List (List UInt8)} (h : OwnL 25 B w v l) (x : List UInt8) (hx : x.length = 32) (hB : B ≤ w.heap.size) (hl : l.length ≤ 100000) (ty : TypeId) :
  ∃ a c w',(appL 54 ty #[v,.slice (some ⟨w.heap.size,0,none⟩) 1 1]).run Tryz.prog (w.alloc (.cells (hc x) 25)) = .ok (.slice a (l.length + 1) c) w' ∧ OwnL 25 B w' (.slice a (l.length + 1) c) (l ++ [x]) ∧
   Fr (fun k => v.ownBlock = some k) w w' ∧ w.heap.size < w'.heap.size ∧ ∀ k,ablk a = some k → v.ownBlock = some k ∨ w.heap.size ≤ k :=
 h.app' Tryz.underlying54 Tryz.infoHashJ rfl x hx hB hl ty
def buildL0 (t : TypeId) (parts : Array (Nat × Value)) : Sem Value := Instr.buildSlice t 0 parts
@[go_sem ↓ high] theorem build_L01 (p : Array (Nat × Value)) : Instr.buildSlice 54 0 p = buildL0 54 p := rfl
theorem run_slice0 {P : Program} (w : World) (t e : TypeId) (ie : TypeInfo) (z : Value) (hu : P.underlying t = some (.slice e)) (hie : P.info? e = some ie) (hz : ie.zero = some z) :
  (Instr.buildSlice t 0 #[]).run P w = .ok (.slice (some ⟨w.heap.size,0,none⟩) 0 0) (w.alloc (.cells #[] e)) := by
 simp [Instr.buildSlice,run_underlying hu,sizeOf,typeInfo,zeroValue,hie,hz,newRow,Instr.fill,Array.range_zero']
theorem run_buildL0h (w : World) : (buildL0 54 #[]).run Tryz.prog w = .ok (.slice (some ⟨w.heap.size,0,none⟩) 0 0) (w.alloc (.cells #[] 25)) := by
 obtain ⟨i0,hi,hz,hs,_⟩ := info_parts Tryz.infoHashJ
 exact run_slice0 w 54 25 i0 _ Tryz.underlying54 hi hz
attribute [go_sem] run_buildL0h
end Go.Proofs.YtedffdlkmpmdlaaGreatDoor
namespace Go.Proofs.YtedffdlkmpmdlaaGreatDoor
set_option maxRecDepth 100000
set_option linter.unusedVariables false
set_option linter.unusedSimpArgs false
open Go.RowKit
def Bk.cells (b : Bk) : List Value := b.hash.map B8 ++ [.int .i64 b.ahead,.int .u32 (b.time : Int),.int .u32 (b.bits : Int),b.bytes]
structure Bks (w : World) (a : Option Addr) (c : Nat) (L : List Bk) : Prop where
 sl : Sl w 36 a c L.length (L.flatMap Bk.cells)
 ok : ∀ b ∈ L,b.Ok
end Go.Proofs.YtedffdlkmpmdlaaGreatDoor
namespace Go.Proofs.YtedffdlkmpmdlaaGreatDoor
set_option maxRecDepth 100000
set_option linter.unusedVariables false
set_option linter.unusedSimpArgs false
open Go.RowKit
end Go.Proofs.YtedffdlkmpmdlaaGreatDoor
namespace Go.Proofs.YtedffdlkmpmdlaaGreatDoor
set_option maxRecDepth 100000
set_option linter.unusedVariables false
set_option linter.unusedSimpArgs false
open Go.RowKit
theorem tipsN_le (L : List Bk) (n : Nat) : tipsN L n ≤ n := by
 unfold tipsN
 have := List.countP_le_length (p := fun i => isTip L i) (l := List.range n)
 simpa using this
end Go.Proofs.YtedffdlkmpmdlaaGreatDoor
namespace Go.Proofs.YtedffdlkmpmdlaaGreatDoor
set_option maxRecDepth 100000
set_option linter.unusedVariables false
set_option linter.unusedSimpArgs false
open Go.RowKit
end Go.Proofs.YtedffdlkmpmdlaaGreatDoor
namespace Go.Proofs.YtedffdlkmpmdlaaGreatDoor
set_option maxRecDepth 100000
set_option linter.unusedVariables false
set_option linter.unusedSimpArgs false
open Go.RowKit
def I64 (x : Nat) : Value := .int .i64 (x : Int)
def Is (w : World) (a : Option Addr) (c : Nat) (l : List Nat) : Prop := Sl w 1 a c l.length (l.map I64)
end Go.Proofs.YtedffdlkmpmdlaaGreatDoor
namespace Go.Proofs.YtedffdlkmpmdlaaGreatDoor
set_option maxRecDepth 100000
set_option linter.unusedVariables false
set_option linter.unusedSimpArgs false
open Go.RowKit
end Go.Proofs.YtedffdlkmpmdlaaGreatDoor
namespace Go.Proofs.YtedffdlkmpmdlaaGreatDoor
set_option maxRecDepth 100000
set_option linter.unusedVariables false
set_option linter.unusedSimpArgs false
open Go.RowKit
end Go.Proofs.YtedffdlkmpmdlaaGreatDoor
namespace Go.Proofs.YtedffdlkmpmdlaaGreatDoor
set_option maxRecDepth 100000
set_option linter.unusedVariables false
set_option linter.unusedSimpArgs false
open Go.RowKit
end Go.Proofs.YtedffdlkmpmdlaaGreatDoor
namespace Go.Proofs.YtedffdlkmpmdlaaGreatDoor
set_option maxRecDepth 100000
set_option linter.unusedVariables false
set_option linter.unusedSimpArgs false
open Go.RowKit
end Go.Proofs.YtedffdlkmpmdlaaGreatDoor
namespace Go.Proofs.YtedffdlkmpmdlaaGreatDoor
set_option maxRecDepth 100000
set_option linter.unusedVariables false
set_option linter.unusedSimpArgs false
open Go.RowKit
def plC (r i n : Nat) : Array Value := #[.int .i64 (r : Int),.int .i64 (i : Int),.int .i64 (n : Int)]
end Go.Proofs.YtedffdlkmpmdlaaGreatDoor
namespace Go.Proofs.YtedffdlkmpmdlaaGreatDoor
set_option maxRecDepth 100000
set_option linter.unusedVariables false
set_option linter.unusedSimpArgs false
open Go.RowKit Go.Shelf
section
variable {n : Nat} {P : Program}
end
def plk (i n : Nat) : Nat → Nat × Nat × Nat
 |0 => (0,i,n)
 |k + 1 => ((plk i n k).1 + 1,(plk i n k).2.1 / 2,((plk i n k).2.2 + 1) / 2)
abbrev encP (x : Nat × Nat × Nat) : Array Value := #[.agg (plC x.1 x.2.1 x.2.2)]
end Go.Proofs.YtedffdlkmpmdlaaGreatDoor
namespace Go.Proofs.YtedffdlkmpmdlaaGreatDoor
set_option maxRecDepth 100000
set_option linter.unusedVariables false
set_option linter.unusedSimpArgs false
open Go.RowKit Go.Shelf
def cn (N k : Nat) : Nat := if 2 * k + 1 < N then 2 else 1
abbrev encK (N : Nat) (a : Option Addr) (k : Nat) : Array Value := #[.slice (a.map fun x => ⟨x.block,x.off + 2 * k * 32,none⟩) (cn N k) (cn N k)]
end Go.Proofs.YtedffdlkmpmdlaaGreatDoor
namespace Go.Proofs.YtedffdlkmpmdlaaGreatDoor
set_option maxRecDepth 100000
set_option linter.unusedVariables false
set_option linter.unusedSimpArgs false
open Go.RowKit Go.Shelf
attribute [local go_sem] Oper.semAt_some
end Go.Proofs.YtedffdlkmpmdlaaGreatDoor
namespace Go.Proofs.YtedffdlkmpmdlaaGreatDoor
set_option maxRecDepth 100000
set_option linter.unusedVariables false
set_option linter.unusedSimpArgs false
open Go.RowKit
end Go.Proofs.YtedffdlkmpmdlaaGreatDoor
namespace Go.Proofs.YtedffdlkmpmdlaaGreatDoor
set_option maxRecDepth 100000
set_option linter.unusedVariables false
set_option linter.unusedSimpArgs false
open Go.RowKit Go.Shelf
end Go.Proofs.YtedffdlkmpmdlaaGreatDoor
namespace Go.Proofs.YtedffdlkmpmdlaaGreatDoor
set_option maxRecDepth 100000
set_option linter.unusedVariables false
set_option linter.unusedSimpArgs false
open Go.RowKit Go.Shelf
attribute [local go_sem] Oper.semAt_some
structure WayS (B g7 g8 gp i n : Nat) (T : List (List UInt8)) (k : Nat) (W : World) (v : Value) (out row : List (List UInt8)) (b : Option Addr) (d : Nat) : Prop where
 h7 : W.heap[g7]? = some (.cells #[v] 54 (0,0))
 h8 : W.heap[g8]? = some (.cells #[.slice b row.length d] 54 (0,0))
 own : OwnL 25 B W v out
 hs : Hs W b d row
 len : row.length = (plk i n k).2.2
 len1 : row.length ≤ 1000
 way : out ++ wayM row (plk i n k).2.1 = T
 d1 : ∀ k,v.ownBlock = some k → k ≠ g7 ∧ k ≠ g8 ∧ k ≠ gp
 d2 : ∀ k,ablk b = some k → k ≠ g7 ∧ k ≠ g8 ∧ k ≠ gp ∧ v.ownBlock ≠ some k
 pos : 0 < row.length
end Go.Proofs.YtedffdlkmpmdlaaGreatDoor
namespace Go.Proofs.YtedffdlkmpmdlaaGreatDoor
set_option maxRecDepth 100000
set_option linter.unusedVariables false
set_option linter.unusedSimpArgs false
open Go.RowKit Go.Shelf
end Go.Proofs.YtedffdlkmpmdlaaGreatDoor
namespace Go.Proofs.YtedffdlkmpmdlaaGreatDoor
set_option maxRecDepth 100000
set_option linter.unusedVariables false
set_option linter.unusedSimpArgs false
open Go.RowKit Go.Shelf
attribute [local go_sem] Oper.semAt_some
structure ClS (g4 g7 g8 g10 : Nat) (Z : Array Value) (wy : List (List UInt8)) (b : Option Addr) (d i n : Nat) (T : Option (List UInt8)) (k : Nat) (W : World) (H : List UInt8) : Prop where
 h4 : W.heap[g4]? = some (.cells (hc H) 25 (0,0))
 h7 : W.heap[g7]? = some (.cells #[.slice b wy.length d] 54 (0,0))
 h8 : W.heap[g8]? = some (.cells Z 25 (0,0))
 h10 : W.heap[g10]? = some (.cells #[.int .i64 0] 32 (0,0))
 len : H.length = 32
 way : climbM (wy.drop k) H (plk i n k).2.1 (plk i n k).2.2 = T
structure ClX (g4 g8 g10 : Nat) (Z : Array Value) (T : Option (List UInt8)) (W : World) : Prop where
 h4 : W.heap[g4]? = some (.cells (hc z32) 25 (0,0))
 h8 : W.heap[g8]? = some (.cells Z 25 (0,0))
 h10 : W.heap[g10]? = some (.cells #[.int .i64 14] 32 (0,0))
 way : T = none
end Go.Proofs.YtedffdlkmpmdlaaGreatDoor
namespace Go.Proofs.YtedffdlkmpmdlaaGreatDoor
set_option maxRecDepth 100000
set_option linter.unusedVariables false
set_option linter.unusedSimpArgs false
open Go.RowKit Go.Shelf
end Go.Proofs.YtedffdlkmpmdlaaGreatDoor
namespace Go.Proofs.YtedffdlkmpmdlaaGreatDoor
set_option maxRecDepth 100000
set_option linter.unusedVariables false
set_option linter.unusedSimpArgs false
open Go.RowKit Go.Shelf
end Go.Proofs.YtedffdlkmpmdlaaGreatDoor
