import Derived.Test.YtohckefafbhooaaGreatF2
import Derived.Deep.MidRow
import Derived.RangeFuncFrom
import Derived.Great.FillDense
import Derived.Great.BuildSlice
import Derived.Deep.Cut
import Derived.Deep.CutBlock
import Derived.Test.YtohckefafbhooaaGreatF1
import Derived.Sort.LotC
import Derived.Sort.LotA
namespace Go.Proofs.YtohckefafbhooaaGreat
set_option maxRecDepth 100000
set_option linter.unusedVariables false
set_option linter.unusedSimpArgs false
open Go.RowKit
theorem wp_put {P : Program} {c : Code} {Q : Exit → Act → World → Prop} {a : Act} {w : World} {z cs : Array Value} {t : TypeId} (k : ∀ W,NewRow w W w.heap.size cs t → Code.wp P c Q a W) : Code.wp P c Q a ((w.alloc (.cells z t)).setRow w.heap.size cs) := k _ (put_new w z cs t)
theorem wp_new {P : Program} {c : Code} {Q : Exit → Act → World → Prop} {a : Act} {w : World} {z : Array Value} {t : TypeId} (k : ∀ W,NewRow w W w.heap.size z t → Code.wp P c Q a W) : Code.wp P c Q a (w.alloc (.cells z t)) := k _ ⟨heap_alloc_new _ _,fun h => keep_alloc h,(Fr.refl F0 w).alloc _,fun h => by have := (Array.getElem?_eq_some_iff.1 h).1; omega⟩
def midOut (P : Program) (t : TypeId) (p : Value) (w : World) (n o m : Nat) : Option Obj → Result Value
 |some (.cells cs _ _) => if cs.size = m then .ok (.agg (cs.extract o (o + n))) w else (loadRowAt t p).run P w
 |_ => (loadRowAt t p).run P w
theorem midOut_cells {P : Program} {t : TypeId} {p : Value} {w : World} {n o m : Nat} {cs : Array Value} {t' : TypeId} {fr : Nat × Nat} (h : cs.size = m) :
  midOut P t p w n o m (some (.cells cs t' fr)) = .ok (.agg (cs.extract o (o + n))) w := if_pos h
theorem cell_is {C : Array Value} {i : Nat} {v : Value} (h : C[i]? = some v) (hi : i < C.size) : C[i] = v := (Array.getElem?_eq_some_iff.1 h).2
def putMid (cs : Array Value) (o : Nat) : List Value → Array Value
 |[] => cs
 |v :: r => putMid (cs.setIfInBounds o v) (o + 1) r
def midIn (P : Program) (t : TypeId) (p : Value) (cells : Array Value) (g : Nat) (w : World) (n o m : Nat) : Option Obj → Result Unit
 |some (.cells cs _ fr) => if fr = (0,0) ∧ cs.size = m ∧ cells.size = n ∧ cells.all (·.oneCell') = true then .ok () (w.setRow g (putMid cs o cells.toList)) else (storeRowAt t p (.agg cells)).run P w
 |_ => (storeRowAt t p (.agg cells)).run P w
theorem midIn_cells {P : Program} {t : TypeId} {p : Value} {cells : Array Value} {g : Nat} {w : World} {n o m : Nat} {cs : Array Value} {t' : TypeId} (h : cs.size = m) (h1 : cells.size = n) (h2 : rowOne cells) :
  midIn P t p cells g w n o m (some (.cells cs t' (0,0))) = .ok () (w.setRow g (putMid cs o cells.toList)) := if_pos ⟨rfl,h,h1,h2⟩
attribute [simp high] midOut_cells midIn_cells
end Go.Proofs.YtohckefafbhooaaGreat
namespace Go.Proofs.YtohckefafbhooaaGreat
set_option maxRecDepth 100000
set_option linter.unusedVariables false
set_option linter.unusedSimpArgs false
open Go.RowKit
theorem own_frE {S : Nat → Prop} {w w' : World} {base e size n : Nat} {v : Value} {xs : List Value} (h : w.ownsRow base e size v n xs) (hf : Fr S w w') (hs : ∀ k,v.ownBlock = some k → ¬ S k) : w'.ownsRow base e size v n xs := by
 refine ⟨h.1,?_⟩
 rcases h.2 with hn | ⟨g,cap,cur,rfl,hb,hg,r⟩
 ·exact .inl hn
 ·exact .inr ⟨g,cap,cur,rfl,hb,hf.keeps (hs g rfl) hg,r⟩
theorem grown_frE {A D : World} {row : Option Nat} (hg : A.grownBy D row) : Fr (fun k => row = some k) A D := (Fr.refl _ A).grown hg fun k hk _ => hk
theorem cell_notE {A : World} {B : Nat} {row : Option Nat} {k : Nat} {cs : Array Value} {t : TypeId} {fr : Nat × Nat} (hr : ∀ r,row = some r → B ≤ r ∧ ∃ o : Obj,A.heap[r]? = some o ∧ o.isCells = false) (h : A.heap[k]? = some (.cells cs t fr)) : ¬ row = some k := fun e => by
 obtain ⟨_,o,ho,hc⟩ := hr k e
 rw [h] at ho
 cases ho
 cases hc
theorem row_notE {A : World} {B : Nat} {row : Option Nat} {e0 size n : Nat} {v : Value} {xs : List Value} (hr : ∀ r,row = some r → B ≤ r ∧ ∃ o : Obj,A.heap[r]? = some o ∧ o.isCells = false) (h : A.ownsRow 0 e0 size v n xs) : ∀ k,v.ownBlock = some k → ¬ row = some k := fun k hk => by
 rcases h.2 with ⟨rfl,_⟩ | ⟨g,cap,cur,rfl,_,hg,_⟩
 ·cases hk
 ·cases hk
  exact cell_notE hr hg
theorem own_csE {A D : World} {B : Nat} {row : Option Nat} {k : Nat} {cs : Array Value} {t : TypeId} {fr : Nat × Nat} (hs : A.heap[k]? = some (.cells cs t fr)) (hg : A.grownBy D row) (hr : ∀ r,row = some r → B ≤ r ∧ ∃ o : Obj,A.heap[r]? = some o ∧ o.isCells = false) : D.heap[k]? = some (.cells cs t fr) := (grown_frE hg).keeps (cell_notE hr hs) hs
structure OwnE {α : Type} (e size : Nat) (enc : α → List Value) (B : Nat) (w : World) (v : Value) (l : List α) : Prop where
 own : w.ownsRow 0 e size v l.length (l.flatMap enc)
 blk : ∀ k,v.ownBlock = some k → B ≤ k
section
variable {α : Type} {e size : Nat} {enc : α → List Value}
theorem OwnE.nil (B : Nat) (w : World) : OwnE e size enc B w (.slice none 0 0) [] := ⟨World.ownsRow_nil _ _ _ _,fun k h => (by cases h)⟩
theorem OwnE.frS {B : Nat} {S : Nat → Prop} {w w' : World} {v : Value} {l : List α} (h : OwnE e size enc B w v l) (f : Fr S w w') (h1 : ∀ k,v.ownBlock = some k → ¬ S k) : OwnE e size enc B w' v l := ⟨own_frE h.own f h1,h.blk⟩
theorem OwnE.fr0 {B : Nat} {w w' : World} {v : Value} {l : List α} (h : OwnE e size enc B w v l) (f : Fr F0 w w') : OwnE e size enc B w' v l := h.frS f fun _ _ e => e
theorem OwnE.mono {B B' : Nat} {w : World} {v : Value} {l : List α} (h : OwnE e size enc B w v l) (hb : B' ≤ B) : OwnE e size enc B' w v l := ⟨h.own,fun k hk => Nat.le_trans hb (h.blk k hk)⟩
theorem OwnE.is {B : Nat} {w : World} {v : Value} {l : List α} (h : OwnE e size enc B w v l) : ∃ a c,v = .slice a l.length c ∧ Sl w size a c l.length (l.flatMap enc) := by
 obtain ⟨a,c,rfl⟩ := own_slice h.own
 exact ⟨a,c,rfl,(Sl.of_own h.own).2⟩
theorem OwnE.grown {B B' : Nat} {v : Value} {l : List α} {A D : World} {row : Option Nat} (h : OwnE e size enc B A v l) (hg : A.grownBy D row) (hr : ∀ r,row = some r → B' ≤ r ∧ ∃ o : Obj,A.heap[r]? = some o ∧ o.isCells = false) : OwnE e size enc B D v l := h.frS (grown_frE hg) (row_notE hr h.own)
theorem OwnE.app {P : Program} {st ty bytes : Nat} {i : TypeInfo} {z : Value} (hu : P.underlying st = some (.slice e)) (hi : P.info? e = some i) (hz : i.zero = some z) (hs : i.size = size) (hb : i.bytes = bytes) (hzs : z.cells.size = size) (h0 : 0 < size) (hby : bytes ≤ 1000) (hsz : size ≤ 1000)
  {B : Nat} {w : World} {v : Value} {l : List α} (h : OwnE e size enc B w v l) (x : α) (hx : (enc x).length = size) (h1 : ∀ u ∈ enc x,u.oneCell' = true) (hB : B ≤ w.heap.size) (hl : l.length ≤ 100000) :
  ∃ a c w',(Builtin.append_ #[st,st] ty #[v,.slice (some ⟨w.heap.size,0,none⟩) 1 1]).run P (w.alloc (.cells (enc x).toArray e)) = .ok (.slice a (l.length + 1) c) w' ∧ OwnE e size enc B w' (.slice a (l.length + 1) c) (l ++ [x]) ∧
   Fr (fun k => v.ownBlock = some k) w w' ∧ w.heap.size < w'.heap.size := by
 obtain ⟨W,hW⟩ : ∃ W,W = w.alloc (.cells (enc x).toArray e) := ⟨_,rfl⟩
 have hnew := heap_alloc_new w (.cells (enc x).toArray e)
 have fW : Fr F0 w W := by rw [hW]; exact (Fr.refl F0 w).alloc _
 have sW : W.heap.size = w.heap.size + 1 := by rw [hW]; simp
 rw [← hW] at hnew ⊢
 have hsl : Sl W size (some ⟨w.heap.size,0,none⟩) 1 1 (enc x) := ⟨by omega,Nat.le_refl _,by unfold maxLen; omega,(fun e => by cases e),fun j u hj => ⟨_,_,rfl,by rw [cell_at,hnew,cellAt_cells,Nat.zero_add]; simpa using hj⟩⟩
 have hbb : (l.length + 1) * bytes ≤ 140737488355328 := Nat.le_trans (Nat.mul_le_mul (show l.length + 1 ≤ 100001 by omega) hby) (by decide)
 obtain ⟨v',w',hrun,hown,hg,hnw⟩ := run_app (P := P) (w := W) st ty e i _ size bytes hu hi hz hs hb hzs h0 v l.length _ (own_frE h.own fW fun _ _ f => f) (some ⟨w.heap.size,0,none⟩) 1 1 (enc x) hsl
  h1 (by unfold maxLen; omega) hbb
 obtain ⟨a,c,rfl⟩ := own_slice hown
 refine ⟨a,c,w',hrun,⟨?_,fun k hk => ?_⟩,(fW.of0).grown hg fun k hk hl => hk,by have := hg.size; omega⟩
 ·rw [List.length_append,List.flatMap_append]
  simpa using hown
 ·rcases hnw k hk with e | e
  ·exact h.blk k e
  ·omega
end
theorem wpIn_newE {F : Fence} {n : Nat} {P : Program} {c : Code} {Q : Exit → Act → World → Prop} {a : Act} {w : World} {z : Array Value} {t : TypeId} (k : ∀ W,NewRow w W w.heap.size z t → Code.wpIn F n P c Q a W) : Code.wpIn F n P c Q a (w.alloc (.cells z t)) := k _ ⟨heap_alloc_new _ _,fun h => keep_alloc h,(Fr.refl F0 w).alloc _,fun h => by have := (Array.getElem?_eq_some_iff.1 h).1; omega⟩
end Go.Proofs.YtohckefafbhooaaGreat
namespace Go.Proofs.YtohckefafbhooaaGreat
set_option maxRecDepth 100000
set_option linter.unusedVariables false
set_option linter.unusedSimpArgs false
open Go.RowKit
theorem flat_getE {α : Type} {enc : α → List Value} {size : Nat} (he : ∀ x,(enc x).length = size) : ∀ (l : List α) (i j : Nat) (x : α),l[i]? = some x → j < size → (l.flatMap enc)[i * size + j]? = (enc x)[j]?
 |[],i,j,x,h,_ => by simp at h
 |y :: l,0,j,x,h,hj => by
  simp only [List.getElem?_cons_zero,Option.some.injEq] at h
  subst h
  rw [List.flatMap_cons,Nat.zero_mul,Nat.zero_add,List.getElem?_append_left (by rw [he]; exact hj)]
 |y :: l,i + 1,j,x,h,hj => by
  rw [List.flatMap_cons,List.getElem?_append_right (by rw [he,Nat.add_mul]; omega),he,show (i + 1) * size + j - size = i * size + j by rw [Nat.add_mul]; omega]
  exact flat_getE he l i j x (by simpa using h) hj
theorem flat_lenE {α : Type} {enc : α → List Value} {size : Nat} (he : ∀ x,(enc x).length = size) : ∀ (l : List α),(l.flatMap enc).length = l.length * size
 |[] => by simp
 |y :: l => by rw [List.flatMap_cons,List.length_append,flat_lenE he l,he,List.length_cons,Nat.add_mul]; omega
section
variable {α : Type} {e size : Nat} {enc : α → List Value}
end
theorem OwnE.row {α : Type} {e size : Nat} {enc : α → List Value} {B : Nat} {w : World} {v : Value} {l : List α} (h : OwnE e size enc B w v l) : (v = .slice none 0 0 ∧ l = []) ∨ ∃ g c,v = .slice (some ⟨g,0,none⟩) l.length c ∧ B ≤ g ∧ g < w.heap.size ∧ l.length ≤ c ∧ c ≤ maxLen ∧
  ∃ cur,w.heap[g]? = some (.cells cur e (0,0)) ∧ cur.size = c * size ∧ cur.toList.take (l.length * size) = l.flatMap enc := by
 rcases h.own.2 with ⟨h1,h2⟩ | ⟨g,cap,cur,hv,h3,h4,h5,h6,h7,h8⟩
 ·exact .inl ⟨h1,List.eq_nil_of_length_eq_zero h2⟩
 ·exact .inr ⟨g,cap,hv,h.blk g (by rw [hv]; rfl),(Array.getElem?_eq_some_iff.1 h4).1,h5,h6,cur,h4,h7,h8⟩
theorem OwnE.place1 {α : Type} {e size : Nat} {enc : α → List Value} {B : Nat} {w : World} {a : Option Addr} {n c i : Nat} {l : List α} (h : OwnE e size enc B w (.slice a n c) l) (hi : i < n) : ∃ g,a = some ⟨g,0,none⟩ := by
 rcases OwnE.row h with ⟨h1,h2⟩ | ⟨g,c',h1,-⟩
 ·cases h1; omega
 ·cases h1; exact ⟨g,rfl⟩
theorem OwnE.cellE {α : Type} {e size : Nat} {enc : α → List Value} (he : ∀ x,(enc x).length = size) {B : Nat} {w : World} {g n c : Nat} {l : List α} (h : OwnE e size enc B w (.slice (some ⟨g,0,none⟩) n c) l) (i j : Nat) (x : α) (u : Value) (hx : l[i]? = some x) (hu : (enc x)[j]? = some u) :
  Obj.cellAt (i * size + j) w.heap[g]? = some u := by
 have hj : j < size := by have := (List.getElem?_eq_some_iff.1 hu).1; rwa [he] at this
 have := h.own.cells (g := g) rfl (i * size + j) u (by rw [flat_getE he l i j x hx hj]; exact hu)
 rw [Addr.add_lit,Nat.zero_add,cell_at] at this
 exact this
theorem OwnE.loadE {P : Program} {α : Type} {e size : Nat} {enc : α → List Value} (he : ∀ x,(enc x).length = size) {d : TypeDesc} (hu : P.underlying e = some d) (hd : d.isRow = true) (hi : (P.info? e).map (·.size) = some size) {B : Nat} {w : World} {g n c : Nat} {l : List α} (h : OwnE e size enc B w (.slice (some ⟨g,0,none⟩) n c) l) (i : Nat) (x : α) (hx : l[i]? = some x) :
  (loadRowAt e (.pointer (some ⟨g,i * size,none⟩))).run P w = .ok (.agg (enc x).toArray) w := by
 refine run_loadAt_mid (P := P) w g (i * size) e (enc x) d (fun j u hj => ?_) hu hd (by rw [hi,he])
 have := OwnE.cellE he h i j x u hx hj
 rw [cell_at]
 exact this
end Go.Proofs.YtohckefafbhooaaGreat
namespace Go.Proofs.YtohckefafbhooaaGreat
set_option maxRecDepth 100000
set_option linter.unusedVariables false
set_option linter.unusedSimpArgs false
open Go.RowKit
theorem run_slice1E {P : Program} (w : World) (t e : TypeId) (X : Array Value) (n : Nat) (ie : TypeInfo) (z : Value) (hu : P.underlying t = some (.slice e)) (hie : P.info? e = some ie) (hz : ie.zero = some z) (hs : ie.size = n) (h0 : 0 < n) (h1 : n ≤ 1000) (hX : X.size = n) :
  (Instr.buildSlice t 1 #[(0,.agg X)]).run P w = .ok (.slice (some ⟨w.heap.size,0,none⟩) 1 1) (w.alloc (.cells X e)) := by
 subst hs
 refine run_buildSlice w t e 1 _ X ie z hu hie hz (by rw [Nat.one_mul]; have : 2 ^ 24 = 16777216 := rfl; omega) (by omega) ?_
 have := Great.fill_whole h0 [.agg X] ((Array.range (1 * ie.size)).map (z.cells[· % z.cells.size]!)) (fun v hv => by rw [List.mem_singleton] at hv; subst hv; exact hX) (by simp)
 simpa [Value.cells] using this
end Go.Proofs.YtohckefafbhooaaGreat
namespace Go.Proofs.YtohckefafbhooaaGreat
set_option maxRecDepth 100000
set_option linter.unusedVariables false
set_option linter.unusedSimpArgs false
open Go.RowKit
end Go.Proofs.YtohckefafbhooaaGreat
namespace Go.Proofs.YtohckefafbhooaaGreat
set_option maxRecDepth 100000
set_option linter.unusedVariables false
set_option linter.unusedSimpArgs false
open Go.RowKit
end Go.Proofs.YtohckefafbhooaaGreat
namespace Go.Proofs.YtohckefafbhooaaGreat
set_option maxRecDepth 100000
set_option linter.unusedVariables false
set_option linter.unusedSimpArgs false
open Go.RowKit
end Go.Proofs.YtohckefafbhooaaGreat
namespace Go.Proofs.YtohckefafbhooaaGreat
set_option maxRecDepth 100000
set_option linter.unusedVariables false
set_option linter.unusedSimpArgs false
open Go.RowKit
end Go.Proofs.YtohckefafbhooaaGreat
namespace Go.Proofs.YtohckefafbhooaaGreat
set_option maxRecDepth 100000
set_option linter.unusedVariables false
set_option linter.unusedSimpArgs false
open Go.RowKit
end Go.Proofs.YtohckefafbhooaaGreat
namespace Go.Proofs.YtohckefafbhooaaGreat
set_option maxRecDepth 100000
set_option linter.unusedVariables false
set_option linter.unusedSimpArgs false
open Go.RowKit
end Go.Proofs.YtohckefafbhooaaGreat
namespace Go.Proofs.YtohckefafbhooaaGreat
set_option maxRecDepth 100000
set_option linter.unusedVariables false
set_option linter.unusedSimpArgs false
open Go.RowKit
end Go.Proofs.YtohckefafbhooaaGreat
namespace Go.Proofs.YtohckefafbhooaaGreat
set_option maxRecDepth 100000
set_option linter.unusedVariables false
set_option linter.unusedSimpArgs false
open Go.RowKit
end Go.Proofs.YtohckefafbhooaaGreat
