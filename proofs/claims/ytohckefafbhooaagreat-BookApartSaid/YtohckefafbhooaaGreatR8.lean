import Derived.Test.YtohckefafbhooaaGreatR2
import Derived.Deep.MidRow
import Derived.RangeFuncFrom
import Derived.Great.FillDense
import Derived.Great.BuildSlice
import Derived.Deep.Cut
import Derived.Deep.CutBlock
import Derived.Test.YtohckefafbhooaaGreatR1
import Derived.Sort.LotC
import Derived.Sort.LotA
namespace Go.Proofs.YtohckefafbhooaaGreat
set_option maxRecDepth 100000
set_option linter.unusedVariables false
set_option linter.unusedSimpArgs false
open Go.RowKit
theorem jc {P : Program} {c : Code} {Q : Exit → Act → World → Prop} {a : Act} {w : World} {z cs : Array Value} {t : TypeId} (k : ∀ W,air w W w.heap.size cs t → Code.wp P c Q a W) : Code.wp P c Q a ((w.alloc (.cells z t)).setRow w.heap.size cs) := k _ (afc w z cs t)
theorem eu {P : Program} {c : Code} {Q : Exit → Act → World → Prop} {a : Act} {w : World} {z : Array Value} {t : TypeId} (k : ∀ W,air w W w.heap.size z t → Code.wp P c Q a W) : Code.wp P c Q a (w.alloc (.cells z t)) := k _ ⟨heap_alloc_new _ _,fun h => oh h,(Fr.refl F0 w).alloc _,fun h => by have := (Array.getElem?_eq_some_iff.1 h).1; omega⟩
def aJr (P : Program) (t : TypeId) (p : Value) (w : World) (n o m : Nat) : Option Obj → Result Value
 |some (.cells cs _ _) => if cs.size = m then .ok (.agg (cs.extract o (o + n))) w else (gu t p).run P w
 |_ => (gu t p).run P w
theorem anz {P : Program} {t : TypeId} {p : Value} {w : World} {n o m : Nat} {cs : Array Value} {t' : TypeId} {fr : Nat × Nat} (h : cs.size = m) :
  aJr P t p w n o m (some (.cells cs t' fr)) = .ok (.agg (cs.extract o (o + n))) w := if_pos h
theorem ay {C : Array Value} {i : Nat} {v : Value} (h : C[i]? = some v) (hi : i < C.size) : C[i] = v := (Array.getElem?_eq_some_iff.1 h).2
def alj (cs : Array Value) (o : Nat) : List Value → Array Value
 |[] => cs
 |v :: r => alj (cs.setIfInBounds o v) (o + 1) r
theorem amr (w : World) (g : Nat) (a b : Array Value) : (w.setRow g a).setRow g b = w.setRow g b := by
 unfold World.setRow
 simp only [World.mk.injEq,true_and,and_true]
 apply Array.ext_getElem?
 intro i
 simp only [Array.getElem?_modify]
 split
 ·cases w.heap[i]? with
  |none => rfl
  |some o => cases o <;> rfl
 ·rfl
theorem afr (g : Nat) : ∀ (vs : List Value) (o : Nat) (w : World) (cs : Array Value) (t : TypeId) (fr : Nat × Nat),vs ≠ [] → w.heap[g]? = some (.cells cs t fr) → w.setCells g o vs = w.setRow g (alj cs o vs)
 |[],_,_,_,_,_,h,_ => absurd rfl h
 |v :: r,o,w,cs,t,fr,_,hg => by
  rw [World.setCells,setCell_eq_setRow w g o cs t fr v hg,alj]
  by_cases hr : r = []
  ·subst hr; rfl
  ·rw [afr g r (o + 1) _ (cs.setIfInBounds o v) t fr hr (ady hg),amr]
def aC9 (P : Program) (t : TypeId) (p : Value) (cells : Array Value) (g : Nat) (w : World) (n o m : Nat) : Option Obj → Result Unit
 |some (.cells cs _ fr) => if fr = (0,0) ∧ cs.size = m ∧ cells.size = n ∧ cells.all (·.oneCell') = true then .ok () (w.setRow g (alj cs o cells.toList)) else (jd t p (.agg cells)).run P w
 |_ => (jd t p (.agg cells)).run P w
theorem ad7 {P : Program} {t : TypeId} {p : Value} {cells : Array Value} {g : Nat} {w : World} {n o m : Nat} {cs : Array Value} {t' : TypeId} (h : cs.size = m) (h1 : cells.size = n) (h2 : yg cells) :
  aC9 P t p cells g w n o m (some (.cells cs t' (0,0))) = .ok () (w.setRow g (alj cs o cells.toList)) := if_pos ⟨rfl,h,h1,h2⟩
theorem amw {P : Program} (w : World) (t : TypeId) (g o n m : Nat) (cells : Array Value) (h0 : 0 < n) (hom : o + n ≤ m) (hi : (P.info? t).map (·.size) = some n) :
  (jd t (.pointer (some ⟨g,o,none⟩)) (.agg cells)).run P w = aC9 P t (.pointer (some ⟨g,o,none⟩)) cells g w n o m w.heap[g]? := by
 cases hg : w.heap[g]? with
 |none => rfl
 |some ob =>
  cases ob with
  |cells cs t' fr =>
   by_cases h : fr = (0,0) ∧ cs.size = m ∧ cells.size = n ∧ cells.all (·.oneCell') = true
   ·obtain ⟨rfl,h1,h2,h3⟩ := h
    rw [ad7 h1 h2 h3]
    have := run_storeAt_mid (P := P) w g o t cells (fun j hj => by
     replace hj : j < n := by rw [← h2]; exact hj
     rw [gq,aex,hg,jg,ab2]
     refine ⟨?_,rfl⟩
     rw [Array.getElem?_eq_getElem (by omega)]
     rfl) (by rw [hi,h2]) h3
    rw [← afr g cells.toList o w cs t' (0,0) (fun e => by have : cells.size = 0 := (by rw [← Array.length_toList,e]; rfl); omega) hg]
    exact this
   ·simp only [aC9,h,if_false]
  |_ => rfl
attribute [simp high] anz ad7
theorem av1 {S : Nat → Prop} {w w' : World} {base e size n : Nat} {v : Value} {xs : List Value} (h : w.ownsRow base e size v n xs) (hf : Fr S w w') (hs : ∀ k,v.ownBlock = some k → ¬ S k) : w'.ownsRow base e size v n xs := by
 refine ⟨h.1,?_⟩
 rcases h.2 with hn | ⟨g,cap,cur,rfl,hb,hg,r⟩
 ·exact .inl hn
 ·exact .inr ⟨g,cap,cur,rfl,hb,hf.keeps (hs g rfl) hg,r⟩
theorem amd {A D : World} {row : Option Nat} (hg : A.grownBy D row) : Fr (fun k => row = some k) A D := (Fr.refl _ A).grown hg fun k hk _ => hk
theorem ami {A : World} {B : Nat} {row : Option Nat} {k : Nat} {cs : Array Value} {t : TypeId} {fr : Nat × Nat} (hr : ∀ r,row = some r → B ≤ r ∧ ∃ o : Obj,A.heap[r]? = some o ∧ o.isCells = false) (h : A.heap[k]? = some (.cells cs t fr)) : ¬ row = some k := fun e => by
 obtain ⟨_,o,ho,hc⟩ := hr k e
 rw [h] at ho
 cases ho
 cases hc
theorem aj8 {A : World} {B : Nat} {row : Option Nat} {e0 size n : Nat} {v : Value} {xs : List Value} (hr : ∀ r,row = some r → B ≤ r ∧ ∃ o : Obj,A.heap[r]? = some o ∧ o.isCells = false) (h : A.ownsRow 0 e0 size v n xs) : ∀ k,v.ownBlock = some k → ¬ row = some k := fun k hk => by
 rcases h.2 with ⟨rfl,_⟩ | ⟨g,cap,cur,rfl,_,hg,_⟩
 ·cases hk
 ·cases hk
  exact ami hr hg
theorem abg {A D : World} {B : Nat} {row : Option Nat} {k : Nat} {cs : Array Value} {t : TypeId} {fr : Nat × Nat} (hs : A.heap[k]? = some (.cells cs t fr)) (hg : A.grownBy D row) (hr : ∀ r,row = some r → B ≤ r ∧ ∃ o : Obj,A.heap[r]? = some o ∧ o.isCells = false) : D.heap[k]? = some (.cells cs t fr) := (amd hg).keeps (ami hr hs) hs
structure uj {α : Type} (e size : Nat) (enc : α → List Value) (B : Nat) (w : World) (v : Value) (l : List α) : Prop where
 own : w.ownsRow 0 e size v l.length (l.flatMap enc)
 blk : ∀ k,v.ownBlock = some k → B ≤ k
section
variable {α : Type} {e size : Nat} {enc : α → List Value}
theorem uj.nil (B : Nat) (w : World) : uj e size enc B w (.slice none 0 0) [] := ⟨World.ownsRow_nil _ _ _ _,fun k h => (by cases h)⟩
theorem uj.frS {B : Nat} {S : Nat → Prop} {w w' : World} {v : Value} {l : List α} (h : uj e size enc B w v l) (f : Fr S w w') (h1 : ∀ k,v.ownBlock = some k → ¬ S k) : uj e size enc B w' v l := ⟨av1 h.own f h1,h.blk⟩
theorem uj.fr0 {B : Nat} {w w' : World} {v : Value} {l : List α} (h : uj e size enc B w v l) (f : Fr F0 w w') : uj e size enc B w' v l := h.frS f fun _ _ e => e
theorem uj.lt {B : Nat} {w : World} {v : Value} {l : List α} (h : uj e size enc B w v l) : ∀ k,v.ownBlock = some k → k < w.heap.size := fun k hk => (World.ownsRow.lt h.own k hk).2
theorem uj.mono {B B' : Nat} {w : World} {v : Value} {l : List α} (h : uj e size enc B w v l) (hb : B' ≤ B) : uj e size enc B' w v l := ⟨h.own,fun k hk => Nat.le_trans hb (h.blk k hk)⟩
theorem uj.is {B : Nat} {w : World} {v : Value} {l : List α} (h : uj e size enc B w v l) : ∃ a c,v = .slice a l.length c ∧ Sl w size a c l.length (l.flatMap enc) := by
 obtain ⟨a,c,rfl⟩ := aev h.own
 exact ⟨a,c,rfl,(Sl.aef h.own).2⟩
theorem uj.grown {B B' : Nat} {v : Value} {l : List α} {A D : World} {row : Option Nat} (h : uj e size enc B A v l) (hg : A.grownBy D row) (hr : ∀ r,row = some r → B' ≤ r ∧ ∃ o : Obj,A.heap[r]? = some o ∧ o.isCells = false) : uj e size enc B D v l := h.frS (amd hg) (aj8 hr h.own)
theorem uj.app {P : Program} {st ty bytes : Nat} {i : TypeInfo} {z : Value} (hu : P.underlying st = some (.slice e)) (hi : P.info? e = some i) (hz : i.zero = some z) (hs : i.size = size) (hb : i.bytes = bytes) (hzs : z.cells.size = size) (h0 : 0 < size) (hby : bytes ≤ 1000) (hsz : size ≤ 1000)
  {B : Nat} {w : World} {v : Value} {l : List α} (h : uj e size enc B w v l) (x : α) (hx : (enc x).length = size) (h1 : ∀ u ∈ enc x,u.oneCell' = true) (hB : B ≤ w.heap.size) (hl : l.length ≤ 100000) :
  ∃ a c w',(Builtin.append_ #[st,st] ty #[v,.slice (some ⟨w.heap.size,0,none⟩) 1 1]).run P (w.alloc (.cells (enc x).toArray e)) = .ok (.slice a (l.length + 1) c) w' ∧ uj e size enc B w' (.slice a (l.length + 1) c) (l ++ [x]) ∧
   Fr (fun k => v.ownBlock = some k) w w' ∧ w.heap.size < w'.heap.size := by
 obtain ⟨W,hW⟩ : ∃ W,W = w.alloc (.cells (enc x).toArray e) := ⟨_,rfl⟩
 have hnew := heap_alloc_new w (.cells (enc x).toArray e)
 have fW : Fr F0 w W := by rw [hW]; exact (Fr.refl F0 w).alloc _
 have sW : W.heap.size = w.heap.size + 1 := by rw [hW]; simp
 rw [← hW] at hnew ⊢
 have hsl : Sl W size (some ⟨w.heap.size,0,none⟩) 1 1 (enc x) := ⟨by omega,Nat.le_refl _,by unfold maxLen; omega,(fun e => by cases e),fun j u hj => ⟨_,_,rfl,by rw [gq,hnew,jg,Nat.zero_add]; simpa using hj⟩⟩
 have hbb : (l.length + 1) * bytes ≤ 140737488355328 := Nat.le_trans (Nat.mul_le_mul (show l.length + 1 ≤ 100001 by omega) hby) (by decide)
 obtain ⟨v',w',hrun,hown,hg,hnw⟩ := aou (P := P) (w := W) st ty e i _ size bytes hu hi hz hs hb hzs h0 v l.length _ (av1 h.own fW fun _ _ f => f) (some ⟨w.heap.size,0,none⟩) 1 1 (enc x) hsl
  h1 (by unfold maxLen; omega) hbb
 obtain ⟨a,c,rfl⟩ := aev hown
 refine ⟨a,c,w',hrun,⟨?_,fun k hk => ?_⟩,(fW.of0).grown hg fun k hk hl => hk,by have := hg.size; omega⟩
 ·rw [List.length_append,List.flatMap_append]
  simpa using hown
 ·rcases hnw k hk with e | e
  ·exact h.blk k e
  ·omega
end
theorem agv {F : Fence} {n : Nat} {P : Program} {c : Code} {Q : Exit → Act → World → Prop} {a : Act} {w : World} {z : Array Value} {t : TypeId} (k : ∀ W,air w W w.heap.size z t → Code.wpIn F n P c Q a W) : Code.wpIn F n P c Q a (w.alloc (.cells z t)) := k _ ⟨heap_alloc_new _ _,fun h => oh h,(Fr.refl F0 w).alloc _,fun h => by have := (Array.getElem?_eq_some_iff.1 h).1; omega⟩
theorem ag4 {α : Type} {enc : α → List Value} {size : Nat} (he : ∀ x,(enc x).length = size) : ∀ (l : List α) (i j : Nat) (x : α),l[i]? = some x → j < size → (l.flatMap enc)[i * size + j]? = (enc x)[j]?
 |[],i,j,x,h,_ => by simp at h
 |y :: l,0,j,x,h,hj => by
  simp only [List.getElem?_cons_zero,Option.some.injEq] at h
  subst h
  rw [List.flatMap_cons,Nat.zero_mul,Nat.zero_add,List.getElem?_append_left (by rw [he]; exact hj)]
 |y :: l,i + 1,j,x,h,hj => by
  rw [List.flatMap_cons,List.getElem?_append_right (by rw [he,Nat.add_mul]; omega),he,show (i + 1) * size + j - size = i * size + j by rw [Nat.add_mul]; omega]
  exact ag4 he l i j x (by simpa using h) hj
theorem abj {α : Type} {enc : α → List Value} {size : Nat} (he : ∀ x,(enc x).length = size) : ∀ (l : List α),(l.flatMap enc).length = l.length * size
 |[] => by simp
 |y :: l => by rw [List.flatMap_cons,List.length_append,abj he l,he,List.length_cons,Nat.add_mul]; omega
theorem azv {α : Type} (l : List α) (i n : Nat) (x : α) : (l.set i x).take n = (l.take n).set i x := by
 refine List.ext_getElem? fun j => ?_
 rw [List.getElem?_take,List.getElem?_set,List.getElem?_set,List.getElem?_take,List.length_take]
 by_cases h1 : j < n
 ·rw [if_pos h1,if_pos h1]
  by_cases h2 : i = j
  ·subst h2
   rw [if_pos rfl,if_pos rfl]
   by_cases h3 : i < l.length
   ·rw [if_pos h3,if_pos (by omega)]
   ·rw [if_neg h3,if_neg (by omega)]
  ·rw [if_neg h2,if_neg h2]
 ·rw [if_neg h1,if_neg h1]
  by_cases h2 : i = j
  ·subst h2; rw [if_pos rfl,if_neg (by omega)]
  ·rw [if_neg h2]
theorem amf {α : Type} {enc : α → List Value} {size : Nat} (he : ∀ x,(enc x).length = size) : ∀ (l : List α) (i j : Nat) (x : α) (u : Value),i < l.length → j < size → (∀ y,l[i]? = some y → (enc y).set j u = enc x) → (l.flatMap enc).set (i * size + j) u = (l.set i x).flatMap enc
 |[],i,j,x,u,h,_,_ => by simp at h
 |y :: l,0,j,x,u,h,hj,hy => by
  rw [List.flatMap_cons,Nat.zero_mul,Nat.zero_add,List.set_append_left _ _ (by rw [he]; exact hj),hy y rfl]
  rfl
 |y :: l,i + 1,j,x,u,h,hj,hy => by
  rw [List.flatMap_cons,List.set_append_right _ _ (by rw [he,Nat.add_mul]; omega),he,show (i + 1) * size + j - size = i * size + j by rw [Nat.add_mul]; omega]
  rw [amf he l i j x u (by simpa using h) hj (fun z hz => hy z (by simpa using hz))]
  rfl
theorem uj.setC {α : Type} {e size : Nat} {enc : α → List Value} (he : ∀ x,(enc x).length = size) {B : Nat} {w : World} {g n c : Nat} {l : List α} (h : uj e size enc B w (.slice (some ⟨g,0,none⟩) n c) l) (i j : Nat) (x : α) (u : Value) (hi : i < l.length) (hj : j < size)
  (hy : ∀ y,l[i]? = some y → (enc y).set j u = enc x) : uj e size enc B (w.setCell ⟨g,i * size + j,none⟩ u) (.slice (some ⟨g,0,none⟩) n c) (l.set i x) := by
 rcases h.own.2 with ⟨h1,h2⟩ | ⟨g',cap,cur,hv,h3,h4,h5,h6,h7,h8⟩
 ·cases h1
 ·cases hv
  refine ⟨⟨by rw [abj he],.inr ⟨g,c,cur.setIfInBounds (i * size + j) u,?_,Nat.zero_le _,?_,by simpa using h5,h6,by simpa using h7,?_⟩⟩,h.blk⟩
  ·simp
  ·rw [cu,h4]; rfl
  ·rw [Array.toList_setIfInBounds,azv,List.length_set,h8]
   exact amf he l i j x u hi hj hy
section
variable {α : Type} {e size : Nat} {enc : α → List Value}
end
theorem sl_at {w : World} {size b : Nat} {t : TypeId} {fr : Nat × Nat} {xs : List Value} (hl : xs.length = size) (h : w.heap[b]? = some (.cells xs.toArray t fr)) : Sl w size (some ⟨b,0,none⟩) 1 1 xs :=
 ⟨by omega,Nat.le_refl _,by unfold maxLen; omega,(fun e => by cases e),fun j u hj => ⟨_,_,rfl,by rw [gq,h,jg,Nat.zero_add]; simpa using hj⟩⟩
theorem uj.kind {α : Type} {e size : Nat} {enc : α → List Value} {B : Nat} {w : World} {v : Value} {l : List α} (h : uj e size enc B w v l) {k : Nat} (hk : v.ownBlock = some k) : ∃ cur,w.heap[k]? = some (.cells cur e (0,0)) := by
 rcases h.own.2 with ⟨rfl,_⟩ | ⟨g,cap,cur,rfl,_,hg,_⟩
 ·cases hk
 ·cases hk; exact ⟨cur,hg⟩
theorem uj.other {α : Type} {e size : Nat} {enc : α → List Value} {B : Nat} {w : World} {v : Value} {l : List α} (h : uj e size enc B w v l) {g : Nat} {cs : Array Value} {t : TypeId} {fr : Nat × Nat} (hg : w.heap[g]? = some (.cells cs t fr)) (ht : t ≠ e) : v.ownBlock ≠ some g := fun hk => by
 obtain ⟨cur,hc⟩ := h.kind hk
 rw [hg] at hc
 cases hc
 exact ht rfl
theorem uj.row {α : Type} {e size : Nat} {enc : α → List Value} {B : Nat} {w : World} {v : Value} {l : List α} (h : uj e size enc B w v l) : (v = .slice none 0 0 ∧ l = []) ∨ ∃ g c,v = .slice (some ⟨g,0,none⟩) l.length c ∧ B ≤ g ∧ g < w.heap.size ∧ l.length ≤ c ∧ c ≤ maxLen ∧
  ∃ cur,w.heap[g]? = some (.cells cur e (0,0)) ∧ cur.size = c * size ∧ cur.toList.take (l.length * size) = l.flatMap enc := by
 rcases h.own.2 with ⟨h1,h2⟩ | ⟨g,cap,cur,hv,h3,h4,h5,h6,h7,h8⟩
 ·exact .inl ⟨h1,List.eq_nil_of_length_eq_zero h2⟩
 ·exact .inr ⟨g,cap,hv,h.blk g (by rw [hv]; rfl),(Array.getElem?_eq_some_iff.1 h4).1,h5,h6,cur,h4,h7,h8⟩
theorem uj.len {α : Type} {e size : Nat} {enc : α → List Value} {B : Nat} {w : World} {a : Option Addr} {n c : Nat} {l : List α} (h : uj e size enc B w (.slice a n c) l) : n = l.length := (Sl.aef h.own).1.symm
theorem uj.agk {α : Type} {e size : Nat} {enc : α → List Value} {B : Nat} {w : World} {a : Option Addr} {n c i : Nat} {l : List α} (h : uj e size enc B w (.slice a n c) l) (hi : i < n) : ∃ g,a = some ⟨g,0,none⟩ := by
 rcases uj.row h with ⟨h1,h2⟩ | ⟨g,c',h1,-⟩
 ·cases h1; omega
 ·cases h1; exact ⟨g,rfl⟩
theorem uj.aDc {α : Type} {e size : Nat} {enc : α → List Value} (he : ∀ x,(enc x).length = size) {B : Nat} {w : World} {g n c : Nat} {l : List α} (h : uj e size enc B w (.slice (some ⟨g,0,none⟩) n c) l) (i j : Nat) (x : α) (u : Value) (hx : l[i]? = some x) (hu : (enc x)[j]? = some u) :
  Obj.cellAt (i * size + j) w.heap[g]? = some u := by
 have hj : j < size := by have := (List.getElem?_eq_some_iff.1 hu).1; rwa [he] at this
 have := h.own.cells (g := g) rfl (i * size + j) u (by rw [ag4 he l i j x hx hj]; exact hu)
 rw [Addr.add_lit,Nat.zero_add,gq] at this
 exact this
theorem uj.ar5 {P : Program} {α : Type} {e size : Nat} {enc : α → List Value} (he : ∀ x,(enc x).length = size) {d : TypeDesc} (hu : P.underlying e = some d) (hd : d.isRow = true) (hi : (P.info? e).map (·.size) = some size) {B : Nat} {w : World} {g n c : Nat} {l : List α} (h : uj e size enc B w (.slice (some ⟨g,0,none⟩) n c) l) (i : Nat) (x : α) (hx : l[i]? = some x) :
  (gu e (.pointer (some ⟨g,i * size,none⟩))).run P w = .ok (.agg (enc x).toArray) w := by
 refine run_loadAt_mid (P := P) w g (i * size) e (enc x) d (fun j u hj => ?_) hu hd (by rw [hi,he])
 have := uj.aDc he h i j x u hx hj
 rw [gq]
 exact this
theorem uj.appL {P : Program} {α : Type} {e size : Nat} {enc : α → List Value} {st ty bytes : Nat} {i : TypeInfo} {z : Value} (hu : P.underlying st = some (.slice e)) (hi : P.info? e = some i) (hz : i.zero = some z) (hs : i.size = size) (hb : i.bytes = bytes) (hzs : z.cells.size = size) (h0 : 0 < size) (hby : bytes ≤ 1000)
  {B : Nat} {w : World} {v : Value} {l m : List α} (h : uj e size enc B w v l) (he : ∀ x,(enc x).length = size) (h1 : ∀ u ∈ m.flatMap enc,u.oneCell' = true) (hB : B ≤ w.heap.size) (hl : l.length + m.length ≤ 100000) (a : Option Addr) (n c : Nat) (hn : n = m.length) (hsl : Sl w size a c n (m.flatMap enc)) :
  ∃ a' n' c' w',(Builtin.append_ #[st,st] ty #[v,.slice a n c]).run P w = .ok (.slice a' n' c') w' ∧ n' = l.length + m.length ∧ uj e size enc B w' (.slice a' n' c') (l ++ m) ∧ Fr (fun k => v.ownBlock = some k) w w' := by
 have hbb : (l.length + n) * bytes ≤ 140737488355328 := Nat.le_trans (Nat.mul_le_mul (show l.length + n ≤ 100001 by omega) hby) (by decide)
 obtain ⟨v',w',hrun,hown,hg,hnw⟩ := aou (P := P) (w := w) st ty e i _ size bytes hu hi hz hs hb hzs h0 v l.length _ h.own a c n _ hsl h1 (by unfold maxLen; omega) hbb
 obtain ⟨a',c',rfl⟩ := aev hown
 refine ⟨a',_,c',w',hrun,by rw [hn],⟨?_,fun k hk => ?_⟩,(Fr.refl _ w).grown hg fun k hk hl => hk⟩
 ·rw [List.length_append,List.flatMap_append,← hn]
  exact hown
 ·rcases hnw k hk with e | e
  ·exact h.blk k e
  ·omega
theorem uj.made {α : Type} {e size : Nat} {enc : α → List Value} (w : World) : uj e size enc w.heap.size (w.alloc (.cells #[] e)) (.slice (some ⟨w.heap.size,0,none⟩) 0 0) [] :=
 ⟨World.ownsRow_made (base := 0) w #[] 0 (Nat.zero_le _) (Nat.zero_le _) (by simp),fun k hk => by cases hk; exact Nat.le_refl _⟩
theorem aha {P : Program} (w : World) (t e : TypeId) (X : Array Value) (n : Nat) (ie : TypeInfo) (z : Value) (hu : P.underlying t = some (.slice e)) (hie : P.info? e = some ie) (hz : ie.zero = some z) (hs : ie.size = n) (h0 : 0 < n) (h1 : n ≤ 1000) (hX : X.size = n) :
  (Instr.buildSlice t 1 #[(0,.agg X)]).run P w = .ok (.slice (some ⟨w.heap.size,0,none⟩) 1 1) (w.alloc (.cells X e)) := by
 subst hs
 refine run_buildSlice w t e 1 _ X ie z hu hie hz (by rw [Nat.one_mul]; have : 2 ^ 24 = 16777216 := rfl; omega) (by omega) ?_
 have := Great.fill_whole h0 [.agg X] ((Array.range (1 * ie.size)).map (z.cells[· % z.cells.size]!)) (fun v hv => by rw [List.mem_singleton] at hv; subst hv; exact hX) (by simp)
 simpa [Value.cells] using this
end Go.Proofs.YtohckefafbhooaaGreat
