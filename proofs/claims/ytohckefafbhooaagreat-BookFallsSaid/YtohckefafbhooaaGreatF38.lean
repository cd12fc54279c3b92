import Derived.Test.YtohckefafbhooaaGreatF14
import Derived.Test.YtohckefafbhooaaGreatF35
import Derived.Test.YtohckefafbhooaaGreatF36
import Derived.Test.YtohckefafbhooaaGreatF13
import Derived.Test.YtohckefafbhooaaGreatF9
import Derived.Test.YtohckefafbhooaaGreatF37
import Derived.Test.YtohckefafbhooaaGreatF1
namespace Go.Proofs.YtohckefafbhooaaGreat
set_option maxRecDepth 100000
set_option linter.unusedVariables false
set_option linter.unusedSimpArgs false
open Go.RowKit
attribute [-go_sem] cell_at
@[go_sem ↓ high] theorem load_bbook (p : Value) : Instr.loadAt 97 p = loadRowAt 97 p := rfl
@[go_sem ↓ high] theorem store_bbook (p v : Value) : Instr.storeAt 97 p v = storeRowAt 97 p v := rfl
theorem cB_set (x : Vlt) (k : Nat) (u : Value) : (cB x).setIfInBounds (21 + k) u = (.int .u8 (x.who : Int) :: ((a20 x.addr).map B8 ++ [Value.int .u64 (x.coll : Int),.int .u64 (x.iss : Int),.int .u64 (x.com : Int),.int .u64 (x.goi : Int),.int .u64 (x.lea : Int),.bool x.fal].set k u)).toArray := by
 unfold cB encB
 rw [List.setIfInBounds_toArray,show 21 + k = (20 + k) + 1 by omega,List.set_cons_succ,List.set_append_right _ _ (by rw [List.length_map,a20_len]; omega),List.length_map,a20_len,Nat.add_sub_cancel_left]
theorem cBf (x : Vlt) : (cB x).size = 27 ∧ rowOne (cB x) ∧ (cB x)[0]? = some (.int .u8 (x.who : Int)) ∧ (cB x)[21]? = some (.int .u64 (x.coll : Int)) ∧ (cB x)[22]? = some (.int .u64 (x.iss : Int)) ∧ (cB x)[23]? = some (.int .u64 (x.com : Int)) ∧ (cB x)[24]? = some (.int .u64 (x.goi : Int)) ∧ (cB x)[25]? = some (.int .u64 (x.lea : Int)) ∧ (cB x)[26]? = some (.bool x.fal) := by
 have h : ∀ k,(cB x)[21 + k]? = [Value.int .u64 (x.coll : Int),.int .u64 (x.iss : Int),.int .u64 (x.com : Int),.int .u64 (x.goi : Int),.int .u64 (x.lea : Int),.bool x.fal][k]? := fun k => by
  rw [← encB_tail x k]
  unfold cB
  simp
 exact ⟨cB_size x,cB_one x,rfl,h 0,h 1,h 2,h 3,h 4,h 5⟩
def VX (w : World) (g : Nat) (x : Vlt) : Prop := w.heap[g]? = some (.cells (cB x) 72 (0,0))
section
variable {w w' : World} {g : Nat} {x : Vlt}
theorem VX.cell0 (h : VX w g x) : w.cell? ⟨g,0,none⟩ = some (.int .u8 (x.who : Int)) := by
 unfold VX at h
 simp [World.cell?,h,cB,encB]
theorem VX.cellT (h : VX w g x) (k : Nat) : w.cell? ⟨g,21 + k,none⟩ = [Value.int .u64 (x.coll : Int),.int .u64 (x.iss : Int),.int .u64 (x.com : Int),.int .u64 (x.goi : Int),.int .u64 (x.lea : Int),.bool x.fal][k]? := by
 unfold VX at h
 rw [← encB_tail x k]
 simp [World.cell?,h,cB]
theorem VX.coll (h : VX w g x) : w.cell? ⟨g,21,none⟩ = some (.int .u64 (x.coll : Int)) := h.cellT 0
theorem VX.iss (h : VX w g x) : w.cell? ⟨g,22,none⟩ = some (.int .u64 (x.iss : Int)) := h.cellT 1
theorem VX.goi (h : VX w g x) : w.cell? ⟨g,24,none⟩ = some (.int .u64 (x.goi : Int)) := h.cellT 3
theorem VX.fal (h : VX w g x) : w.cell? ⟨g,26,none⟩ = some (.bool x.fal) := h.cellT 5
theorem VX.fr {S : Nat → Prop} (h : VX w g x) (f : Fr S w w') (hs : ¬ S g) : VX w' g x := f.keeps hs h
theorem VX.set (h : VX w g x) (k : Nat) (u : Value) (y : Vlt) (hy : (cB x).setIfInBounds (21 + k) u = cB y) : VX (w.setCell ⟨g,21 + k,none⟩ u) g y := by
 unfold VX at *
 rw [heap_setCell_at,h,← hy]
 rfl
theorem VX.setColl (h : VX w g x) (c : Nat) : VX (w.setCell ⟨g,21,none⟩ (.int .u64 (c : Int))) g { x with coll := c } := h.set 0 _ _ (cB_set x 0 _)
theorem VX.setIss (h : VX w g x) (c : Nat) : VX (w.setCell ⟨g,22,none⟩ (.int .u64 (c : Int))) g { x with iss := c } := h.set 1 _ _ (cB_set x 1 _)
theorem VX.setCom (h : VX w g x) (c : Nat) : VX (w.setCell ⟨g,23,none⟩ (.int .u64 (c : Int))) g { x with com := c } := h.set 2 _ _ (cB_set x 2 _)
theorem VX.setGoi (h : VX w g x) (c : Nat) : VX (w.setCell ⟨g,24,none⟩ (.int .u64 (c : Int))) g { x with goi := c } := h.set 3 _ _ (cB_set x 3 _)
theorem VX.setLea (h : VX w g x) (c : Nat) : VX (w.setCell ⟨g,25,none⟩ (.int .u64 (c : Int))) g { x with lea := c } := h.set 4 _ _ (cB_set x 4 _)
theorem VX.setFal (h : VX w g x) (c : Bool) : VX (w.setCell ⟨g,26,none⟩ (.bool c)) g { x with fal := c } := h.set 5 _ _ (cB_set x 5 _)
end
def bkC (tp q fp vb : Nat) (now pc pn dep : Nat) : Array Value :=
 #[.int .u64 2000,.int .u64 1500,.int .u64 1200,.int .u64 100,.int .u64 50,.int .u64 10,.int .u64 10,.int .u64 10,.int .u64 50,.int .u64 100,.int .u64 10,
  .int .u64 (now : Int),.pointer (some ⟨tp,0,none⟩),.pointer (some ⟨q,0,none⟩),.pointer (some ⟨fp,0,none⟩),.int .u64 (pc : Int),.int .u64 (pn : Int),.map (some vb),.int .u64 (dep : Int)]
structure BK (w : World) (p tp : Nat) (tob : Option Nat) (q qp : Nat) (qob : Option Nat) (fp vb : Nat) (M : Bok) : Prop where
 at_ : w.heap[p]? = some (.cells (bkC tp q fp vb M.now M.pc M.pn M.dep) 97 (0,0))
 led : LG w tp tob 256 M.tok
 pur : PG w q qp qob 256 M.free (sumN M.free 256) M.held M.inn M.out
 feed : FD w fp 100 50 M.price M.told
 vm : MV w vb 256 (gOf M.vs)
 pT : ¬ LS tp tob p
 pQ : ¬ PS q qp qob p
 pF : p ≠ fp
 pV : p ≠ vb
 tQ : ∀ k,LS tp tob k → ¬ PS q qp qob k
 tF : ¬ LS tp tob fp
 tV : ¬ LS tp tob vb
 qF : ¬ PS q qp qob fp
 qV : ¬ PS q qp qob vb
 fV : fp ≠ vb
def BS (p tp : Nat) (tob : Option Nat) (q qp : Nat) (qob : Option Nat) (fp vb : Nat) (k : Nat) : Prop := k = p ∨ LS tp tob k ∨ PS q qp qob k ∨ k = fp ∨ k = vb
theorem LG.lts {w : World} {p n : Nat} {ob : Option Nat} {f : Nat → Nat} (L : LG w p ob n f) {k : Nat} (h : LS p ob k) : k < w.heap.size := by
 rcases h with rfl | h
 ·exact L.lt
 ·exact L.map.lt h
theorem PG.lts {w : World} {q p n t h i o : Nat} {ob : Option Nat} {f : Nat → Nat} (d : PG w q p ob n f t h i o) {k : Nat} (hk : PS q p ob k) : k < w.heap.size := by
 rcases hk with rfl | h
 ·exact d.lt
 ·exact d.led.lts h
theorem LG.to256 {w : World} {p n : Nat} {ob : Option Nat} {f : Nat → Nat} (L : LG w p ob n f) : LG w p ob 256 f := ⟨L.at_,L.map.to256,L.ne⟩
theorem PG.to256 {w : World} {q p n t h i o : Nat} {ob : Option Nat} {f : Nat → Nat} (d : PG w q p ob n f t h i o) : PG w q p ob 256 f t h i o := ⟨d.at_,d.led.to256,d.inv,d.sum,d.le,d.qp,d.oq⟩
theorem LS.ob {w : World} {p : Nat} {ob ob' : Option Nat} (h : OB w ob ob') {k : Nat} (hk : LS p ob' k) : LS p ob k ∨ w.heap.size ≤ k := by
 rcases hk with rfl | e
 ·exact .inl (.inl rfl)
 ·rcases h with h | ⟨_,B,h,hB⟩
  ·exact .inl (.inr (by rw [← h]; exact e))
  ·rw [e] at h; cases h; exact .inr hB
theorem PS.ob {w : World} {q p : Nat} {ob ob' : Option Nat} (h : OB w ob ob') {k : Nat} (hk : PS q p ob' k) : PS q p ob k ∨ w.heap.size ≤ k := by
 rcases hk with rfl | e
 ·exact .inl (.inl rfl)
 ·rcases LS.ob h e with e | e
  ·exact .inl (.inr e)
  ·exact .inr e
section
variable {w w' : World} {p tp : Nat} {tob : Option Nat} {q qp : Nat} {qob : Option Nat} {fp vb : Nat} {M : Bok}
theorem BK.lt (b : BK w p tp tob q qp qob fp vb M) : p < w.heap.size := (Array.getElem?_eq_some_iff.1 b.at_).1
theorem BK.lts (b : BK w p tp tob q qp qob fp vb M) {k : Nat} (h : BS p tp tob q qp qob fp vb k) : k < w.heap.size := by
 rcases h with rfl | h | h | rfl | rfl
 ·exact b.lt
 ·exact b.led.lts h
 ·exact b.pur.lts h
 ·exact b.feed.lt
 ·exact b.vm.lt
theorem BK.fr {S : Nat → Prop} (b : BK w p tp tob q qp qob fp vb M) (f : Fr S w w') (h : ∀ k,BS p tp tob q qp qob fp vb k → ¬ S k) : BK w' p tp tob q qp qob fp vb M :=
 ⟨f.keeps (h p (.inl rfl)) b.at_,b.led.fr f (h _ (.inr (.inl (.inl rfl)))) (fun B e => h B (.inr (.inl (.inr e)))),b.pur.fr f (h _ (.inr (.inr (.inl (.inl rfl))))) (h _ (.inr (.inr (.inl (.inr (.inl rfl)))))) (fun B e => h B (.inr (.inr (.inl (.inr (.inr e)))))),
  b.feed.fr f (h _ (.inr (.inr (.inr (.inl rfl))))),b.vm.fr f (h _ (.inr (.inr (.inr (.inr rfl))))),b.pT,b.pQ,b.pF,b.pV,b.tQ,b.tF,b.tV,b.qF,b.qV,b.fV⟩
theorem BK.fr0 (b : BK w p tp tob q qp qob fp vb M) (f : Fr F0 w w') : BK w' p tp tob q qp qob fp vb M := b.fr f fun _ _ x => x
theorem BK.tok (b : BK w p tp tob q qp qob fp vb M) {tob' : Option Nat} {n : Nat} {f' : Nat → Nat} (L : LG w' tp tob' n f') (o : OB w tob tob') (f : Fr (LS tp tob) w w') : BK w' p tp tob' q qp qob fp vb { M with tok := f' } := by
 have ho : ∀ k,k < w.heap.size → LS tp tob' k → LS tp tob k := fun k hk h => (LS.ob o h).resolve_right (by omega)
 refine ⟨f.keeps b.pT b.at_,L.to256,b.pur.fr f (fun e => b.tQ _ e (.inl rfl)) (fun e => b.tQ _ e (.inr (.inl rfl))) (fun B h e => b.tQ _ e (.inr (.inr h))),b.feed.fr f b.tF,b.vm.fr f b.tV,fun e => b.pT (ho _ b.lt e),b.pQ,b.pF,b.pV,fun k hk e => b.tQ k (ho k (b.pur.lts e) hk) e,fun e => b.tF (ho _ b.feed.lt e),fun e => b.tV (ho _ b.vm.lt e),b.qF,b.qV,b.fV⟩
theorem BK.purse (b : BK w p tp tob q qp qob fp vb M) {qob' : Option Nat} {n t h i o : Nat} {f' : Nat → Nat} (P : PG w' q qp qob' n f' t h i o) (ho : OB w qob qob') (f : Fr (PS q qp qob) w w') : BK w' p tp tob q qp qob' fp vb { M with free := f',held := h,inn := i,out := o } := by
 have hs : ∀ k,k < w.heap.size → PS q qp qob' k → PS q qp qob k := fun k hk h => (PS.ob ho h).resolve_right (by omega)
 refine ⟨f.keeps b.pQ b.at_,b.led.fr f (fun e => b.tQ _ (.inl rfl) e) (fun B h e => b.tQ _ (.inr h) e),?_,b.feed.fr f b.qF,b.vm.fr f b.qV,b.pT,fun e => b.pQ (hs _ b.lt e),b.pF,b.pV,fun k hk e => b.tQ k hk (hs k (b.led.lts hk) e),b.tF,b.tV,fun e => b.qF (hs _ b.feed.lt e),fun e => b.qV (hs _ b.vm.lt e),b.fV⟩
 have e : t = sumN f' 256 := P.inv.sum.symm
 rw [← e]
 exact P.to256
theorem BK.feedS (b : BK w p tp tob q qp qob fp vb M) {x t : Nat} (F : FD w' fp 100 50 x t) (f : Fr (fun k => k = fp) w w') : BK w' p tp tob q qp qob fp vb { M with price := x,told := t } :=
 ⟨f.keeps b.pF b.at_,b.led.fr f (fun e => b.tF (.inl e.symm)) (fun B h e => b.tF (.inr (by rw [h,e]))),b.pur.fr f (fun e => b.qF (.inl e.symm)) (fun e => b.qF (.inr (.inl e.symm))) (fun B h e => b.qF (.inr (.inr (by rw [h,e])))),F,b.vm.fr f (fun e => b.fV e.symm),b.pT,b.pQ,b.pF,b.pV,b.tQ,b.tF,b.tV,b.qF,b.qV,b.fV⟩
theorem BK.vmap (b : BK w p tp tob q qp qob fp vb M) {n : Nat} {l : List Vlt} (V : MV w' vb n (gOf l)) (f : Fr (fun k => k = vb) w w') : BK w' p tp tob q qp qob fp vb { M with vs := l } :=
 ⟨f.keeps b.pV b.at_,b.led.fr f (fun e => b.tV (.inl e.symm)) (fun B h e => b.tV (.inr (by rw [h,e]))),b.pur.fr f (fun e => b.qV (.inl e.symm)) (fun e => b.qV (.inr (.inl e.symm))) (fun B h e => b.qV (.inr (.inr (by rw [h,e])))),b.feed.fr f b.fV,V.to256,b.pT,b.pQ,b.pF,b.pV,b.tQ,b.tF,b.tV,b.qF,b.qV,b.fV⟩
theorem BK.own (b : BK w p tp tob q qp qob fp vb M) {now pc pn dep : Nat} (h : w'.heap[p]? = some (.cells (bkC tp q fp vb now pc pn dep) 97 (0,0))) (f : Fr (fun k => k = p) w w') : BK w' p tp tob q qp qob fp vb { M with now := now,pc := pc,pn := pn,dep := dep } :=
 ⟨h,b.led.fr f (fun e => b.pT (.inl e.symm)) (fun B h e => b.pT (.inr (by rw [h,e]))),b.pur.fr f (fun e => b.pQ (.inl e.symm)) (fun e => b.pQ (.inr (.inl e.symm))) (fun B h e => b.pQ (.inr (.inr (by rw [h,e])))),b.feed.fr f (fun e => b.pF e.symm),b.vm.fr f (fun e => b.pV e.symm),b.pT,b.pQ,b.pF,b.pV,b.tQ,b.tF,b.tV,b.qF,b.qV,b.fV⟩
end
def KB (S : Nat → Prop) (w : World) (p : Nat) (M : Bok) : Prop := ∃ tp tob q qp qob fp vb,BK w p tp tob q qp qob fp vb M ∧ ∀ k,S k ↔ BS p tp tob q qp qob fp vb k
section
variable {S : Nat → Prop} {w w' : World} {p : Nat} {M : Bok}
end
end Go.Proofs.YtohckefafbhooaaGreat
namespace Go.Proofs.YtohckefafbhooaaGreat
set_option maxRecDepth 100000
set_option linter.unusedVariables false
set_option linter.unusedSimpArgs false
open Go.RowKit
end Go.Proofs.YtohckefafbhooaaGreat
namespace Go.Proofs.YtohckefafbhooaaGreat
set_option maxRecDepth 100000
set_option linter.unusedVariables false
set_option linter.unusedSimpArgs false
open Go.RowKit
end Go.Proofs.YtohckefafbhooaaGreat
