import Derived.Test.YtohckefafbhooaaGreatR14
import Derived.Test.YtohckefafbhooaaGreatR35
import Derived.Test.YtohckefafbhooaaGreatR36
import Derived.Test.YtohckefafbhooaaGreatR13
import Derived.Test.YtohckefafbhooaaGreatR9
import Derived.Test.YtohckefafbhooaaGreatR37
import Derived.Test.YtohckefafbhooaaGreatR1
set_option maxRecDepth 100000
set_option maxHeartbeats 64000000
namespace Go.Proofs.YtohckefafbhooaaGreat
set_option linter.unusedVariables false
set_option linter.unusedSimpArgs false
open Go.RowKit
attribute [-go_sem] gq
theorem Tryz.szBBook : (Tryz.prog.info? 97).map (·.size) = some 19 := by kernel_rfl
@[go_sem ↓ high] theorem aGh (p : Value) : Instr.loadAt 97 p = gu 97 p := rfl
@[go_sem ↓ high] theorem aFw (p v : Value) : Instr.storeAt 97 p v = jd 97 p v := rfl
@[go_sem] theorem aza (w : World) (g : Nat) : (gu 97 (.pointer (some ⟨g,0,none⟩))).run Tryz.prog w = abe Tryz.prog 97 (.pointer (some ⟨g,0,none⟩)) w 19 w.heap[g]? :=
 ku w _ g 19 _ Tryz.underlying97 rfl Tryz.szBBook
@[go_sem] theorem ayo (w : World) (g : Nat) (cells : Array Value) : (jd 97 (.pointer (some ⟨g,0,none⟩)) (.agg cells)).run Tryz.prog w = aec Tryz.prog 97 (.pointer (some ⟨g,0,none⟩)) cells g w 19 w.heap[g]? :=
 ou w _ g 19 cells Tryz.szBBook
theorem aip (x : Vlt) (k : Nat) (u : Value) : (cB x).setIfInBounds (21 + k) u = (.int .u8 (x.who : Int) :: ((a20 x.addr).map B8 ++ [Value.int .u64 (x.coll : Int),.int .u64 (x.iss : Int),.int .u64 (x.com : Int),.int .u64 (x.goi : Int),.int .u64 (x.lea : Int),.bool x.fal].set k u)).toArray := by
 unfold cB ad9
 rw [List.setIfInBounds_toArray,show 21 + k = (20 + k) + 1 by omega,List.set_cons_succ,List.set_append_right _ _ (by rw [List.length_map,vk]; omega),List.length_map,vk,Nat.add_sub_cancel_left]
theorem cBf (x : Vlt) : (cB x).size = 27 ∧ yg (cB x) ∧ (cB x)[0]? = some (.int .u8 (x.who : Int)) ∧ (cB x)[21]? = some (.int .u64 (x.coll : Int)) ∧ (cB x)[22]? = some (.int .u64 (x.iss : Int)) ∧ (cB x)[23]? = some (.int .u64 (x.com : Int)) ∧ (cB x)[24]? = some (.int .u64 (x.goi : Int)) ∧ (cB x)[25]? = some (.int .u64 (x.lea : Int)) ∧ (cB x)[26]? = some (.bool x.fal) := by
 have h : ∀ k,(cB x)[21 + k]? = [Value.int .u64 (x.coll : Int),.int .u64 (x.iss : Int),.int .u64 (x.com : Int),.int .u64 (x.goi : Int),.int .u64 (x.lea : Int),.bool x.fal][k]? := fun k => by
  rw [← ag5 x k]
  unfold cB
  simp
 exact ⟨lu x,ru x,rfl,h 0,h 1,h 2,h 3,h 4,h 5⟩
def VX (w : World) (g : Nat) (x : Vlt) : Prop := w.heap[g]? = some (.cells (cB x) 72 (0,0))
section
variable {w w' : World} {g : Nat} {x : Vlt}
theorem VX.cell0 (h : VX w g x) : w.cell? ⟨g,0,none⟩ = some (.int .u8 (x.who : Int)) := by
 unfold VX at h
 simp [World.cell?,h,cB,ad9]
theorem VX.cellT (h : VX w g x) (k : Nat) : w.cell? ⟨g,21 + k,none⟩ = [Value.int .u64 (x.coll : Int),.int .u64 (x.iss : Int),.int .u64 (x.com : Int),.int .u64 (x.goi : Int),.int .u64 (x.lea : Int),.bool x.fal][k]? := by
 unfold VX at h
 rw [← ag5 x k]
 simp [World.cell?,h,cB]
theorem VX.coll (h : VX w g x) : w.cell? ⟨g,21,none⟩ = some (.int .u64 (x.coll : Int)) := h.cellT 0
theorem VX.iss (h : VX w g x) : w.cell? ⟨g,22,none⟩ = some (.int .u64 (x.iss : Int)) := h.cellT 1
theorem VX.com (h : VX w g x) : w.cell? ⟨g,23,none⟩ = some (.int .u64 (x.com : Int)) := h.cellT 2
theorem VX.goi (h : VX w g x) : w.cell? ⟨g,24,none⟩ = some (.int .u64 (x.goi : Int)) := h.cellT 3
theorem VX.lea (h : VX w g x) : w.cell? ⟨g,25,none⟩ = some (.int .u64 (x.lea : Int)) := h.cellT 4
theorem VX.fal (h : VX w g x) : w.cell? ⟨g,26,none⟩ = some (.bool x.fal) := h.cellT 5
theorem VX.fr {S : Nat → Prop} (h : VX w g x) (f : Fr S w w') (hs : ¬ S g) : VX w' g x := f.keeps hs h
theorem VX.set (h : VX w g x) (k : Nat) (u : Value) (y : Vlt) (hy : (cB x).setIfInBounds (21 + k) u = cB y) : VX (w.setCell ⟨g,21 + k,none⟩ u) g y := by
 unfold VX at *
 rw [cu,h,← hy]
 rfl
theorem VX.agr (h : VX w g x) (c : Nat) : VX (w.setCell ⟨g,21,none⟩ (.int .u64 (c : Int))) g { x with coll := c } := h.set 0 _ _ (aip x 0 _)
theorem VX.agj (h : VX w g x) (c : Nat) : VX (w.setCell ⟨g,22,none⟩ (.int .u64 (c : Int))) g { x with iss := c } := h.set 1 _ _ (aip x 1 _)
theorem VX.ail (h : VX w g x) (c : Nat) : VX (w.setCell ⟨g,23,none⟩ (.int .u64 (c : Int))) g { x with com := c } := h.set 2 _ _ (aip x 2 _)
theorem VX.ave (h : VX w g x) (c : Nat) : VX (w.setCell ⟨g,24,none⟩ (.int .u64 (c : Int))) g { x with goi := c } := h.set 3 _ _ (aip x 3 _)
theorem VX.aqs (h : VX w g x) (c : Nat) : VX (w.setCell ⟨g,25,none⟩ (.int .u64 (c : Int))) g { x with lea := c } := h.set 4 _ _ (aip x 4 _)
theorem VX.aJf (h : VX w g x) (c : Bool) : VX (w.setCell ⟨g,26,none⟩ (.bool c)) g { x with fal := c } := h.set 5 _ _ (aip x 5 _)
end
def bkC (tp q fp vb : Nat) (now pc pn dep : Nat) : Array Value :=
 #[.int .u64 2000,.int .u64 1500,.int .u64 1200,.int .u64 100,.int .u64 50,.int .u64 10,.int .u64 10,.int .u64 10,.int .u64 50,.int .u64 100,.int .u64 10,
  .int .u64 (now : Int),.pointer (some ⟨tp,0,none⟩),.pointer (some ⟨q,0,none⟩),.pointer (some ⟨fp,0,none⟩),.int .u64 (pc : Int),.int .u64 (pn : Int),.map (some vb),.int .u64 (dep : Int)]
structure BK (w : World) (p tp : Nat) (tob : Option Nat) (q qp : Nat) (qob : Option Nat) (fp vb : Nat) (M : Bok) : Prop where
 at_ : w.heap[p]? = some (.cells (bkC tp q fp vb M.now M.pc M.pn M.dep) 97 (0,0))
 led : LG w tp tob 256 M.tok
 pur : PG w q qp qob 256 M.free (uy M.free 256) M.held M.inn M.out
 feed : FD w fp 100 50 M.price M.told
 vm : MV w vb 256 (gOf M.vs)
 pT : ¬ LS tp tob p
 pQ : ¬ PS q qp qob p
 pF : p ≠ fp
 pV : p ≠ vb
 tQ : ∀ k,LS tp tob k → ¬ PS q qp qob k
 tF : ¬ LS tp tob fp
 tV : ¬ LS tp tob vb
 qF : ¬ PS q qp qob fp
 qV : ¬ PS q qp qob vb
 fV : fp ≠ vb
def BS (p tp : Nat) (tob : Option Nat) (q qp : Nat) (qob : Option Nat) (fp vb : Nat) (k : Nat) : Prop := k = p ∨ LS tp tob k ∨ PS q qp qob k ∨ k = fp ∨ k = vb
theorem LG.lts {w : World} {p n : Nat} {ob : Option Nat} {f : Nat → Nat} (L : LG w p ob n f) {k : Nat} (h : LS p ob k) : k < w.heap.size := by
 rcases h with rfl | h
 ·exact L.lt
 ·exact L.map.lt h
theorem PG.lts {w : World} {q p n t h i o : Nat} {ob : Option Nat} {f : Nat → Nat} (d : PG w q p ob n f t h i o) {k : Nat} (hk : PS q p ob k) : k < w.heap.size := by
 rcases hk with rfl | h
 ·exact d.lt
 ·exact d.led.lts h
theorem LG.ae7 {w : World} {p n : Nat} {ob : Option Nat} {f : Nat → Nat} (L : LG w p ob n f) : LG w p ob 256 f := ⟨L.at_,L.map.ae7,L.ne⟩
theorem PG.ae7 {w : World} {q p n t h i o : Nat} {ob : Option Nat} {f : Nat → Nat} (d : PG w q p ob n f t h i o) : PG w q p ob 256 f t h i o := ⟨d.at_,d.led.ae7,d.inv,d.sum,d.le,d.qp,d.oq⟩
theorem LS.ob {w : World} {p : Nat} {ob ob' : Option Nat} (h : OB w ob ob') {k : Nat} (hk : LS p ob' k) : LS p ob k ∨ w.heap.size ≤ k := by
 rcases hk with rfl | e
 ·exact .inl (.inl rfl)
 ·rcases h with h | ⟨_,B,h,hB⟩
  ·exact .inl (.inr (by rw [← h]; exact e))
  ·rw [e] at h; cases h; exact .inr hB
theorem PS.ob {w : World} {q p : Nat} {ob ob' : Option Nat} (h : OB w ob ob') {k : Nat} (hk : PS q p ob' k) : PS q p ob k ∨ w.heap.size ≤ k := by
 rcases hk with rfl | e
 ·exact .inl (.inl rfl)
 ·rcases LS.ob h e with e | e
  ·exact .inl (.inr e)
  ·exact .inr e
section
variable {w w' : World} {p tp : Nat} {tob : Option Nat} {q qp : Nat} {qob : Option Nat} {fp vb : Nat} {M : Bok}
theorem BK.lt (b : BK w p tp tob q qp qob fp vb M) : p < w.heap.size := (Array.getElem?_eq_some_iff.1 b.at_).1
theorem BK.lts (b : BK w p tp tob q qp qob fp vb M) {k : Nat} (h : BS p tp tob q qp qob fp vb k) : k < w.heap.size := by
 rcases h with rfl | h | h | rfl | rfl
 ·exact b.lt
 ·exact b.led.lts h
 ·exact b.pur.lts h
 ·exact b.feed.lt
 ·exact b.vm.lt
theorem BK.fr {S : Nat → Prop} (b : BK w p tp tob q qp qob fp vb M) (f : Fr S w w') (h : ∀ k,BS p tp tob q qp qob fp vb k → ¬ S k) : BK w' p tp tob q qp qob fp vb M :=
 ⟨f.keeps (h p (.inl rfl)) b.at_,b.led.fr f (h _ (.inr (.inl (.inl rfl)))) (fun B e => h B (.inr (.inl (.inr e)))),b.pur.fr f (h _ (.inr (.inr (.inl (.inl rfl))))) (h _ (.inr (.inr (.inl (.inr (.inl rfl)))))) (fun B e => h B (.inr (.inr (.inl (.inr (.inr e)))))),
  b.feed.fr f (h _ (.inr (.inr (.inr (.inl rfl))))),b.vm.fr f (h _ (.inr (.inr (.inr (.inr rfl))))),b.pT,b.pQ,b.pF,b.pV,b.tQ,b.tF,b.tV,b.qF,b.qV,b.fV⟩
theorem BK.fr0 (b : BK w p tp tob q qp qob fp vb M) (f : Fr F0 w w') : BK w' p tp tob q qp qob fp vb M := b.fr f fun _ _ x => x
theorem BK.tok (b : BK w p tp tob q qp qob fp vb M) {ayu : Option Nat} {n : Nat} {f' : Nat → Nat} (L : LG w' tp ayu n f') (o : OB w tob ayu) (f : Fr (LS tp tob) w w') : BK w' p tp ayu q qp qob fp vb { M with tok := f' } := by
 have ho : ∀ k,k < w.heap.size → LS tp ayu k → LS tp tob k := fun k hk h => (LS.ob o h).resolve_right (by omega)
 refine ⟨f.keeps b.pT b.at_,L.ae7,b.pur.fr f (fun e => b.tQ _ e (.inl rfl)) (fun e => b.tQ _ e (.inr (.inl rfl))) (fun B h e => b.tQ _ e (.inr (.inr h))),b.feed.fr f b.tF,b.vm.fr f b.tV,fun e => b.pT (ho _ b.lt e),b.pQ,b.pF,b.pV,fun k hk e => b.tQ k (ho k (b.pur.lts e) hk) e,fun e => b.tF (ho _ b.feed.lt e),fun e => b.tV (ho _ b.vm.lt e),b.qF,b.qV,b.fV⟩
theorem BK.purse (b : BK w p tp tob q qp qob fp vb M) {ay3 : Option Nat} {n t h i o : Nat} {f' : Nat → Nat} (P : PG w' q qp ay3 n f' t h i o) (ho : OB w qob ay3) (f : Fr (PS q qp qob) w w') : BK w' p tp tob q qp ay3 fp vb { M with free := f',held := h,inn := i,out := o } := by
 have hs : ∀ k,k < w.heap.size → PS q qp ay3 k → PS q qp qob k := fun k hk h => (PS.ob ho h).resolve_right (by omega)
 refine ⟨f.keeps b.pQ b.at_,b.led.fr f (fun e => b.tQ _ (.inl rfl) e) (fun B h e => b.tQ _ (.inr h) e),?_,b.feed.fr f b.qF,b.vm.fr f b.qV,b.pT,fun e => b.pQ (hs _ b.lt e),b.pF,b.pV,fun k hk e => b.tQ k hk (hs k (b.led.lts hk) e),b.tF,b.tV,fun e => b.qF (hs _ b.feed.lt e),fun e => b.qV (hs _ b.vm.lt e),b.fV⟩
 have e : t = uy f' 256 := P.inv.sum.symm
 rw [← e]
 exact P.ae7
theorem BK.feedS (b : BK w p tp tob q qp qob fp vb M) {x t : Nat} (F : FD w' fp 100 50 x t) (f : Fr (fun k => k = fp) w w') : BK w' p tp tob q qp qob fp vb { M with price := x,told := t } :=
 ⟨f.keeps b.pF b.at_,b.led.fr f (fun e => b.tF (.inl e.symm)) (fun B h e => b.tF (.inr (by rw [h,e]))),b.pur.fr f (fun e => b.qF (.inl e.symm)) (fun e => b.qF (.inr (.inl e.symm))) (fun B h e => b.qF (.inr (.inr (by rw [h,e])))),F,b.vm.fr f (fun e => b.fV e.symm),b.pT,b.pQ,b.pF,b.pV,b.tQ,b.tF,b.tV,b.qF,b.qV,b.fV⟩
theorem BK.vmap (b : BK w p tp tob q qp qob fp vb M) {n : Nat} {l : List Vlt} (V : MV w' vb n (gOf l)) (f : Fr (fun k => k = vb) w w') : BK w' p tp tob q qp qob fp vb { M with vs := l } :=
 ⟨f.keeps b.pV b.at_,b.led.fr f (fun e => b.tV (.inl e.symm)) (fun B h e => b.tV (.inr (by rw [h,e]))),b.pur.fr f (fun e => b.qV (.inl e.symm)) (fun e => b.qV (.inr (.inl e.symm))) (fun B h e => b.qV (.inr (.inr (by rw [h,e])))),b.feed.fr f b.fV,V.ae7,b.pT,b.pQ,b.pF,b.pV,b.tQ,b.tF,b.tV,b.qF,b.qV,b.fV⟩
theorem BK.own (b : BK w p tp tob q qp qob fp vb M) {now pc pn dep : Nat} (h : w'.heap[p]? = some (.cells (bkC tp q fp vb now pc pn dep) 97 (0,0))) (f : Fr (fun k => k = p) w w') : BK w' p tp tob q qp qob fp vb { M with now := now,pc := pc,pn := pn,dep := dep } :=
 ⟨h,b.led.fr f (fun e => b.pT (.inl e.symm)) (fun B h e => b.pT (.inr (by rw [h,e]))),b.pur.fr f (fun e => b.pQ (.inl e.symm)) (fun e => b.pQ (.inr (.inl e.symm))) (fun B h e => b.pQ (.inr (.inr (by rw [h,e])))),b.feed.fr f (fun e => b.pF e.symm),b.vm.fr f (fun e => b.pV e.symm),b.pT,b.pQ,b.pF,b.pV,b.tQ,b.tF,b.tV,b.qF,b.qV,b.fV⟩
end
def KB (S : Nat → Prop) (w : World) (p : Nat) (M : Bok) : Prop := ∃ tp tob q qp qob fp vb,BK w p tp tob q qp qob fp vb M ∧ ∀ k,S k ↔ BS p tp tob q qp qob fp vb k
section
variable {S : Nat → Prop} {w w' : World} {p : Nat} {M : Bok}
end
end Go.Proofs.YtohckefafbhooaaGreat
namespace Go.Proofs.YtohckefafbhooaaGreat
set_option linter.unusedVariables false
set_option linter.unusedSimpArgs false
open Go.RowKit
theorem dCf (d : Dd) : (dC d).size = 24 ∧ yg (dC d) ∧ (dC d)[0]? = some (.int .i64 (d.kind : Int)) ∧ (dC d)[1]? = some (.int .i64 (d.w : Int)) ∧ (dC d)[2]? = some (.int .i64 (d.v : Int)) ∧ (dC d)[3]? = some (.int .u64 (d.a : Int)) := ⟨vg d,aKh d,rfl,rfl,rfl,rfl⟩
theorem aKf {w : World} {pv : Option Addr} {d : Dd} (hk : d.kind = 0) (hw : d.w < 256) (hv : d.v < 256) {E : Int} {Q : World → Prop}
  (H : ∀ W,Fr F0 w W → Calls Tryz.prog 43 #[.pointer pv,.int .u64 (d.a : Int)] W fun e w' => e = .returned (.int .i64 E) ∧ Q w') :
  Calls Tryz.prog 13 #[.pointer pv,.agg (dC d)] w fun e w' => e = .returned (.tuple #[.int .u64 0,.int .i64 E]) ∧ Q w' := by
 obtain ⟨sz,oS,k0,k1,k2,k3⟩ := dCf d
 rw [hk] at k0
 replace k0 : (dC d)[0]? = some (.int .i64 0) := k0
 have mw : IntKind.u8.wrap (d.w : Int) = (d.w : Int) := IntWalk.u8_in _ (by omega)
 have mv : IntKind.u8.wrap (d.v : Int) = (d.v : Int) := IntWalk.u8_in _ (by omega)
 replace H := Lib.hid H
 generalize (d.w : Int) = dw at *
 generalize (d.v : Int) = dv at *
 generalize (d.a : Int) = da at *
 generalize dC d = C at *
 have e0 := ay k0
 have e1 := ay k1
 have e2 := ay k2
 have e3 := ay k3
 clear hk hw hv
 go_enter Tryz.func13,Tryz.ntmps13
 go_upto_region 1 with fail
 refine eu fun W1 N => ?_
 have r3 := N.new
 have F1 := Lib.hid N.fr
 clear N
 obtain ⟨g3,hg3⟩ : ∃ g,w.heap.size = g := ⟨_,rfl⟩
 rw [hg3] at r3 ⊢
 clear hg3
 go_region
 go_wp2_with fail
 refine (H.out _ F1.out.drew).mono ?_; rintro e w2 ⟨rfl,hq⟩
 replace hq := Lib.hid hq
 clear H r3
 go_wp2_with fail
 go_ret2
 exact ⟨rfl,hq.out⟩
theorem aKe {w : World} {pv : Option Addr} {sv : Option Addr} {d : Dd} (hk : d.kind = 1) (hw : d.w < 256) (hv : d.v < 256) {E : Int} {Q : World → Prop}
  (HG : ∀ W,Fr F0 w W → Calls Tryz.prog 17 #[.pointer pv] W fun e w' => e = .returned (.pointer sv) ∧ w' = W) {t : Nat} (HN : ∀ W,Fr F0 w W → Calls Tryz.prog 31 #[.pointer pv] W fun e w' => e = .returned (.int .u64 (t : Int)) ∧ w' = W) (H : ∀ W,Fr F0 w W → Calls Tryz.prog 18 #[.pointer sv,.int .u64 (d.a : Int),.int .u64 (t : Int)] W fun e w' => e = .returned (.int .i64 E) ∧ Q w') :
  Calls Tryz.prog 13 #[.pointer pv,.agg (dC d)] w fun e w' => e = .returned (.tuple #[.int .u64 0,.int .i64 E]) ∧ Q w' := by
 obtain ⟨sz,oS,k0,k1,k2,k3⟩ := dCf d
 rw [hk] at k0
 replace k0 : (dC d)[0]? = some (.int .i64 1) := k0
 have mw : IntKind.u8.wrap (d.w : Int) = (d.w : Int) := IntWalk.u8_in _ (by omega)
 have mv : IntKind.u8.wrap (d.v : Int) = (d.v : Int) := IntWalk.u8_in _ (by omega)
 replace H := Lib.hid H
 generalize (d.w : Int) = dw at *
 generalize (d.v : Int) = dv at *
 generalize (d.a : Int) = da at *
 generalize dC d = C at *
 have e0 := ay k0
 have e1 := ay k1
 have e2 := ay k2
 have e3 := ay k3
 clear hk hw hv
 replace HG := Lib.hid HG
 replace HN := Lib.hid HN
 go_enter Tryz.func13,Tryz.ntmps13
 go_upto_region 1 with fail
 refine eu fun W1 N => ?_
 have r3 := N.new
 have F1 := Lib.hid N.fr
 clear N
 obtain ⟨g3,hg3⟩ : ∃ g,w.heap.size = g := ⟨_,rfl⟩
 rw [hg3] at r3 ⊢
 clear hg3
 go_region
 go_upto_region 6 with fail
 have FF := Lib.hid F1.out.drew.drew
 refine zn (S := (fun _ => True)) ?_ fun aj => ?_
 ·exact(by ((try dsimp only) <;> (trivial)))
 refine au 0 ?_
 refine au 2 ?_
 refine au 4 ?_
 refine rdy [1,3] ?_
 refine rco (fun K hK => ?_) (rco (fun K hK => ?_) AllReadyH.nil)
 go_simp
 ((with_reducible refine (HG.out _ FF.out).mono ?_); rintro e w2 ⟨rfl,hw⟩; replace hw := hw.symm; subst hw)
 refine rpu hK (by ((try dsimp only) <;> (trivial))) fun aj => ?_
 clear hK K
 refine rdy [3,5] ?_
 refine rco (fun K hK => ?_) (rco (fun K hK => ?_) AllReadyH.nil)
 go_simp
 refine rpu hK (by ((try dsimp only) <;> (trivial))) fun aj => ?_
 clear hK K
 refine zi 5 fun K hK => ?_
 go_simp
 ((with_reducible refine (HN.out _ FF.out).mono ?_); rintro e w2 ⟨rfl,hw⟩; replace hw := hw.symm; subst hw)
 refine rpu hK (by ((try dsimp only) <;> (trivial))) fun aj => ?_
 clear hK K
 refine zi 6 fun K hK => ?_
 go_simp
 (refine (H.out _ FF.out).mono ?_; rintro e w3 ⟨rfl,hq⟩; replace hq := Lib.hid hq; clear r3)
 refine rpu hK (by ((try dsimp only) <;> (trivial))) fun aj => ?_
 clear hK K
 refine au 7 ?_
 refine au 8 ?_
 refine aap ?_
 rotate_left
 go_simp
 ((with_reducible refine (HN.out _ FF.out).mono ?_); rintro e w2 ⟨rfl,hw⟩; replace hw := hw.symm; subst hw)
 refine rpu hK (by ((try dsimp only) <;> (trivial))) fun aj => ?_
 clear hK K
 refine zi 3 fun K hK => ?_
 go_simp
 refine rpu hK (by ((try dsimp only) <;> (trivial))) fun aj => ?_
 clear hK K
 refine zi 6 fun K hK => ?_
 go_simp
 (refine (H.out _ FF.out).mono ?_; rintro e w3 ⟨rfl,hq⟩; replace hq := Lib.hid hq; clear r3)
 refine rpu hK (by ((try dsimp only) <;> (trivial))) fun aj => ?_
 clear hK K
 refine au 7 ?_
 refine au 8 ?_
 refine aap ?_
 rotate_left
 go_simp
 refine rpu hK (by ((try dsimp only) <;> (trivial))) fun aj => ?_
 clear hK K
 refine zi 1 fun K hK => ?_
 go_simp
 ((with_reducible refine (HG.out _ FF.out).mono ?_); rintro e w2 ⟨rfl,hw⟩; replace hw := hw.symm; subst hw)
 refine rpu hK (by ((try dsimp only) <;> (trivial))) fun aj => ?_
 clear hK K
 refine zi 5 fun K hK => ?_
 go_simp
 ((with_reducible refine (HN.out _ FF.out).mono ?_); rintro e w2 ⟨rfl,hw⟩; replace hw := hw.symm; subst hw)
 refine rpu hK (by ((try dsimp only) <;> (trivial))) fun aj => ?_
 clear hK K
 refine zi 6 fun K hK => ?_
 go_simp
 (refine (H.out _ FF.out).mono ?_; rintro e w3 ⟨rfl,hq⟩; replace hq := Lib.hid hq; clear r3)
 refine rpu hK (by ((try dsimp only) <;> (trivial))) fun aj => ?_
 clear hK K
 refine au 7 ?_
 refine au 8 ?_
 refine aap ?_
 rotate_left
 all_goals
  go_wp2_with fail
  go_ret2
  exact ⟨rfl,hq.out⟩
theorem aKd {w : World} {pv : Option Addr} {sv : Option Addr} {d : Dd} (hk : d.kind = 2) (hw : d.w < 256) (hv : d.v < 256) {E : Int} {Q : World → Prop}
  (HG : ∀ W,Fr F0 w W → Calls Tryz.prog 20 #[.pointer pv] W fun e w' => e = .returned (.pointer sv) ∧ w' = W) (H : ∀ W,Fr F0 w W → Calls Tryz.prog 21 #[.pointer sv,.int .u8 (d.w : Int),.int .u64 (d.a : Int)] W fun e w' => e = .returned (.int .i64 E) ∧ Q w') :
  Calls Tryz.prog 13 #[.pointer pv,.agg (dC d)] w fun e w' => e = .returned (.tuple #[.int .u64 0,.int .i64 E]) ∧ Q w' := by
 obtain ⟨sz,oS,k0,k1,k2,k3⟩ := dCf d
 rw [hk] at k0
 replace k0 : (dC d)[0]? = some (.int .i64 2) := k0
 have mw : IntKind.u8.wrap (d.w : Int) = (d.w : Int) := IntWalk.u8_in _ (by omega)
 have mv : IntKind.u8.wrap (d.v : Int) = (d.v : Int) := IntWalk.u8_in _ (by omega)
 replace H := Lib.hid H
 generalize (d.w : Int) = dw at *
 generalize (d.v : Int) = dv at *
 generalize (d.a : Int) = da at *
 generalize dC d = C at *
 have e0 := ay k0
 have e1 := ay k1
 have e2 := ay k2
 have e3 := ay k3
 clear hk hw hv
 replace HG := Lib.hid HG
 go_enter Tryz.func13,Tryz.ntmps13
 go_upto_region 1 with fail
 refine eu fun W1 N => ?_
 have r3 := N.new
 have F1 := Lib.hid N.fr
 clear N
 obtain ⟨g3,hg3⟩ : ∃ g,w.heap.size = g := ⟨_,rfl⟩
 rw [hg3] at r3 ⊢
 clear hg3
 go_region
 go_wp2_with fail
 (with_reducible refine (HG.out _ F1.out.drew).mono ?_); rintro e w2 ⟨rfl,hw⟩; replace hw := hw.symm; subst hw
 go_wp2_with fail
 refine (H.out _ F1.out.drew).mono ?_; rintro e w2 ⟨rfl,hq⟩
 replace hq := Lib.hid hq
 clear H r3
 go_wp2_with fail
 go_ret2
 exact ⟨rfl,hq.out⟩
theorem aKc {w : World} {pv : Option Addr} {sv : Option Addr} {d : Dd} (hk : d.kind = 3) (hw : d.w < 256) (hv : d.v < 256) {E : Int} {Q : World → Prop}
  (HG : ∀ W,Fr F0 w W → Calls Tryz.prog 20 #[.pointer pv] W fun e w' => e = .returned (.pointer sv) ∧ w' = W) (H : ∀ W,Fr F0 w W → Calls Tryz.prog 44 #[.pointer sv,.int .u8 (d.w : Int),.int .u64 (d.a : Int)] W fun e w' => e = .returned (.int .i64 E) ∧ Q w') :
  Calls Tryz.prog 13 #[.pointer pv,.agg (dC d)] w fun e w' => e = .returned (.tuple #[.int .u64 0,.int .i64 E]) ∧ Q w' := by
 obtain ⟨sz,oS,k0,k1,k2,k3⟩ := dCf d
 rw [hk] at k0
 replace k0 : (dC d)[0]? = some (.int .i64 3) := k0
 have mw : IntKind.u8.wrap (d.w : Int) = (d.w : Int) := IntWalk.u8_in _ (by omega)
 have mv : IntKind.u8.wrap (d.v : Int) = (d.v : Int) := IntWalk.u8_in _ (by omega)
 replace H := Lib.hid H
 generalize (d.w : Int) = dw at *
 generalize (d.v : Int) = dv at *
 generalize (d.a : Int) = da at *
 generalize dC d = C at *
 have e0 := ay k0
 have e1 := ay k1
 have e2 := ay k2
 have e3 := ay k3
 clear hk hw hv
 replace HG := Lib.hid HG
 go_enter Tryz.func13,Tryz.ntmps13
 go_upto_region 1 with fail
 refine eu fun W1 N => ?_
 have r3 := N.new
 have F1 := Lib.hid N.fr
 clear N
 obtain ⟨g3,hg3⟩ : ∃ g,w.heap.size = g := ⟨_,rfl⟩
 rw [hg3] at r3 ⊢
 clear hg3
 go_region
 go_wp2_with fail
 (with_reducible refine (HG.out _ F1.out.drew).mono ?_); rintro e w2 ⟨rfl,hw⟩; replace hw := hw.symm; subst hw
 go_wp2_with fail
 refine (H.out _ F1.out.drew).mono ?_; rintro e w2 ⟨rfl,hq⟩
 replace hq := Lib.hid hq
 clear H r3
 go_wp2_with fail
 go_ret2
 exact ⟨rfl,hq.out⟩
theorem aKb {w : World} {pv : Option Addr} {sv : Option Addr} {d : Dd} (hk : d.kind = 4) (hw : d.w < 256) (hv : d.v < 256) {E : Int} {Q : World → Prop}
  (HG : ∀ W,Fr F0 w W → Calls Tryz.prog 35 #[.pointer pv] W fun e w' => e = .returned (.pointer sv) ∧ w' = W) (H : ∀ W,Fr F0 w W → Calls Tryz.prog 45 #[.pointer sv,.int .u8 (d.w : Int),.int .u8 (d.v : Int),.int .u64 (d.a : Int)] W fun e w' => e = .returned (.int .i64 E) ∧ Q w') :
  Calls Tryz.prog 13 #[.pointer pv,.agg (dC d)] w fun e w' => e = .returned (.tuple #[.int .u64 0,.int .i64 E]) ∧ Q w' := by
 obtain ⟨sz,oS,k0,k1,k2,k3⟩ := dCf d
 rw [hk] at k0
 replace k0 : (dC d)[0]? = some (.int .i64 4) := k0
 have mw : IntKind.u8.wrap (d.w : Int) = (d.w : Int) := IntWalk.u8_in _ (by omega)
 have mv : IntKind.u8.wrap (d.v : Int) = (d.v : Int) := IntWalk.u8_in _ (by omega)
 replace H := Lib.hid H
 generalize (d.w : Int) = dw at *
 generalize (d.v : Int) = dv at *
 generalize (d.a : Int) = da at *
 generalize dC d = C at *
 have e0 := ay k0
 have e1 := ay k1
 have e2 := ay k2
 have e3 := ay k3
 clear hk hw hv
 replace HG := Lib.hid HG
 go_enter Tryz.func13,Tryz.ntmps13
 go_upto_region 1 with fail
 refine eu fun W1 N => ?_
 have r3 := N.new
 have F1 := Lib.hid N.fr
 clear N
 obtain ⟨g3,hg3⟩ : ∃ g,w.heap.size = g := ⟨_,rfl⟩
 rw [hg3] at r3 ⊢
 clear hg3
 go_region
 go_wp2_with fail
 (with_reducible refine (HG.out _ F1.out.drew).mono ?_); rintro e w2 ⟨rfl,hw⟩; replace hw := hw.symm; subst hw
 go_wp2_with fail
 refine (H.out _ F1.out.drew).mono ?_; rintro e w2 ⟨rfl,hq⟩
 replace hq := Lib.hid hq
 clear H r3
 go_wp2_with fail
 go_ret2
 exact ⟨rfl,hq.out⟩
theorem aKa {w : World} {pv : Option Addr} {d : Dd} (hk : d.kind = 5) (hw : d.w < 256) (hv : d.v < 256) {E : Int} {Q : World → Prop}
  (H : ∀ W,Fr F0 w W → Calls Tryz.prog 22 #[.pointer pv,.int .u8 (d.w : Int),.agg ((a20 d.addr).map B8).toArray,.int .u64 (d.a : Int)] W fun e w' => e = .returned (.int .i64 E) ∧ Q w') :
  Calls Tryz.prog 13 #[.pointer pv,.agg (dC d)] w fun e w' => e = .returned (.tuple #[.int .u64 0,.int .i64 E]) ∧ Q w' := by
 obtain ⟨sz,oS,k0,k1,k2,k3⟩ := dCf d
 rw [hk] at k0
 replace k0 : (dC d)[0]? = some (.int .i64 5) := k0
 have mw : IntKind.u8.wrap (d.w : Int) = (d.w : Int) := IntWalk.u8_in _ (by omega)
 have mv : IntKind.u8.wrap (d.v : Int) = (d.v : Int) := IntWalk.u8_in _ (by omega)
 have hld := fun (W : World) (g : Nat) (h : W.heap[g]? = some (.cells (dC d) 26 (0,0))) => ao1 h
 replace H := Lib.hid H
 generalize ((a20 d.addr).map B8).toArray = X at *
 generalize (d.w : Int) = dw at *
 generalize (d.v : Int) = dv at *
 generalize (d.a : Int) = da at *
 generalize dC d = C at *
 have e0 := ay k0
 have e1 := ay k1
 have e2 := ay k2
 have e3 := ay k3
 clear hk hw hv
 go_enter Tryz.func13,Tryz.ntmps13
 go_upto_region 1 with fail
 refine eu fun W1 N => ?_
 have r3 := N.new
 have F1 := Lib.hid N.fr
 clear N
 obtain ⟨g3,hg3⟩ : ∃ g,w.heap.size = g := ⟨_,rfl⟩
 rw [hg3] at r3 ⊢
 clear hg3
 have hl := hld W1 g3 r3
 have hl2 : (gu 24 (.pointer (some ⟨g3,4,none⟩))).run Tryz.prog W1.drew = .ok (.agg X) W1.drew := hld W1.drew g3 r3
 go_region
 go_wp2_with fail
 refine (H.out _ F1.out.drew).mono ?_; rintro e w2 ⟨rfl,hq⟩
 replace hq := Lib.hid hq
 clear H r3
 go_wp2_with fail
 go_ret2
 exact ⟨rfl,hq.out⟩
theorem aJ9 {w : World} {pv : Option Addr} {d : Dd} (hk : d.kind = 6) (hw : d.w < 256) (hv : d.v < 256) {E : Int} {Q : World → Prop}
  (H : ∀ W,Fr F0 w W → Calls Tryz.prog 46 #[.pointer pv,.int .u8 (d.w : Int),.int .u64 (d.a : Int)] W fun e w' => e = .returned (.int .i64 E) ∧ Q w') :
  Calls Tryz.prog 13 #[.pointer pv,.agg (dC d)] w fun e w' => e = .returned (.tuple #[.int .u64 0,.int .i64 E]) ∧ Q w' := by
 obtain ⟨sz,oS,k0,k1,k2,k3⟩ := dCf d
 rw [hk] at k0
 replace k0 : (dC d)[0]? = some (.int .i64 6) := k0
 have mw : IntKind.u8.wrap (d.w : Int) = (d.w : Int) := IntWalk.u8_in _ (by omega)
 have mv : IntKind.u8.wrap (d.v : Int) = (d.v : Int) := IntWalk.u8_in _ (by omega)
 replace H := Lib.hid H
 generalize (d.w : Int) = dw at *
 generalize (d.v : Int) = dv at *
 generalize (d.a : Int) = da at *
 generalize dC d = C at *
 have e0 := ay k0
 have e1 := ay k1
 have e2 := ay k2
 have e3 := ay k3
 clear hk hw hv
 go_enter Tryz.func13,Tryz.ntmps13
 go_upto_region 1 with fail
 refine eu fun W1 N => ?_
 have r3 := N.new
 have F1 := Lib.hid N.fr
 clear N
 obtain ⟨g3,hg3⟩ : ∃ g,w.heap.size = g := ⟨_,rfl⟩
 rw [hg3] at r3 ⊢
 clear hg3
 go_region
 go_wp2_with fail
 refine (H.out _ F1.out.drew).mono ?_; rintro e w2 ⟨rfl,hq⟩
 replace hq := Lib.hid hq
 clear H r3
 go_wp2_with fail
 go_ret2
 exact ⟨rfl,hq.out⟩
theorem aJ8 {w : World} {pv : Option Addr} {d : Dd} (hk : d.kind = 7) (hw : d.w < 256) (hv : d.v < 256) {E : Int} {Q : World → Prop}
  (H : ∀ W,Fr F0 w W → Calls Tryz.prog 47 #[.pointer pv,.int .u8 (d.w : Int),.int .u64 (d.a : Int)] W fun e w' => e = .returned (.int .i64 E) ∧ Q w') :
  Calls Tryz.prog 13 #[.pointer pv,.agg (dC d)] w fun e w' => e = .returned (.tuple #[.int .u64 0,.int .i64 E]) ∧ Q w' := by
 obtain ⟨sz,oS,k0,k1,k2,k3⟩ := dCf d
 rw [hk] at k0
 replace k0 : (dC d)[0]? = some (.int .i64 7) := k0
 have mw : IntKind.u8.wrap (d.w : Int) = (d.w : Int) := IntWalk.u8_in _ (by omega)
 have mv : IntKind.u8.wrap (d.v : Int) = (d.v : Int) := IntWalk.u8_in _ (by omega)
 replace H := Lib.hid H
 generalize (d.w : Int) = dw at *
 generalize (d.v : Int) = dv at *
 generalize (d.a : Int) = da at *
 generalize dC d = C at *
 have e0 := ay k0
 have e1 := ay k1
 have e2 := ay k2
 have e3 := ay k3
 clear hk hw hv
 go_enter Tryz.func13,Tryz.ntmps13
 go_upto_region 1 with fail
 refine eu fun W1 N => ?_
 have r3 := N.new
 have F1 := Lib.hid N.fr
 clear N
 obtain ⟨g3,hg3⟩ : ∃ g,w.heap.size = g := ⟨_,rfl⟩
 rw [hg3] at r3 ⊢
 clear hg3
 go_region
 go_wp2_with fail
 refine (H.out _ F1.out.drew).mono ?_; rintro e w2 ⟨rfl,hq⟩
 replace hq := Lib.hid hq
 clear H r3
 go_wp2_with fail
 go_ret2
 exact ⟨rfl,hq.out⟩
theorem aJ7 {w : World} {pv : Option Addr} {d : Dd} (hk : d.kind = 8) (hw : d.w < 256) (hv : d.v < 256) {E : Int} {Q : World → Prop}
  (H : ∀ W,Fr F0 w W → Calls Tryz.prog 23 #[.pointer pv,.int .u8 (d.w : Int),.int .u64 (d.a : Int)] W fun e w' => e = .returned (.int .i64 E) ∧ Q w') :
  Calls Tryz.prog 13 #[.pointer pv,.agg (dC d)] w fun e w' => e = .returned (.tuple #[.int .u64 0,.int .i64 E]) ∧ Q w' := by
 obtain ⟨sz,oS,k0,k1,k2,k3⟩ := dCf d
 rw [hk] at k0
 replace k0 : (dC d)[0]? = some (.int .i64 8) := k0
 have mw : IntKind.u8.wrap (d.w : Int) = (d.w : Int) := IntWalk.u8_in _ (by omega)
 have mv : IntKind.u8.wrap (d.v : Int) = (d.v : Int) := IntWalk.u8_in _ (by omega)
 replace H := Lib.hid H
 generalize (d.w : Int) = dw at *
 generalize (d.v : Int) = dv at *
 generalize (d.a : Int) = da at *
 generalize dC d = C at *
 have e0 := ay k0
 have e1 := ay k1
 have e2 := ay k2
 have e3 := ay k3
 clear hk hw hv
 go_enter Tryz.func13,Tryz.ntmps13
 go_upto_region 1 with fail
 refine eu fun W1 N => ?_
 have r3 := N.new
 have F1 := Lib.hid N.fr
 clear N
 obtain ⟨g3,hg3⟩ : ∃ g,w.heap.size = g := ⟨_,rfl⟩
 rw [hg3] at r3 ⊢
 clear hg3
 go_region
 go_wp2_with fail
 refine (H.out _ F1.out.drew).mono ?_; rintro e w2 ⟨rfl,hq⟩
 replace hq := Lib.hid hq
 clear H r3
 go_wp2_with fail
 go_ret2
 exact ⟨rfl,hq.out⟩
theorem aJ6 {w : World} {pv : Option Addr} {d : Dd} (hk : d.kind = 9) (hw : d.w < 256) (hv : d.v < 256) {E : Int} {Q : World → Prop}
  (H : ∀ W,Fr F0 w W → Calls Tryz.prog 48 #[.pointer pv,.int .u8 (d.w : Int),.int .u64 (d.a : Int)] W fun e w' => e = .returned (.int .i64 E) ∧ Q w') :
  Calls Tryz.prog 13 #[.pointer pv,.agg (dC d)] w fun e w' => e = .returned (.tuple #[.int .u64 0,.int .i64 E]) ∧ Q w' := by
 obtain ⟨sz,oS,k0,k1,k2,k3⟩ := dCf d
 rw [hk] at k0
 replace k0 : (dC d)[0]? = some (.int .i64 9) := k0
 have mw : IntKind.u8.wrap (d.w : Int) = (d.w : Int) := IntWalk.u8_in _ (by omega)
 have mv : IntKind.u8.wrap (d.v : Int) = (d.v : Int) := IntWalk.u8_in _ (by omega)
 replace H := Lib.hid H
 generalize (d.w : Int) = dw at *
 generalize (d.v : Int) = dv at *
 generalize (d.a : Int) = da at *
 generalize dC d = C at *
 have e0 := ay k0
 have e1 := ay k1
 have e2 := ay k2
 have e3 := ay k3
 clear hk hw hv
 go_enter Tryz.func13,Tryz.ntmps13
 go_upto_region 1 with fail
 refine eu fun W1 N => ?_
 have r3 := N.new
 have F1 := Lib.hid N.fr
 clear N
 obtain ⟨g3,hg3⟩ : ∃ g,w.heap.size = g := ⟨_,rfl⟩
 rw [hg3] at r3 ⊢
 clear hg3
 go_region
 go_wp2_with fail
 refine (H.out _ F1.out.drew).mono ?_; rintro e w2 ⟨rfl,hq⟩
 replace hq := Lib.hid hq
 clear H r3
 go_wp2_with fail
 go_ret2
 exact ⟨rfl,hq.out⟩
theorem aE7 {w : World} {pv : Option Addr} {d : Dd} (hk : d.kind = 10) (hw : d.w < 256) (hv : d.v < 256) {E : Int} {Q : World → Prop}
  (H : ∀ W,Fr F0 w W → Calls Tryz.prog 24 #[.pointer pv,.int .u8 (d.w : Int),.int .u8 (d.v : Int),.int .u64 (d.a : Int)] W fun e w' => e = .returned (.int .i64 E) ∧ Q w') :
  Calls Tryz.prog 13 #[.pointer pv,.agg (dC d)] w fun e w' => e = .returned (.tuple #[.int .u64 0,.int .i64 E]) ∧ Q w' := by
 obtain ⟨sz,oS,k0,k1,k2,k3⟩ := dCf d
 rw [hk] at k0
 replace k0 : (dC d)[0]? = some (.int .i64 10) := k0
 have mw : IntKind.u8.wrap (d.w : Int) = (d.w : Int) := IntWalk.u8_in _ (by omega)
 have mv : IntKind.u8.wrap (d.v : Int) = (d.v : Int) := IntWalk.u8_in _ (by omega)
 replace H := Lib.hid H
 generalize (d.w : Int) = dw at *
 generalize (d.v : Int) = dv at *
 generalize (d.a : Int) = da at *
 generalize dC d = C at *
 have e0 := ay k0
 have e1 := ay k1
 have e2 := ay k2
 have e3 := ay k3
 clear hk hw hv
 go_enter Tryz.func13,Tryz.ntmps13
 go_upto_region 1 with fail
 refine eu fun W1 N => ?_
 have r3 := N.new
 have F1 := Lib.hid N.fr
 clear N
 obtain ⟨g3,hg3⟩ : ∃ g,w.heap.size = g := ⟨_,rfl⟩
 rw [hg3] at r3 ⊢
 clear hg3
 go_region
 go_wp2_with fail
 refine (H.out _ F1.out.drew).mono ?_; rintro e w2 ⟨rfl,hq⟩
 replace hq := Lib.hid hq
 clear H r3
 go_wp2_with fail
 go_ret2
 exact ⟨rfl,hq.out⟩
theorem aE6 {w : World} {pv : Option Addr} {d : Dd} (hk : d.kind = 11) (hw : d.w < 256) (hv : d.v < 256) {E : Int} {Q : World → Prop}
  (H : ∀ W,Fr F0 w W → Calls Tryz.prog 25 #[.pointer pv,.int .u8 (d.w : Int),.int .u8 (d.v : Int),.int .u64 (d.a : Int)] W fun e w' => e = .returned (.int .i64 E) ∧ Q w') :
  Calls Tryz.prog 13 #[.pointer pv,.agg (dC d)] w fun e w' => e = .returned (.tuple #[.int .u64 0,.int .i64 E]) ∧ Q w' := by
 obtain ⟨sz,oS,k0,k1,k2,k3⟩ := dCf d
 rw [hk] at k0
 replace k0 : (dC d)[0]? = some (.int .i64 11) := k0
 have mw : IntKind.u8.wrap (d.w : Int) = (d.w : Int) := IntWalk.u8_in _ (by omega)
 have mv : IntKind.u8.wrap (d.v : Int) = (d.v : Int) := IntWalk.u8_in _ (by omega)
 replace H := Lib.hid H
 generalize (d.w : Int) = dw at *
 generalize (d.v : Int) = dv at *
 generalize (d.a : Int) = da at *
 generalize dC d = C at *
 have e0 := ay k0
 have e1 := ay k1
 have e2 := ay k2
 have e3 := ay k3
 clear hk hw hv
 go_enter Tryz.func13,Tryz.ntmps13
 go_upto_region 1 with fail
 refine eu fun W1 N => ?_
 have r3 := N.new
 have F1 := Lib.hid N.fr
 clear N
 obtain ⟨g3,hg3⟩ : ∃ g,w.heap.size = g := ⟨_,rfl⟩
 rw [hg3] at r3 ⊢
 clear hg3
 go_region
 go_wp2_with fail
 refine (H.out _ F1.out.drew).mono ?_; rintro e w2 ⟨rfl,hq⟩
 replace hq := Lib.hid hq
 clear H r3
 go_wp2_with fail
 go_ret2
 exact ⟨rfl,hq.out⟩
theorem aE5 {w : World} {pv : Option Addr} {d : Dd} (hk : d.kind = 12) (hw : d.w < 256) (hv : d.v < 256) {E : Int} {Q : World → Prop}
  (H : ∀ W,Fr F0 w W → Calls Tryz.prog 49 #[.pointer pv,.int .u8 (d.w : Int),.int .u64 (d.a : Int)] W fun e w' => e = .returned (.int .i64 E) ∧ Q w') :
  Calls Tryz.prog 13 #[.pointer pv,.agg (dC d)] w fun e w' => e = .returned (.tuple #[.int .u64 0,.int .i64 E]) ∧ Q w' := by
 obtain ⟨sz,oS,k0,k1,k2,k3⟩ := dCf d
 rw [hk] at k0
 replace k0 : (dC d)[0]? = some (.int .i64 12) := k0
 have mw : IntKind.u8.wrap (d.w : Int) = (d.w : Int) := IntWalk.u8_in _ (by omega)
 have mv : IntKind.u8.wrap (d.v : Int) = (d.v : Int) := IntWalk.u8_in _ (by omega)
 replace H := Lib.hid H
 generalize (d.w : Int) = dw at *
 generalize (d.v : Int) = dv at *
 generalize (d.a : Int) = da at *
 generalize dC d = C at *
 have e0 := ay k0
 have e1 := ay k1
 have e2 := ay k2
 have e3 := ay k3
 clear hk hw hv
 go_enter Tryz.func13,Tryz.ntmps13
 go_upto_region 1 with fail
 refine eu fun W1 N => ?_
 have r3 := N.new
 have F1 := Lib.hid N.fr
 clear N
 obtain ⟨g3,hg3⟩ : ∃ g,w.heap.size = g := ⟨_,rfl⟩
 rw [hg3] at r3 ⊢
 clear hg3
 go_region
 go_wp2_with fail
 refine (H.out _ F1.out.drew).mono ?_; rintro e w2 ⟨rfl,hq⟩
 replace hq := Lib.hid hq
 clear H r3
 go_wp2_with fail
 go_ret2
 exact ⟨rfl,hq.out⟩
theorem aE4 {w : World} {pv : Option Addr} {d : Dd} (hk : d.kind = 13) (hw : d.w < 256) (hv : d.v < 256) {E : Int} {Q : World → Prop}
  (H : ∀ W,Fr F0 w W → Calls Tryz.prog 50 #[.pointer pv,.int .u8 (d.w : Int),.int .u8 (d.v : Int),.int .u64 (d.a : Int)] W fun e w' => e = .returned (.int .i64 E) ∧ Q w') :
  Calls Tryz.prog 13 #[.pointer pv,.agg (dC d)] w fun e w' => e = .returned (.tuple #[.int .u64 0,.int .i64 E]) ∧ Q w' := by
 obtain ⟨sz,oS,k0,k1,k2,k3⟩ := dCf d
 rw [hk] at k0
 replace k0 : (dC d)[0]? = some (.int .i64 13) := k0
 have mw : IntKind.u8.wrap (d.w : Int) = (d.w : Int) := IntWalk.u8_in _ (by omega)
 have mv : IntKind.u8.wrap (d.v : Int) = (d.v : Int) := IntWalk.u8_in _ (by omega)
 replace H := Lib.hid H
 generalize (d.w : Int) = dw at *
 generalize (d.v : Int) = dv at *
 generalize (d.a : Int) = da at *
 generalize dC d = C at *
 have e0 := ay k0
 have e1 := ay k1
 have e2 := ay k2
 have e3 := ay k3
 clear hk hw hv
 go_enter Tryz.func13,Tryz.ntmps13
 go_upto_region 1 with fail
 refine eu fun W1 N => ?_
 have r3 := N.new
 have F1 := Lib.hid N.fr
 clear N
 obtain ⟨g3,hg3⟩ : ∃ g,w.heap.size = g := ⟨_,rfl⟩
 rw [hg3] at r3 ⊢
 clear hg3
 go_region
 go_wp2_with fail
 refine (H.out _ F1.out.drew).mono ?_; rintro e w2 ⟨rfl,hq⟩
 replace hq := Lib.hid hq
 clear H r3
 go_wp2_with fail
 go_ret2
 exact ⟨rfl,hq.out⟩
theorem aE3 {w : World} {pv : Option Addr} {d : Dd} (hk : d.kind = 14) (hw : d.w < 256) (hv : d.v < 256) {E : Int} {n : Int} {Q : World → Prop}
  (H : ∀ W,Fr F0 w W → Calls Tryz.prog 51 #[.pointer pv,.int .u8 (d.w : Int),.int .u8 (d.v : Int),.int .u64 (d.a : Int)] W fun e w' => e = .returned (.tuple #[.int .u64 n,.int .i64 E]) ∧ Q w') :
  Calls Tryz.prog 13 #[.pointer pv,.agg (dC d)] w fun e w' => e = .returned (.tuple #[.int .u64 n,.int .i64 E]) ∧ Q w' := by
 obtain ⟨sz,oS,k0,k1,k2,k3⟩ := dCf d
 rw [hk] at k0
 replace k0 : (dC d)[0]? = some (.int .i64 14) := k0
 have mw : IntKind.u8.wrap (d.w : Int) = (d.w : Int) := IntWalk.u8_in _ (by omega)
 have mv : IntKind.u8.wrap (d.v : Int) = (d.v : Int) := IntWalk.u8_in _ (by omega)
 replace H := Lib.hid H
 generalize (d.w : Int) = dw at *
 generalize (d.v : Int) = dv at *
 generalize (d.a : Int) = da at *
 generalize dC d = C at *
 have e0 := ay k0
 have e1 := ay k1
 have e2 := ay k2
 have e3 := ay k3
 clear hk hw hv
 go_enter Tryz.func13,Tryz.ntmps13
 go_upto_region 1 with fail
 refine eu fun W1 N => ?_
 have r3 := N.new
 have F1 := Lib.hid N.fr
 clear N
 obtain ⟨g3,hg3⟩ : ∃ g,w.heap.size = g := ⟨_,rfl⟩
 rw [hg3] at r3 ⊢
 clear hg3
 go_region
 go_wp2_with fail
 refine (H.out _ F1.out.drew).mono ?_; rintro e w2 ⟨rfl,hq⟩
 replace hq := Lib.hid hq
 clear H r3
 go_wp2_with fail
 go_ret2
 exact ⟨rfl,hq.out⟩
theorem aE2 {w : World} {pv : Option Addr} {d : Dd} (hk : d.kind = 15) (hw : d.w < 256) (hv : d.v < 256) {E : Int} {Q : World → Prop}
  (H : ∀ W,Fr F0 w W → Calls Tryz.prog 52 #[.pointer pv,.int .u8 (d.w : Int),.int .u64 (d.a : Int)] W fun e w' => e = .returned (.int .i64 E) ∧ Q w') :
  Calls Tryz.prog 13 #[.pointer pv,.agg (dC d)] w fun e w' => e = .returned (.tuple #[.int .u64 0,.int .i64 E]) ∧ Q w' := by
 obtain ⟨sz,oS,k0,k1,k2,k3⟩ := dCf d
 rw [hk] at k0
 replace k0 : (dC d)[0]? = some (.int .i64 15) := k0
 have mw : IntKind.u8.wrap (d.w : Int) = (d.w : Int) := IntWalk.u8_in _ (by omega)
 have mv : IntKind.u8.wrap (d.v : Int) = (d.v : Int) := IntWalk.u8_in _ (by omega)
 replace H := Lib.hid H
 generalize (d.w : Int) = dw at *
 generalize (d.v : Int) = dv at *
 generalize (d.a : Int) = da at *
 generalize dC d = C at *
 have e0 := ay k0
 have e1 := ay k1
 have e2 := ay k2
 have e3 := ay k3
 clear hk hw hv
 go_enter Tryz.func13,Tryz.ntmps13
 go_upto_region 1 with fail
 refine eu fun W1 N => ?_
 have r3 := N.new
 have F1 := Lib.hid N.fr
 clear N
 obtain ⟨g3,hg3⟩ : ∃ g,w.heap.size = g := ⟨_,rfl⟩
 rw [hg3] at r3 ⊢
 clear hg3
 go_region
 go_wp2_with fail
 refine (H.out _ F1.out.drew).mono ?_; rintro e w2 ⟨rfl,hq⟩
 replace hq := Lib.hid hq
 clear H r3
 go_wp2_with fail
 go_ret2
 exact ⟨rfl,hq.out⟩
theorem aE1 {w : World} {pv : Option Addr} {d : Dd} (hk : d.kind = 16) (hw : d.w < 256) (hv : d.v < 256) {E : Int} {Q : World → Prop}
  (H : ∀ W,Fr F0 w W → Calls Tryz.prog 53 #[.pointer pv,.int .u8 (d.w : Int),.int .u64 (d.a : Int)] W fun e w' => e = .returned (.int .i64 E) ∧ Q w') :
  Calls Tryz.prog 13 #[.pointer pv,.agg (dC d)] w fun e w' => e = .returned (.tuple #[.int .u64 0,.int .i64 E]) ∧ Q w' := by
 obtain ⟨sz,oS,k0,k1,k2,k3⟩ := dCf d
 rw [hk] at k0
 replace k0 : (dC d)[0]? = some (.int .i64 16) := k0
 have mw : IntKind.u8.wrap (d.w : Int) = (d.w : Int) := IntWalk.u8_in _ (by omega)
 have mv : IntKind.u8.wrap (d.v : Int) = (d.v : Int) := IntWalk.u8_in _ (by omega)
 replace H := Lib.hid H
 generalize (d.w : Int) = dw at *
 generalize (d.v : Int) = dv at *
 generalize (d.a : Int) = da at *
 generalize dC d = C at *
 have e0 := ay k0
 have e1 := ay k1
 have e2 := ay k2
 have e3 := ay k3
 clear hk hw hv
 go_enter Tryz.func13,Tryz.ntmps13
 go_upto_region 1 with fail
 refine eu fun W1 N => ?_
 have r3 := N.new
 have F1 := Lib.hid N.fr
 clear N
 obtain ⟨g3,hg3⟩ : ∃ g,w.heap.size = g := ⟨_,rfl⟩
 rw [hg3] at r3 ⊢
 clear hg3
 go_region
 go_wp2_with fail
 refine (H.out _ F1.out.drew).mono ?_; rintro e w2 ⟨rfl,hq⟩
 replace hq := Lib.hid hq
 clear H r3
 go_wp2_with fail
 go_ret2
 exact ⟨rfl,hq.out⟩
theorem aE0 {w : World} {pv : Option Addr} {d : Dd} (hk : d.kind = 17) (hw : d.w < 256) (hv : d.v < 256) {E : Int} {Q : World → Prop}
  (H : ∀ W,Fr F0 w W → Calls Tryz.prog 54 #[.pointer pv,.int .u8 (d.w : Int),.int .u8 (d.v : Int),.int .u64 (d.a : Int)] W fun e w' => e = .returned (.int .i64 E) ∧ Q w') :
  Calls Tryz.prog 13 #[.pointer pv,.agg (dC d)] w fun e w' => e = .returned (.tuple #[.int .u64 0,.int .i64 E]) ∧ Q w' := by
 obtain ⟨sz,oS,k0,k1,k2,k3⟩ := dCf d
 rw [hk] at k0
 replace k0 : (dC d)[0]? = some (.int .i64 17) := k0
 have mw : IntKind.u8.wrap (d.w : Int) = (d.w : Int) := IntWalk.u8_in _ (by omega)
 have mv : IntKind.u8.wrap (d.v : Int) = (d.v : Int) := IntWalk.u8_in _ (by omega)
 replace H := Lib.hid H
 generalize (d.w : Int) = dw at *
 generalize (d.v : Int) = dv at *
 generalize (d.a : Int) = da at *
 generalize dC d = C at *
 have e0 := ay k0
 have e1 := ay k1
 have e2 := ay k2
 have e3 := ay k3
 clear hk hw hv
 go_enter Tryz.func13,Tryz.ntmps13
 go_upto_region 1 with fail
 refine eu fun W1 N => ?_
 have r3 := N.new
 have F1 := Lib.hid N.fr
 clear N
 obtain ⟨g3,hg3⟩ : ∃ g,w.heap.size = g := ⟨_,rfl⟩
 rw [hg3] at r3 ⊢
 clear hg3
 go_region
 go_wp2_with fail
 refine (H.out _ F1.out.drew).mono ?_; rintro e w2 ⟨rfl,hq⟩
 replace hq := Lib.hid hq
 clear H r3
 go_wp2_with fail
 go_ret2
 exact ⟨rfl,hq.out⟩
theorem aEz {w : World} {pv : Option Addr} {d : Dd} (hk : d.kind = 18) (hw : d.w < 256) (hv : d.v < 256) {E : Int} {Q : World → Prop}
  (H : ∀ W,Fr F0 w W → Calls Tryz.prog 26 #[.pointer pv,.int .u8 (d.w : Int)] W fun e w' => e = .returned (.int .i64 E) ∧ Q w') :
  Calls Tryz.prog 13 #[.pointer pv,.agg (dC d)] w fun e w' => e = .returned (.tuple #[.int .u64 0,.int .i64 E]) ∧ Q w' := by
 obtain ⟨sz,oS,k0,k1,k2,k3⟩ := dCf d
 rw [hk] at k0
 replace k0 : (dC d)[0]? = some (.int .i64 18) := k0
 have mw : IntKind.u8.wrap (d.w : Int) = (d.w : Int) := IntWalk.u8_in _ (by omega)
 have mv : IntKind.u8.wrap (d.v : Int) = (d.v : Int) := IntWalk.u8_in _ (by omega)
 replace H := Lib.hid H
 generalize (d.w : Int) = dw at *
 generalize (d.v : Int) = dv at *
 generalize (d.a : Int) = da at *
 generalize dC d = C at *
 have e0 := ay k0
 have e1 := ay k1
 have e2 := ay k2
 have e3 := ay k3
 clear hk hw hv
 go_enter Tryz.func13,Tryz.ntmps13
 go_upto_region 1 with fail
 refine eu fun W1 N => ?_
 have r3 := N.new
 have F1 := Lib.hid N.fr
 clear N
 obtain ⟨g3,hg3⟩ : ∃ g,w.heap.size = g := ⟨_,rfl⟩
 rw [hg3] at r3 ⊢
 clear hg3
 go_region
 go_wp2_with fail
 refine (H.out _ F1.out.drew).mono ?_; rintro e w2 ⟨rfl,hq⟩
 replace hq := Lib.hid hq
 clear H r3
 go_wp2_with fail
 go_ret2
 exact ⟨rfl,hq.out⟩
theorem aEy {w : World} {pv : Option Addr} {d : Dd} (hk : d.kind = 19) (hw : d.w < 256) (hv : d.v < 256) {E : Int} {n : Int} {Q : World → Prop}
  (H : ∀ W,Fr F0 w W → Calls Tryz.prog 55 #[.pointer pv,.int .u8 (d.w : Int),.int .u64 (d.a : Int)] W fun e w' => e = .returned (.tuple #[.int .u64 n,.int .i64 E]) ∧ Q w') :
  Calls Tryz.prog 13 #[.pointer pv,.agg (dC d)] w fun e w' => e = .returned (.tuple #[.int .u64 n,.int .i64 E]) ∧ Q w' := by
 obtain ⟨sz,oS,k0,k1,k2,k3⟩ := dCf d
 rw [hk] at k0
 replace k0 : (dC d)[0]? = some (.int .i64 19) := k0
 have mw : IntKind.u8.wrap (d.w : Int) = (d.w : Int) := IntWalk.u8_in _ (by omega)
 have mv : IntKind.u8.wrap (d.v : Int) = (d.v : Int) := IntWalk.u8_in _ (by omega)
 replace H := Lib.hid H
 generalize (d.w : Int) = dw at *
 generalize (d.v : Int) = dv at *
 generalize (d.a : Int) = da at *
 generalize dC d = C at *
 have e0 := ay k0
 have e1 := ay k1
 have e2 := ay k2
 have e3 := ay k3
 clear hk hw hv
 go_enter Tryz.func13,Tryz.ntmps13
 go_upto_region 1 with fail
 refine eu fun W1 N => ?_
 have r3 := N.new
 have F1 := Lib.hid N.fr
 clear N
 obtain ⟨g3,hg3⟩ : ∃ g,w.heap.size = g := ⟨_,rfl⟩
 rw [hg3] at r3 ⊢
 clear hg3
 go_region
 go_wp2_with fail
 refine (H.out _ F1.out.drew).mono ?_; rintro e w2 ⟨rfl,hq⟩
 replace hq := Lib.hid hq
 clear H r3
 go_wp2_with fail
 go_ret2
 exact ⟨rfl,hq.out⟩
theorem aEx {w : World} {pv : Option Addr} {d : Dd} (hk : d.kind = 20) (hw : d.w < 256) (hv : d.v < 256) {E : Int} {Q : World → Prop}
  (H : ∀ W,Fr F0 w W → Calls Tryz.prog 56 #[.pointer pv,.int .u8 (d.w : Int),.int .u64 (d.a : Int)] W fun e w' => e = .returned (.int .i64 E) ∧ Q w') :
  Calls Tryz.prog 13 #[.pointer pv,.agg (dC d)] w fun e w' => e = .returned (.tuple #[.int .u64 0,.int .i64 E]) ∧ Q w' := by
 obtain ⟨sz,oS,k0,k1,k2,k3⟩ := dCf d
 rw [hk] at k0
 replace k0 : (dC d)[0]? = some (.int .i64 20) := k0
 have mw : IntKind.u8.wrap (d.w : Int) = (d.w : Int) := IntWalk.u8_in _ (by omega)
 have mv : IntKind.u8.wrap (d.v : Int) = (d.v : Int) := IntWalk.u8_in _ (by omega)
 replace H := Lib.hid H
 generalize (d.w : Int) = dw at *
 generalize (d.v : Int) = dv at *
 generalize (d.a : Int) = da at *
 generalize dC d = C at *
 have e0 := ay k0
 have e1 := ay k1
 have e2 := ay k2
 have e3 := ay k3
 clear hk hw hv
 go_enter Tryz.func13,Tryz.ntmps13
 go_upto_region 1 with fail
 refine eu fun W1 N => ?_
 have r3 := N.new
 have F1 := Lib.hid N.fr
 clear N
 obtain ⟨g3,hg3⟩ : ∃ g,w.heap.size = g := ⟨_,rfl⟩
 rw [hg3] at r3 ⊢
 clear hg3
 go_region
 go_wp2_with fail
 refine (H.out _ F1.out.drew).mono ?_; rintro e w2 ⟨rfl,hq⟩
 replace hq := Lib.hid hq
 clear H r3
 go_wp2_with fail
 go_ret2
 exact ⟨rfl,hq.out⟩
theorem aEw {w : World} {pv : Option Addr} {d : Dd} (hk : d.kind = 21) (hw : d.w < 256) (hv : d.v < 256) {E : Int} {Q : World → Prop}
  (H : ∀ W,Fr F0 w W → Calls Tryz.prog 57 #[.pointer pv,.int .u8 (d.w : Int),.int .u64 (d.a : Int)] W fun e w' => e = .returned (.int .i64 E) ∧ Q w') :
  Calls Tryz.prog 13 #[.pointer pv,.agg (dC d)] w fun e w' => e = .returned (.tuple #[.int .u64 0,.int .i64 E]) ∧ Q w' := by
 obtain ⟨sz,oS,k0,k1,k2,k3⟩ := dCf d
 rw [hk] at k0
 replace k0 : (dC d)[0]? = some (.int .i64 21) := k0
 have mw : IntKind.u8.wrap (d.w : Int) = (d.w : Int) := IntWalk.u8_in _ (by omega)
 have mv : IntKind.u8.wrap (d.v : Int) = (d.v : Int) := IntWalk.u8_in _ (by omega)
 replace H := Lib.hid H
 generalize (d.w : Int) = dw at *
 generalize (d.v : Int) = dv at *
 generalize (d.a : Int) = da at *
 generalize dC d = C at *
 have e0 := ay k0
 have e1 := ay k1
 have e2 := ay k2
 have e3 := ay k3
 clear hk hw hv
 go_enter Tryz.func13,Tryz.ntmps13
 go_upto_region 1 with fail
 refine eu fun W1 N => ?_
 have r3 := N.new
 have F1 := Lib.hid N.fr
 clear N
 obtain ⟨g3,hg3⟩ : ∃ g,w.heap.size = g := ⟨_,rfl⟩
 rw [hg3] at r3 ⊢
 clear hg3
 go_region
 go_wp2_with fail
 refine (H.out _ F1.out.drew).mono ?_; rintro e w2 ⟨rfl,hq⟩
 replace hq := Lib.hid hq
 clear H r3
 go_wp2_with fail
 go_ret2
 exact ⟨rfl,hq.out⟩
end Go.Proofs.YtohckefafbhooaaGreat
