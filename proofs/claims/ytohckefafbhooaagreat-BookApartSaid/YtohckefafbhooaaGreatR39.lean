import Derived.Test.YtohckefafbhooaaGreatR38
import Derived.Test.YtohckefafbhooaaGreatR7
import Derived.Test.YtohckefafbhooaaGreatR2
import Derived.Test.YtohckefafbhooaaGreatR9
import Derived.Test.YtohckefafbhooaaGreatR13
set_option maxRecDepth 100000
set_option maxHeartbeats 64000000
namespace Go.Proofs.YtohckefafbhooaaGreat
set_option linter.unusedVariables false
set_option linter.unusedSimpArgs false
open Go.RowKit
def badM (a : Nat) : Prop := a = 0 ∨ 4611686018427387904 < a
instance (a : Nat) : Decidable (badM a) := by unfold badM; infer_instance
theorem ae0 (a : Nat) (h : badM a) (w : World) : Calls Tryz.prog 103 #[.int .u64 (a : Int)] w fun e w' => e = .returned (.bool false) ∧ w' = w := by
 by_cases h0 : a = 0
 ·subst h0
  go_enter Tryz.func103,Tryz.ntmps103
  go_wp2_with fail
  go_ret
  exact ⟨rfl,rfl⟩
 ·have q0 : ((a : Int) != 0) = true := by simp; omega
  have H := Lib.hid (iy a false (decide_eq_false (by unfold badM at h; omega)))
  clear h h0
  go_enter Tryz.func103,Tryz.ntmps103
  go_wp2_with fail
  (with_reducible refine (H.out _).mono ?_); rintro e w1 ⟨rfl,hw⟩; replace hw := hw.symm; subst hw
  go_wp2_with fail
  go_ret
  exact ⟨rfl,rfl⟩
theorem aad (a : Nat) (h : ¬ badM a) (w : World) : Calls Tryz.prog 103 #[.int .u64 (a : Int)] w fun e w' => e = .returned (.bool true) ∧ w' = w := by
 have q0 : ((a : Int) != 0) = true := by unfold badM at h; simp; omega
 have H := Lib.hid (iy a true (decide_eq_true (by unfold badM at h; omega)))
 clear h
 go_enter Tryz.func103,Tryz.ntmps103
 go_wp2_with fail
 (with_reducible refine (H.out _).mono ?_); rintro e w1 ⟨rfl,hw⟩; replace hw := hw.symm; subst hw
 go_wp2_with fail
 go_ret
 exact ⟨rfl,rfl⟩
section
variable {S : Nat → Prop} {w : World} {p : Nat} {M : Bok} {tp : Nat} {tob : Option Nat} {q qp : Nat} {qob : Option Nat} {fp vb : Nat}
theorem amk (b : BK w p tp tob q qp qob fp vb M) : Calls Tryz.prog 31 #[.pointer (some ⟨p,0,none⟩)] w fun e w' => e = .returned (.int .u64 (M.now : Int)) ∧ w' = w := by
 have e0 := b.at_
 unfold bkC at e0
 generalize (M.now : Int) = now at *
 generalize (M.pc : Int) = pc at *
 generalize (M.pn : Int) = pn at *
 generalize (M.dep : Int) = dep at *
 clear b
 go_enter Tryz.func31,Tryz.ntmps31
 go_wp2_with fail
 go_ret
 exact ⟨rfl,rfl⟩
theorem an2 (b : BK w p tp tob q qp qob fp vb M) : Calls Tryz.prog 35 #[.pointer (some ⟨p,0,none⟩)] w fun e w' => e = .returned (.pointer (some ⟨tp,0,none⟩)) ∧ w' = w := by
 have e0 := b.at_
 unfold bkC at e0
 generalize (M.now : Int) = now at *
 generalize (M.pc : Int) = pc at *
 generalize (M.pn : Int) = pn at *
 generalize (M.dep : Int) = dep at *
 clear b
 go_enter Tryz.func35,Tryz.ntmps35
 go_wp2_with fail
 go_ret
 exact ⟨rfl,rfl⟩
theorem aqe (b : BK w p tp tob q qp qob fp vb M) : Calls Tryz.prog 20 #[.pointer (some ⟨p,0,none⟩)] w fun e w' => e = .returned (.pointer (some ⟨q,0,none⟩)) ∧ w' = w := by
 have e0 := b.at_
 unfold bkC at e0
 generalize (M.now : Int) = now at *
 generalize (M.pc : Int) = pc at *
 generalize (M.pn : Int) = pn at *
 generalize (M.dep : Int) = dep at *
 clear b
 go_enter Tryz.func20,Tryz.ntmps20
 go_wp2_with fail
 go_ret
 exact ⟨rfl,rfl⟩
theorem aji (b : BK w p tp tob q qp qob fp vb M) : Calls Tryz.prog 17 #[.pointer (some ⟨p,0,none⟩)] w fun e w' => e = .returned (.pointer (some ⟨fp,0,none⟩)) ∧ w' = w := by
 have e0 := b.at_
 unfold bkC at e0
 generalize (M.now : Int) = now at *
 generalize (M.pc : Int) = pc at *
 generalize (M.pn : Int) = pn at *
 generalize (M.dep : Int) = dep at *
 clear b
 go_enter Tryz.func17,Tryz.ntmps17
 go_wp2_with fail
 go_ret
 exact ⟨rfl,rfl⟩
theorem aii (b : BK w p tp tob q qp qob fp vb M) : Calls Tryz.prog 32 #[.pointer (some ⟨p,0,none⟩)] w fun e w' => e = .returned (.int .u64 (M.dep : Int)) ∧ w' = w := by
 have e0 := b.at_
 unfold bkC at e0
 generalize (M.now : Int) = now at *
 generalize (M.pc : Int) = pc at *
 generalize (M.pn : Int) = pn at *
 generalize (M.dep : Int) = dep at *
 clear b
 go_enter Tryz.func32,Tryz.ntmps32
 go_wp2_with fail
 go_ret
 exact ⟨rfl,rfl⟩
def ao4 (p : Array (Nat × Value)) : Sem Value := Instr.build 72 p
@[go_sem ↓ high] theorem build_BV (p : Array (Nat × Value)) : Instr.build 72 p = ao4 p := rfl
theorem aav (w : World) : (ao4 #[]).run Tryz.prog w = .ok (.agg (cB v0)) w := run_build w _ _ _ (by kernel_rfl)
theorem ahm (b : BK w p tp tob q qp qob fp vb M) {x : Nat} (hx : x < 256) : Calls Tryz.prog 88 #[.pointer (some ⟨p,0,none⟩),.int .u8 (x : Int)] w fun e w' => e = .returned (.tuple #[vBv ((gOf M.vs x).getD v0),.int .i64 (if (gOf M.vs x).isSome = true then 0 else 12)]) ∧ Fr F0 w w' := by
 have HB := Lib.hid (fun (W : World) (f : Fr F0 w W) => And.intro (b.fr0 f).at_ ((b.fr0 f).vm.look hx))
 have sz := lu ((gOf M.vs x).getD v0)
 have oS := ru ((gOf M.vs x).getD v0)
 rw [iq]
 simp only [iq] at HB
 obtain ⟨C,hC⟩ : ∃ C,C = cB ((gOf M.vs x).getD v0) := ⟨_,rfl⟩
 have hC0 : (gOf M.vs x).isSome = false → C = cB v0 := fun e => by
  rw [hC]
  cases h : gOf M.vs x with
  |none => rfl
  |some y => rw [h] at e; cases e
 rw [← hC] at HB sz oS ⊢
 clear hC
 obtain ⟨o,ho⟩ : ∃ o,(gOf M.vs x).isSome = o := ⟨_,rfl⟩
 rw [ho] at HB hC0 ⊢
 clear ho b
 have hb0 := aav
 have sz0 := lu v0
 have oS0 := ru v0
 generalize cB v0 = C0 at *
 unfold bkC at HB
 generalize (M.now : Int) = now at *
 generalize (M.pc : Int) = pc at *
 generalize (M.pn : Int) = pn at *
 generalize (M.dep : Int) = dep at *
 have F := Lib.hid (Fr.refl F0 w)
 go_enter Tryz.func88,Tryz.ntmps88
 go_upto_region 1 with fail
 refine eu fun W1 N => ?_
 have r4 := N.new
 have F1 := Lib.hid N.fr
 obtain ⟨e1,hlk⟩ := HB.out W1 N.fr
 clear N
 obtain ⟨g4,hg4⟩ : ∃ g,w.heap.size = g := ⟨_,rfl⟩
 rw [hg4] at r4 ⊢
 replace hg4 := Lib.hid hg4
 go_upto_region 4 with fail
 refine jc fun W3 N => ?_
 have r6 := N.new
 replace r4 := N.old r4
 have F3 := Lib.hid (F1.out.trans' N.fr)
 clear N hlk e1
 cases o
 ·obtain rfl := hC0 rfl
  clear r6
  go_wp2_with fail
  refine bodyPost_ret (jw rfl _ _ g4 _ _ _ _ rfl (by rw [bf,r4]; rfl) Tryz.underlying72 rfl (by rw [Tryz.szBVault,sz0])) rfl ?_
  exact ⟨rfl,F3.out.setRow (fun h => by have := hg4.out; omega) _⟩
 ·go_wp2_with fail
  refine bodyPost_ret (jw rfl _ _ g4 _ _ _ _ rfl (by rw [bf,r4]; rfl) Tryz.underlying72 rfl (by rw [Tryz.szBVault,sz])) rfl ?_
  exact ⟨rfl,F3.out.setRow (fun h => by have := hg4.out; omega) _⟩
theorem ad8 (a x p : Nat) (h : badM a) (w : World) : Calls Tryz.prog 83 #[.pointer (some ⟨p,0,none⟩),.int .u8 (x : Int),.int .u64 (a : Int)] w fun e w' => e = .returned (.tuple #[vBv v0,.int .i64 1]) ∧ Fr F0 w w' := by
 have H := Lib.hid (ae0 a h)
 rw [iq]
 have hb0 := aav
 have sz0 := lu v0
 have oS0 := ru v0
 generalize cB v0 = C0 at *
 clear h
 go_enter Tryz.func83,Tryz.ntmps83
 go_upto_region 1 with fail
 refine eu fun W1 N => ?_
 have r4 := N.new
 have F1 := Lib.hid N.fr
 clear N
 obtain ⟨g4,hg4⟩ : ∃ g,w.heap.size = g := ⟨_,rfl⟩
 rw [hg4] at r4 ⊢
 replace hg4 := Lib.hid hg4
 go_wp2_with fail
 (with_reducible refine (H.out _).mono ?_); rintro e w1 ⟨rfl,hw⟩; replace hw := hw.symm; subst hw
 go_wp2_with fail
 refine bodyPost_ret (jw rfl _ _ g4 _ _ _ _ rfl (by rw [bf,r4]; rfl) Tryz.underlying72 rfl (by rw [Tryz.szBVault,sz0])) rfl ?_
 exact ⟨rfl,F1.out.setRow (fun h => by have := hg4.out; omega) _⟩
theorem ajg (b : BK w p tp tob q qp qob fp vb M) {x a : Nat} (hx : x < 256) (ha : ¬ badM a) : Calls Tryz.prog 83 #[.pointer (some ⟨p,0,none⟩),.int .u8 (x : Int),.int .u64 (a : Int)] w fun e w' => e = .returned (.tuple #[vBv ((gOf M.vs x).getD v0),.int .i64 (if (gOf M.vs x).isSome = true then 0 else 12)]) ∧ Fr F0 w w' := by
 have H := Lib.hid (aad a ha)
 have HV := Lib.hid (fun (W : World) (f : Fr F0 w W) => ahm (b.fr0 f) hx)
 have sz := lu ((gOf M.vs x).getD v0)
 have oS := ru ((gOf M.vs x).getD v0)
 rw [iq]
 simp only [iq] at HV
 generalize cB ((gOf M.vs x).getD v0) = C at *
 generalize (if (gOf M.vs x).isSome = true then (0 : Int) else 12) = E at *
 clear b ha hx
 go_enter Tryz.func83,Tryz.ntmps83
 go_upto_region 1 with fail
 refine eu fun W1 N => ?_
 have r4 := N.new
 have F1 := Lib.hid N.fr
 clear N
 obtain ⟨g4,hg4⟩ : ∃ g,w.heap.size = g := ⟨_,rfl⟩
 rw [hg4] at r4 ⊢
 replace hg4 := Lib.hid hg4
 go_wp2_with fail
 (with_reducible refine (H.out _).mono ?_); rintro e w1 ⟨rfl,hw⟩; replace hw := hw.symm; subst hw
 go_wp2_with fail
 (with_reducible refine (HV.out _ F1.out).mono ?_); rintro e w2 ⟨rfl,f2⟩
 replace r4 := dn f2 r4
 have F2 := Lib.hid (F1.out.trans' f2)
 clear f2 HV
 go_wp2_with fail
 refine bodyPost_ret (jw rfl _ _ g4 _ _ _ _ rfl (by rw [bf,r4]; rfl) Tryz.underlying72 rfl (by rw [Tryz.szBVault,sz])) rfl ?_
 exact ⟨rfl,F2.out.setRow (fun h => by have := hg4.out; omega) _⟩
theorem aau (x : Vlt) (E : Int) (hE : E ≠ 0) (w : World) : Calls Tryz.prog 82 #[vBv x,.int .i64 E] w fun e w' => e = .returned (.tuple #[vBv x,.int .i64 E]) ∧ Fr F0 w w' := by
 obtain ⟨sz,oS,c0,c21,c22,c23,c24,c25,c26⟩ := cBf x
 have q0 : (E == 0) = false := beq_eq_false_iff_ne.2 hE
 simp only [iq]
 have hb0 := aav
 have sz0 := lu v0
 have oS0 := ru v0
 generalize cB v0 = C0 at *
 generalize cB x = C at *
 clear c0 c21 c22 c23 c24 c25
 go_enter Tryz.func82,Tryz.ntmps82
 go_upto_region 1 with fail
 refine eu fun W2 N => ?_
 have r2 := N.old (heap_alloc_new w (.cells C 72))
 have r4 := N.new
 have F2 := Lib.hid (((Fr.refl F0 w).alloc (.cells C 72)).trans' N.fr)
 clear N
 obtain ⟨g4,hg4⟩ : ∃ g,w.heap.size + 1 = g := ⟨_,rfl⟩
 rw [show (w.alloc (.cells C 72)).heap.size = w.heap.size + 1 by simp,hg4] at r4
 rw [hg4]
 obtain ⟨g2,hg2⟩ : ∃ g,w.heap.size = g := ⟨_,rfl⟩
 rw [hg2] at r2 ⊢
 have HG := Lib.hid (And.intro hg4 hg2)
 clear hg4 hg2
 go_wp2_with fail
 refine bodyPost_ret (jw rfl _ _ g4 _ _ _ _ rfl (by rw [bf,r4]; rfl) Tryz.underlying72 rfl (by rw [Tryz.szBVault,sz])) rfl ?_
 exact ⟨rfl,F2.out.setRow (fun h => by have := HG.out; omega) _⟩
theorem gy (x : Vlt) (hf : x.fal = false) (w : World) : Calls Tryz.prog 82 #[vBv x,.int .i64 0] w fun e w' => e = .returned (.tuple #[vBv x,.int .i64 0]) ∧ Fr F0 w w' := by
 obtain ⟨sz,oS,c0,c21,c22,c23,c24,c25,c26⟩ := cBf x
 rw [hf] at c26
 have d26 := ay c26
 simp only [iq]
 have hb0 := aav
 have sz0 := lu v0
 have oS0 := ru v0
 generalize cB v0 = C0 at *
 generalize cB x = C at *
 clear c0 c21 c22 c23 c24 c25
 go_enter Tryz.func82,Tryz.ntmps82
 go_upto_region 1 with fail
 refine eu fun W2 N => ?_
 have r2 := N.old (heap_alloc_new w (.cells C 72))
 have r4 := N.new
 have F2 := Lib.hid (((Fr.refl F0 w).alloc (.cells C 72)).trans' N.fr)
 clear N
 obtain ⟨g4,hg4⟩ : ∃ g,w.heap.size + 1 = g := ⟨_,rfl⟩
 rw [show (w.alloc (.cells C 72)).heap.size = w.heap.size + 1 by simp,hg4] at r4
 rw [hg4]
 obtain ⟨g2,hg2⟩ : ∃ g,w.heap.size = g := ⟨_,rfl⟩
 rw [hg2] at r2 ⊢
 have HG := Lib.hid (And.intro hg4 hg2)
 clear hg4 hg2
 go_wp2_with fail
 refine bodyPost_ret (jw rfl _ _ g4 _ _ _ _ rfl (by rw [bf,r4]; rfl) Tryz.underlying72 rfl (by rw [Tryz.szBVault,sz])) rfl ?_
 exact ⟨rfl,F2.out.setRow (fun h => by have := HG.out; omega) _⟩
theorem aay (x : Vlt) (hf : x.fal = true) (w : World) : Calls Tryz.prog 82 #[vBv x,.int .i64 0] w fun e w' => e = .returned (.tuple #[vBv v0,.int .i64 20]) ∧ Fr F0 w w' := by
 obtain ⟨sz,oS,c0,c21,c22,c23,c24,c25,c26⟩ := cBf x
 rw [hf] at c26
 have d26 := ay c26
 simp only [iq]
 have hb0 := aav
 have sz0 := lu v0
 have oS0 := ru v0
 generalize cB v0 = C0 at *
 generalize cB x = C at *
 clear c0 c21 c22 c23 c24 c25
 go_enter Tryz.func82,Tryz.ntmps82
 go_upto_region 1 with fail
 refine eu fun W2 N => ?_
 have r2 := N.old (heap_alloc_new w (.cells C 72))
 have r4 := N.new
 have F2 := Lib.hid (((Fr.refl F0 w).alloc (.cells C 72)).trans' N.fr)
 clear N
 obtain ⟨g4,hg4⟩ : ∃ g,w.heap.size + 1 = g := ⟨_,rfl⟩
 rw [show (w.alloc (.cells C 72)).heap.size = w.heap.size + 1 by simp,hg4] at r4
 rw [hg4]
 obtain ⟨g2,hg2⟩ : ∃ g,w.heap.size = g := ⟨_,rfl⟩
 rw [hg2] at r2 ⊢
 have HG := Lib.hid (And.intro hg4 hg2)
 clear hg4 hg2
 go_wp2_with fail
 refine bodyPost_ret (jw rfl _ _ g4 _ _ _ _ rfl (by rw [bf,r4]; rfl) Tryz.underlying72 rfl (by rw [Tryz.szBVault,sz0])) rfl ?_
 exact ⟨rfl,F2.out.setRow (fun h => by have := HG.out; omega) _⟩
end
def KP (S : Nat → Prop) (w : World) (p tp q fp vb : Nat) (M : Bok) : Prop := ∃ tob qp qob,BK w p tp tob q qp qob fp vb M ∧ ∀ k,S k ↔ BS p tp tob q qp qob fp vb k
def QP (S : Nat → Prop) (w : World) (p tp q fp vb : Nat) (M' : Bok) (w' : World) : Prop := ∃ T,KP T w' p tp q fp vb M' ∧ (∀ k,T k → S k ∨ (w.heap.size ≤ k ∧ k < w'.heap.size)) ∧ Fr S w w'
def EP (S : Nat → Prop) (w : World) (p tp q fp vb : Nat) (M' : Bok) (v : Value) (e : Ending) (w' : World) : Prop := e = .returned v ∧ QP S w p tp q fp vb M' w'
section
variable {S : Nat → Prop} {w w' W : World} {p tp q fp vb : Nat} {M M' : Bok}
theorem KP.fr {T : Nat → Prop} (h : KP S w p tp q fp vb M) (f : Fr T w w') (hs : ∀ k,k < w.heap.size → S k → ¬ T k) : KP S w' p tp q fp vb M := by
 obtain ⟨tob,qp,qob,b,e⟩ := h
 exact ⟨tob,qp,qob,b.fr f fun k hk => hs k (b.lts hk) ((e k).2 hk),e⟩
theorem KP.fr0 (h : KP S w p tp q fp vb M) (f : Fr F0 w w') : KP S w' p tp q fp vb M := h.fr f fun _ _ _ x => x
theorem KP.lt (h : KP S w p tp q fp vb M) {k : Nat} (hk : S k) : k < w.heap.size := by
 obtain ⟨tob,qp,qob,b,e⟩ := h
 exact b.lts ((e k).1 hk)
theorem KP.at_ (h : KP S w p tp q fp vb M) : w.heap[p]? = some (.cells (bkC tp q fp vb M.now M.pc M.pn M.dep) 97 (0,0)) := by
 obtain ⟨tob,qp,qob,b,e⟩ := h
 exact b.at_
theorem KP.vm (h : KP S w p tp q fp vb M) : MV w vb 256 (gOf M.vs) := by
 obtain ⟨tob,qp,qob,b,e⟩ := h
 exact b.vm
theorem QP.same (h : KP S w p tp q fp vb M) (f : Fr F0 w w') : QP S w p tp q fp vb M w' := ⟨S,h.fr0 f,fun k hk => .inl hk,f.of0⟩
theorem QP.ahead (f : Fr F0 w W) (h : QP S W p tp q fp vb M' w') : QP S w p tp q fp vb M' w' := by
 obtain ⟨T,k,hT,f2⟩ := h
 refine ⟨T,k,fun i hi => ?_,f.of0.trans' f2⟩
 rcases hT i hi with e | e
 ·exact .inl e
 ·have := f.size; exact .inr (by omega)
theorem QP.then {M1 M2 : Bok} (h : QP S w p tp q fp vb M1 W) (k : ∀ T,KP T W p tp q fp vb M1 → QP T W p tp q fp vb M2 w') : QP S w p tp q fp vb M2 w' := by
 obtain ⟨T,k1,hT,f1⟩ := h
 obtain ⟨U,k2,hU,f2⟩ := k T k1
 refine ⟨U,k2,fun i hi => ?_,f1.trans f2 fun i hi e => ?_⟩
 ·rcases hU i hi with e | e
  ·rcases hT i e with e | e
   ·exact .inl e
   ·have := f2.size; exact .inr (by omega)
  ·have := f1.size; exact .inr (by omega)
 ·rcases hT i e with e | e
  ·exact e
  ·omega
theorem QP.keeps (h : QP S w p tp q fp vb M' w') {g : Nat} {o : Obj} (hg : ¬ S g) (ho : w.heap[g]? = some o) : w'.heap[g]? = some o := by
 obtain ⟨T,k,_,f⟩ := h
 exact f.keeps hg ho
end
section
variable {S : Nat → Prop} {w w' W : World} {p tp q fp vb : Nat} {M : Bok}
theorem au6 {tob ayu : Option Nat} {qp : Nat} {qob ay3 : Option Nat} {M' : Bok} (hS : ∀ k,S k ↔ BS p tp tob q qp qob fp vb k) (b' : BK w' p tp ayu q qp ay3 fp vb M') (ot : OB w tob ayu) (oq : OB w qob ay3) (f : Fr S w w') : QP S w p tp q fp vb M' w' := by
 refine ⟨BS p tp ayu q qp ay3 fp vb,⟨ayu,qp,ay3,b',fun k => Iff.rfl⟩,fun k hk => ?_,f⟩
 have hlt := b'.lts hk
 rw [hS k]
 rcases hk with e | e | e | e | e
 ·exact .inl (.inl e)
 ·rcases LS.ob ot e with e | e
  ·exact .inl (.inr (.inl e))
  ·exact .inr ⟨e,hlt⟩
 ·rcases PS.ob oq e with e | e
  ·exact .inl (.inr (.inr (.inl e)))
  ·exact .inr ⟨e,hlt⟩
 ·exact .inl (.inr (.inr (.inr (.inl e))))
 ·exact .inl (.inr (.inr (.inr (.inr e))))
theorem KP.put (h : KP S w p tp q fp vb M) {l : List Vlt} {y : Vlt} (hy : y.who < 256) (hl : ∀ k,gOf l k = auy (gOf M.vs) y.who y k) :
  ∃ w',(aC6 (.map (some vb)) (.int .u8 (y.who : Int)) (vBv y)).run Tryz.prog w = .ok () w' ∧ QP S w p tp q fp vb { M with vs := l } w' := by
 obtain ⟨tob,qp,qob,b,e⟩ := h
 obtain ⟨w',hr,hm,f,_⟩ := b.vm.put (by unfold maxLen; omega) hy y
 refine ⟨w',hr,au6 e (b.vmap (hm.ext fun k hk => (hl k).symm) f) (OB.refl _ _) (OB.refl _ _) (f.mono fun k _ ek => (e k).2 (.inr (.inr (.inr (.inr ek)))))⟩
theorem azd {E : Int} {f' : Nat → Nat} {t' n : Nat} {tob : Option Nat} {qp : Nat} {qob : Option Nat} (b : BK w p tp tob q qp qob fp vb M) (e : ∀ k,S k ↔ BS p tp tob q qp qob fp vb k) {en : Ending} (h : aF9 w tp tob n (E,f',t') en w') : EP S w p tp q fp vb { M with tok := f' } (.int .i64 E) en w' := by
 obtain ⟨h1,ob',L,o,f⟩ := h
 exact ⟨h1,au6 e (b.tok L o f) o (OB.refl _ _) (f.mono fun k _ ek => (e k).2 (.inr (.inl ek)))⟩
theorem ar6 {E : Int} {f' : Nat → Nat} {t h' i o n : Nat} {tob : Option Nat} {qp : Nat} {qob : Option Nat} (b : BK w p tp tob q qp qob fp vb M) (e : ∀ k,S k ↔ BS p tp tob q qp qob fp vb k) {en : Ending} (h : PuQ w q qp qob n f' t h' i o E en w') : EP S w p tp q fp vb { M with free := f',held := h',inn := i,out := o } (.int .i64 E) en w' := by
 obtain ⟨h1,ob',P,ob,f⟩ := h
 exact ⟨h1,au6 e (b.purse P ob f) (OB.refl _ _) ob (f.mono fun k _ ek => (e k).2 (.inr (.inr (.inl ek))))⟩
theorem afo : 256 < maxLen := by unfold maxLen; omega
theorem aqw (hM : M.Ok) : Lg M.tok (uy M.tok 256) := ⟨rfl,hM.most⟩
theorem ab4 (h : KP S w p tp q fp vb M) (hM : M.Ok) {a x : Nat} (ha : a < 256) (hx : x < 18446744073709551616) :
  Calls Tryz.prog 86 #[.pointer (some ⟨tp,0,none⟩),.int .u8 (a : Int),.int .u64 (x : Int)] w (EP S w p tp q fp vb { M with tok := (abo M.tok (uy M.tok 256) a x).2.1 } (.int .i64 (abo M.tok (uy M.tok 256) a x).1)) := by
 obtain ⟨tob,qp,qob,b,e⟩ := h
 exact (afe b.led (aqw hM) afo ha hx).mono fun en w' hq => azd b e hq
theorem al8 (h : KP S w p tp q fp vb M) (hM : M.Ok) {a x : Nat} (ha : a < 256) (hx : x < 18446744073709551616) :
  Calls Tryz.prog 87 #[.pointer (some ⟨tp,0,none⟩),.int .u8 (a : Int),.int .u64 (x : Int)] w (EP S w p tp q fp vb { M with tok := (zx M.tok (uy M.tok 256) a x).2.1 } (.int .i64 (zx M.tok (uy M.tok 256) a x).1)) := by
 obtain ⟨tob,qp,qob,b,e⟩ := h
 exact (ada b.led (aqw hM) afo ha hx).mono fun en w' hq => azd b e hq
theorem axx (h : KP S w p tp q fp vb M) (hM : M.Ok) {a c x : Nat} (ha : a < 256) (hc : c < 256) (hx : x < 18446744073709551616) :
  Calls Tryz.prog 45 #[.pointer (some ⟨tp,0,none⟩),.int .u8 (a : Int),.int .u8 (c : Int),.int .u64 (x : Int)] w (EP S w p tp q fp vb { M with tok := (alf M.tok (uy M.tok 256) a c x).2.1 } (.int .i64 (alf M.tok (uy M.tok 256) a c x).1)) := by
 obtain ⟨tob,qp,qob,b,e⟩ := h
 exact (asg b.led (aqw hM) (by unfold maxLen; omega) ha hc hx).mono fun en w' hq => azd b e hq
theorem adf (h : KP S w p tp q fp vb M) {a : Nat} (ha : a < 256) : Calls Tryz.prog 63 #[.pointer (some ⟨tp,0,none⟩),.int .u8 (a : Int)] w fun e w' => e = .returned (.int .u64 (M.tok a : Int)) ∧ w' = w := by
 obtain ⟨tob,qp,qob,b,e⟩ := h
 exact af6 b.led ha
theorem ai8 (h : KP S w p tp q fp vb M) (hM : M.Ok) : Calls Tryz.prog 58 #[.pointer (some ⟨tp,0,none⟩)] w fun e w' => e = .returned (.int .u64 (uy M.tok 256 : Int)) ∧ Fr F0 w w' := by
 obtain ⟨tob,qp,qob,b,e⟩ := h
 exact ad4 b.led (aqw hM)
theorem afh (h : KP S w p tp q fp vb M) {a : Nat} (ha : a < 256) : Calls Tryz.prog 64 #[.pointer (some ⟨q,0,none⟩),.int .u8 (a : Int)] w fun e w' => e = .returned (.int .u64 (M.free a : Nat)) ∧ w' = w := by
 obtain ⟨tob,qp,qob,b,e⟩ := h
 exact aAb b.pur ha
theorem aA1 (h : KP S w p tp q fp vb M) {a x : Nat} (ha : a < 256) (hx : x ≤ M.free a) :
  Calls Tryz.prog 120 #[.pointer (some ⟨q,0,none⟩),.int .u8 (a : Int),.int .u64 (x : Int)] w (EP S w p tp q fp vb { M with free := upd M.free a (M.free a - x),held := M.held + x } (.int .i64 0)) := by
 obtain ⟨tob,qp,qob,b,e⟩ := h
 exact (axi b.pur afo ha hx).mono fun en w' hq => ar6 b e hq
theorem akf (h : KP S w p tp q fp vb M) {a x : Nat} (ha : a < 256) (hx : x ≤ M.held) :
  Calls Tryz.prog 110 #[.pointer (some ⟨q,0,none⟩),.int .u8 (a : Int),.int .u64 (x : Int)] w (EP S w p tp q fp vb { M with free := upd M.free a (M.free a + x),held := M.held - x } (.int .i64 0)) := by
 obtain ⟨tob,qp,qob,b,e⟩ := h
 exact (axj b.pur afo ha hx).mono fun en w' hq => ar6 b e hq
theorem aB5 (h : KP S w p tp q fp vb M) {a x : Nat} (ha : a < 256) (hx : M.inn + x ≤ 4611686018427387904) :
  Calls Tryz.prog 21 #[.pointer (some ⟨q,0,none⟩),.int .u8 (a : Int),.int .u64 (x : Int)] w (EP S w p tp q fp vb { M with free := upd M.free a (M.free a + x),inn := M.inn + x } (.int .i64 0)) := by
 obtain ⟨tob,qp,qob,b,e⟩ := h
 exact (aDy b.pur afo ha hx).mono fun en w' hq => ar6 b e hq
theorem aB6 (h : KP S w p tp q fp vb M) {a x : Nat} (ha : a < 256) (hx : 4611686018427387904 < M.inn + x) (hx2 : x < 18446744073709551616) :
  Calls Tryz.prog 21 #[.pointer (some ⟨q,0,none⟩),.int .u8 (a : Int),.int .u64 (x : Int)] w (EP S w p tp q fp vb M (.int .i64 (ahy x))) := by
 obtain ⟨tob,qp,qob,b,e⟩ := h
 exact (aDz b.pur hx hx2).mono fun en w' hq => ar6 b e hq
theorem aEm (h : KP S w p tp q fp vb M) {a x : Nat} (ha : a < 256) (hx : x ≤ M.free a) :
  Calls Tryz.prog 44 #[.pointer (some ⟨q,0,none⟩),.int .u8 (a : Int),.int .u64 (x : Int)] w (EP S w p tp q fp vb { M with free := upd M.free a (M.free a - x),out := M.out + x } (.int .i64 0)) := by
 obtain ⟨tob,qp,qob,b,e⟩ := h
 exact (az9 b.pur afo ha hx).mono fun en w' hq => ar6 b e hq
theorem av8 (h : KP S w p tp q fp vb M) {a x : Nat} (ha : a < 256) (hx : M.free a < x) (hx2 : x < 18446744073709551616) :
  Calls Tryz.prog 44 #[.pointer (some ⟨q,0,none⟩),.int .u8 (a : Int),.int .u64 (x : Int)] w (EP S w p tp q fp vb M (.int .i64 (ay4 x))) := by
 obtain ⟨tob,qp,qob,b,e⟩ := h
 exact (aAa b.pur afo ha hx hx2).mono fun en w' hq => ar6 b e hq
theorem axw (h : KP S w p tp q fp vb M) : Calls Tryz.prog 60 #[.pointer (some ⟨q,0,none⟩)] w fun e w' => e = .returned (.tuple #[.int .u64 (M.inn : Nat),.int .u64 (M.out : Nat)]) ∧ Fr F0 w w' := by
 obtain ⟨tob,qp,qob,b,e⟩ := h
 exact ai5 b.pur
theorem al7 (h : KP S w p tp q fp vb M) : Calls Tryz.prog 59 #[.pointer (some ⟨q,0,none⟩)] w fun e w' => e = .returned (.int .u64 (M.held : Nat)) ∧ Fr F0 w w' := by
 obtain ⟨tob,qp,qob,b,e⟩ := h
 exact ai6 b.pur
theorem aro (h : KP S w p tp q fp vb M) (x now : Nat) : Calls Tryz.prog 18 #[.pointer (some ⟨fp,0,none⟩),.int .u64 (x : Int),.int .u64 (now : Int)] w
  (EP S w p tp q fp vb (if seE 100 M.price M.told x now = 0 then { M with price := x,told := now } else M) (.int .i64 (seE 100 M.price M.told x now))) := by
 obtain ⟨tob,qp,qob,b,e⟩ := h
 obtain ⟨x',t',hc,H⟩ := aAi b.feed x now
 refine H.mono ?_
 rintro en w' ⟨h1,F,f⟩
 have hM : { M with price := x',told := t' } = if seE 100 M.price M.told x now = 0 then { M with price := x,told := now } else M := by
  rcases hc with ⟨h,rfl,rfl,_⟩ | ⟨h,rfl,rfl⟩
  ·rw [if_pos h]
  ·rw [if_neg h]
 rw [← hM]
 exact ⟨h1,au6 e (b.feedS F f) (OB.refl _ _) (OB.refl _ _) (f.mono fun k _ ek => (e k).2 (.inr (.inr (.inr (.inl ek)))))⟩
theorem ati (h : KP S w p tp q fp vb M) (now : Nat) (hn : now < 18446744073709551616) : Calls Tryz.prog 95 #[.pointer (some ⟨fp,0,none⟩),.int .u64 (now : Int)] w fun e w' => e = .returned (.tuple #[.int .u64 (prV 50 M.price M.told now : Nat),.int .i64 (prE 50 M.price M.told now)]) ∧ Fr F0 w w' := by
 obtain ⟨tob,qp,qob,b,e⟩ := h
 exact atc b.feed now hn
theorem axy (h : KP S w p tp q fp vb M) : Calls Tryz.prog 61 #[.pointer (some ⟨fp,0,none⟩)] w fun e w' => e = .returned (.tuple #[.int .u64 (M.price : Int),.int .u64 (M.told : Int),.bool (decide (0 < M.price))]) ∧ Fr F0 w w' := by
 obtain ⟨tob,qp,qob,b,e⟩ := h
 exact aa3 b.feed _ rfl
theorem KP.own (h : KP S w p tp q fp vb M) {now pc pn dep : Nat} (h' : w'.heap[p]? = some (.cells (bkC tp q fp vb now pc pn dep) 97 (0,0))) (f : Fr (fun k => k = p) w w') : QP S w p tp q fp vb { M with now := now,pc := pc,pn := pn,dep := dep } w' := by
 obtain ⟨tob,qp,qob,b,e⟩ := h
 exact au6 e (b.own h' f) (OB.refl _ _) (OB.refl _ _) (f.mono fun k _ ek => (e k).2 (.inl ek))
theorem KP.avd (h : KP S w p tp q fp vb M) (now : Nat) : QP S w p tp q fp vb { M with now := now } (w.setCell ⟨p,11,none⟩ (.int .u64 (now : Int))) :=
 h.own (pc := M.pc) (pn := M.pn) (dep := M.dep) (by rw [cu,h.at_]; rfl) ((Fr.refl (fun k => k = p) w).setCell (p := ⟨p,11,none⟩) (fun _ => rfl) _)
theorem KP.ali (h : KP S w p tp q fp vb M) (dep : Nat) : QP S w p tp q fp vb { M with dep := dep } (w.setCell ⟨p,18,none⟩ (.int .u64 (dep : Int))) :=
 h.own (now := M.now) (pc := M.pc) (pn := M.pn) (by rw [cu,h.at_]; rfl) ((Fr.refl (fun k => k = p) w).setCell (p := ⟨p,18,none⟩) (fun _ => rfl) _)
theorem KP.aom (h : KP S w p tp q fp vb M) (pc : Nat) : QP S w p tp q fp vb { M with pc := pc } (w.setCell ⟨p,15,none⟩ (.int .u64 (pc : Int))) :=
 h.own (now := M.now) (pn := M.pn) (dep := M.dep) (by rw [cu,h.at_]; rfl) ((Fr.refl (fun k => k = p) w).setCell (p := ⟨p,15,none⟩) (fun _ => rfl) _)
theorem KP.ale (h : KP S w p tp q fp vb M) (pn : Nat) : QP S w p tp q fp vb { M with pn := pn } (w.setCell ⟨p,16,none⟩ (.int .u64 (pn : Int))) :=
 h.own (now := M.now) (pc := M.pc) (dep := M.dep) (by rw [cu,h.at_]; rfl) ((Fr.refl (fun k => k = p) w).setCell (p := ⟨p,16,none⟩) (fun _ => rfl) _)
theorem afg (h : KP S w p tp q fp vb M) {x : Nat} (hx : x < 256) : Calls Tryz.prog 88 #[.pointer (some ⟨p,0,none⟩),.int .u8 (x : Int)] w fun e w' => e = .returned (.tuple #[vBv ((gOf M.vs x).getD v0),.int .i64 (if (gOf M.vs x).isSome = true then 0 else 12)]) ∧ Fr F0 w w' := by
 obtain ⟨tob,qp,qob,b,e⟩ := h
 exact ahm b hx
end
theorem aej (M : Bok) (w a : Nat) : (badM a ∧ ∀ fo,opE M w a fo = 1) ∨ (¬ badM a ∧ gOf M.vs w = none ∧ M.vs[atV M.vs w]? = none ∧ ∀ fo,opE M w a fo = 12) ∨ ∃ x,¬ badM a ∧ gOf M.vs w = some x ∧ M.vs[atV M.vs w]? = some x ∧ x.who = w ∧ opE M w a true = 0 ∧ opE M w a false = if x.fal = true then 20 else 0 := by
 unfold opE badM
 by_cases h : a = 0 ∨ 4611686018427387904 < a
 ·exact .inl ⟨h,fun fo => if_pos h⟩
 ·refine .inr ?_
  rw [avl]
  cases hx : M.vs[atV M.vs w]? with
  |none => exact .inl ⟨h,rfl,rfl,fun fo => by rw [if_neg h]⟩
  |some x =>
   refine .inr ⟨x,h,rfl,rfl,zq hx,by rw [if_neg h]; simp,?_⟩
   rw [if_neg h]
   show (if x.fal = true ∧ false = false then (20 : Int) else 0) = _
   simp
section
variable {S : Nat → Prop} {w : World} {p tp q fp vb : Nat} {M : Bok}
theorem ab5 (h : KP S w p tp q fp vb M) {x a : Nat} (hx : x < 256) (hE : opE M x a true ≠ 0) : Calls Tryz.prog 83 #[.pointer (some ⟨p,0,none⟩),.int .u8 (x : Int),.int .u64 (a : Int)] w fun e w' => e = .returned (.tuple #[vBv v0,.int .i64 (opE M x a true)]) ∧ Fr F0 w w' := by
 rcases aej M x a with ⟨h1,h2⟩ | ⟨h1,h2,h3,h4⟩ | ⟨y,h1,h2,h3,h4,h5,h6⟩
 ·rw [h2]; exact ad8 a x p h1 w
 ·rw [h4]
  obtain ⟨tob,qp,qob,b,e⟩ := h
  have := ajg b hx h1
  rw [h2] at this
  exact this
 ·exact absurd h5 hE
theorem iw (h : KP S w p tp q fp vb M) {x a : Nat} {y : Vlt} (hx : x < 256) (h1 : ¬ badM a) (hy : gOf M.vs x = some y) : Calls Tryz.prog 83 #[.pointer (some ⟨p,0,none⟩),.int .u8 (x : Int),.int .u64 (a : Int)] w fun e w' => e = .returned (.tuple #[vBv y,.int .i64 0]) ∧ Fr F0 w w' := by
 obtain ⟨tob,qp,qob,b,e⟩ := h
 have := ajg b hx h1
 rw [hy] at this
 exact this
end
theorem avp {W : World} {g o : Nat} {t : TypeId} {d : TypeDesc} {xs : List Value} (h : W.heap[g]? = some (.cells usC 38 (0,0))) (hu : Tryz.prog.underlying t = some d) (hd : d.isRow = true) (hi : (Tryz.prog.info? t).map (·.size) = some xs.length) (hx : ∀ j,j < xs.length → usC[o + j]? = xs[j]?) :
  (gu t (.pointer (some ⟨g,o,none⟩))).run Tryz.prog W = .ok (.agg xs.toArray) W := by
 refine run_loadAt_mid (P := Tryz.prog) W g o t xs d (fun j u hj => ?_) hu hd hi
 rw [gq,h,jg,hx j (List.getElem?_eq_some_iff.1 hj).1]
 exact hj
theorem aIx {W : World} {g : Nat} (h : W.heap[g]? = some (.cells usC 38 (0,0))) : (gu 35 (.pointer (some ⟨g,3,none⟩))).run Tryz.prog W = .ok (.agg #[.int .u64 100,.int .u64 50]) W :=
 avp (xs := [.int .u64 100,.int .u64 50]) h Tryz.underlying35 rfl Tryz.szORules (fun j hj => by
  have : j = 0 ∨ j = 1 := by simp at hj; omega
  rcases this with rfl | rfl <;> rfl)
theorem Tryz.szBands20 : (Tryz.prog.info? 33).map (·.size) = some 3 := by kernel_rfl
theorem us_bd {W : World} {g : Nat} (h : W.heap[g]? = some (.cells usC 38 (0,0))) : (gu 33 (.pointer (some ⟨g,0,none⟩))).run Tryz.prog W = .ok (.agg #[.int .u64 2000,.int .u64 1500,.int .u64 1200]) W :=
 avp (xs := [.int .u64 2000,.int .u64 1500,.int .u64 1200]) h Tryz.underlying33 rfl Tryz.szBands20 (fun j hj => by
  have : j = 0 ∨ j = 1 ∨ j = 2 := by simp at hj; omega
  rcases this with rfl | rfl | rfl <;> rfl)
theorem ak4 (w : World) : Calls Tryz.prog 101 #[.int .u64 10] w fun e w' => e = .returned (.bool true) ∧ w' = w := by
 go_enter Tryz.func101,Tryz.ntmps101
 go_wp2_with fail
 go_ret
 exact ⟨rfl,rfl⟩
theorem usF : usC.size = 11 ∧ yg usC ∧ usC[0]? = some (.int .u64 2000) ∧ usC[1]? = some (.int .u64 1500) ∧ usC[2]? = some (.int .u64 1200) ∧ usC[5]? = some (.int .u64 10) ∧ usC[6]? = some (.int .u64 10) ∧ usC[7]? = some (.int .u64 10) ∧ usC[8]? = some (.int .u64 50) ∧ usC[9]? = some (.int .u64 100) ∧ usC[10]? = some (.int .u64 10) := ⟨rfl,aoo,rfl,rfl,rfl,rfl,rfl,rfl,rfl,rfl,rfl⟩
theorem aup (w : World) : Calls Tryz.prog 37 #[.agg usC] w fun e w' => e = .returned (.int .i64 0) ∧ Fr F0 w w' := by
 have HN := Lib.hid (fun w => av3 100 50 (by decide) (by decide) w)
 rw [show ((100 : Nat) : Int) = 100 from rfl,show ((50 : Nat) : Int) = 50 from rfl] at HN
 have HO := Lib.hid ak4
 have HR := Lib.hid (fun w => ap4 2000 1500 1200 true (by decide) w)
 have HS := Lib.hid (fun w => aad 10 (by decide) w)
 rw [show ((10 : Nat) : Int) = 10 from rfl] at HS
 unfold BV at HR
 rw [show ((2000 : Nat) : Int) = 2000 from rfl,show ((1500 : Nat) : Int) = 1500 from rfl,show ((1200 : Nat) : Int) = 1200 from rfl] at HR
 obtain ⟨sz,oS,c0,c1,c2,c5,c6,c7,c8,c9,c10⟩ := usF
 have hO := fun (W : World) (g : Nat) (h : W.heap[g]? = some (.cells usC 38 (0,0))) => aIx h
 have hB := fun (W : World) (g : Nat) (h : W.heap[g]? = some (.cells usC 38 (0,0))) => us_bd h
 generalize usC = C at *
 have d0 := ay c0
 have d1 := ay c1
 have d2 := ay c2
 have d5 := ay c5
 have d6 := ay c6
 have d7 := ay c7
 have d8 := ay c8
 have d9 := ay c9
 have d10 := ay c10
 go_enter Tryz.func37,Tryz.ntmps37
 go_upto_region 1 with fail
 refine eu fun W1 N => ?_
 have r1 := N.new
 have F1 := Lib.hid N.fr
 clear N
 obtain ⟨g1,hg1⟩ : ∃ g,w.heap.size = g := ⟨_,rfl⟩
 rw [hg1] at r1 ⊢
 clear hg1
 have ho1 := hO _ _ r1
 go_wp2_with fail
 refine (HN.out _).mono ?_; rintro e w2 ⟨pp,rfl,-,f2,-⟩
 replace r1 := dn f2 r1
 replace F1 := Lib.hid (F1.out.trans' f2)
 clear f2 ho1 HN
 have hb1 := hB _ _ r1
 go_wp2_with fail
 (with_reducible refine (HO.out _).mono ?_); rintro e w3 ⟨rfl,hw⟩; replace hw := hw.symm; subst hw
 go_wp2_with fail
 (with_reducible refine (HO.out _).mono ?_); rintro e w3 ⟨rfl,hw⟩; replace hw := hw.symm; subst hw
 go_wp2_with fail
 (with_reducible refine (HO.out _).mono ?_); rintro e w3 ⟨rfl,hw⟩; replace hw := hw.symm; subst hw
 go_wp2_with fail
 (with_reducible refine (HR.out _).mono ?_); rintro e w3 ⟨rfl,f3⟩
 replace r1 := dn f3 r1
 replace F1 := Lib.hid (F1.out.trans' f3)
 clear f3 hb1
 go_wp2_with fail
 (with_reducible refine (HS.out _).mono ?_); rintro e w4 ⟨rfl,hw⟩; replace hw := hw.symm; subst hw
 go_wp2_with fail
 go_ret
 exact ⟨rfl,F1.out⟩
section
variable {S : Nat → Prop} {w w' W : World} {p tp q fp vb : Nat} {M : Bok}
theorem ug (h : KP S w p tp q fp vb M) {l : List Vlt} {y : Vlt} (hy : y.who < 256) (hl : ∀ k,gOf l k = auy (gOf M.vs) y.who y k) :
  Calls Tryz.prog 81 #[.pointer (some ⟨p,0,none⟩),vBv y] w (EP S w p tp q fp vb { M with vs := l } (.tuple #[])) := by
 have HB := Lib.hid (fun (W : World) (f : Fr F0 w W) => And.intro (h.fr0 f).at_ ((h.fr0 f).put hy hl))
 obtain ⟨sz,oS,c0,c21,c22,c23,c24,c25,c26⟩ := cBf y
 have d0 := ay c0
 simp only [iq] at HB ⊢
 clear c21 c22 c23 c24 c25 c26
 unfold bkC at HB
 generalize (M.now : Int) = now at *
 generalize (M.pc : Int) = pc at *
 generalize (M.pn : Int) = pn at *
 generalize (M.dep : Int) = dep at *
 generalize cB y = C at *
 unfold EP
 clear h hy hl
 go_enter Tryz.func81,Tryz.ntmps81
 go_upto_region 1 with fail
 refine eu fun W1 N => ?_
 have r2 := N.new
 have F1 := Lib.hid N.fr.drew
 have e0 := (HB.out W1 N.fr).1
 obtain ⟨-,w2,hput,hq⟩ := HB.out W1.drew N.fr.drew
 replace hq := Lib.hid hq
 clear N
 obtain ⟨g2,hg2⟩ : ∃ g,w.heap.size = g := ⟨_,rfl⟩
 rw [hg2] at r2 ⊢
 clear hg2
 go_region
 go_wp2_with fail
 go_end0
 exact ⟨rfl,QP.ahead F1.out hq.out⟩
theorem aan (x : Vlt) (hx : x.bur ≤ 4611686018427387904) (w : World) : Calls Tryz.prog 65 #[vBv x] w fun e w' => e = .returned (.int .u64 (x.bur : Int)) ∧ Fr F0 w w' := by
 obtain ⟨sz,oS,c0,c21,c22,c23,c24,c25,c26⟩ := cBf x
 have d22 := ay c22
 have d23 := ay c23
 have d24 := ay c24
 unfold Vlt.bur at hx ⊢
 have m1 : IntKind.u64.wrap ((x.iss : Int) + (x.com : Int)) = ((x.iss + x.com : Nat) : Int) := by rw [IntWalk.u64_in _ (by omega)]; omega
 have m2 : IntKind.u64.wrap (((x.iss + x.com : Nat) : Int) + (x.goi : Int)) = ((x.iss + x.com + x.goi : Nat) : Int) := by rw [IntWalk.u64_in _ (by omega)]; omega
 simp only [iq]
 generalize cB x = C at *
 generalize x.iss + x.com + x.goi = n2 at *
 generalize x.iss + x.com = n1 at *
 generalize x.iss = i at *
 generalize x.com = c at *
 generalize x.goi = g at *
 clear c0 c21 c25 c26 hx
 go_enter Tryz.func65,Tryz.ntmps65
 go_wp2_with fail
 go_ret
 exact ⟨rfl,(Fr.refl F0 w).alloc _⟩
theorem abz (h : KP S w p tp q fp vb M) (c a pr : Nat) (hc : c < 18446744073709551616) (ha : a < 18446744073709551616) (o : Bool) (ho : decide (enP c a pr 2000) = o) :
  Calls Tryz.prog 84 #[.pointer (some ⟨p,0,none⟩),.int .u64 (c : Int),.int .u64 (a : Int),.int .u64 (pr : Int)] w fun e w' => e = .returned (.bool o) ∧ Fr F0 w w' := by
 have e0 := h.at_
 have H := Lib.hid (ap3 c a pr 2000 hc ha o ho w)
 unfold bkC at e0
 generalize (M.now : Int) = now at *
 generalize (M.pc : Int) = pc at *
 generalize (M.pn : Int) = pn at *
 generalize (M.dep : Int) = dep at *
 clear h ho hc ha
 go_enter Tryz.func84,Tryz.ntmps84
 go_wp2_with fail
 refine H.out.mono ?_; rintro e w1 ⟨rfl,f1⟩
 have F1 := Lib.hid f1
 clear f1 H e0
 go_wp2_with fail
 go_ret
 exact ⟨rfl,F1.out⟩
theorem zu (h : KP S w p tp q fp vb M) (hn : M.now < 18446744073709551616) :
  Calls Tryz.prog 30 #[.pointer (some ⟨p,0,none⟩)] w fun e w' => e = .returned (.tuple #[.int .u64 (prV 50 M.price M.told M.now : Nat),.int .i64 (prE 50 M.price M.told M.now)]) ∧ Fr F0 w w' := by
 have H3 := Lib.hid (ati h M.now hn)
 obtain ⟨tob,qp,qob,b,e⟩ := h
 have H1 := Lib.hid (aji b)
 have H2 := Lib.hid (amk b)
 clear b e
 generalize prV 50 M.price M.told M.now = V at *
 generalize prE 50 M.price M.told M.now = E at *
 generalize (M.now : Int) = now at *
 clear hn
 go_enter Tryz.func30,Tryz.ntmps30
 go_wp2_with fail
 (with_reducible refine H1.out.mono ?_); rintro e w1 ⟨rfl,hw⟩; replace hw := hw.symm; subst hw
 go_wp2_with fail
 (with_reducible refine H2.out.mono ?_); rintro e w1 ⟨rfl,hw⟩; replace hw := hw.symm; subst hw
 go_wp2_with fail
 (with_reducible refine H3.out.mono ?_); rintro e w1 ⟨rfl,f1⟩
 have F1 := Lib.hid f1
 clear f1
 go_wp2_with fail
 go_ret2
 exact ⟨rfl,F1.out⟩
theorem adQ {a x : Nat} (h : a + x ≤ 4611686018427387904) : adE a x = 0 ∧ adV a x = a + x := ao6 h
theorem sbQ {a x : Nat} (h : x ≤ a) (ha : a ≤ 4611686018427387904) : sbE a x = 0 ∧ sbV a x = a - x := aot h ha
theorem ag6 (h : KP S w p tp q fp vb M) {x a c : Nat} (hx : x < 256) (h1 : a ≤ M.free x) (h2 : c + a ≤ 4611686018427387904) :
  Calls Tryz.prog 80 #[.pointer (some ⟨p,0,none⟩),.int .u8 (x : Int),.int .u64 (a : Int),.int .u64 (c : Int)] w (EP S w p tp q fp vb { M with free := upd M.free x (M.free x - a),held := M.held + a } (.tuple #[.int .u64 ((c + a : Nat) : Int),.int .i64 0])) := by
 have e0 := h.at_
 have l1 : ¬ (M.free x : Int) < (a : Int) := by omega
 have q1 : decide ((M.free x : Int) < (a : Int)) = false := decide_eq_false l1
 have H1 := Lib.hid (afh h hx)
 have H2 := Lib.hid (aak c a (by omega) (by omega) w)
 rw [(adQ h2).1,(adQ h2).2] at H2
 have HB := Lib.hid (fun (W : World) (f : Fr F0 w W) => And.intro (h.fr0 f).at_ (aA1 (h.fr0 f) hx h1))
 obtain ⟨s,hs⟩ : ∃ s,c + a = s := ⟨_,rfl⟩
 rw [hs] at H2 ⊢
 unfold bkC at e0 HB
 generalize { M with free := upd M.free x (M.free x - a),held := M.held + a } = M' at *
 generalize (M.now : Int) = now at *
 generalize (M.pc : Int) = pc at *
 generalize (M.pn : Int) = pn at *
 generalize (M.dep : Int) = dep at *
 generalize M.free x = fx at *
 unfold EP at HB ⊢
 clear h h1 h2 hs hx
 go_enter Tryz.func80,Tryz.ntmps80
 go_wp2_with fail
 (with_reducible refine H1.out.mono ?_); rintro e w1 ⟨rfl,hw⟩; replace hw := hw.symm; subst hw
 go_wp2_with fail
 (with_reducible refine H2.out.mono ?_); rintro e w2 ⟨rfl,f2⟩
 obtain ⟨e2,H3⟩ := HB.out _ f2
 have F2 := Lib.hid f2
 replace H3 := Lib.hid H3
 clear f2 e0 HB H1 H2
 go_wp2_with fail
 (with_reducible refine H3.out.mono ?_); rintro e w3 ⟨rfl,hq⟩
 replace hq := Lib.hid hq
 clear e2 H3
 go_wp2_with fail
 go_ret2
 exact ⟨rfl,QP.ahead F2.out hq.out⟩
theorem afk (h : KP S w p tp q fp vb M) {x a c : Nat} (hx : x < 256) (h1 : M.free x < a) :
  Calls Tryz.prog 80 #[.pointer (some ⟨p,0,none⟩),.int .u8 (x : Int),.int .u64 (a : Int),.int .u64 (c : Int)] w fun e w' => e = .returned (.tuple #[.int .u64 0,.int .i64 16]) ∧ w' = w := by
 have e0 := h.at_
 have l1 : (M.free x : Int) < (a : Int) := by omega
 have q1 : decide ((M.free x : Int) < (a : Int)) = true := decide_eq_true l1
 have H1 := Lib.hid (afh h hx)
 unfold bkC at e0
 generalize (M.now : Int) = now at *
 generalize (M.pc : Int) = pc at *
 generalize (M.pn : Int) = pn at *
 generalize (M.dep : Int) = dep at *
 generalize M.free x = fx at *
 clear h h1 hx
 go_enter Tryz.func80,Tryz.ntmps80
 go_wp2_with fail
 (with_reducible refine H1.out.mono ?_); rintro e w1 ⟨rfl,hw⟩; replace hw := hw.symm; subst hw
 go_wp2_with fail
 go_ret2
 exact ⟨rfl,rfl⟩
theorem amj (h : KP S w p tp q fp vb M) {x a c : Nat} (hx : x < 256) (h1 : a ≤ c) (h2 : c ≤ 4611686018427387904) (h3 : a ≤ M.held) :
  Calls Tryz.prog 112 #[.pointer (some ⟨p,0,none⟩),.int .u8 (x : Int),.int .u64 (a : Int),.int .u64 (c : Int)] w (EP S w p tp q fp vb { M with free := upd M.free x (M.free x + a),held := M.held - a } (.tuple #[.int .u64 ((c - a : Nat) : Int),.int .i64 0])) := by
 have e0 := h.at_
 have H2 := Lib.hid (vw c a (by omega) (by omega) w)
 rw [(sbQ h1 h2).1,(sbQ h1 h2).2] at H2
 have HB := Lib.hid (fun (W : World) (f : Fr F0 w W) => And.intro (h.fr0 f).at_ (akf (h.fr0 f) hx h3))
 obtain ⟨s,hs⟩ : ∃ s,c - a = s := ⟨_,rfl⟩
 rw [hs] at H2 ⊢
 unfold bkC at e0 HB
 generalize { M with free := upd M.free x (M.free x + a),held := M.held - a } = M' at *
 generalize (M.now : Int) = now at *
 generalize (M.pc : Int) = pc at *
 generalize (M.pn : Int) = pn at *
 generalize (M.dep : Int) = dep at *
 unfold EP at HB ⊢
 clear h h1 h2 hs hx h3
 go_enter Tryz.func112,Tryz.ntmps112
 go_wp2_with fail
 (with_reducible refine H2.out.mono ?_); rintro e w2 ⟨rfl,f2⟩
 obtain ⟨e2,H3⟩ := HB.out _ f2
 have F2 := Lib.hid f2
 replace H3 := Lib.hid H3
 clear f2 e0 HB H2
 go_wp2_with fail
 (with_reducible refine H3.out.mono ?_); rintro e w3 ⟨rfl,hq⟩
 replace hq := Lib.hid hq
 clear e2 H3
 go_wp2_with fail
 go_ret2
 exact ⟨rfl,QP.ahead F2.out hq.out⟩
theorem atu {x a c : Nat} (h1 : c < a) (h2 : a ≤ 4611686018427387904) (w : World) :
  Calls Tryz.prog 112 #[.pointer (some ⟨p,0,none⟩),.int .u8 (x : Int),.int .u64 (a : Int),.int .u64 (c : Int)] w fun e w' => e = .returned (.tuple #[.int .u64 0,.int .i64 16]) ∧ Fr F0 w w' := by
 have H2 := Lib.hid (vw c a (by omega) (by omega) w)
 rw [show sbE c a = 16 by unfold sbE; rw [if_pos (by omega),if_neg (by omega)]] at H2
 generalize sbV c a = s at *
 clear h1 h2
 go_enter Tryz.func112,Tryz.ntmps112
 go_wp2_with fail
 (with_reducible refine H2.out.mono ?_); rintro e w2 ⟨rfl,f2⟩
 have F2 := Lib.hid f2
 clear f2 H2
 go_wp2_with fail
 go_ret2
 exact ⟨rfl,F2.out⟩
end
structure zl (S T : Nat → Prop) (w : World) (p tp q fp vb : Nat) (M : Bok) (G : Nat → Prop) (W : World) : Prop where
 kp : KP T W p tp q fp vb M
 blk : ∀ k,T k → S k ∨ (w.heap.size ≤ k ∧ k < W.heap.size)
 fr : Fr S w W
 own : ∀ g,G g → ¬ T g ∧ w.heap.size ≤ g ∧ g < W.heap.size
section
variable {S T : Nat → Prop} {w W W' : World} {p tp q fp vb : Nat} {M M' : Bok} {G : Nat → Prop}
theorem zl.start (h : KP S w p tp q fp vb M) (f : Fr F0 w W) : zl S S w p tp q fp vb M (fun _ => False) W := ⟨h.fr0 f,fun k hk => .inl hk,f.of0,fun g hg => hg.elim⟩
theorem zl.fr0 (m : zl S T w p tp q fp vb M G W) (f : Fr F0 W W') : zl S T w p tp q fp vb M G W' :=
 ⟨m.kp.fr0 f,fun k hk => (m.blk k hk).imp_right fun e => ⟨e.1,Nat.lt_of_lt_of_le e.2 f.size⟩,m.fr.trans' f.of0,fun g hg => ⟨(m.own g hg).1,(m.own g hg).2.1,Nat.lt_of_lt_of_le (m.own g hg).2.2 f.size⟩⟩
theorem zl.add (m : zl S T w p tp q fp vb M G W) (f : Fr F0 W W') {g : Nat} (hg : W.heap.size ≤ g) (hg2 : g < W'.heap.size) : zl S T w p tp q fp vb M (fun k => G k ∨ k = g) W' := by
 have m' := m.fr0 f
 refine ⟨m'.kp,m'.blk,m'.fr,fun k hk => ?_⟩
 rcases hk with hk | rfl
 ·exact m'.own k hk
 ·have hw : w.heap.size ≤ W.heap.size := m.fr.size
  exact ⟨fun e => absurd (m.kp.lt e) (Nat.not_lt.2 hg),Nat.le_trans hw hg,hg2⟩
theorem zl.box (m : zl S T w p tp q fp vb M G W) (f : Fr G W W') : zl S T w p tp q fp vb M G W' :=
 ⟨m.kp.fr f fun k _ ht hg => (m.own k hg).1 ht,fun k hk => (m.blk k hk).imp_right fun e => ⟨e.1,Nat.lt_of_lt_of_le e.2 f.size⟩,m.fr.trans f fun i hi hg => absurd hi (Nat.not_lt.2 (m.own i hg).2.1),fun g hg => ⟨(m.own g hg).1,(m.own g hg).2.1,Nat.lt_of_lt_of_le (m.own g hg).2.2 f.size⟩⟩
theorem zl.next (m : zl S T w p tp q fp vb M G W) (h : QP T W p tp q fp vb M' W') : ∃ T',zl S T' w p tp q fp vb M' G W' := by
 obtain ⟨U,k,hU,f⟩ := h
 refine ⟨U,k,fun i hi => ?_,m.fr.trans f fun i hi e => ?_,fun g hg => ⟨fun e => ?_,(m.own g hg).2.1,Nat.lt_of_lt_of_le (m.own g hg).2.2 f.size⟩⟩
 ·rcases hU i hi with e | e
  ·rcases m.blk i e with e | e
   ·exact .inl e
   ·have := f.size; exact .inr (by omega)
  ·have := m.fr.size; exact .inr (by omega)
 ·rcases m.blk i e with e | e
  ·exact e
  ·omega
 ·rcases hU g e with e | e
  ·exact (m.own g hg).1 e
  ·have := (m.own g hg).2.2; omega
theorem zl.row (m : zl S T w p tp q fp vb M G W) (h : QP T W p tp q fp vb M' W') {g : Nat} {o : Obj} (hg : G g) (ho : W.heap[g]? = some o) : W'.heap[g]? = some o := h.keeps (m.own g hg).1 ho
theorem zl.qp (m : zl S T w p tp q fp vb M G W) : QP S w p tp q fp vb M W := ⟨T,m.kp,m.blk,m.fr⟩
theorem zl.last (m : zl S T w p tp q fp vb M G W) (h : QP T W p tp q fp vb M' W') : QP S w p tp q fp vb M' W' := by
 obtain ⟨U,m'⟩ := m.next h
 exact m'.qp
end
def vD (M : Bok) (x a : Nat) (fo : Bool) (f : Nat → Vlt → acp) : acp := if opE M x a fo = 0 then (match M.vs[atV M.vs x]? with
  |none => M.no 12
  |some y => f (atV M.vs x) y) else M.no (opE M x a fo)
theorem azr (R : Nat → Nat) (M : Bok) (d : Dd) : jk R M d = vD M d.w (ar2 d) (ac9 d.kind) (aam R M d) := rfl
theorem ae6 {M : Bok} {x a : Nat} {fo : Bool} {f : Nat → Vlt → acp} (h : opE M x a fo ≠ 0) : vD M x a fo f = M.no (opE M x a fo) := if_neg h
theorem abd {M : Bok} {x a : Nat} {fo : Bool} {f : Nat → Vlt → acp} {y : Vlt} (h : opE M x a fo = 0) (hy : M.vs[atV M.vs x]? = some y) : vD M x a fo f = f (atV M.vs x) y := by
 unfold vD
 rw [if_pos h,hy]
theorem yx {M : Bok} {x a : Nat} {fo : Bool} (h : opE M x a fo = 0) : ∃ y,¬ badM a ∧ M.vs[atV M.vs x]? = some y ∧ gOf M.vs x = some y ∧ y.who = x ∧ (fo = false → y.fal = false) := by
 rcases aej M x a with ⟨h1,h2⟩ | ⟨h1,h2,h3,h4⟩ | ⟨y,h1,h2,h3,h4,h5,h6⟩
 ·rw [h2] at h; cases h
 ·rw [h4] at h; cases h
 ·refine ⟨y,h1,h3,h2,h4,fun e => ?_⟩
  subst e
  rw [h6] at h
  cases hf : y.fal with
  |false => rfl
  |true => rw [hf] at h; cases h
section
variable {S T : Nat → Prop} {w W W' : World} {p tp q fp vb : Nat} {M M' : Bok} {G : Nat → Prop}
theorem aa4 (h : KP S w p tp q fp vb M) {x a : Nat} (hx : x < 256) (hE : opE M x a false ≠ 0) : ∃ u E1,
  (Calls Tryz.prog 83 #[.pointer (some ⟨p,0,none⟩),.int .u8 (x : Int),.int .u64 (a : Int)] w fun e w' => e = .returned (.tuple #[vBv u,.int .i64 E1]) ∧ Fr F0 w w') ∧
  ∀ W,Calls Tryz.prog 82 #[vBv u,.int .i64 E1] W fun e w' => e = .returned (.tuple #[vBv v0,.int .i64 (opE M x a false)]) ∧ Fr F0 W w' := by
 rcases aej M x a with ⟨h1,h2⟩ | ⟨h1,h2,h3,h4⟩ | ⟨y,h1,h2,h3,h4,h5,h6⟩
 ·exact ⟨v0,1,ad8 a x p h1 w,fun W => by rw [h2]; exact aau v0 1 (by decide) W⟩
 ·have := ab5 h hx (show opE M x a true ≠ 0 by rw [h4]; decide)
  rw [h4] at this
  exact ⟨v0,12,this,fun W => by rw [h4]; exact aau v0 12 (by decide) W⟩
 ·have hf : y.fal = true := by
   cases hf : y.fal with
   |true => rfl
   |false => rw [h6,hf] at hE; exact absurd rfl hE
  exact ⟨y,0,iw h hx h1 h2,fun W => by rw [h6,hf]; exact aay y hf W⟩
theorem aok (hM : M.Ok) {j : Nat} {y z : Vlt} (hy : M.vs[j]? = some y) (hz : z.who = y.who) : ∀ k,gOf (M.vs.set j z) k = auy (gOf M.vs) z.who z k := fun k => by
 rw [awc hM.asc hy hz,hz]
end
section
variable {S : Nat → Prop} {w w' W : World} {p tp q fp vb : Nat} {M : Bok}
theorem an7 (h : KP S w p tp q fp vb M) {x a : Nat} (hx : x < 256) (hE : opE M x a false ≠ 0) :
  Calls Tryz.prog 23 #[.pointer (some ⟨p,0,none⟩),.int .u8 (x : Int),.int .u64 (a : Int)] w (EP S w p tp q fp vb M (.int .i64 (opE M x a false))) := by
 obtain ⟨u,E1,H1,H2⟩ := aa4 h hx hE
 simp only [iq] at H1 H2
 have sz0 := lu v0
 have oS0 := ru v0
 have HQ := Lib.hid (fun (W : World) (f : Fr F0 w W) => QP.same h f)
 have q0 : (opE M x a false != 0) = true := bne_iff_ne.2 hE
 generalize opE M x a false = E at *
 replace H1 := Lib.hid H1
 replace H2 := Lib.hid H2
 generalize cB v0 = C0 at *
 generalize cB u = U at *
 unfold EP
 clear h hx hE
 go_enter Tryz.func23,Tryz.ntmps23
 go_wp2_with fail
 (with_reducible refine H1.out.mono ?_); rintro e w1 ⟨rfl,f1⟩
 have F2 := Lib.hid f1
 clear f1 H1
 go_wp2_with fail
 (with_reducible refine (H2.out _).mono ?_); rintro e w2 ⟨rfl,f2⟩
 replace F2 := Lib.hid (F2.out.trans' f2)
 clear f2 H2
 go_upto_region 2 with fail
 refine jc fun W3 N => ?_
 have F3 := Lib.hid (F2.out.trans' N.fr)
 clear N F2
 go_wp2_with fail
 go_ret
 exact ⟨rfl,HQ.out _ F3.out⟩
theorem ahs (h : KP S w p tp q fp vb M) (hM : M.Ok) {x a : Nat} (hx : x < 256) (ha : a < 18446744073709551616) (hb : ¬ badM a) {y : Vlt} (hg : gOf M.vs x = some y) (hy : M.vs[atV M.vs x]? = some y) (hyw : y.who = x) (hf : y.fal = false) (hp : prE 50 M.price M.told M.now ≠ 0) :
  Calls Tryz.prog 23 #[.pointer (some ⟨p,0,none⟩),.int .u8 (x : Int),.int .u64 (a : Int)] w (EP S w p tp q fp vb M (.int .i64 (prE 50 M.price M.told M.now))) := by
 have hv := hM.vok y (jh hy)
 have hbu := hv.bur
 have hxl := hv.lea
 have hbb : ¬ (a = 0 ∨ 4611686018427387904 < a) := hb
 have H1 := Lib.hid (iw h hx hb hg)
 have H2 := Lib.hid (gy y hf)
 have HM := Lib.hid (fun (W : World) (f : Fr F0 w W) => zl.start h f)
 obtain ⟨sz,oS,c0,c21,c22,c23,c24,c25,c26⟩ := cBf y
 simp only [iq] at H1 H2
 have aaj := hM.now
 have HP := Lib.hid (fun (W : World) (T : Nat → Prop) (k : KP T W p tp q fp vb M) => zu k (by omega))
 have q0 : (prE 50 M.price M.told M.now != 0) = true := bne_iff_ne.2 hp
 generalize prE 50 M.price M.told M.now = E at *
 generalize prV 50 M.price M.told M.now = V at *
 obtain ⟨C,hC⟩ : ∃ C,C = cB y := ⟨_,rfl⟩
 rw [← hC] at H1 H2 sz oS c0 c21 c22 c23 c24 c25 c26
 replace hC := Lib.hid hC
 clear c0 c21 c22 c23 c24 c25 c26 h hx hb hg hf aaj hM hv hbu hxl hbb ha hy hyw hp
 unfold EP
 go_enter Tryz.func23,Tryz.ntmps23
 go_wp2_with fail
 (with_reducible refine H1.out.mono ?_); rintro e w1 ⟨rfl,f1⟩
 have F2 := Lib.hid f1
 clear f1 H1
 go_wp2_with fail
 (with_reducible refine (H2.out _).mono ?_); rintro e w2 ⟨rfl,f2⟩
 replace F2 := Lib.hid (F2.out.trans' f2)
 clear f2 H2
 go_upto_region 2 with fail
 refine jc fun W3 N => ?_
 have r7 := N.new
 have m := Lib.hid ((HM.out _ F2.out).add N.fr (Nat.le_refl _) (Array.getElem?_eq_some_iff.1 r7).1)
 clear N F2 HM
 obtain ⟨g7,hg7⟩ : ∃ g,w2.heap.size = g := ⟨_,rfl⟩
 rw [hg7] at r7 m ⊢
 clear hg7
 go_wp2_with fail
 (with_reducible refine (HP.out _ _ m.out.kp).mono ?_); rintro e w4 ⟨rfl,f4⟩
 replace r7 := dn f4 r7
 replace m := Lib.hid (m.out.fr0 f4)
 clear f4
 go_wp2_with fail
 go_ret
 exact ⟨rfl,m.out.qp⟩
theorem aib (h : KP S w p tp q fp vb M) (hM : M.Ok) {x a : Nat} (hx : x < 256) (ha : a < 18446744073709551616) (hb : ¬ badM a) {y : Vlt} (hg : gOf M.vs x = some y) (hy : M.vs[atV M.vs x]? = some y) (hyw : y.who = x) (hf : y.fal = false) (hp : prE 50 M.price M.told M.now = 0) (ho : 4611686018427387904 < y.bur + a) :
  Calls Tryz.prog 23 #[.pointer (some ⟨p,0,none⟩),.int .u8 (x : Int),.int .u64 (a : Int)] w (EP S w p tp q fp vb M (.int .i64 4)) := by
 have hv := hM.vok y (jh hy)
 have hbu := hv.bur
 have hxl := hv.lea
 have hbb : ¬ (a = 0 ∨ 4611686018427387904 < a) := hb
 have H1 := Lib.hid (iw h hx hb hg)
 have H2 := Lib.hid (gy y hf)
 have HM := Lib.hid (fun (W : World) (f : Fr F0 w W) => zl.start h f)
 obtain ⟨sz,oS,c0,c21,c22,c23,c24,c25,c26⟩ := cBf y
 simp only [iq] at H1 H2
 have HP := Lib.hid (fun (W : World) (T : Nat → Prop) (k : KP T W p tp q fp vb M) => zu k (by have := hM.now; omega))
 rw [hp] at HP
 have HU := Lib.hid (fun (W : World) => aan y hbu W)
 simp only [iq] at HU
 have HA := Lib.hid (fun (W : World) => aak y.bur a (by omega) ha W)
 rw [show adE y.bur a = 4 by unfold adE; rw [if_pos (by omega),if_neg (by omega)]] at HA
 generalize adV y.bur a = Z at *
 generalize prV 50 M.price M.told M.now = V at *
 generalize (y.bur : Int) = B at *
 obtain ⟨C,hC⟩ : ∃ C,C = cB y := ⟨_,rfl⟩
 rw [← hC] at H1 H2 sz oS c0 c21 c22 c23 c24 c25 c26
 rw [← hC] at HU
 replace hC := Lib.hid hC
 clear c0 c21 c22 c23 c24 c25 c26 h hx hb hg hf hM hv hxl hbb ha hy hyw hp ho hbu
 unfold EP
 go_enter Tryz.func23,Tryz.ntmps23
 go_wp2_with fail
 (with_reducible refine H1.out.mono ?_); rintro e w1 ⟨rfl,f1⟩
 have F2 := Lib.hid f1
 clear f1 H1
 go_wp2_with fail
 (with_reducible refine (H2.out _).mono ?_); rintro e w2 ⟨rfl,f2⟩
 replace F2 := Lib.hid (F2.out.trans' f2)
 clear f2 H2
 go_upto_region 2 with fail
 refine jc fun W3 N => ?_
 have r7 := N.new
 have m := Lib.hid ((HM.out _ F2.out).add N.fr (Nat.le_refl _) (Array.getElem?_eq_some_iff.1 r7).1)
 clear N F2 HM
 obtain ⟨g7,hg7⟩ : ∃ g,w2.heap.size = g := ⟨_,rfl⟩
 rw [hg7] at r7 m ⊢
 clear hg7
 go_wp2_with fail
 (with_reducible refine (HP.out _ _ m.out.kp).mono ?_); rintro e w4 ⟨rfl,f4⟩
 replace r7 := dn f4 r7
 replace m := Lib.hid (m.out.fr0 f4)
 clear f4
 go_wp2_with fail
 (with_reducible refine (HU.out _).mono ?_); rintro e w4 ⟨rfl,f4⟩
 replace r7 := dn f4 r7
 replace m := Lib.hid (m.out.fr0 f4)
 clear f4
 go_wp2_with fail
 (with_reducible refine (HA.out _).mono ?_); rintro e w4 ⟨rfl,f4⟩
 replace r7 := dn f4 r7
 replace m := Lib.hid (m.out.fr0 f4)
 clear f4
 go_wp2_with fail
 go_ret
 exact ⟨rfl,m.out.qp⟩
theorem aht (h : KP S w p tp q fp vb M) (hM : M.Ok) {x a : Nat} (hx : x < 256) (ha : a < 18446744073709551616) (hb : ¬ badM a) {y : Vlt} (hg : gOf M.vs x = some y) (hy : M.vs[atV M.vs x]? = some y) (hyw : y.who = x) (hf : y.fal = false) (hp : prE 50 M.price M.told M.now = 0) (ho : y.bur + a ≤ 4611686018427387904) (au9 : y.coll < 18446744073709551616) (hs : decide (enP y.coll (y.bur + a) (prV 50 M.price M.told M.now) 2000) = false) :
  Calls Tryz.prog 23 #[.pointer (some ⟨p,0,none⟩),.int .u8 (x : Int),.int .u64 (a : Int)] w (EP S w p tp q fp vb M (.int .i64 19)) := by
 have hv := hM.vok y (jh hy)
 have hbu := hv.bur
 have hxl := hv.lea
 have hbb : ¬ (a = 0 ∨ 4611686018427387904 < a) := hb
 have H1 := Lib.hid (iw h hx hb hg)
 have H2 := Lib.hid (gy y hf)
 have HM := Lib.hid (fun (W : World) (f : Fr F0 w W) => zl.start h f)
 obtain ⟨sz,oS,c0,c21,c22,c23,c24,c25,c26⟩ := cBf y
 simp only [iq] at H1 H2
 have HP := Lib.hid (fun (W : World) (T : Nat → Prop) (k : KP T W p tp q fp vb M) => zu k (by have := hM.now; omega))
 rw [hp] at HP
 have HU := Lib.hid (fun (W : World) => aan y hbu W)
 simp only [iq] at HU
 have HA := Lib.hid (fun (W : World) => aak y.bur a (by omega) ha W)
 rw [(adQ ho).1,(adQ ho).2] at HA
 have HS := Lib.hid (fun (W : World) (T : Nat → Prop) (k : KP T W p tp q fp vb M) => abz k y.coll (y.bur + a) (prV 50 M.price M.told M.now) au9 (by omega) false hs)
 generalize prV 50 M.price M.told M.now = V at *
 generalize y.bur + a = B2 at *
 generalize (y.bur : Int) = B at *
 generalize y.coll = co at *
 obtain ⟨C,hC⟩ : ∃ C,C = cB y := ⟨_,rfl⟩
 rw [← hC] at H1 H2 sz oS c0 c21 c22 c23 c24 c25 c26
 have d21 := ay c21
 rw [← hC] at HU
 replace hC := Lib.hid hC
 clear c0 c22 c23 c24 c25 c26 h hx hb hg hf hM hv hxl hbb ha hy hyw hp ho hbu au9 hs
 unfold EP
 go_enter Tryz.func23,Tryz.ntmps23
 go_wp2_with fail
 (with_reducible refine H1.out.mono ?_); rintro e w1 ⟨rfl,f1⟩
 have F2 := Lib.hid f1
 clear f1 H1
 go_wp2_with fail
 (with_reducible refine (H2.out _).mono ?_); rintro e w2 ⟨rfl,f2⟩
 replace F2 := Lib.hid (F2.out.trans' f2)
 clear f2 H2
 go_upto_region 2 with fail
 refine jc fun W3 N => ?_
 have r7 := N.new
 have m := Lib.hid ((HM.out _ F2.out).add N.fr (Nat.le_refl _) (Array.getElem?_eq_some_iff.1 r7).1)
 clear N F2 HM
 obtain ⟨g7,hg7⟩ : ∃ g,w2.heap.size = g := ⟨_,rfl⟩
 rw [hg7] at r7 m ⊢
 clear hg7
 go_wp2_with fail
 (with_reducible refine (HP.out _ _ m.out.kp).mono ?_); rintro e w4 ⟨rfl,f4⟩
 replace r7 := dn f4 r7
 replace m := Lib.hid (m.out.fr0 f4)
 clear f4
 go_wp2_with fail
 (with_reducible refine (HU.out _).mono ?_); rintro e w4 ⟨rfl,f4⟩
 replace r7 := dn f4 r7
 replace m := Lib.hid (m.out.fr0 f4)
 clear f4
 go_wp2_with fail
 (with_reducible refine (HA.out _).mono ?_); rintro e w4 ⟨rfl,f4⟩
 replace r7 := dn f4 r7
 replace m := Lib.hid (m.out.fr0 f4)
 clear f4
 go_wp2_with fail
 (with_reducible refine (HS.out _ _ m.out.kp).mono ?_); rintro e w4 ⟨rfl,f4⟩
 replace r7 := dn f4 r7
 replace m := Lib.hid (m.out.fr0 f4)
 clear f4
 go_wp2_with fail
 go_ret
 exact ⟨rfl,m.out.qp⟩
theorem an6 (h : KP S w p tp q fp vb M) (hM : M.Ok) {x a : Nat} (hx : x < 256) (ha : a < 18446744073709551616) (hb : ¬ badM a) {y : Vlt} (hg : gOf M.vs x = some y) (hy : M.vs[atV M.vs x]? = some y) (hyw : y.who = x) (hf : y.fal = false) (hp : prE 50 M.price M.told M.now = 0) (ho : y.bur + a ≤ 4611686018427387904) (au9 : y.coll < 18446744073709551616) (hs : decide (enP y.coll (y.bur + a) (prV 50 M.price M.told M.now) 2000) = true) :
  Calls Tryz.prog 23 #[.pointer (some ⟨p,0,none⟩),.int .u8 (x : Int),.int .u64 (a : Int)] w (EP S w p tp q fp vb { M with vs := M.vs.set (atV M.vs x) { y with com := y.com + a } } (.int .i64 0)) := by
 have hv := hM.vok y (jh hy)
 have hbu := hv.bur
 have hxl := hv.lea
 have hbb : ¬ (a = 0 ∨ 4611686018427387904 < a) := hb
 have H1 := Lib.hid (iw h hx hb hg)
 have H2 := Lib.hid (gy y hf)
 have HM := Lib.hid (fun (W : World) (f : Fr F0 w W) => zl.start h f)
 obtain ⟨sz,oS,c0,c21,c22,c23,c24,c25,c26⟩ := cBf y
 simp only [iq] at H1 H2
 have HP := Lib.hid (fun (W : World) (T : Nat → Prop) (k : KP T W p tp q fp vb M) => zu k (by have := hM.now; omega))
 rw [hp] at HP
 have HU := Lib.hid (fun (W : World) => aan y hbu W)
 simp only [iq] at HU
 have HA := Lib.hid (fun (W : World) => aak y.bur a (by omega) ha W)
 rw [(adQ ho).1,(adQ ho).2] at HA
 have HS := Lib.hid (fun (W : World) (T : Nat → Prop) (k : KP T W p tp q fp vb M) => abz k y.coll (y.bur + a) (prV 50 M.price M.told M.now) au9 (by omega) true hs)
 obtain ⟨z,hz⟩ : ∃ z,z = y.com + a := ⟨_,rfl⟩
 rw [← hz]
 have HPu := Lib.hid (fun (W : World) (T : Nat → Prop) (k : KP T W p tp q fp vb M) => ug k (y := { y with com := z }) (by rw [show ({ y with com := z } : Vlt).who = y.who from rfl,hyw]; exact hx) (aok hM hy (z := { y with com := z }) rfl))
 simp only [iq] at HPu
 have m1 : IntKind.u64.wrap ((y.com : Int) + (a : Int)) = (z : Int) := by unfold Vlt.bur at hbu ho; rw [IntWalk.u64_in _ (by omega)]; omega
 generalize prV 50 M.price M.told M.now = V at *
 generalize y.bur + a = B2 at *
 generalize (y.bur : Int) = B at *
 obtain ⟨C,hC⟩ : ∃ C,C = cB y := ⟨_,rfl⟩
 rw [← hC] at H1 H2 sz oS c0 c21 c22 c23 c24 c25 c26
 have d21 := ay c21
 have d23 := ay c23
 rw [← hC] at HU
 replace hC := Lib.hid hC
 clear c0 c22 c24 c25 c26 h hx hb hg hf hM hv hxl hbb ha hy hyw hp ho hbu au9 hs hz
 unfold EP
 go_enter Tryz.func23,Tryz.ntmps23
 go_wp2_with fail
 (with_reducible refine H1.out.mono ?_); rintro e w1 ⟨rfl,f1⟩
 have F2 := Lib.hid f1
 clear f1 H1
 go_wp2_with fail
 (with_reducible refine (H2.out _).mono ?_); rintro e w2 ⟨rfl,f2⟩
 replace F2 := Lib.hid (F2.out.trans' f2)
 clear f2 H2
 go_upto_region 2 with fail
 refine jc fun W3 N => ?_
 have r7 := N.new
 have m := Lib.hid ((HM.out _ F2.out).add N.fr (Nat.le_refl _) (Array.getElem?_eq_some_iff.1 r7).1)
 clear N F2 HM
 obtain ⟨g7,hg7⟩ : ∃ g,w2.heap.size = g := ⟨_,rfl⟩
 rw [hg7] at r7 m ⊢
 clear hg7
 go_wp2_with fail
 (with_reducible refine (HP.out _ _ m.out.kp).mono ?_); rintro e w4 ⟨rfl,f4⟩
 replace r7 := dn f4 r7
 replace m := Lib.hid (m.out.fr0 f4)
 clear f4
 go_wp2_with fail
 (with_reducible refine (HU.out _).mono ?_); rintro e w4 ⟨rfl,f4⟩
 replace r7 := dn f4 r7
 replace m := Lib.hid (m.out.fr0 f4)
 clear f4
 go_wp2_with fail
 (with_reducible refine (HA.out _).mono ?_); rintro e w4 ⟨rfl,f4⟩
 replace r7 := dn f4 r7
 replace m := Lib.hid (m.out.fr0 f4)
 clear f4
 go_wp2_with fail
 (with_reducible refine (HS.out _ _ m.out.kp).mono ?_); rintro e w4 ⟨rfl,f4⟩
 replace r7 := dn f4 r7
 replace m := Lib.hid (m.out.fr0 f4)
 clear f4
 clear HP HU HA HS
 go_upto_region 13 with fail
 obtain ⟨W5,hW5⟩ : ∃ X,X = w4.setCell ⟨g7,23,none⟩ (.int .u64 (z : Int)) := ⟨_,rfl⟩
 rw [← hW5]
 have f5 : Fr (fun k => False ∨ k = g7) w4 W5 := by rw [hW5]; exact (Fr.refl _ w4).setCell (p := ⟨g7,23,none⟩) (fun _ => .inr rfl) _
 replace m := Lib.hid (m.out.box f5)
 replace r7 : VX W5 g7 { y with com := z } := by rw [hW5]; exact VX.ail (show VX w4 g7 y by unfold VX; rw [← hC.out]; exact r7) z
 clear hW5 f5
 have szz := lu { y with com := z }
 have oSz := ru { y with com := z }
 unfold VX at r7
 generalize cB { y with com := z } = Z at *
 go_wp2_with fail
 (with_reducible refine (HPu.out _ _ m.out.kp).mono ?_); rintro e w6 ⟨rfl,h6⟩
 replace m := Lib.hid (m.out.last h6)
 clear h6 r7
 go_wp2_with fail
 go_ret
 exact ⟨rfl,m.out⟩
end
end Go.Proofs.YtohckefafbhooaaGreat
