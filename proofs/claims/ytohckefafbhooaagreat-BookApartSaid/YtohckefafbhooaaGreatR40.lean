import Derived.Test.YtohckefafbhooaaGreatR1
import Derived.Test.YtohckefafbhooaaGreatR39
set_option maxRecDepth 100000
set_option maxHeartbeats 64000000
namespace Go.Proofs.YtohckefafbhooaaGreat
set_option linter.unusedVariables false
set_option linter.unusedSimpArgs false
open Go.RowKit
@[go_sem] theorem ays (w : World) (g : Nat) : (gu 38 (.pointer (some ⟨g,0,none⟩))).run Tryz.prog w = abe Tryz.prog 38 (.pointer (some ⟨g,0,none⟩)) w 11 w.heap[g]? :=
 ku w _ g 11 _ Tryz.underlying38 rfl Tryz.szBRules
def awm (p : Array (Nat × Value)) : Sem Value := Instr.build 97 p
@[go_sem ↓ high] theorem build_BB (p : Array (Nat × Value)) : Instr.build 97 p = awm p := rfl
theorem aBe (tp q fp vb : Nat) (w : World) : (awm #[(0,.agg usC),(2,.pointer (some ⟨tp,0,none⟩)),(3,.pointer (some ⟨q,0,none⟩)),(4,.pointer (some ⟨fp,0,none⟩)),(6,.map (some vb))]).run Tryz.prog w = .ok (.agg (bkC tp q fp vb 0 0 0 0)) w := run_build w _ _ _ (by kernel_rfl)
theorem aBg (tp q fp vb a b c d : Nat) : (bkC tp q fp vb a b c d).size = 19 := rfl
theorem aFp (tp q fp vb a b c d : Nat) : yg (bkC tp q fp vb a b c d) := by unfold yg; kernel_rfl
theorem avi {w w3 w9 : World} {fp tp q qp vb p : Nat} (F3 : Fr F0 w w3) (fd : FD w3 fp 100 50 0 0) (hfp : w.heap.size ≤ fp) (L : LG w9 tp none 0 (fun _ => 0)) (P : PG w9 q qp none 0 (fun _ => 0) 0 0 0 0) (V : MV w9 vb 0 (fun _ => none))
  (h : w9.heap[p]? = some (.cells (bkC tp q fp vb 0 0 0 0) 97 (0,0))) (f : Fr F0 w3 w9) (hd : w3.heap.size ≤ tp ∧ w3.heap.size ≤ q ∧ w3.heap.size ≤ qp ∧ w3.heap.size ≤ vb ∧ w3.heap.size ≤ p ∧ tp ≠ q ∧ tp ≠ qp ∧ tp ≠ vb ∧ tp ≠ p ∧ q ≠ vb ∧ q ≠ p ∧ qp ≠ vb ∧ qp ≠ p ∧ vb ≠ p) :
  ∃ S,KP S w9 p tp q fp vb alb ∧ (∀ k,S k → w.heap.size ≤ k ∧ k < w9.heap.size) ∧ Fr F0 w w9 := by
 obtain ⟨h1,h2,h3,h4,h5,h6,h7,h8,h9,h10,h11,h12,h13,h14⟩ := hd
 have hfl := fd.lt
 have hs := F3.size
 have L0 : ∀ k,LS tp none k → k = tp := fun k hk => hk.elim id (fun e => by cases e)
 have P0 : ∀ k,PS q qp none k → k = q ∨ k = qp := fun k hk => hk.elim .inl (fun e => e.elim .inr (fun e => by cases e))
 have b : BK w9 p tp none q qp none fp vb alb :=
  ⟨h,L.ae7,(show PG w9 q qp none 256 (fun _ => 0) (uy (fun _ => 0) 256) 0 0 0 from by rw [aa2]; exact P.ae7),fd.fr0 f,V.ae7,
   fun e => by have := L0 _ e; omega,fun e => by have := P0 _ e; omega,by omega,by omega,fun k e1 e2 => by have := L0 _ e1; have := P0 _ e2; omega,fun e => by have := L0 _ e; omega,fun e => by have := L0 _ e; omega,fun e => by have := P0 _ e; omega,fun e => by have := P0 _ e; omega,by omega⟩
 refine ⟨_,⟨none,qp,none,b,fun k => Iff.rfl⟩,fun k hk => ⟨?_,b.lts hk⟩,F3.trans' f⟩
 rcases hk with e | e | e | e | e
 ·omega
 ·have := L0 _ e; omega
 ·have := P0 _ e; omega
 ·omega
 ·omega
theorem arx (w : World) : Calls Tryz.prog 8 #[.agg usC] w fun e w' => ∃ p tp q fp vb S,e = .returned (.tuple #[.pointer (some ⟨p,0,none⟩),.int .i64 0]) ∧ KP S w' p tp q fp vb alb ∧ (∀ k,S k → w.heap.size ≤ k ∧ k < w'.heap.size) ∧ Fr F0 w w' := by
 have HCk := Lib.hid aup
 have HN := Lib.hid (fun w => av3 100 50 (by decide) (by decide) w)
 rw [show ((100 : Nat) : Int) = 100 from rfl,show ((50 : Nat) : Int) = 50 from rfl] at HN
 have HT := Lib.hid als
 have HPn := Lib.hid axh
 obtain ⟨sz,oS,c0,c1,c2,c5,c6,c7,c8,c9,c10⟩ := usF
 have hO := fun (W : World) (g : Nat) (h : W.heap[g]? = some (.cells usC 38 (0,0))) => aIx h
 have hbb := aBe
 have hmm := @run_makeMap Tryz.prog
 generalize usC = C at *
 clear c0 c1 c2 c5 c6 c7 c8 c9 c10
 go_enter Tryz.func8,Tryz.ntmps8
 go_upto_region 1 with fail
 refine eu fun W1 N => ?_
 have r1 := N.new
 have F1 := Lib.hid N.fr
 clear N
 obtain ⟨g1,hg1⟩ : ∃ g,w.heap.size = g := ⟨_,rfl⟩
 rw [hg1] at r1 ⊢
 clear hg1
 go_wp2_with fail
 (with_reducible refine (HCk.out _).mono ?_); rintro e w2 ⟨rfl,f2⟩
 replace r1 := dn f2 r1
 replace F1 := Lib.hid (F1.out.trans' f2)
 clear f2
 have ho1 := hO _ _ r1
 go_wp2_with fail
 refine (HN.out _).mono ?_; rintro e w3 ⟨fp,rfl,fd,f3,hfp⟩
 replace r1 := dn f3 r1
 have HF := Lib.hid (And.intro fd (And.intro (show w.heap.size ≤ fp from Nat.le_trans F1.out.size hfp) (F1.out.trans' f3)))
 have F9 := Fr.refl F0 w3
 clear fd f3 hfp ho1 F1 HCk HN hO
 go_upto_region 5 with fail
 refine zn (S := (fun w' => w'.heap[g1]? = some (.cells C 38 (0,0)) ∧ Fr F0 w3 w')) ?_ fun aj => ?_
 ·exact(by ((try dsimp only) <;> (exact ⟨r1,F9.drew⟩)))
 refine au 0 ?_
 refine au 3 ?_
 refine rdy [1,4] ?_
 refine rco (fun K hK => ?_) (rco (fun K hK => ?_) AllReadyH.nil)
 go_simp
 (refine (HT.out _).mono ?_; rintro e w5 ⟨tp,rfl,L5,f5,htp⟩; have HL := Lib.hid (And.intro L5 (And.intro htp f5)); clear L5 htp)
 refine rpu hK (by ((try dsimp only) <;> (first | exact aj | exact ⟨dn f5 aj.1,aj.2.trans' f5⟩ | exact ⟨dn f6 aj.1,aj.2.trans' f6⟩))) fun aj => ?_
 clear hK K
 refine rdy [2,4] ?_
 refine rco (fun K hK => ?_) (rco (fun K hK => ?_) AllReadyH.nil)
 go_simp
 (refine (HPn.out _).mono ?_; rintro e w6 ⟨q,qp,rfl,P6,f6,hq,hqp⟩; have HP := Lib.hid (And.intro P6 (And.intro hq (And.intro hqp f6))); clear P6 hq hqp)
 refine rpu hK (by ((try dsimp only) <;> (first | exact aj | exact ⟨dn f5 aj.1,aj.2.trans' f5⟩ | exact ⟨dn f6 aj.1,aj.2.trans' f6⟩))) fun aj => ?_
 clear hK K
 refine zi 4 fun K hK => ?_
 go_simp
 refine rpu hK (by ((try dsimp only) <;> (first | exact aj | exact ⟨oh aj.1,aj.2.alloc _⟩))) fun aj => ?_
 clear hK K
 refine au 5 ?_
 refine zi 6 fun K hK => ?_
 go_simp
 refine rpu hK (by ((try dsimp only) <;> (first | exact aj | exact ⟨oh aj.1,aj.2.alloc _⟩))) fun aj => ?_
 clear hK K
 refine au 7 ?_
 refine au 8 ?_
 refine aap ?_
 rotate_left
 go_simp
 refine rpu hK (by ((try dsimp only) <;> (first | exact aj | exact ⟨oh aj.1,aj.2.alloc _⟩))) fun aj => ?_
 clear hK K
 refine zi 2 fun K hK => ?_
 go_simp
 (refine (HPn.out _).mono ?_; rintro e w6 ⟨q,qp,rfl,P6,f6,hq,hqp⟩; have HP := Lib.hid (And.intro P6 (And.intro hq (And.intro hqp f6))); clear P6 hq hqp)
 refine rpu hK (by ((try dsimp only) <;> (first | exact aj | exact ⟨dn f5 aj.1,aj.2.trans' f5⟩ | exact ⟨dn f6 aj.1,aj.2.trans' f6⟩))) fun aj => ?_
 clear hK K
 refine au 5 ?_
 refine zi 6 fun K hK => ?_
 go_simp
 refine rpu hK (by ((try dsimp only) <;> (first | exact aj | exact ⟨oh aj.1,aj.2.alloc _⟩))) fun aj => ?_
 clear hK K
 refine au 7 ?_
 refine au 8 ?_
 refine aap ?_
 rotate_left
 go_simp
 refine rpu hK (by ((try dsimp only) <;> (first | exact aj | exact ⟨oh aj.1,aj.2.alloc _⟩))) fun aj => ?_
 clear hK K
 refine zi 1 fun K hK => ?_
 go_simp
 (refine (HT.out _).mono ?_; rintro e w5 ⟨tp,rfl,L5,f5,htp⟩; have HL := Lib.hid (And.intro L5 (And.intro htp f5)); clear L5 htp)
 refine rpu hK (by ((try dsimp only) <;> (first | exact aj | exact ⟨dn f5 aj.1,aj.2.trans' f5⟩ | exact ⟨dn f6 aj.1,aj.2.trans' f6⟩))) fun aj => ?_
 clear hK K
 refine zi 2 fun K hK => ?_
 go_simp
 (refine (HPn.out _).mono ?_; rintro e w6 ⟨q,qp,rfl,P6,f6,hq,hqp⟩; have HP := Lib.hid (And.intro P6 (And.intro hq (And.intro hqp f6))); clear P6 hq hqp)
 refine rpu hK (by ((try dsimp only) <;> (first | exact aj | exact ⟨dn f5 aj.1,aj.2.trans' f5⟩ | exact ⟨dn f6 aj.1,aj.2.trans' f6⟩))) fun aj => ?_
 clear hK K
 refine au 5 ?_
 refine zi 6 fun K hK => ?_
 go_simp
 refine rpu hK (by ((try dsimp only) <;> (first | exact aj | exact ⟨oh aj.1,aj.2.alloc _⟩))) fun aj => ?_
 clear hK K
 refine au 7 ?_
 refine au 8 ?_
 refine aap ?_
 rotate_left
 all_goals
  obtain ⟨L5,htp,f5⟩ := HL.out
  obtain ⟨P6,hq,hqp,f6⟩ := HP.out
  obtain ⟨fd,hfp,F3⟩ := HF.out
  have l5 := L5.lt
  have l6 := P6.lt
  have l7 := P6.led.lt
  have z5 := f5.size
  have z6 := f6.size
 ·have LL := L5.fr0 f6
  go_wp2_with fail
  go_ret2
  have g2 := ((Fr.refl F0 w6).alloc (.map #[] 0)).alloc (.cells (bkC tp q fp w6.heap.size 0 0 0 0) 97)
  have e9 := heap_alloc_new (w6.alloc (.map #[] 0)) (.cells (bkC tp q fp w6.heap.size 0 0 0 0) 97)
  rw [World.size_alloc] at e9
  obtain ⟨S,h1,h2,h3⟩ := avi (p := w6.heap.size + 1) (vb := w6.heap.size) F3 fd hfp (LL.fr0 g2) (P6.fr0 g2) ((MV.made w6).fr ((Fr.refl F0 _).alloc _) fun x => x) e9 (aj.2) (by have a5 := World.size_alloc w5 (.map #[] 0); have a6 := World.size_alloc w6 (.map #[] 0); have a3 : (w3.alloc (.map #[] 0)).drew.heap.size = w3.heap.size + 1 := World.size_alloc w3 (.map #[] 0); have hz : w3.drew.heap.size = w3.heap.size := rfl; omega)
  exact ⟨w6.heap.size + 1,tp,q,fp,w6.heap.size,S,rfl,h1,h2,h3⟩
 ·have LL := L5.fr0 (((Fr.refl F0 w5).alloc (.map #[] 0)).trans' f6)
  go_wp2_with fail
  go_ret2
  have g2 := (Fr.refl F0 w6).alloc (.cells (bkC tp q fp w5.heap.size 0 0 0 0) 97)
  have e9 := heap_alloc_new w6 (.cells (bkC tp q fp w5.heap.size 0 0 0 0) 97)
  obtain ⟨S,h1,h2,h3⟩ := avi (p := w6.heap.size) (vb := w5.heap.size) F3 fd hfp (LL.fr0 g2) (P6.fr0 g2) ((MV.made w5).fr (f6.trans' g2) fun x => x) e9 (aj.2) (by have a5 := World.size_alloc w5 (.map #[] 0); have a6 := World.size_alloc w6 (.map #[] 0); have a3 : (w3.alloc (.map #[] 0)).drew.heap.size = w3.heap.size + 1 := World.size_alloc w3 (.map #[] 0); have hz : w3.drew.heap.size = w3.heap.size := rfl; omega)
  exact ⟨w6.heap.size,tp,q,fp,w5.heap.size,S,rfl,h1,h2,h3⟩
 ·have LL := L5.fr0 f6
  go_wp2_with fail
  go_ret2
  have g2 := (Fr.refl F0 w6).alloc (.cells (bkC tp q fp w3.heap.size 0 0 0 0) 97)
  have e9 := heap_alloc_new w6 (.cells (bkC tp q fp w3.heap.size 0 0 0 0) 97)
  obtain ⟨S,h1,h2,h3⟩ := avi (p := w6.heap.size) (vb := w3.heap.size) F3 fd hfp (LL.fr0 g2) (P6.fr0 g2) (((MV.made w3).fr (Fr.refl F0 _).drew fun x => x).fr ((f5.trans' f6).trans' g2) fun x => x) e9 (aj.2) (by have a5 := World.size_alloc w5 (.map #[] 0); have a6 := World.size_alloc w6 (.map #[] 0); have a3 : (w3.alloc (.map #[] 0)).drew.heap.size = w3.heap.size + 1 := World.size_alloc w3 (.map #[] 0); have hz : w3.drew.heap.size = w3.heap.size := rfl; omega)
  exact ⟨w6.heap.size,tp,q,fp,w3.heap.size,S,rfl,h1,h2,h3⟩
end Go.Proofs.YtohckefafbhooaaGreat
