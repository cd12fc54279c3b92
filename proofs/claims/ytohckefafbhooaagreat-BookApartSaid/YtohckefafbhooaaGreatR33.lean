import Derived.Test.YtohckefafbhooaaGreatR29
import Derived.Test.YtohckefafbhooaaGreatR30
import Derived.Test.YtohckefafbhooaaGreatR31
import Derived.Test.YtohckefafbhooaaGreatR32
set_option maxRecDepth 100000
set_option maxHeartbeats 64000000
namespace Go.Proofs.YtohckefafbhooaaGreat
set_option linter.unusedVariables false
set_option linter.unusedSimpArgs false
open Go.RowKit
attribute [-go_sem] gq
theorem inD_n (M : Bok) (w a : Nat) : (inD M w a).2.1 = 0 := by unfold inD; (repeat' split) <;> rfl
theorem aJp (M : Bok) (w a : Nat) : (agi M w a).2.1 = 0 := by unfold agi; (repeat' split) <;> rfl
theorem aEa (M : Bok) (w v a : Nat) : (aa8 M w v a).2.1 = 0 := by unfold aa8; (repeat' split) <;> rfl
theorem apv (M : Bok) (w a : Nat) (A : List UInt8) : (ji M w a A).2.1 = 0 := by unfold ji; (repeat' split) <;> rfl
theorem aAd (R : Nat → Nat) (M : Bok) (a : Nat) : (yh R M a).2.1 = 0 := by unfold yh; (repeat' split) <;> rfl
def RegQ (R : Nat → Nat) : Prop := ∀ (B : Nat) (w : World) (m : Nat) (M : Bok) (sv : Value) (d : Dd),RB B w m R M sv → B ≤ w.heap.size → M.Ok → d.kind = 5 → d.w < 256 → d.a < 18446744073709551616 → d.addr.length = 20 →
  Calls Tryz.prog 106 #[.pointer (some ⟨m,0,none⟩),.agg (dC d)] w fun e w' => e = .returned (.int .i64 (ji M d.w d.a d.addr).2.2) ∧ qg (ji M d.w d.a d.addr).2.2 (∃ sv',RB B w' m R (ji M d.w d.a d.addr).1 sv') ∧ Fr (S20 m sv) w w'
def abn (B : Nat) (w : World) (m : Nat) (R : Nat → Nat) (sv : Value) (r : acp) : Ending → World → Prop := fun e w' => e = .returned (.tuple #[.int .u64 (r.2.1 : Nat),.int .i64 r.2.2]) ∧ qg r.2.2 (∃ sv',RB B w' m R r.1 sv') ∧ Fr (S20 m sv) w w'
theorem qg.imp {E : Int} {P Q : Prop} (h : qg E P) (f : P → Q) : qg E Q := fun e => f (h e)
section
variable {B : Nat} {w w' : World} {m : Nat} {R : Nat → Nat} {M : Bok} {sv : Value}
theorem az1 (h : RB B w m R M sv) (hM : M.Ok) (d : Dd) (hk : d.kind = 1) (hw : d.w < 256) (hv : d.v < 256) (ha : d.a < 18446744073709551616) (hR : R 3 < 18446744073709551616) :
  Calls Tryz.prog 42 #[.pointer (some ⟨m,0,none⟩),.agg (dC d)] w (abn B w m R sv (yh R M d.a)) := by
 have HK := Lib.hid hk
 have HC := Lib.hid (fun (W : World) (rb : RB B W m R M sv) => (aw6 rb hM hR d.a ha).mono fun e w' h => (show e = .returned (.int .i64 (yh R M d.a).2.2) ∧ qg (yh R M d.a).2.2 (∃ sv',RB B w' m R (yh R M d.a).1 sv') ∧ Fr (S20 m sv) W w' from ⟨h.1,h.2.1.imp fun x => ⟨sv,x⟩,h.2.2.mono fun k _ e => .inl e⟩))
 have HZ := Lib.hid (aAd R M d.a)
 generalize yh R M d.a = r at *
 have sz := vg d
 clear hk
 unfold abn
 go_enter Tryz.func42,Tryz.ntmps42
 go_upto_region 1 with fail
 refine eu fun W1 N1 => ?_
 have T1 := Lib.hid (je.start h N1 rfl)
 obtain ⟨g,hg⟩ : ∃ g,w.heap.size = g := ⟨_,rfl⟩
 rw [hg] at T1 ⊢
 clear N1 hg h hM hw hv ha hR
 obtain ⟨c0,c1,c2,c3⟩ := ah T1.out.box
 rw [HK.out] at c0
 have b0 := T1.out.box
 go_wp2_with fail
 refine (HC.out _ T1.out.rb).mono ?_; rintro e W2 ⟨rfl,ok2,f2⟩
 have T2 := Lib.hid (And.intro ok2 (T1.out.fr.trans' f2))
 clear ok2 f2 b0 c0 c1 c2 c3 HC
 go_wp2_with fail
 go_ret2
 exact ⟨by rw [HZ.out]; rfl,T2.out.1,T2.out.2⟩
theorem aDu (h : RB B w m R M sv) (hM : M.Ok) (d : Dd) (hk : d.kind = 2) (hw : d.w < 256) (hv : d.v < 256) (ha : d.a < 18446744073709551616) :
  Calls Tryz.prog 42 #[.pointer (some ⟨m,0,none⟩),.agg (dC d)] w (abn B w m R sv (inD M d.w d.a)) := by
 have HK := Lib.hid hk
 have HC := Lib.hid (fun (W : World) (rb : RB B W m R M sv) => (as2 rb hM d hk hw ha).mono fun e w' h => (show e = .returned (.int .i64 (inD M d.w d.a).2.2) ∧ qg (inD M d.w d.a).2.2 (∃ sv',RB B w' m R (inD M d.w d.a).1 sv') ∧ Fr (S20 m sv) W w' from ⟨h.1,h.2.1.imp fun x => ⟨sv,x⟩,h.2.2⟩))
 have HZ := Lib.hid (inD_n M d.w d.a)
 generalize inD M d.w d.a = r at *
 have sz := vg d
 clear hk
 unfold abn
 go_enter Tryz.func42,Tryz.ntmps42
 go_upto_region 1 with fail
 refine eu fun W1 N1 => ?_
 have T1 := Lib.hid (je.start h N1 rfl)
 obtain ⟨g,hg⟩ : ∃ g,w.heap.size = g := ⟨_,rfl⟩
 rw [hg] at T1 ⊢
 clear N1 hg h hM hw hv ha
 obtain ⟨c0,c1,c2,c3⟩ := ah T1.out.box
 rw [HK.out] at c0
 have b0 := T1.out.box
 go_wp2_with fail
 refine (HC.out _ T1.out.rb).mono ?_; rintro e W2 ⟨rfl,ok2,f2⟩
 have T2 := Lib.hid (And.intro ok2 (T1.out.fr.trans' f2))
 clear ok2 f2 b0 c0 c1 c2 c3 HC
 go_wp2_with fail
 go_ret2
 exact ⟨by rw [HZ.out]; rfl,T2.out.1,T2.out.2⟩
theorem az2 (h : RB B w m R M sv) (hM : M.Ok) (d : Dd) (hk : d.kind = 3) (hw : d.w < 256) (hv : d.v < 256) (ha : d.a < 18446744073709551616) :
  Calls Tryz.prog 42 #[.pointer (some ⟨m,0,none⟩),.agg (dC d)] w (abn B w m R sv (agi M d.w d.a)) := by
 have HK := Lib.hid hk
 have HC := Lib.hid (fun (W : World) (rb : RB B W m R M sv) => (aps rb hM d hk hw ha).mono fun e w' h => (show e = .returned (.int .i64 (agi M d.w d.a).2.2) ∧ qg (agi M d.w d.a).2.2 (∃ sv',RB B w' m R (agi M d.w d.a).1 sv') ∧ Fr (S20 m sv) W w' from ⟨h.1,h.2.1.imp fun x => ⟨sv,x⟩,h.2.2⟩))
 have HZ := Lib.hid (aJp M d.w d.a)
 generalize agi M d.w d.a = r at *
 have sz := vg d
 clear hk
 unfold abn
 go_enter Tryz.func42,Tryz.ntmps42
 go_upto_region 1 with fail
 refine eu fun W1 N1 => ?_
 have T1 := Lib.hid (je.start h N1 rfl)
 obtain ⟨g,hg⟩ : ∃ g,w.heap.size = g := ⟨_,rfl⟩
 rw [hg] at T1 ⊢
 clear N1 hg h hM hw hv ha
 obtain ⟨c0,c1,c2,c3⟩ := ah T1.out.box
 rw [HK.out] at c0
 have b0 := T1.out.box
 go_wp2_with fail
 refine (HC.out _ T1.out.rb).mono ?_; rintro e W2 ⟨rfl,ok2,f2⟩
 have T2 := Lib.hid (And.intro ok2 (T1.out.fr.trans' f2))
 clear ok2 f2 b0 c0 c1 c2 c3 HC
 go_wp2_with fail
 go_ret2
 exact ⟨by rw [HZ.out]; rfl,T2.out.1,T2.out.2⟩
theorem aw5 (h : RB B w m R M sv) (hM : M.Ok) (d : Dd) (hk : d.kind = 4) (hw : d.w < 256) (hv : d.v < 256) (ha : d.a < 18446744073709551616) :
  Calls Tryz.prog 42 #[.pointer (some ⟨m,0,none⟩),.agg (dC d)] w (abn B w m R sv (aa8 M d.w d.v d.a)) := by
 have HK := Lib.hid hk
 have HC := Lib.hid (fun (W : World) (rb : RB B W m R M sv) => (ant rb hM d hk hw hv ha).mono fun e w' h => (show e = .returned (.int .i64 (aa8 M d.w d.v d.a).2.2) ∧ qg (aa8 M d.w d.v d.a).2.2 (∃ sv',RB B w' m R (aa8 M d.w d.v d.a).1 sv') ∧ Fr (S20 m sv) W w' from ⟨h.1,h.2.1.imp fun x => ⟨sv,x⟩,h.2.2⟩))
 have HZ := Lib.hid (aEa M d.w d.v d.a)
 generalize aa8 M d.w d.v d.a = r at *
 have sz := vg d
 clear hk
 unfold abn
 go_enter Tryz.func42,Tryz.ntmps42
 go_upto_region 1 with fail
 refine eu fun W1 N1 => ?_
 have T1 := Lib.hid (je.start h N1 rfl)
 obtain ⟨g,hg⟩ : ∃ g,w.heap.size = g := ⟨_,rfl⟩
 rw [hg] at T1 ⊢
 clear N1 hg h hM hw hv ha
 obtain ⟨c0,c1,c2,c3⟩ := ah T1.out.box
 rw [HK.out] at c0
 have b0 := T1.out.box
 go_wp2_with fail
 refine (HC.out _ T1.out.rb).mono ?_; rintro e W2 ⟨rfl,ok2,f2⟩
 have T2 := Lib.hid (And.intro ok2 (T1.out.fr.trans' f2))
 clear ok2 f2 b0 c0 c1 c2 c3 HC
 go_wp2_with fail
 go_ret2
 exact ⟨by rw [HZ.out]; rfl,T2.out.1,T2.out.2⟩
theorem akq (h : RB B w m R M sv) (hM : M.Ok) (d : Dd) (hk : d.kind = 5) (hw : d.w < 256) (hv : d.v < 256) (ha : d.a < 18446744073709551616) (hA : d.addr.length = 20) (hB : B ≤ w.heap.size) (aCy : RegQ R) :
  Calls Tryz.prog 42 #[.pointer (some ⟨m,0,none⟩),.agg (dC d)] w (abn B w m R sv (ji M d.w d.a d.addr)) := by
 have HK := Lib.hid hk
 have HC := Lib.hid (fun (W : World) (f : B ≤ W.heap.size) (rb : RB B W m R M sv) => aCy B W m M sv d rb f hM hk hw ha hA)
 have HZ := Lib.hid (apv M d.w d.a d.addr)
 generalize ji M d.w d.a d.addr = r at *
 have sz := vg d
 clear hk
 unfold abn
 go_enter Tryz.func42,Tryz.ntmps42
 go_upto_region 1 with fail
 refine eu fun W1 N1 => ?_
 have T1 := Lib.hid (je.start h N1 rfl)
 obtain ⟨g,hg⟩ : ∃ g,w.heap.size = g := ⟨_,rfl⟩
 rw [hg] at T1 ⊢
 clear N1 hg h hM hw hv ha hA aCy
 obtain ⟨c0,c1,c2,c3⟩ := ah T1.out.box
 rw [HK.out] at c0
 have b0 := T1.out.box
 go_wp2_with fail
 refine (HC.out _ (Nat.le_trans hB T1.out.fr.size) T1.out.rb).mono ?_; rintro e W2 ⟨rfl,ok2,f2⟩
 have T2 := Lib.hid (And.intro ok2 (T1.out.fr.trans' f2))
 clear ok2 f2 b0 c0 c1 c2 c3 HC
 go_wp2_with fail
 go_ret2
 exact ⟨by rw [HZ.out]; rfl,T2.out.1,T2.out.2⟩
theorem apm (h : RB B w m R M sv) (hM : M.Ok) (d : Dd) (hk : d.kind = 19) (hw : d.w < 256) (hv : d.v < 256) (ha : d.a < 18446744073709551616) :
  Calls Tryz.prog 42 #[.pointer (some ⟨m,0,none⟩),.agg (dC d)] w (abn B w m R sv (su M d.w d.a)) := by
 have HK := Lib.hid hk
 have HC := Lib.hid (fun (W : World) (rb : RB B W m R M sv) => (ah6 rb hM d hk hw ha).mono fun e w' h => (show e = .returned (.tuple #[.int .u64 ((su M d.w d.a).2.1 : Nat),.int .i64 (su M d.w d.a).2.2]) ∧ qg (su M d.w d.a).2.2 (∃ sv',RB B w' m R (su M d.w d.a).1 sv') ∧ Fr (S20 m sv) W w' from ⟨h.1,h.2.1.imp fun x => ⟨sv,x⟩,h.2.2⟩))
 generalize su M d.w d.a = r at *
 have sz := vg d
 clear hk
 unfold abn
 go_enter Tryz.func42,Tryz.ntmps42
 go_upto_region 1 with fail
 refine eu fun W1 N1 => ?_
 have T1 := Lib.hid (je.start h N1 rfl)
 obtain ⟨g,hg⟩ : ∃ g,w.heap.size = g := ⟨_,rfl⟩
 rw [hg] at T1 ⊢
 clear N1 hg h hM hw hv ha
 obtain ⟨c0,c1,c2,c3⟩ := ah T1.out.box
 rw [HK.out] at c0
 have b0 := T1.out.box
 go_wp2_with fail
 refine (HC.out _ T1.out.rb).mono ?_; rintro e W2 ⟨rfl,ok2,f2⟩
 have T2 := Lib.hid (And.intro ok2 (T1.out.fr.trans' f2))
 clear ok2 f2 b0 c0 c1 c2 c3 HC
 go_wp2_with fail
 go_ret2
 exact ⟨rfl,T2.out.1,T2.out.2⟩
theorem am8 (h : RB B w m R M sv) (hM : M.Ok) (d : Dd) (hk : d.kind = 20) (hw : d.w < 256) (hv : d.v < 256) (ha : d.a < 18446744073709551616) :
  Calls Tryz.prog 42 #[.pointer (some ⟨m,0,none⟩),.agg (dC d)] w (abn B w m R sv (qj M d.w d.a)) := by
 have HK := Lib.hid hk
 have HC := Lib.hid (fun (W : World) (rb : RB B W m R M sv) => (ahr rb hM d hk hw ha).mono fun e w' h => (show e = .returned (.tuple #[.int .u64 ((qj M d.w d.a).2.1 : Nat),.int .i64 (qj M d.w d.a).2.2]) ∧ qg (qj M d.w d.a).2.2 (∃ sv',RB B w' m R (qj M d.w d.a).1 sv') ∧ Fr (S20 m sv) W w' from ⟨h.1,h.2.1.imp fun x => ⟨sv,x⟩,h.2.2⟩))
 generalize qj M d.w d.a = r at *
 have sz := vg d
 clear hk
 unfold abn
 go_enter Tryz.func42,Tryz.ntmps42
 go_upto_region 1 with fail
 refine eu fun W1 N1 => ?_
 have T1 := Lib.hid (je.start h N1 rfl)
 obtain ⟨g,hg⟩ : ∃ g,w.heap.size = g := ⟨_,rfl⟩
 rw [hg] at T1 ⊢
 clear N1 hg h hM hw hv ha
 obtain ⟨c0,c1,c2,c3⟩ := ah T1.out.box
 rw [HK.out] at c0
 have b0 := T1.out.box
 go_wp2_with fail
 refine (HC.out _ T1.out.rb).mono ?_; rintro e W2 ⟨rfl,ok2,f2⟩
 have T2 := Lib.hid (And.intro ok2 (T1.out.fr.trans' f2))
 clear ok2 f2 b0 c0 c1 c2 c3 HC
 go_wp2_with fail
 go_ret2
 exact ⟨rfl,T2.out.1,T2.out.2⟩
theorem apl (h : RB B w m R M sv) (hM : M.Ok) (d : Dd) (hk : d.kind = 21) (hw : d.w < 256) (hv : d.v < 256) (ha : d.a < 18446744073709551616) :
  Calls Tryz.prog 42 #[.pointer (some ⟨m,0,none⟩),.agg (dC d)] w (abn B w m R sv (uz M d.w d.a)) := by
 have HK := Lib.hid hk
 have HC := Lib.hid (fun (W : World) (rb : RB B W m R M sv) => (ah5 rb hM d hk hw ha).mono fun e w' h => (show e = .returned (.tuple #[.int .u64 ((uz M d.w d.a).2.1 : Nat),.int .i64 (uz M d.w d.a).2.2]) ∧ qg (uz M d.w d.a).2.2 (∃ sv',RB B w' m R (uz M d.w d.a).1 sv') ∧ Fr (S20 m sv) W w' from ⟨h.1,h.2.1.imp fun x => ⟨sv,x⟩,h.2.2⟩))
 generalize uz M d.w d.a = r at *
 have sz := vg d
 clear hk
 unfold abn
 go_enter Tryz.func42,Tryz.ntmps42
 go_upto_region 1 with fail
 refine eu fun W1 N1 => ?_
 have T1 := Lib.hid (je.start h N1 rfl)
 obtain ⟨g,hg⟩ : ∃ g,w.heap.size = g := ⟨_,rfl⟩
 rw [hg] at T1 ⊢
 clear N1 hg h hM hw hv ha
 obtain ⟨c0,c1,c2,c3⟩ := ah T1.out.box
 rw [HK.out] at c0
 have b0 := T1.out.box
 go_wp2_with fail
 refine (HC.out _ T1.out.rb).mono ?_; rintro e W2 ⟨rfl,ok2,f2⟩
 have T2 := Lib.hid (And.intro ok2 (T1.out.fr.trans' f2))
 clear ok2 f2 b0 c0 c1 c2 c3 HC
 go_wp2_with fail
 go_ret2
 exact ⟨rfl,T2.out.1,T2.out.2⟩
theorem aw4 (h : RB B w m R M sv) (hM : M.Ok) (d : Dd) (hk : d.kind = 0) (ha : d.a < 18446744073709551616) :
  Calls Tryz.prog 42 #[.pointer (some ⟨m,0,none⟩),.agg (dC d)] w (abn B w m R sv (aeb M d.a)) := by
 have HK := Lib.hid hk
 have aaj := hM.now
 clear hk
 unfold abn
 by_cases h1 : 1099511627776 < M.now + d.a
 ·rw [show aeb M d.a = M.no 4 from if_pos h1]
  have m1 : IntKind.u64.wrap ((1099511627776 : Int) - (M.now : Int)) = ((1099511627776 - M.now : Nat) : Int) := by rw [IntWalk.u64_in _ (by omega)]; omega
  obtain ⟨z,hz⟩ : ∃ z,1099511627776 - M.now = z := ⟨_,rfl⟩
  rw [hz] at m1
  have q1 : decide ((z : Int) < (d.a : Int)) = true := decide_eq_true (by omega)
  have q1' : decide (z < d.a) = true := decide_eq_true (by omega)
  obtain ⟨xn,hxn⟩ : ∃ z,M.now = z := ⟨_,rfl⟩
  have HN := Lib.hid hxn
  rw [hxn] at m1
  go_enter Tryz.func42,Tryz.ntmps42
  go_upto_region 1 with fail
  refine eu fun W1 N1 => ?_
  have T1 := Lib.hid (je.start h N1 rfl)
  obtain ⟨g,hg⟩ : ∃ g,w.heap.size = g := ⟨_,rfl⟩
  rw [hg] at T1 ⊢
  clear N1 hg h hM ha h1 aaj hz hxn
  obtain ⟨c0,c1,c2,c3⟩ := ah T1.out.box
  rw [HK.out] at c0
  have cn := ak (T1.out.rb.now) HN.out
  go_upto_region 3 with fail
  go_region
  go_upto_region 4 with fail
  obtain ⟨W2,hW⟩ : ∃ X,X = W1.drew := ⟨_,rfl⟩
  refine bg W2 hW ?_
  have T2 := Lib.hid (show je _ _ _ _ _ _ _ W2 _ by rw [hW]; exact T1.out.drew)
  clear hW c0 c1 c2 c3 T1 cn
  go_wp2_with fail
  go_ret2
  exact ⟨rfl,qg.no (show (4 : Int) ≠ 0 by decide),T2.out.fr⟩
 ·skip
  obtain ⟨y,hy⟩ : ∃ z,M.now + d.a = z := ⟨_,rfl⟩
  rw [show aeb M d.a = ({ M with now := y },0,0) from by unfold aeb; rw [if_neg h1,hy]]
  have m1 : IntKind.u64.wrap ((1099511627776 : Int) - (M.now : Int)) = ((1099511627776 - M.now : Nat) : Int) := by rw [IntWalk.u64_in _ (by omega)]; omega
  obtain ⟨z,hz⟩ : ∃ z,1099511627776 - M.now = z := ⟨_,rfl⟩
  rw [hz] at m1
  have q2 : decide ((z : Int) < (d.a : Int)) = false := decide_eq_false (by omega)
  have q2' : decide (z < d.a) = false := decide_eq_false (by omega)
  have m2 : IntKind.u64.wrap ((M.now : Int) + (d.a : Int)) = ((y : Nat) : Int) := by rw [IntWalk.u64_in _ (by omega)]; omega
  obtain ⟨xn,hxn⟩ : ∃ z,M.now = z := ⟨_,rfl⟩
  have HN := Lib.hid hxn
  rw [hxn] at m1 m2
  go_enter Tryz.func42,Tryz.ntmps42
  go_upto_region 1 with fail
  refine eu fun W1 N1 => ?_
  have T1 := Lib.hid (je.start h N1 rfl)
  obtain ⟨g,hg⟩ : ∃ g,w.heap.size = g := ⟨_,rfl⟩
  rw [hg] at T1 ⊢
  clear N1 hg h hM ha h1 aaj hz hxn hy
  obtain ⟨c0,c1,c2,c3⟩ := ah T1.out.box
  rw [HK.out] at c0
  have cn := ak (T1.out.rb.now) HN.out
  go_upto_region 3 with fail
  go_region
  go_upto_region 5 with fail
  obtain ⟨W2,hW⟩ : ∃ X,X = W1.drew := ⟨_,rfl⟩
  refine bg W2 hW ?_
  have T2 := Lib.hid (show je _ _ _ _ _ _ _ W2 _ by rw [hW]; exact T1.out.drew)
  clear hW c0 c1 c2 c3 T1 cn
  obtain ⟨c0,c1,c2,c3⟩ := ah T2.out.box
  rw [HK.out] at c0
  have cn := ak (T2.out.rb.now) HN.out
  have zf := T2.out.rb.blk.frozen (11)
  go_region
  go_upto_region 6 with fail
  have T3 := Lib.hid (T2.out.put (T2.out.rb.avd y))
  replace T3 := Lib.hid T3.out.drew
  generalize (W2.setCell ⟨m,11,none⟩ (.int .u64 (y : Nat))).drew = W3 at *
  clear c0 c1 c2 c3 zf T2 cn
  go_wp2_with fail
  go_ret2
  exact ⟨rfl,qg.yes ⟨sv,T3.out.rb⟩,T3.out.fr⟩
end
end Go.Proofs.YtohckefafbhooaaGreat
