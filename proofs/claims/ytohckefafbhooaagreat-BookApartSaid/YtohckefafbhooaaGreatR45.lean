import Derived.Test.YtohckefafbhooaaGreatR33
set_option maxRecDepth 100000
set_option maxHeartbeats 64000000
namespace Go.Proofs.YtohckefafbhooaaGreat
set_option linter.unusedVariables false
set_option linter.unusedSimpArgs false
open Go.RowKit
attribute [-go_sem] gq
section
variable {B : Nat} {w w' : World} {m : Nat} {R : Nat → Nat} {M : Bok} {sv : Value}
theorem apk (h : RB B w m R M sv) (hM : M.Ok) (hR : R 0 < 18446744073709551616) (d : Dd) (hk : d.kind = 6) (hw : d.w < 256) (hv : d.v < 256) (ha : d.a < 18446744073709551616) :
  Calls Tryz.prog 42 #[.pointer (some ⟨m,0,none⟩),.agg (dC d)] w (abn B w m R sv (jk R M d)) := by
 have HK := Lib.hid hk
 have HC := Lib.hid (fun (W : World) (rb : RB B W m R M sv) => (qw rb hM hR d (by omega) hw hv ha).mono fun e w' h => (show e = .returned (.tuple #[.int .u64 ((jk R M d).2.1 : Nat),.int .i64 (jk R M d).2.2]) ∧ qg (jk R M d).2.2 (∃ sv',RB B w' m R (jk R M d).1 sv') ∧ Fr (S20 m sv) W w' from ⟨h.1,h.2.1.imp fun x => ⟨sv,x⟩,h.2.2⟩))
 generalize jk R M d = r at *
 have sz := vg d
 clear hk
 unfold abn
 go_enter Tryz.func42,Tryz.ntmps42
 go_upto_region 1 with fail
 refine eu fun W1 N1 => ?_
 have T1 := Lib.hid (je.start h N1 rfl)
 obtain ⟨g,hg⟩ : ∃ g,w.heap.size = g := ⟨_,rfl⟩
 rw [hg] at T1 ⊢
 clear N1 hg h hM hw hv ha hR
 obtain ⟨c0,c1,c2,c3⟩ := ah T1.out.box
 rw [HK.out] at c0
 have b0 := T1.out.box
 go_wp2_with fail
 refine (HC.out _ T1.out.rb).mono ?_; rintro e W2 ⟨rfl,ok2,f2⟩
 have T2 := Lib.hid (And.intro ok2 (T1.out.fr.trans' f2))
 clear ok2 f2 b0 c0 c1 c2 c3 HC
 go_wp2_with fail
 go_ret2
 exact ⟨rfl,T2.out.1,T2.out.2⟩
theorem apj (h : RB B w m R M sv) (hM : M.Ok) (hR : R 0 < 18446744073709551616) (d : Dd) (hk : d.kind = 7) (hw : d.w < 256) (hv : d.v < 256) (ha : d.a < 18446744073709551616) :
  Calls Tryz.prog 42 #[.pointer (some ⟨m,0,none⟩),.agg (dC d)] w (abn B w m R sv (jk R M d)) := by
 have HK := Lib.hid hk
 have HC := Lib.hid (fun (W : World) (rb : RB B W m R M sv) => (qw rb hM hR d (by omega) hw hv ha).mono fun e w' h => (show e = .returned (.tuple #[.int .u64 ((jk R M d).2.1 : Nat),.int .i64 (jk R M d).2.2]) ∧ qg (jk R M d).2.2 (∃ sv',RB B w' m R (jk R M d).1 sv') ∧ Fr (S20 m sv) W w' from ⟨h.1,h.2.1.imp fun x => ⟨sv,x⟩,h.2.2⟩))
 generalize jk R M d = r at *
 have sz := vg d
 clear hk
 unfold abn
 go_enter Tryz.func42,Tryz.ntmps42
 go_upto_region 1 with fail
 refine eu fun W1 N1 => ?_
 have T1 := Lib.hid (je.start h N1 rfl)
 obtain ⟨g,hg⟩ : ∃ g,w.heap.size = g := ⟨_,rfl⟩
 rw [hg] at T1 ⊢
 clear N1 hg h hM hw hv ha hR
 obtain ⟨c0,c1,c2,c3⟩ := ah T1.out.box
 rw [HK.out] at c0
 have b0 := T1.out.box
 go_wp2_with fail
 refine (HC.out _ T1.out.rb).mono ?_; rintro e W2 ⟨rfl,ok2,f2⟩
 have T2 := Lib.hid (And.intro ok2 (T1.out.fr.trans' f2))
 clear ok2 f2 b0 c0 c1 c2 c3 HC
 go_wp2_with fail
 go_ret2
 exact ⟨rfl,T2.out.1,T2.out.2⟩
theorem aph (h : RB B w m R M sv) (hM : M.Ok) (hR : R 0 < 18446744073709551616) (d : Dd) (hk : d.kind = 8) (hw : d.w < 256) (hv : d.v < 256) (ha : d.a < 18446744073709551616) :
  Calls Tryz.prog 42 #[.pointer (some ⟨m,0,none⟩),.agg (dC d)] w (abn B w m R sv (jk R M d)) := by
 have HK := Lib.hid hk
 have HC := Lib.hid (fun (W : World) (rb : RB B W m R M sv) => (qw rb hM hR d (by omega) hw hv ha).mono fun e w' h => (show e = .returned (.tuple #[.int .u64 ((jk R M d).2.1 : Nat),.int .i64 (jk R M d).2.2]) ∧ qg (jk R M d).2.2 (∃ sv',RB B w' m R (jk R M d).1 sv') ∧ Fr (S20 m sv) W w' from ⟨h.1,h.2.1.imp fun x => ⟨sv,x⟩,h.2.2⟩))
 generalize jk R M d = r at *
 have sz := vg d
 clear hk
 unfold abn
 go_enter Tryz.func42,Tryz.ntmps42
 go_upto_region 1 with fail
 refine eu fun W1 N1 => ?_
 have T1 := Lib.hid (je.start h N1 rfl)
 obtain ⟨g,hg⟩ : ∃ g,w.heap.size = g := ⟨_,rfl⟩
 rw [hg] at T1 ⊢
 clear N1 hg h hM hw hv ha hR
 obtain ⟨c0,c1,c2,c3⟩ := ah T1.out.box
 rw [HK.out] at c0
 have b0 := T1.out.box
 go_wp2_with fail
 refine (HC.out _ T1.out.rb).mono ?_; rintro e W2 ⟨rfl,ok2,f2⟩
 have T2 := Lib.hid (And.intro ok2 (T1.out.fr.trans' f2))
 clear ok2 f2 b0 c0 c1 c2 c3 HC
 go_wp2_with fail
 go_ret2
 exact ⟨rfl,T2.out.1,T2.out.2⟩
theorem apg (h : RB B w m R M sv) (hM : M.Ok) (hR : R 0 < 18446744073709551616) (d : Dd) (hk : d.kind = 9) (hw : d.w < 256) (hv : d.v < 256) (ha : d.a < 18446744073709551616) :
  Calls Tryz.prog 42 #[.pointer (some ⟨m,0,none⟩),.agg (dC d)] w (abn B w m R sv (jk R M d)) := by
 have HK := Lib.hid hk
 have HC := Lib.hid (fun (W : World) (rb : RB B W m R M sv) => (qw rb hM hR d (by omega) hw hv ha).mono fun e w' h => (show e = .returned (.tuple #[.int .u64 ((jk R M d).2.1 : Nat),.int .i64 (jk R M d).2.2]) ∧ qg (jk R M d).2.2 (∃ sv',RB B w' m R (jk R M d).1 sv') ∧ Fr (S20 m sv) W w' from ⟨h.1,h.2.1.imp fun x => ⟨sv,x⟩,h.2.2⟩))
 generalize jk R M d = r at *
 have sz := vg d
 clear hk
 unfold abn
 go_enter Tryz.func42,Tryz.ntmps42
 go_upto_region 1 with fail
 refine eu fun W1 N1 => ?_
 have T1 := Lib.hid (je.start h N1 rfl)
 obtain ⟨g,hg⟩ : ∃ g,w.heap.size = g := ⟨_,rfl⟩
 rw [hg] at T1 ⊢
 clear N1 hg h hM hw hv ha hR
 obtain ⟨c0,c1,c2,c3⟩ := ah T1.out.box
 rw [HK.out] at c0
 have b0 := T1.out.box
 go_wp2_with fail
 refine (HC.out _ T1.out.rb).mono ?_; rintro e W2 ⟨rfl,ok2,f2⟩
 have T2 := Lib.hid (And.intro ok2 (T1.out.fr.trans' f2))
 clear ok2 f2 b0 c0 c1 c2 c3 HC
 go_wp2_with fail
 go_ret2
 exact ⟨rfl,T2.out.1,T2.out.2⟩
theorem am7 (h : RB B w m R M sv) (hM : M.Ok) (hR : R 0 < 18446744073709551616) (d : Dd) (hk : d.kind = 10) (hw : d.w < 256) (hv : d.v < 256) (ha : d.a < 18446744073709551616) :
  Calls Tryz.prog 42 #[.pointer (some ⟨m,0,none⟩),.agg (dC d)] w (abn B w m R sv (jk R M d)) := by
 have HK := Lib.hid hk
 have HC := Lib.hid (fun (W : World) (rb : RB B W m R M sv) => (qw rb hM hR d (by omega) hw hv ha).mono fun e w' h => (show e = .returned (.tuple #[.int .u64 ((jk R M d).2.1 : Nat),.int .i64 (jk R M d).2.2]) ∧ qg (jk R M d).2.2 (∃ sv',RB B w' m R (jk R M d).1 sv') ∧ Fr (S20 m sv) W w' from ⟨h.1,h.2.1.imp fun x => ⟨sv,x⟩,h.2.2⟩))
 generalize jk R M d = r at *
 have sz := vg d
 clear hk
 unfold abn
 go_enter Tryz.func42,Tryz.ntmps42
 go_upto_region 1 with fail
 refine eu fun W1 N1 => ?_
 have T1 := Lib.hid (je.start h N1 rfl)
 obtain ⟨g,hg⟩ : ∃ g,w.heap.size = g := ⟨_,rfl⟩
 rw [hg] at T1 ⊢
 clear N1 hg h hM hw hv ha hR
 obtain ⟨c0,c1,c2,c3⟩ := ah T1.out.box
 rw [HK.out] at c0
 have b0 := T1.out.box
 go_wp2_with fail
 refine (HC.out _ T1.out.rb).mono ?_; rintro e W2 ⟨rfl,ok2,f2⟩
 have T2 := Lib.hid (And.intro ok2 (T1.out.fr.trans' f2))
 clear ok2 f2 b0 c0 c1 c2 c3 HC
 go_wp2_with fail
 go_ret2
 exact ⟨rfl,T2.out.1,T2.out.2⟩
theorem am6 (h : RB B w m R M sv) (hM : M.Ok) (hR : R 0 < 18446744073709551616) (d : Dd) (hk : d.kind = 11) (hw : d.w < 256) (hv : d.v < 256) (ha : d.a < 18446744073709551616) :
  Calls Tryz.prog 42 #[.pointer (some ⟨m,0,none⟩),.agg (dC d)] w (abn B w m R sv (jk R M d)) := by
 have HK := Lib.hid hk
 have HC := Lib.hid (fun (W : World) (rb : RB B W m R M sv) => (qw rb hM hR d (by omega) hw hv ha).mono fun e w' h => (show e = .returned (.tuple #[.int .u64 ((jk R M d).2.1 : Nat),.int .i64 (jk R M d).2.2]) ∧ qg (jk R M d).2.2 (∃ sv',RB B w' m R (jk R M d).1 sv') ∧ Fr (S20 m sv) W w' from ⟨h.1,h.2.1.imp fun x => ⟨sv,x⟩,h.2.2⟩))
 generalize jk R M d = r at *
 have sz := vg d
 clear hk
 unfold abn
 go_enter Tryz.func42,Tryz.ntmps42
 go_upto_region 1 with fail
 refine eu fun W1 N1 => ?_
 have T1 := Lib.hid (je.start h N1 rfl)
 obtain ⟨g,hg⟩ : ∃ g,w.heap.size = g := ⟨_,rfl⟩
 rw [hg] at T1 ⊢
 clear N1 hg h hM hw hv ha hR
 obtain ⟨c0,c1,c2,c3⟩ := ah T1.out.box
 rw [HK.out] at c0
 have b0 := T1.out.box
 go_wp2_with fail
 refine (HC.out _ T1.out.rb).mono ?_; rintro e W2 ⟨rfl,ok2,f2⟩
 have T2 := Lib.hid (And.intro ok2 (T1.out.fr.trans' f2))
 clear ok2 f2 b0 c0 c1 c2 c3 HC
 go_wp2_with fail
 go_ret2
 exact ⟨rfl,T2.out.1,T2.out.2⟩
theorem am5 (h : RB B w m R M sv) (hM : M.Ok) (hR : R 0 < 18446744073709551616) (d : Dd) (hk : d.kind = 12) (hw : d.w < 256) (hv : d.v < 256) (ha : d.a < 18446744073709551616) :
  Calls Tryz.prog 42 #[.pointer (some ⟨m,0,none⟩),.agg (dC d)] w (abn B w m R sv (jk R M d)) := by
 have HK := Lib.hid hk
 have HC := Lib.hid (fun (W : World) (rb : RB B W m R M sv) => (qw rb hM hR d (by omega) hw hv ha).mono fun e w' h => (show e = .returned (.tuple #[.int .u64 ((jk R M d).2.1 : Nat),.int .i64 (jk R M d).2.2]) ∧ qg (jk R M d).2.2 (∃ sv',RB B w' m R (jk R M d).1 sv') ∧ Fr (S20 m sv) W w' from ⟨h.1,h.2.1.imp fun x => ⟨sv,x⟩,h.2.2⟩))
 generalize jk R M d = r at *
 have sz := vg d
 clear hk
 unfold abn
 go_enter Tryz.func42,Tryz.ntmps42
 go_upto_region 1 with fail
 refine eu fun W1 N1 => ?_
 have T1 := Lib.hid (je.start h N1 rfl)
 obtain ⟨g,hg⟩ : ∃ g,w.heap.size = g := ⟨_,rfl⟩
 rw [hg] at T1 ⊢
 clear N1 hg h hM hw hv ha hR
 obtain ⟨c0,c1,c2,c3⟩ := ah T1.out.box
 rw [HK.out] at c0
 have b0 := T1.out.box
 go_wp2_with fail
 refine (HC.out _ T1.out.rb).mono ?_; rintro e W2 ⟨rfl,ok2,f2⟩
 have T2 := Lib.hid (And.intro ok2 (T1.out.fr.trans' f2))
 clear ok2 f2 b0 c0 c1 c2 c3 HC
 go_wp2_with fail
 go_ret2
 exact ⟨rfl,T2.out.1,T2.out.2⟩
theorem am4 (h : RB B w m R M sv) (hM : M.Ok) (hR : R 0 < 18446744073709551616) (d : Dd) (hk : d.kind = 13) (hw : d.w < 256) (hv : d.v < 256) (ha : d.a < 18446744073709551616) :
  Calls Tryz.prog 42 #[.pointer (some ⟨m,0,none⟩),.agg (dC d)] w (abn B w m R sv (jk R M d)) := by
 have HK := Lib.hid hk
 have HC := Lib.hid (fun (W : World) (rb : RB B W m R M sv) => (qw rb hM hR d (by omega) hw hv ha).mono fun e w' h => (show e = .returned (.tuple #[.int .u64 ((jk R M d).2.1 : Nat),.int .i64 (jk R M d).2.2]) ∧ qg (jk R M d).2.2 (∃ sv',RB B w' m R (jk R M d).1 sv') ∧ Fr (S20 m sv) W w' from ⟨h.1,h.2.1.imp fun x => ⟨sv,x⟩,h.2.2⟩))
 generalize jk R M d = r at *
 have sz := vg d
 clear hk
 unfold abn
 go_enter Tryz.func42,Tryz.ntmps42
 go_upto_region 1 with fail
 refine eu fun W1 N1 => ?_
 have T1 := Lib.hid (je.start h N1 rfl)
 obtain ⟨g,hg⟩ : ∃ g,w.heap.size = g := ⟨_,rfl⟩
 rw [hg] at T1 ⊢
 clear N1 hg h hM hw hv ha hR
 obtain ⟨c0,c1,c2,c3⟩ := ah T1.out.box
 rw [HK.out] at c0
 have b0 := T1.out.box
 go_wp2_with fail
 refine (HC.out _ T1.out.rb).mono ?_; rintro e W2 ⟨rfl,ok2,f2⟩
 have T2 := Lib.hid (And.intro ok2 (T1.out.fr.trans' f2))
 clear ok2 f2 b0 c0 c1 c2 c3 HC
 go_wp2_with fail
 go_ret2
 exact ⟨rfl,T2.out.1,T2.out.2⟩
theorem am3 (h : RB B w m R M sv) (hM : M.Ok) (hR : R 0 < 18446744073709551616) (d : Dd) (hk : d.kind = 14) (hw : d.w < 256) (hv : d.v < 256) (ha : d.a < 18446744073709551616) :
  Calls Tryz.prog 42 #[.pointer (some ⟨m,0,none⟩),.agg (dC d)] w (abn B w m R sv (jk R M d)) := by
 have HK := Lib.hid hk
 have HC := Lib.hid (fun (W : World) (rb : RB B W m R M sv) => (qw rb hM hR d (by omega) hw hv ha).mono fun e w' h => (show e = .returned (.tuple #[.int .u64 ((jk R M d).2.1 : Nat),.int .i64 (jk R M d).2.2]) ∧ qg (jk R M d).2.2 (∃ sv',RB B w' m R (jk R M d).1 sv') ∧ Fr (S20 m sv) W w' from ⟨h.1,h.2.1.imp fun x => ⟨sv,x⟩,h.2.2⟩))
 generalize jk R M d = r at *
 have sz := vg d
 clear hk
 unfold abn
 go_enter Tryz.func42,Tryz.ntmps42
 go_upto_region 1 with fail
 refine eu fun W1 N1 => ?_
 have T1 := Lib.hid (je.start h N1 rfl)
 obtain ⟨g,hg⟩ : ∃ g,w.heap.size = g := ⟨_,rfl⟩
 rw [hg] at T1 ⊢
 clear N1 hg h hM hw hv ha hR
 obtain ⟨c0,c1,c2,c3⟩ := ah T1.out.box
 rw [HK.out] at c0
 have b0 := T1.out.box
 go_wp2_with fail
 refine (HC.out _ T1.out.rb).mono ?_; rintro e W2 ⟨rfl,ok2,f2⟩
 have T2 := Lib.hid (And.intro ok2 (T1.out.fr.trans' f2))
 clear ok2 f2 b0 c0 c1 c2 c3 HC
 go_wp2_with fail
 go_ret2
 exact ⟨rfl,T2.out.1,T2.out.2⟩
theorem am2 (h : RB B w m R M sv) (hM : M.Ok) (hR : R 0 < 18446744073709551616) (d : Dd) (hk : d.kind = 15) (hw : d.w < 256) (hv : d.v < 256) (ha : d.a < 18446744073709551616) :
  Calls Tryz.prog 42 #[.pointer (some ⟨m,0,none⟩),.agg (dC d)] w (abn B w m R sv (jk R M d)) := by
 have HK := Lib.hid hk
 have HC := Lib.hid (fun (W : World) (rb : RB B W m R M sv) => (qw rb hM hR d (by omega) hw hv ha).mono fun e w' h => (show e = .returned (.tuple #[.int .u64 ((jk R M d).2.1 : Nat),.int .i64 (jk R M d).2.2]) ∧ qg (jk R M d).2.2 (∃ sv',RB B w' m R (jk R M d).1 sv') ∧ Fr (S20 m sv) W w' from ⟨h.1,h.2.1.imp fun x => ⟨sv,x⟩,h.2.2⟩))
 generalize jk R M d = r at *
 have sz := vg d
 clear hk
 unfold abn
 go_enter Tryz.func42,Tryz.ntmps42
 go_upto_region 1 with fail
 refine eu fun W1 N1 => ?_
 have T1 := Lib.hid (je.start h N1 rfl)
 obtain ⟨g,hg⟩ : ∃ g,w.heap.size = g := ⟨_,rfl⟩
 rw [hg] at T1 ⊢
 clear N1 hg h hM hw hv ha hR
 obtain ⟨c0,c1,c2,c3⟩ := ah T1.out.box
 rw [HK.out] at c0
 have b0 := T1.out.box
 go_wp2_with fail
 refine (HC.out _ T1.out.rb).mono ?_; rintro e W2 ⟨rfl,ok2,f2⟩
 have T2 := Lib.hid (And.intro ok2 (T1.out.fr.trans' f2))
 clear ok2 f2 b0 c0 c1 c2 c3 HC
 go_wp2_with fail
 go_ret2
 exact ⟨rfl,T2.out.1,T2.out.2⟩
theorem am1 (h : RB B w m R M sv) (hM : M.Ok) (hR : R 0 < 18446744073709551616) (d : Dd) (hk : d.kind = 16) (hw : d.w < 256) (hv : d.v < 256) (ha : d.a < 18446744073709551616) :
  Calls Tryz.prog 42 #[.pointer (some ⟨m,0,none⟩),.agg (dC d)] w (abn B w m R sv (jk R M d)) := by
 have HK := Lib.hid hk
 have HC := Lib.hid (fun (W : World) (rb : RB B W m R M sv) => (qw rb hM hR d (by omega) hw hv ha).mono fun e w' h => (show e = .returned (.tuple #[.int .u64 ((jk R M d).2.1 : Nat),.int .i64 (jk R M d).2.2]) ∧ qg (jk R M d).2.2 (∃ sv',RB B w' m R (jk R M d).1 sv') ∧ Fr (S20 m sv) W w' from ⟨h.1,h.2.1.imp fun x => ⟨sv,x⟩,h.2.2⟩))
 generalize jk R M d = r at *
 have sz := vg d
 clear hk
 unfold abn
 go_enter Tryz.func42,Tryz.ntmps42
 go_upto_region 1 with fail
 refine eu fun W1 N1 => ?_
 have T1 := Lib.hid (je.start h N1 rfl)
 obtain ⟨g,hg⟩ : ∃ g,w.heap.size = g := ⟨_,rfl⟩
 rw [hg] at T1 ⊢
 clear N1 hg h hM hw hv ha hR
 obtain ⟨c0,c1,c2,c3⟩ := ah T1.out.box
 rw [HK.out] at c0
 have b0 := T1.out.box
 go_wp2_with fail
 refine (HC.out _ T1.out.rb).mono ?_; rintro e W2 ⟨rfl,ok2,f2⟩
 have T2 := Lib.hid (And.intro ok2 (T1.out.fr.trans' f2))
 clear ok2 f2 b0 c0 c1 c2 c3 HC
 go_wp2_with fail
 go_ret2
 exact ⟨rfl,T2.out.1,T2.out.2⟩
theorem am0 (h : RB B w m R M sv) (hM : M.Ok) (hR : R 0 < 18446744073709551616) (d : Dd) (hk : d.kind = 17) (hw : d.w < 256) (hv : d.v < 256) (ha : d.a < 18446744073709551616) :
  Calls Tryz.prog 42 #[.pointer (some ⟨m,0,none⟩),.agg (dC d)] w (abn B w m R sv (jk R M d)) := by
 have HK := Lib.hid hk
 have HC := Lib.hid (fun (W : World) (rb : RB B W m R M sv) => (qw rb hM hR d (by omega) hw hv ha).mono fun e w' h => (show e = .returned (.tuple #[.int .u64 ((jk R M d).2.1 : Nat),.int .i64 (jk R M d).2.2]) ∧ qg (jk R M d).2.2 (∃ sv',RB B w' m R (jk R M d).1 sv') ∧ Fr (S20 m sv) W w' from ⟨h.1,h.2.1.imp fun x => ⟨sv,x⟩,h.2.2⟩))
 generalize jk R M d = r at *
 have sz := vg d
 clear hk
 unfold abn
 go_enter Tryz.func42,Tryz.ntmps42
 go_upto_region 1 with fail
 refine eu fun W1 N1 => ?_
 have T1 := Lib.hid (je.start h N1 rfl)
 obtain ⟨g,hg⟩ : ∃ g,w.heap.size = g := ⟨_,rfl⟩
 rw [hg] at T1 ⊢
 clear N1 hg h hM hw hv ha hR
 obtain ⟨c0,c1,c2,c3⟩ := ah T1.out.box
 rw [HK.out] at c0
 have b0 := T1.out.box
 go_wp2_with fail
 refine (HC.out _ T1.out.rb).mono ?_; rintro e W2 ⟨rfl,ok2,f2⟩
 have T2 := Lib.hid (And.intro ok2 (T1.out.fr.trans' f2))
 clear ok2 f2 b0 c0 c1 c2 c3 HC
 go_wp2_with fail
 go_ret2
 exact ⟨rfl,T2.out.1,T2.out.2⟩
theorem amz (h : RB B w m R M sv) (hM : M.Ok) (hR : R 0 < 18446744073709551616) (d : Dd) (hk : d.kind = 18) (hw : d.w < 256) (hv : d.v < 256) (ha : d.a < 18446744073709551616) :
  Calls Tryz.prog 42 #[.pointer (some ⟨m,0,none⟩),.agg (dC d)] w (abn B w m R sv (jk R M d)) := by
 have HK := Lib.hid hk
 have HC := Lib.hid (fun (W : World) (rb : RB B W m R M sv) => (qw rb hM hR d (by omega) hw hv ha).mono fun e w' h => (show e = .returned (.tuple #[.int .u64 ((jk R M d).2.1 : Nat),.int .i64 (jk R M d).2.2]) ∧ qg (jk R M d).2.2 (∃ sv',RB B w' m R (jk R M d).1 sv') ∧ Fr (S20 m sv) W w' from ⟨h.1,h.2.1.imp fun x => ⟨sv,x⟩,h.2.2⟩))
 generalize jk R M d = r at *
 have sz := vg d
 clear hk
 unfold abn
 go_enter Tryz.func42,Tryz.ntmps42
 go_upto_region 1 with fail
 refine eu fun W1 N1 => ?_
 have T1 := Lib.hid (je.start h N1 rfl)
 obtain ⟨g,hg⟩ : ∃ g,w.heap.size = g := ⟨_,rfl⟩
 rw [hg] at T1 ⊢
 clear N1 hg h hM hw hv ha hR
 obtain ⟨c0,c1,c2,c3⟩ := ah T1.out.box
 rw [HK.out] at c0
 have b0 := T1.out.box
 go_wp2_with fail
 refine (HC.out _ T1.out.rb).mono ?_; rintro e W2 ⟨rfl,ok2,f2⟩
 have T2 := Lib.hid (And.intro ok2 (T1.out.fr.trans' f2))
 clear ok2 f2 b0 c0 c1 c2 c3 HC
 go_wp2_with fail
 go_ret2
 exact ⟨rfl,T2.out.1,T2.out.2⟩
end
end Go.Proofs.YtohckefafbhooaaGreat
namespace Go.Proofs.YtohckefafbhooaaGreat
set_option linter.unusedVariables false
set_option linter.unusedSimpArgs false
open Go.RowKit
attribute [-go_sem] gq
theorem aEl {k : Nat} (h : k ≤ 21) : (k = 0 ∨ k = 1 ∨ k = 2 ∨ k = 3 ∨ k = 4 ∨ k = 5 ∨ k = 19 ∨ k = 20 ∨ k = 21) ∨ (6 ≤ k ∧ k ≤ 18) := by omega
section
variable {B : Nat} {w w' : World} {m : Nat} {R : Nat → Nat} {M : Bok} {sv : Value}
theorem azs {d : Dd} (hk : 6 ≤ d.kind ∧ d.kind ≤ 18) : jf R M d = jk R M d := by
 unfold jf
 rcases ajv hk with k | k | k | k | k | k | k | k | k | k | k | k | k <;> (rw [k]; rfl)
theorem az3 (h : RB B w m R M sv) (hM : M.Ok) (hR : R 0 < 18446744073709551616) (hR3 : R 3 < 18446744073709551616) (aCy : RegQ R) (hB : B ≤ w.heap.size) (d : Dd) (hk : d.kind ≤ 21) (hw : d.w < 256) (hv : d.v < 256) (ha : d.a < 18446744073709551616) (hA : d.addr.length = 20) :
  Calls Tryz.prog 42 #[.pointer (some ⟨m,0,none⟩),.agg (dC d)] w (abn B w m R sv (jf R M d)) := by
 rcases aEl hk with (k | k | k | k | k | k | k | k | k) | k
 ·rw [show jf R M d = aeb M d.a from by unfold jf; rw [k]; rfl]; exact aw4 h hM d k ha
 ·rw [show jf R M d = yh R M d.a from by unfold jf; rw [k]; rfl]; exact az1 h hM d k hw hv ha hR3
 ·rw [show jf R M d = inD M d.w d.a from by unfold jf; rw [k]; rfl]; exact aDu h hM d k hw hv ha
 ·rw [show jf R M d = agi M d.w d.a from by unfold jf; rw [k]; rfl]; exact az2 h hM d k hw hv ha
 ·rw [show jf R M d = aa8 M d.w d.v d.a from by unfold jf; rw [k]; rfl]; exact aw5 h hM d k hw hv ha
 ·rw [show jf R M d = ji M d.w d.a d.addr from by unfold jf; rw [k]; rfl]; exact akq h hM d k hw hv ha hA hB aCy
 ·rw [show jf R M d = su M d.w d.a from by unfold jf; rw [k]; rfl]; exact apm h hM d k hw hv ha
 ·rw [show jf R M d = qj M d.w d.a from by unfold jf; rw [k]; rfl]; exact am8 h hM d k hw hv ha
 ·rw [show jf R M d = uz M d.w d.a from by unfold jf; rw [k]; rfl]; exact apl h hM d k hw hv ha
 ·rw [azs k]
  rcases ajv k with k | k | k | k | k | k | k | k | k | k | k | k | k
  ·exact apk h hM hR d k hw hv ha
  ·exact apj h hM hR d k hw hv ha
  ·exact aph h hM hR d k hw hv ha
  ·exact apg h hM hR d k hw hv ha
  ·exact am7 h hM hR d k hw hv ha
  ·exact am6 h hM hR d k hw hv ha
  ·exact am5 h hM hR d k hw hv ha
  ·exact am4 h hM hR d k hw hv ha
  ·exact am3 h hM hR d k hw hv ha
  ·exact am2 h hM hR d k hw hv ha
  ·exact am1 h hM hR d k hw hv ha
  ·exact am0 h hM hR d k hw hv ha
  ·exact amz h hM hR d k hw hv ha
def yw (M : Bok) (r : acp) : Prop := r.2.2 ≠ 0 → r.1 = M ∧ r.2.1 = 0
theorem yw.no (M : Bok) (e : Int) : yw M (M.no e) := fun _ => ⟨rfl,rfl⟩
theorem yw.yes (M M' : Bok) (n : Nat) : yw M (M',n,0) := fun h => absurd rfl h
theorem asq (R : Nat → Nat) (M : Bok) (w a j : Nat) (x : Vlt) : yw M (afa M w a j x) := by
 unfold afa
 (repeat' split) <;> first | exact yw.no _ _ | exact yw.yes _ _ _
theorem asu (R : Nat → Nat) (M : Bok) (w a j : Nat) (x : Vlt) : yw M (adv R M w a j x) := by
 unfold adv
 (repeat' split) <;> first | exact yw.no _ _ | exact yw.yes _ _ _
theorem akl (R : Nat → Nat) (M : Bok) (a j : Nat) (x : Vlt) : yw M (uo R M a j x) := by
 unfold uo
 (repeat' split) <;> first | exact yw.no _ _ | exact yw.yes _ _ _
theorem akm (R : Nat → Nat) (M : Bok) (a j : Nat) (x : Vlt) : yw M (zy M a j x) := by
 unfold zy
 (repeat' split) <;> first | exact yw.no _ _ | exact yw.yes _ _ _
theorem asr (R : Nat → Nat) (M : Bok) (v a j : Nat) (x : Vlt) : yw M (adt M v a j x) := by
 unfold adt
 (repeat' split) <;> first | exact yw.no _ _ | exact yw.yes _ _ _
theorem asx (R : Nat → Nat) (M : Bok) (v a j : Nat) (x : Vlt) : yw M (adk M v a j x) := by
 unfold adk
 (repeat' split) <;> first | exact yw.no _ _ | exact yw.yes _ _ _
theorem asn (R : Nat → Nat) (M : Bok) (a j : Nat) (x : Vlt) : yw M (ads M a j x) := by
 unfold ads
 (repeat' split) <;> first | exact yw.no _ _ | exact yw.yes _ _ _
theorem amu (R : Nat → Nat) (M : Bok) (v a j : Nat) (x : Vlt) : yw M (zo M v a j x) := by
 unfold zo
 (repeat' split) <;> first | exact yw.no _ _ | exact yw.yes _ _ _
theorem ao9 (R : Nat → Nat) (M : Bok) (v a j : Nat) (x : Vlt) : yw M (acn M v a j x) := by
 unfold acn
 (repeat' split) <;> first | exact yw.no _ _ | exact yw.yes _ _ _
theorem apb (R : Nat → Nat) (M : Bok) (a j : Nat) (x : Vlt) : yw M (leaveD M a j x) := by
 unfold leaveD
 (repeat' split) <;> first | exact yw.no _ _ | exact yw.yes _ _ _
theorem asl (R : Nat → Nat) (M : Bok) (a j : Nat) (x : Vlt) : yw M (ae8 M a j x) := by
 unfold ae8
 (repeat' split) <;> first | exact yw.no _ _ | exact yw.yes _ _ _
theorem asw (R : Nat → Nat) (M : Bok) (j : Nat) (x : Vlt) : yw M (ah0 M j x) := by
 unfold ah0
 (repeat' split) <;> first | exact yw.no _ _ | exact yw.yes _ _ _
theorem azz (R : Nat → Nat) (M : Bok) (w a : Nat)  : yw M (inD M w a) := by
 unfold inD
 (repeat' split) <;> first | exact yw.no _ _ | exact yw.yes _ _ _
theorem awy (R : Nat → Nat) (M : Bok) (w a : Nat)  : yw M (agi M w a) := by
 unfold agi
 (repeat' split) <;> first | exact yw.no _ _ | exact yw.yes _ _ _
theorem aso (R : Nat → Nat) (M : Bok) (w v a : Nat)  : yw M (aa8 M w v a) := by
 unfold aa8
 (repeat' split) <;> first | exact yw.no _ _ | exact yw.yes _ _ _
theorem ah2 (R : Nat → Nat) (M : Bok) (w a : Nat) (A : List UInt8) : yw M (ji M w a A) := by
 unfold ji
 (repeat' split) <;> first | exact yw.no _ _ | exact yw.yes _ _ _
theorem amv (R : Nat → Nat) (M : Bok) (w a : Nat)  : yw M (su M w a) := by
 unfold su
 (repeat' split) <;> first | exact yw.no _ _ | exact yw.yes _ _ _
theorem akn (R : Nat → Nat) (M : Bok) (w a : Nat)  : yw M (qj M w a) := by
 unfold qj
 (repeat' split) <;> first | exact yw.no _ _ | exact yw.yes _ _ _
theorem ams (R : Nat → Nat) (M : Bok) (w a : Nat)  : yw M (uz M w a) := by
 unfold uz
 (repeat' split) <;> first | exact yw.no _ _ | exact yw.yes _ _ _
theorem asj (R : Nat → Nat) (M : Bok) (a : Nat)  : yw M (aeb M a) := by
 unfold aeb
 (repeat' split) <;> first | exact yw.no _ _ | exact yw.yes _ _ _
theorem apa (R : Nat → Nat) (M : Bok) (a : Nat)  : yw M (yh R M a) := by
 unfold yh
 (repeat' split) <;> first | exact yw.no _ _ | exact yw.yes _ _ _
theorem asv (M : Bok) (w v a j : Nat) (x : Vlt) : yw M (adw M w v a j x) := by
 unfold adw
 split
 ·split
  ·exact yw.no _ _
  ·split
   ·exact yw.no _ _
   ·split
    ·exact yw.no _ _
    ·exact yw.yes _ _ _
 ·exact yw.no _ _
theorem alu (R : Nat → Nat) (M : Bok) (d : Dd) : yw M (jf R M d) := by
 have hV : yw M (jk R M d) := by
  unfold jk
  split
  ·split
   ·exact yw.no _ _
   ·unfold aam
    split
    ·exact asq R M _ _ _ _
    ·exact asu R M _ _ _ _
    ·exact akl R M _ _ _
    ·exact akm R M _ _ _
    ·exact asr R M _ _ _ _
    ·exact asx R M _ _ _ _
    ·exact asn R M _ _ _
    ·exact amu R M _ _ _ _
    ·exact ao9 R M _ _ _ _
    ·exact apb R M _ _ _
    ·exact asl R M _ _ _
    ·exact asv M _ _ _ _ _
    ·exact asw R M _ _
  ·exact yw.no _ _
 unfold jf
 split
 ·exact asj R M _
 ·exact apa R M _
 ·exact azz R M _ _
 ·exact awy R M _ _
 ·exact aso R M _ _ _
 ·exact ah2 R M _ _ _
 ·exact amv R M _ _
 ·exact akn R M _ _
 ·exact ams R M _ _
 ·exact hV
theorem aq6 (h : RB B w m R M sv) (hM : M.Ok) (hR : R 0 < 18446744073709551616) (hR3 : R 3 < 18446744073709551616) (aCy : RegQ R) (d : Dd) (hk : d.kind ≤ 21) (hw : d.w < 256) (hv : d.v < 256) (ha : d.a < 18446744073709551616) (hA : d.addr.length = 20) (hB : B ≤ w.heap.size) :
  Calls Tryz.prog 12 #[.pointer (some ⟨m,0,none⟩),.agg (dC d)] w fun e w' => ∃ m' sv',e = .returned (.tuple #[.pointer (some ⟨m',0,none⟩),.int .u64 ((jf R M d).2.1 : Nat),.int .i64 (jf R M d).2.2]) ∧ RB B w' m' R (jf R M d).1 sv' ∧ ((m' = m ∧ sv' = sv) ∨ (w.heap.size ≤ m' ∧ ∀ k,sv'.ownBlock = some k → w.heap.size ≤ k)) ∧ Fr F0 w w' := by
 have HS := Lib.hid (alu R M d)
 have HC := Lib.hid (fun (W : World) (f : Fr F0 w W) => as3 (h.fr0 f) (by have := hM.len; omega))
 have HD := Lib.hid (fun (C q : Nat) (W : World) (sv' : Value) (rb : RB C W q R M sv') (hC : C ≤ W.heap.size) => az3 rb hM hR hR3 aCy hC d hk hw hv ha hA)
 have HR := Lib.hid (fun (W : World) (f : Fr F0 w W) => h.fr0 f)
 have HBB := Lib.hid hB
 generalize jf R M d = r at *
 have sz := vg d
 clear h hM hR hR3 aCy hk hw hv ha hA hB
 go_enter Tryz.func12,Tryz.ntmps12
 go_upto_region 1 with fail
 refine eu fun W1 N1 => ?_
 have F1 := Lib.hid N1.fr
 have b1 := N1.new
 obtain ⟨g,hg⟩ : ∃ g,w.heap.size = g := ⟨_,rfl⟩
 rw [hg] at b1 ⊢
 clear N1
 go_wp2_with fail
 refine (HC.out _ F1.out).mono ?_; rintro e W2 ⟨q,sv2,rfl,rb2,f2⟩
 have b2 := f2.keeps (fun x => x) b1
 have H2 := Lib.hid (And.intro rb2 (And.intro f2 (F1.out.trans' f2)))
 clear b1 rb2 f2 HC
 go_wp2_with fail
 refine (HD.out _ q _ sv2 H2.out.1 H2.out.2.1.size).mono ?_; rintro e W3 ⟨rfl,ok3,f3⟩
 have f3' : Fr F0 w W3 := H2.out.2.2.trans f3 fun i hi e => by
  have hb := H2.out.1.base
  have hs := F1.out.size
  rcases e with e | e
  ·omega
  ·have := H2.out.1.vs.blk i e; omega
 have H3 := Lib.hid (And.intro ok3 f3')
 clear ok3 f3 f3' b2
 by_cases he : r.2.2 = 0
 ·have b0 : (r.2.2 != 0) = false := by rw [he]; rfl
  have HE := Lib.hid he
  clear he
  go_wp2_with fail
  go_ret3
  obtain ⟨sv3,rb3⟩ := H3.out.1 HE.out
  exact ⟨q,sv3,rfl,rb3.mono (Nat.le_trans HBB.out F1.out.size),.inr ⟨Nat.le_trans F1.out.size rb3.base,fun k hk => Nat.le_trans F1.out.size (rb3.vs.blk k hk)⟩,H3.out.2⟩
 ·have b0 : (r.2.2 != 0) = true := bne_iff_ne.2 he
  obtain ⟨e1,e2⟩ := HS.out he
  have HE := Lib.hid (And.intro e1 e2)
  clear e1 e2 he
  go_wp2_with fail
  go_ret3
  exact ⟨m,sv,by rw [HE.out.2]; rfl,by rw [HE.out.1]; exact HR.out _ H3.out.2,.inl ⟨rfl,rfl⟩,H3.out.2⟩
end
end Go.Proofs.YtohckefafbhooaaGreat
