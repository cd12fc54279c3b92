import Derived.Test.YtohckefafbhooaaGreatR16
set_option maxRecDepth 100000
set_option maxHeartbeats 64000000
namespace Go.Proofs.YtohckefafbhooaaGreat
set_option linter.unusedVariables false
set_option linter.unusedSimpArgs false
open Go.RowKit
attribute [-go_sem] gq
section
variable {B : Nat} {w w' : World} {m : Nat} {R : Nat → Nat} {M : Bok} {sv : Value}
theorem apr (h : RB B w m R M sv) (hM : M.Ok) (d : Dd) (hk : d.kind = 6) (ha : d.a < 18446744073709551616) (he : opE M d.w d.a false ≠ 0) :
  Calls Tryz.prog 108 #[.pointer (some ⟨m,0,none⟩),.agg (dC d)] w (aaq B w m R sv (M.no (opE M d.w d.a false))) := by
 have HK := Lib.hid hk
 have hlen := hM.len
 have HO := Lib.hid (fun (W : World) (rb : RB B W m R M sv) => xu rb (by omega) d.w d.a false he)
 obtain ⟨E,hE⟩ : ∃ z,opE M d.w d.a false = z := ⟨_,rfl⟩
 rw [hE] at HO he ⊢
 have b0 : (E != 0) = true := bne_iff_ne.2 he
 have H5 := Lib.hid he
 clear hk
 unfold aaq
 go_enter Tryz.func108,Tryz.ntmps108
 go_upto_region 1 with fail
 refine eu fun W1 N1 => ?_
 have T1 := Lib.hid (je.start h N1 rfl)
 obtain ⟨g,hg⟩ : ∃ g,w.heap.size = g := ⟨_,rfl⟩
 rw [hg] at T1 ⊢
 clear N1 hg h hM ha he hlen hE
 obtain ⟨c0,c1,c2,c3⟩ := ah T1.out.box
 rw [HK.out] at c0
 go_wp2_with fail
 (with_reducible refine (HO.out _ T1.out.rb).mono ?_); rintro e W2 ⟨rfl,f2⟩
 have T2 := Lib.hid (T1.out.fr0 f2)
 clear f2 c0 c1 c2 c3 T1
 clear HO
 go_wp2_with fail
 go_ret2
 exact ⟨rfl,qg.no H5.out,T2.out.fr⟩
theorem apq (h : RB B w m R M sv) (hM : M.Ok) (d : Dd) (hk : d.kind = 7) (ha : d.a < 18446744073709551616) (he : opE M d.w d.a false ≠ 0) :
  Calls Tryz.prog 108 #[.pointer (some ⟨m,0,none⟩),.agg (dC d)] w (aaq B w m R sv (M.no (opE M d.w d.a false))) := by
 have HK := Lib.hid hk
 have hlen := hM.len
 have HO := Lib.hid (fun (W : World) (rb : RB B W m R M sv) => xu rb (by omega) d.w d.a false he)
 obtain ⟨E,hE⟩ : ∃ z,opE M d.w d.a false = z := ⟨_,rfl⟩
 rw [hE] at HO he ⊢
 have b0 : (E != 0) = true := bne_iff_ne.2 he
 have H5 := Lib.hid he
 clear hk
 unfold aaq
 go_enter Tryz.func108,Tryz.ntmps108
 go_upto_region 1 with fail
 refine eu fun W1 N1 => ?_
 have T1 := Lib.hid (je.start h N1 rfl)
 obtain ⟨g,hg⟩ : ∃ g,w.heap.size = g := ⟨_,rfl⟩
 rw [hg] at T1 ⊢
 clear N1 hg h hM ha he hlen hE
 obtain ⟨c0,c1,c2,c3⟩ := ah T1.out.box
 rw [HK.out] at c0
 go_wp2_with fail
 (with_reducible refine (HO.out _ T1.out.rb).mono ?_); rintro e W2 ⟨rfl,f2⟩
 have T2 := Lib.hid (T1.out.fr0 f2)
 clear f2 c0 c1 c2 c3 T1
 clear HO
 go_wp2_with fail
 go_ret2
 exact ⟨rfl,qg.no H5.out,T2.out.fr⟩
theorem apo (h : RB B w m R M sv) (hM : M.Ok) (d : Dd) (hk : d.kind = 8) (ha : d.a < 18446744073709551616) (he : opE M d.w d.a false ≠ 0) :
  Calls Tryz.prog 108 #[.pointer (some ⟨m,0,none⟩),.agg (dC d)] w (aaq B w m R sv (M.no (opE M d.w d.a false))) := by
 have HK := Lib.hid hk
 have hlen := hM.len
 have HO := Lib.hid (fun (W : World) (rb : RB B W m R M sv) => xu rb (by omega) d.w d.a false he)
 obtain ⟨E,hE⟩ : ∃ z,opE M d.w d.a false = z := ⟨_,rfl⟩
 rw [hE] at HO he ⊢
 have b0 : (E != 0) = true := bne_iff_ne.2 he
 have H5 := Lib.hid he
 clear hk
 unfold aaq
 go_enter Tryz.func108,Tryz.ntmps108
 go_upto_region 1 with fail
 refine eu fun W1 N1 => ?_
 have T1 := Lib.hid (je.start h N1 rfl)
 obtain ⟨g,hg⟩ : ∃ g,w.heap.size = g := ⟨_,rfl⟩
 rw [hg] at T1 ⊢
 clear N1 hg h hM ha he hlen hE
 obtain ⟨c0,c1,c2,c3⟩ := ah T1.out.box
 rw [HK.out] at c0
 go_wp2_with fail
 (with_reducible refine (HO.out _ T1.out.rb).mono ?_); rintro e W2 ⟨rfl,f2⟩
 have T2 := Lib.hid (T1.out.fr0 f2)
 clear f2 c0 c1 c2 c3 T1
 clear HO
 go_wp2_with fail
 go_ret2
 exact ⟨rfl,qg.no H5.out,T2.out.fr⟩
theorem apn (h : RB B w m R M sv) (hM : M.Ok) (d : Dd) (hk : d.kind = 9) (ha : d.a < 18446744073709551616) (he : opE M d.w d.a true ≠ 0) :
  Calls Tryz.prog 108 #[.pointer (some ⟨m,0,none⟩),.agg (dC d)] w (aaq B w m R sv (M.no (opE M d.w d.a true))) := by
 have HK := Lib.hid hk
 have hlen := hM.len
 have HO := Lib.hid (fun (W : World) (rb : RB B W m R M sv) => xu rb (by omega) d.w d.a true he)
 obtain ⟨E,hE⟩ : ∃ z,opE M d.w d.a true = z := ⟨_,rfl⟩
 rw [hE] at HO he ⊢
 have b0 : (E != 0) = true := bne_iff_ne.2 he
 have H5 := Lib.hid he
 clear hk
 unfold aaq
 go_enter Tryz.func108,Tryz.ntmps108
 go_upto_region 1 with fail
 refine eu fun W1 N1 => ?_
 have T1 := Lib.hid (je.start h N1 rfl)
 obtain ⟨g,hg⟩ : ∃ g,w.heap.size = g := ⟨_,rfl⟩
 rw [hg] at T1 ⊢
 clear N1 hg h hM ha he hlen hE
 obtain ⟨c0,c1,c2,c3⟩ := ah T1.out.box
 rw [HK.out] at c0
 go_wp2_with fail
 (with_reducible refine (HO.out _ T1.out.rb).mono ?_); rintro e W2 ⟨rfl,f2⟩
 have T2 := Lib.hid (T1.out.fr0 f2)
 clear f2 c0 c1 c2 c3 T1
 clear HO
 go_wp2_with fail
 go_ret2
 exact ⟨rfl,qg.no H5.out,T2.out.fr⟩
theorem ank (h : RB B w m R M sv) (hM : M.Ok) (d : Dd) (hk : d.kind = 10) (ha : d.a < 18446744073709551616) (he : opE M d.w d.a false ≠ 0) :
  Calls Tryz.prog 108 #[.pointer (some ⟨m,0,none⟩),.agg (dC d)] w (aaq B w m R sv (M.no (opE M d.w d.a false))) := by
 have HK := Lib.hid hk
 have hlen := hM.len
 have HO := Lib.hid (fun (W : World) (rb : RB B W m R M sv) => xu rb (by omega) d.w d.a false he)
 obtain ⟨E,hE⟩ : ∃ z,opE M d.w d.a false = z := ⟨_,rfl⟩
 rw [hE] at HO he ⊢
 have b0 : (E != 0) = true := bne_iff_ne.2 he
 have H5 := Lib.hid he
 clear hk
 unfold aaq
 go_enter Tryz.func108,Tryz.ntmps108
 go_upto_region 1 with fail
 refine eu fun W1 N1 => ?_
 have T1 := Lib.hid (je.start h N1 rfl)
 obtain ⟨g,hg⟩ : ∃ g,w.heap.size = g := ⟨_,rfl⟩
 rw [hg] at T1 ⊢
 clear N1 hg h hM ha he hlen hE
 obtain ⟨c0,c1,c2,c3⟩ := ah T1.out.box
 rw [HK.out] at c0
 go_wp2_with fail
 (with_reducible refine (HO.out _ T1.out.rb).mono ?_); rintro e W2 ⟨rfl,f2⟩
 have T2 := Lib.hid (T1.out.fr0 f2)
 clear f2 c0 c1 c2 c3 T1
 clear HO
 go_wp2_with fail
 go_ret2
 exact ⟨rfl,qg.no H5.out,T2.out.fr⟩
theorem anj (h : RB B w m R M sv) (hM : M.Ok) (d : Dd) (hk : d.kind = 11) (ha : d.a < 18446744073709551616) (he : opE M d.w d.a false ≠ 0) :
  Calls Tryz.prog 108 #[.pointer (some ⟨m,0,none⟩),.agg (dC d)] w (aaq B w m R sv (M.no (opE M d.w d.a false))) := by
 have HK := Lib.hid hk
 have hlen := hM.len
 have HO := Lib.hid (fun (W : World) (rb : RB B W m R M sv) => xu rb (by omega) d.w d.a false he)
 obtain ⟨E,hE⟩ : ∃ z,opE M d.w d.a false = z := ⟨_,rfl⟩
 rw [hE] at HO he ⊢
 have b0 : (E != 0) = true := bne_iff_ne.2 he
 have H5 := Lib.hid he
 clear hk
 unfold aaq
 go_enter Tryz.func108,Tryz.ntmps108
 go_upto_region 1 with fail
 refine eu fun W1 N1 => ?_
 have T1 := Lib.hid (je.start h N1 rfl)
 obtain ⟨g,hg⟩ : ∃ g,w.heap.size = g := ⟨_,rfl⟩
 rw [hg] at T1 ⊢
 clear N1 hg h hM ha he hlen hE
 obtain ⟨c0,c1,c2,c3⟩ := ah T1.out.box
 rw [HK.out] at c0
 go_wp2_with fail
 (with_reducible refine (HO.out _ T1.out.rb).mono ?_); rintro e W2 ⟨rfl,f2⟩
 have T2 := Lib.hid (T1.out.fr0 f2)
 clear f2 c0 c1 c2 c3 T1
 clear HO
 go_wp2_with fail
 go_ret2
 exact ⟨rfl,qg.no H5.out,T2.out.fr⟩
theorem ani (h : RB B w m R M sv) (hM : M.Ok) (d : Dd) (hk : d.kind = 12) (ha : d.a < 18446744073709551616) (he : opE M d.w d.a true ≠ 0) :
  Calls Tryz.prog 108 #[.pointer (some ⟨m,0,none⟩),.agg (dC d)] w (aaq B w m R sv (M.no (opE M d.w d.a true))) := by
 have HK := Lib.hid hk
 have hlen := hM.len
 have HO := Lib.hid (fun (W : World) (rb : RB B W m R M sv) => xu rb (by omega) d.w d.a true he)
 obtain ⟨E,hE⟩ : ∃ z,opE M d.w d.a true = z := ⟨_,rfl⟩
 rw [hE] at HO he ⊢
 have b0 : (E != 0) = true := bne_iff_ne.2 he
 have H5 := Lib.hid he
 clear hk
 unfold aaq
 go_enter Tryz.func108,Tryz.ntmps108
 go_upto_region 1 with fail
 refine eu fun W1 N1 => ?_
 have T1 := Lib.hid (je.start h N1 rfl)
 obtain ⟨g,hg⟩ : ∃ g,w.heap.size = g := ⟨_,rfl⟩
 rw [hg] at T1 ⊢
 clear N1 hg h hM ha he hlen hE
 obtain ⟨c0,c1,c2,c3⟩ := ah T1.out.box
 rw [HK.out] at c0
 go_wp2_with fail
 (with_reducible refine (HO.out _ T1.out.rb).mono ?_); rintro e W2 ⟨rfl,f2⟩
 have T2 := Lib.hid (T1.out.fr0 f2)
 clear f2 c0 c1 c2 c3 T1
 clear HO
 go_wp2_with fail
 go_ret2
 exact ⟨rfl,qg.no H5.out,T2.out.fr⟩
theorem anh (h : RB B w m R M sv) (hM : M.Ok) (d : Dd) (hk : d.kind = 13) (ha : d.a < 18446744073709551616) (he : opE M d.w d.a true ≠ 0) :
  Calls Tryz.prog 108 #[.pointer (some ⟨m,0,none⟩),.agg (dC d)] w (aaq B w m R sv (M.no (opE M d.w d.a true))) := by
 have HK := Lib.hid hk
 have hlen := hM.len
 have HO := Lib.hid (fun (W : World) (rb : RB B W m R M sv) => xu rb (by omega) d.w d.a true he)
 obtain ⟨E,hE⟩ : ∃ z,opE M d.w d.a true = z := ⟨_,rfl⟩
 rw [hE] at HO he ⊢
 have b0 : (E != 0) = true := bne_iff_ne.2 he
 have H5 := Lib.hid he
 clear hk
 unfold aaq
 go_enter Tryz.func108,Tryz.ntmps108
 go_upto_region 1 with fail
 refine eu fun W1 N1 => ?_
 have T1 := Lib.hid (je.start h N1 rfl)
 obtain ⟨g,hg⟩ : ∃ g,w.heap.size = g := ⟨_,rfl⟩
 rw [hg] at T1 ⊢
 clear N1 hg h hM ha he hlen hE
 obtain ⟨c0,c1,c2,c3⟩ := ah T1.out.box
 rw [HK.out] at c0
 go_wp2_with fail
 (with_reducible refine (HO.out _ T1.out.rb).mono ?_); rintro e W2 ⟨rfl,f2⟩
 have T2 := Lib.hid (T1.out.fr0 f2)
 clear f2 c0 c1 c2 c3 T1
 clear HO
 go_wp2_with fail
 go_ret2
 exact ⟨rfl,qg.no H5.out,T2.out.fr⟩
theorem ang (h : RB B w m R M sv) (hM : M.Ok) (d : Dd) (hk : d.kind = 14) (ha : d.a < 18446744073709551616) (he : opE M d.w d.a true ≠ 0) :
  Calls Tryz.prog 108 #[.pointer (some ⟨m,0,none⟩),.agg (dC d)] w (aaq B w m R sv (M.no (opE M d.w d.a true))) := by
 have HK := Lib.hid hk
 have hlen := hM.len
 have HO := Lib.hid (fun (W : World) (rb : RB B W m R M sv) => xu rb (by omega) d.w d.a true he)
 obtain ⟨E,hE⟩ : ∃ z,opE M d.w d.a true = z := ⟨_,rfl⟩
 rw [hE] at HO he ⊢
 have b0 : (E != 0) = true := bne_iff_ne.2 he
 have H5 := Lib.hid he
 clear hk
 unfold aaq
 go_enter Tryz.func108,Tryz.ntmps108
 go_upto_region 1 with fail
 refine eu fun W1 N1 => ?_
 have T1 := Lib.hid (je.start h N1 rfl)
 obtain ⟨g,hg⟩ : ∃ g,w.heap.size = g := ⟨_,rfl⟩
 rw [hg] at T1 ⊢
 clear N1 hg h hM ha he hlen hE
 obtain ⟨c0,c1,c2,c3⟩ := ah T1.out.box
 rw [HK.out] at c0
 go_wp2_with fail
 (with_reducible refine (HO.out _ T1.out.rb).mono ?_); rintro e W2 ⟨rfl,f2⟩
 have T2 := Lib.hid (T1.out.fr0 f2)
 clear f2 c0 c1 c2 c3 T1
 clear HO
 go_wp2_with fail
 go_ret2
 exact ⟨rfl,qg.no H5.out,T2.out.fr⟩
theorem anf (h : RB B w m R M sv) (hM : M.Ok) (d : Dd) (hk : d.kind = 15) (ha : d.a < 18446744073709551616) (he : opE M d.w d.a false ≠ 0) :
  Calls Tryz.prog 108 #[.pointer (some ⟨m,0,none⟩),.agg (dC d)] w (aaq B w m R sv (M.no (opE M d.w d.a false))) := by
 have HK := Lib.hid hk
 have hlen := hM.len
 have HO := Lib.hid (fun (W : World) (rb : RB B W m R M sv) => xu rb (by omega) d.w d.a false he)
 obtain ⟨E,hE⟩ : ∃ z,opE M d.w d.a false = z := ⟨_,rfl⟩
 rw [hE] at HO he ⊢
 have b0 : (E != 0) = true := bne_iff_ne.2 he
 have H5 := Lib.hid he
 clear hk
 unfold aaq
 go_enter Tryz.func108,Tryz.ntmps108
 go_upto_region 1 with fail
 refine eu fun W1 N1 => ?_
 have T1 := Lib.hid (je.start h N1 rfl)
 obtain ⟨g,hg⟩ : ∃ g,w.heap.size = g := ⟨_,rfl⟩
 rw [hg] at T1 ⊢
 clear N1 hg h hM ha he hlen hE
 obtain ⟨c0,c1,c2,c3⟩ := ah T1.out.box
 rw [HK.out] at c0
 go_wp2_with fail
 (with_reducible refine (HO.out _ T1.out.rb).mono ?_); rintro e W2 ⟨rfl,f2⟩
 have T2 := Lib.hid (T1.out.fr0 f2)
 clear f2 c0 c1 c2 c3 T1
 clear HO
 go_wp2_with fail
 go_ret2
 exact ⟨rfl,qg.no H5.out,T2.out.fr⟩
theorem ane (h : RB B w m R M sv) (hM : M.Ok) (d : Dd) (hk : d.kind = 16) (ha : d.a < 18446744073709551616) (he : opE M d.w d.a false ≠ 0) :
  Calls Tryz.prog 108 #[.pointer (some ⟨m,0,none⟩),.agg (dC d)] w (aaq B w m R sv (M.no (opE M d.w d.a false))) := by
 have HK := Lib.hid hk
 have hlen := hM.len
 have HO := Lib.hid (fun (W : World) (rb : RB B W m R M sv) => xu rb (by omega) d.w d.a false he)
 obtain ⟨E,hE⟩ : ∃ z,opE M d.w d.a false = z := ⟨_,rfl⟩
 rw [hE] at HO he ⊢
 have b0 : (E != 0) = true := bne_iff_ne.2 he
 have H5 := Lib.hid he
 clear hk
 unfold aaq
 go_enter Tryz.func108,Tryz.ntmps108
 go_upto_region 1 with fail
 refine eu fun W1 N1 => ?_
 have T1 := Lib.hid (je.start h N1 rfl)
 obtain ⟨g,hg⟩ : ∃ g,w.heap.size = g := ⟨_,rfl⟩
 rw [hg] at T1 ⊢
 clear N1 hg h hM ha he hlen hE
 obtain ⟨c0,c1,c2,c3⟩ := ah T1.out.box
 rw [HK.out] at c0
 go_wp2_with fail
 (with_reducible refine (HO.out _ T1.out.rb).mono ?_); rintro e W2 ⟨rfl,f2⟩
 have T2 := Lib.hid (T1.out.fr0 f2)
 clear f2 c0 c1 c2 c3 T1
 clear HO
 go_wp2_with fail
 go_ret2
 exact ⟨rfl,qg.no H5.out,T2.out.fr⟩
theorem anc (h : RB B w m R M sv) (hM : M.Ok) (d : Dd) (hk : d.kind = 17) (ha : d.a < 18446744073709551616) (he : opE M d.w d.a false ≠ 0) :
  Calls Tryz.prog 108 #[.pointer (some ⟨m,0,none⟩),.agg (dC d)] w (aaq B w m R sv (M.no (opE M d.w d.a false))) := by
 have HK := Lib.hid hk
 have hlen := hM.len
 have HO := Lib.hid (fun (W : World) (rb : RB B W m R M sv) => xu rb (by omega) d.w d.a false he)
 obtain ⟨E,hE⟩ : ∃ z,opE M d.w d.a false = z := ⟨_,rfl⟩
 rw [hE] at HO he ⊢
 have b0 : (E != 0) = true := bne_iff_ne.2 he
 have H5 := Lib.hid he
 clear hk
 unfold aaq
 go_enter Tryz.func108,Tryz.ntmps108
 go_upto_region 1 with fail
 refine eu fun W1 N1 => ?_
 have T1 := Lib.hid (je.start h N1 rfl)
 obtain ⟨g,hg⟩ : ∃ g,w.heap.size = g := ⟨_,rfl⟩
 rw [hg] at T1 ⊢
 clear N1 hg h hM ha he hlen hE
 obtain ⟨c0,c1,c2,c3⟩ := ah T1.out.box
 rw [HK.out] at c0
 go_wp2_with fail
 (with_reducible refine (HO.out _ T1.out.rb).mono ?_); rintro e W2 ⟨rfl,f2⟩
 have T2 := Lib.hid (T1.out.fr0 f2)
 clear f2 c0 c1 c2 c3 T1
 clear HO
 go_wp2_with fail
 go_ret2
 exact ⟨rfl,qg.no H5.out,T2.out.fr⟩
theorem anb (h : RB B w m R M sv) (hM : M.Ok) (d : Dd) (hk : d.kind = 18) (ha : d.a < 18446744073709551616) (he : opE M d.w 1 false ≠ 0) :
  Calls Tryz.prog 108 #[.pointer (some ⟨m,0,none⟩),.agg (dC d)] w (aaq B w m R sv (M.no (opE M d.w 1 false))) := by
 have HK := Lib.hid hk
 have hlen := hM.len
 have HO := Lib.hid (fun (W : World) (rb : RB B W m R M sv) => xu rb (by omega) d.w 1 false he)
 replace HO : Hid (∀ (W : World),RB B W m R M sv → Calls Tryz.prog 136 #[.pointer (some ⟨m,0,none⟩),.int .i64 (d.w : Int),.int .u64 1,.bool false] W _) := HO
 obtain ⟨E,hE⟩ : ∃ z,opE M d.w 1 false = z := ⟨_,rfl⟩
 rw [hE] at HO he ⊢
 have b0 : (E != 0) = true := bne_iff_ne.2 he
 have H5 := Lib.hid he
 clear hk
 unfold aaq
 go_enter Tryz.func108,Tryz.ntmps108
 go_upto_region 1 with fail
 refine eu fun W1 N1 => ?_
 have T1 := Lib.hid (je.start h N1 rfl)
 obtain ⟨g,hg⟩ : ∃ g,w.heap.size = g := ⟨_,rfl⟩
 rw [hg] at T1 ⊢
 clear N1 hg h hM ha he hlen hE
 obtain ⟨c0,c1,c2,c3⟩ := ah T1.out.box
 rw [HK.out] at c0
 go_wp2_with fail
 (with_reducible refine (HO.out _ T1.out.rb).mono ?_); rintro e W2 ⟨rfl,f2⟩
 have T2 := Lib.hid (T1.out.fr0 f2)
 clear f2 c0 c1 c2 c3 T1
 clear HO
 go_wp2_with fail
 go_ret2
 exact ⟨rfl,qg.no H5.out,T2.out.fr⟩
end
end Go.Proofs.YtohckefafbhooaaGreat
