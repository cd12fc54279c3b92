import Derived.Test.YtohckefafbhooaaGreatR15
set_option maxRecDepth 100000
set_option maxHeartbeats 64000000
namespace Go.Proofs.YtohckefafbhooaaGreat
set_option linter.unusedVariables false
set_option linter.unusedSimpArgs false
open Go.RowKit
attribute [-go_sem] gq
section
variable {B : Nat} {w w' : World} {m : Nat} {R : Nat → Nat} {M : Bok} {sv : Value}
theorem aps (h : RB B w m R M sv) (hM : M.Ok) (d : Dd) (hk : d.kind = 3) (hw : d.w < 256) (ha : d.a < 18446744073709551616) :
  Calls Tryz.prog 105 #[.pointer (some ⟨m,0,none⟩),.agg (dC d)] w (aGa B w m R sv (agi M d.w d.a)) := by
 have HK := Lib.hid hk
 have hf := hM.jy hw
 have htk := hM.uq hw
 have jq := hM.most
 have HW := Lib.hid hw
 have l0 : (d.w : Int) < 256 := by omega
 have hhd := hM.held
 have hhl := hM.yj
 have htot := hM.tok
 have zk := hM.inn
 have ni := hM.paid
 clear hk
 unfold aGa
 by_cases h1 : 4611686018427387904 < d.a
 ·skip
  have l1 : (4611686018427387904 : Int) < (d.a : Int) := by omega
  rw [show agi M d.w d.a = M.no 1 from if_pos h1]
  go_enter Tryz.func105,Tryz.ntmps105
  go_upto_region 1 with fail
  refine eu fun W1 N1 => ?_
  have T1 := Lib.hid (je.start h N1 rfl)
  obtain ⟨g,hg⟩ : ∃ g,w.heap.size = g := ⟨_,rfl⟩
  rw [hg] at T1 ⊢
  clear N1 hg h hM hf htk jq hw ha hhd hhl htot zk ni h1
  obtain ⟨c0,c1,c2,c3⟩ := ah T1.out.box
  rw [HK.out] at c0
  go_wp2_with fail
  go_ret
  exact ⟨rfl,qg.no (show (1 : Int) ≠ 0 by decide),T1.out.fr⟩
 ·have l1 : ¬ (4611686018427387904 : Int) < (d.a : Int) := by omega
  have m1 : IntKind.u64.wrap ((4611686018427387904 : Int) - (d.a : Int)) = ((4611686018427387904 - d.a : Nat) : Int) := by rw [IntWalk.u64_in _ (by omega)]; omega
  obtain ⟨z,hz⟩ : ∃ z,4611686018427387904 - d.a = z := ⟨_,rfl⟩
  rw [hz] at m1
  by_cases h2 : M.free d.w < d.a
  ·rw [show agi M d.w d.a = M.no 16 from by unfold agi; rw [if_neg h1,if_pos h2]]
   obtain ⟨xf,hxf⟩ : ∃ z,M.free d.w = z := ⟨_,rfl⟩
   have q1 : decide ((xf : Int) < (d.a : Int)) = true := decide_eq_true (by omega)
   have q1' : decide (xf < d.a) = true := decide_eq_true (by omega)
   have HX := Lib.hid hxf
   go_enter Tryz.func105,Tryz.ntmps105
   go_upto_region 1 with fail
   refine eu fun W1 N1 => ?_
   have T1 := Lib.hid (je.start h N1 rfl)
   obtain ⟨g,hg⟩ : ∃ g,w.heap.size = g := ⟨_,rfl⟩
   rw [hg] at T1 ⊢
   clear N1 hg h hM hf htk jq hw ha hhd hhl htot zk ni h1 h2 hz hxf
   obtain ⟨c0,c1,c2,c3⟩ := ah T1.out.box
   rw [HK.out] at c0
   have cf := ak (T1.out.rb.free HW.out) HX.out
   go_upto_region 10 with fail
   go_region
   go_upto_region 11 with fail
   obtain ⟨W2,hW⟩ : ∃ X,X = W1.drew := ⟨_,rfl⟩
   refine bg W2 hW ?_
   have T2 := Lib.hid (show je _ _ _ _ _ _ _ W2 _ by rw [hW]; exact T1.out.drew)
   clear hW c0 c1 c2 c3 T1 cf
   go_wp2_with fail
   go_ret
   exact ⟨rfl,qg.no (show (16 : Int) ≠ 0 by decide),T2.out.fr⟩
  ·skip
   obtain ⟨y,hy⟩ : ∃ z,M.out + d.a = z := ⟨_,rfl⟩
   obtain ⟨v,hv⟩ : ∃ z,M.free d.w - d.a = z := ⟨_,rfl⟩
   rw [show agi M d.w d.a = ({ M with out := y,free := upd M.free d.w v },0,0) from by unfold agi; rw [if_neg h1,if_neg h2,if_neg (by omega),hy,hv]]
   obtain ⟨xf,hxf⟩ : ∃ z,M.free d.w = z := ⟨_,rfl⟩
   obtain ⟨xo,hxo⟩ : ∃ z,M.out = z := ⟨_,rfl⟩
   have q2 : decide ((xf : Int) < (d.a : Int)) = false := decide_eq_false (by omega)
   have q2' : decide (xf < d.a) = false := decide_eq_false (by omega)
   have q3 : decide ((z : Int) < (xo : Int)) = false := decide_eq_false (by omega)
   have q3' : decide (z < xo) = false := decide_eq_false (by omega)
   have m2 : IntKind.u64.wrap ((xo : Int) + (d.a : Int)) = ((y : Nat) : Int) := by rw [IntWalk.u64_in _ (by omega)]; omega
   have m3 : IntKind.u64.wrap ((xf : Int) - (d.a : Int)) = ((v : Nat) : Int) := by rw [IntWalk.u64_in _ (by omega)]; omega
   have HX := Lib.hid hxf
   have HO := Lib.hid hxo
   go_enter Tryz.func105,Tryz.ntmps105
   go_upto_region 1 with fail
   refine eu fun W1 N1 => ?_
   have T1 := Lib.hid (je.start h N1 rfl)
   obtain ⟨g,hg⟩ : ∃ g,w.heap.size = g := ⟨_,rfl⟩
   rw [hg] at T1 ⊢
   clear N1 hg h hM hf htk jq hw ha hhd hhl htot zk ni h1 h2 hz hxf hxo hy hv
   obtain ⟨c0,c1,c2,c3⟩ := ah T1.out.box
   rw [HK.out] at c0
   have cf := ak (T1.out.rb.free HW.out) HX.out
   go_upto_region 10 with fail
   go_region
   go_upto_region 12 with fail
   obtain ⟨W2,hW⟩ : ∃ X,X = W1.drew := ⟨_,rfl⟩
   refine bg W2 hW ?_
   have T2 := Lib.hid (show je _ _ _ _ _ _ _ W2 _ by rw [hW]; exact T1.out.drew)
   clear hW c0 c1 c2 c3 T1 cf
   obtain ⟨c0,c1,c2,c3⟩ := ah T2.out.box
   rw [HK.out] at c0
   have co := ak (T2.out.rb.out) HO.out
   go_region
   go_upto_region 14 with fail
   obtain ⟨W3,hW⟩ : ∃ X,X = W2.drew := ⟨_,rfl⟩
   refine bg W3 hW ?_
   have T3 := Lib.hid (show je _ _ _ _ _ _ _ W3 _ by rw [hW]; exact T2.out.drew)
   clear hW c0 c1 c2 c3 T2 co
   obtain ⟨c0,c1,c2,c3⟩ := ah T3.out.box
   rw [HK.out] at c0
   have co := ak (T3.out.rb.out) HO.out
   have zf := T3.out.rb.blk.frozen (528)
   go_region
   go_upto_region 15 with fail
   have T4 := Lib.hid (T3.out.put (T3.out.rb.aJd y))
   replace T4 := Lib.hid T4.out.drew
   generalize (W3.setCell ⟨m,528,none⟩ (.int .u64 (y : Nat))).drew = W4 at *
   clear c0 c1 c2 c3 zf T3 co
   obtain ⟨c0,c1,c2,c3⟩ := ah T4.out.box
   rw [HK.out] at c0
   have cf := ak (T4.out.rb.free HW.out) HX.out
   have zf := T4.out.rb.blk.frozen (270 + d.w)
   go_region
   go_upto_region 21 with fail
   have T5 := Lib.hid (T4.out.put (T4.out.rb.ab7 HW.out v))
   replace T5 := Lib.hid T5.out.drew
   generalize (W4.setCell ⟨m,270 + d.w,none⟩ (.int .u64 (v : Nat))).drew = W5 at *
   clear c0 c1 c2 c3 zf T4 cf
   go_wp2_with fail
   go_ret
   exact ⟨rfl,qg.yes T5.out.rb,T5.out.fr⟩
theorem ant (h : RB B w m R M sv) (hM : M.Ok) (d : Dd) (hk : d.kind = 4) (hw : d.w < 256) (hv : d.v < 256) (ha : d.a < 18446744073709551616) :
  Calls Tryz.prog 105 #[.pointer (some ⟨m,0,none⟩),.agg (dC d)] w (aGa B w m R sv (aa8 M d.w d.v d.a)) := by
 have HK := Lib.hid hk
 have hf := hM.jy hw
 have htk := hM.uq hw
 have jq := hM.most
 have HW := Lib.hid hw
 have l0 : (d.w : Int) < 256 := by omega
 have hhd := hM.held
 have hhl := hM.yj
 have htot := hM.tok
 have zk := hM.inn
 have ni := hM.paid
 clear hk
 unfold aGa
 have HV := Lib.hid hv
 have lv : (d.v : Int) < 256 := by omega
 have htv := hM.uq hv
 by_cases h1 : 4611686018427387904 < d.a
 ·skip
  have l1 : (4611686018427387904 : Int) < (d.a : Int) := by omega
  rw [show aa8 M d.w d.v d.a = M.no 1 from if_pos (.inr h1)]
  go_enter Tryz.func105,Tryz.ntmps105
  go_upto_region 1 with fail
  refine eu fun W1 N1 => ?_
  have T1 := Lib.hid (je.start h N1 rfl)
  obtain ⟨g,hg⟩ : ∃ g,w.heap.size = g := ⟨_,rfl⟩
  rw [hg] at T1 ⊢
  clear N1 hg h hM hf htk jq hw ha hhd hhl htot zk ni hv htv h1
  obtain ⟨c0,c1,c2,c3⟩ := ah T1.out.box
  rw [HK.out] at c0
  go_wp2_with fail
  go_ret
  exact ⟨rfl,qg.no (show (1 : Int) ≠ 0 by decide),T1.out.fr⟩
 ·have l1 : ¬ (4611686018427387904 : Int) < (d.a : Int) := by omega
  by_cases h3 : d.a = 0
  ·rw [show aa8 M d.w d.v d.a = M.no 1 from if_pos (.inl h3)]
   have HA := Lib.hid h3
   go_enter Tryz.func105,Tryz.ntmps105
   go_upto_region 1 with fail
   refine eu fun W1 N1 => ?_
   have T1 := Lib.hid (je.start h N1 rfl)
   obtain ⟨g,hg⟩ : ∃ g,w.heap.size = g := ⟨_,rfl⟩
   rw [hg] at T1 ⊢
   clear N1 hg h hM hf htk jq hw ha hhd hhl htot zk ni hv htv h1 h3
   obtain ⟨c0,c1,c2,c3⟩ := ah T1.out.box
   rw [HK.out] at c0
   rw [HA.out] at c3
   go_wp2_with fail
   go_ret
   exact ⟨rfl,qg.no (show (1 : Int) ≠ 0 by decide),T1.out.fr⟩
  have b0 : ((d.a : Int) == 0) = false := beq_eq_false_iff_ne.2 (by omega)
  have b0' : (d.a == 0) = false := beq_eq_false_iff_ne.2 h3
  by_cases h2 : M.tok d.w < d.a
  ·rw [show aa8 M d.w d.v d.a = M.no 16 from by unfold aa8; rw [if_neg (by omega),if_pos h2]]
   obtain ⟨xf,hxf⟩ : ∃ z,M.tok d.w = z := ⟨_,rfl⟩
   have q4 : decide ((xf : Int) < (d.a : Int)) = true := decide_eq_true (by omega)
   have q4' : decide (xf < d.a) = true := decide_eq_true (by omega)
   have HX := Lib.hid hxf
   go_enter Tryz.func105,Tryz.ntmps105
   go_upto_region 1 with fail
   refine eu fun W1 N1 => ?_
   have T1 := Lib.hid (je.start h N1 rfl)
   obtain ⟨g,hg⟩ : ∃ g,w.heap.size = g := ⟨_,rfl⟩
   rw [hg] at T1 ⊢
   clear N1 hg h hM hf htk jq hw ha hhd hhl htot zk ni hv htv h1 h2 h3 hxf
   obtain ⟨c0,c1,c2,c3⟩ := ah T1.out.box
   rw [HK.out] at c0
   have cf := ak (T1.out.rb.tok HW.out) HX.out
   go_upto_region 17 with fail
   go_region
   go_upto_region 18 with fail
   obtain ⟨W2,hW⟩ : ∃ X,X = W1.drew := ⟨_,rfl⟩
   refine bg W2 hW ?_
   have T2 := Lib.hid (show je _ _ _ _ _ _ _ W2 _ by rw [hW]; exact T1.out.drew)
   clear hW c0 c1 c2 c3 T1 cf
   go_wp2_with fail
   go_ret
   exact ⟨rfl,qg.no (show (16 : Int) ≠ 0 by decide),T2.out.fr⟩
  ·skip
   obtain ⟨u,hu⟩ : ∃ z,M.tok d.w - d.a = z := ⟨_,rfl⟩
   obtain ⟨y,hy⟩ : ∃ z,upd M.tok d.w u d.v = z := ⟨_,rfl⟩
   obtain ⟨vv,hvv⟩ : ∃ z,y + d.a = z := ⟨_,rfl⟩
   have hyl : y ≤ 4611686018427387904 := by
    rw [← hy]
    unfold upd
    split <;> omega
   rw [show aa8 M d.w d.v d.a = ({ M with tok := upd (upd M.tok d.w u) d.v vv },0,0) from by unfold aa8; rw [if_neg (by omega),if_neg h2,hu,hy,hvv]]
   obtain ⟨xf,hxf⟩ : ∃ z,M.tok d.w = z := ⟨_,rfl⟩
   have q5 : decide ((xf : Int) < (d.a : Int)) = false := decide_eq_false (by omega)
   have q5' : decide (xf < d.a) = false := decide_eq_false (by omega)
   have m2 : IntKind.u64.wrap ((xf : Int) - (d.a : Int)) = ((u : Nat) : Int) := by rw [IntWalk.u64_in _ (by omega)]; omega
   have m3 : IntKind.u64.wrap ((y : Int) + (d.a : Int)) = ((vv : Nat) : Int) := by rw [IntWalk.u64_in _ (by omega)]; omega
   have HX := Lib.hid hxf
   have HY := Lib.hid hy
   go_enter Tryz.func105,Tryz.ntmps105
   go_upto_region 1 with fail
   refine eu fun W1 N1 => ?_
   have T1 := Lib.hid (je.start h N1 rfl)
   obtain ⟨g,hg⟩ : ∃ g,w.heap.size = g := ⟨_,rfl⟩
   rw [hg] at T1 ⊢
   clear N1 hg h hM hf htk jq hw ha hhd hhl htot zk ni hv htv h1 h2 h3 hxf hu hy hvv hyl
   obtain ⟨c0,c1,c2,c3⟩ := ah T1.out.box
   rw [HK.out] at c0
   have cf := ak (T1.out.rb.tok HW.out) HX.out
   go_upto_region 17 with fail
   go_region
   go_upto_region 19 with fail
   obtain ⟨W2,hW⟩ : ∃ X,X = W1.drew := ⟨_,rfl⟩
   refine bg W2 hW ?_
   have T2 := Lib.hid (show je _ _ _ _ _ _ _ W2 _ by rw [hW]; exact T1.out.drew)
   clear hW c0 c1 c2 c3 T1 cf
   obtain ⟨c0,c1,c2,c3⟩ := ah T2.out.box
   rw [HK.out] at c0
   have cf := ak (T2.out.rb.tok HW.out) HX.out
   have zf := T2.out.rb.blk.frozen (14 + d.w)
   go_region
   go_upto_region 20 with fail
   have T3 := Lib.hid (T2.out.put (T2.out.rb.alh HW.out u))
   replace T3 := Lib.hid T3.out.drew
   generalize (W2.setCell ⟨m,14 + d.w,none⟩ (.int .u64 (u : Nat))).drew = W3 at *
   clear c0 c1 c2 c3 zf T2 cf
   obtain ⟨c0,c1,c2,c3⟩ := ah T3.out.box
   rw [HK.out] at c0
   have cf := ak (T3.out.rb.tok HV.out) HY.out
   have zf := T3.out.rb.blk.frozen (14 + d.v)
   go_region
   go_upto_region 21 with fail
   have T4 := Lib.hid (T3.out.put (T3.out.rb.alh HV.out vv))
   replace T4 := Lib.hid T4.out.drew
   generalize (W3.setCell ⟨m,14 + d.v,none⟩ (.int .u64 (vv : Nat))).drew = W4 at *
   clear c0 c1 c2 c3 zf T3 cf
   go_wp2_with fail
   go_ret
   exact ⟨rfl,qg.yes T4.out.rb,T4.out.fr⟩
end
end Go.Proofs.YtohckefafbhooaaGreat
