import Derived.Test.YtohckefafbhooaaGreatR15
set_option maxRecDepth 100000
set_option maxHeartbeats 64000000
namespace Go.Proofs.YtohckefafbhooaaGreat
set_option linter.unusedVariables false
set_option linter.unusedSimpArgs false
open Go.RowKit
attribute [-go_sem] gq
section
variable {B : Nat} {w w' : World} {m : Nat} {R : Nat → Nat} {M : Bok} {sv : Value}
theorem ahr (h : RB B w m R M sv) (hM : M.Ok) (d : Dd) (hk : d.kind = 20) (hw : d.w < 256) (ha : d.a < 18446744073709551616) :
  Calls Tryz.prog 107 #[.pointer (some ⟨m,0,none⟩),.agg (dC d)] w (aaq B w m R sv (qj M d.w d.a)) := by
 have HK := Lib.hid hk
 have hf := hM.jy hw
 have htk := hM.uq hw
 have jq := hM.most
 have HW := Lib.hid hw
 have l0 : (d.w : Int) < 256 := by omega
 have hhd := hM.held
 have hhl := hM.yj
 have htot := hM.tok
 have zk := hM.inn
 have ni := hM.paid
 clear hk
 unfold aaq
 by_cases h1 : 4611686018427387904 < d.a
 ·skip
  have l1 : (4611686018427387904 : Int) < (d.a : Int) := by omega
  have b0 : ((d.a : Int) == 0) = false := beq_eq_false_iff_ne.2 (by omega)
  have b0' : (d.a == 0) = false := beq_eq_false_iff_ne.2 (by omega)
  rw [show qj M d.w d.a = M.no 1 from if_pos (.inr h1)]
  go_enter Tryz.func107,Tryz.ntmps107
  go_upto_region 1 with fail
  refine eu fun W1 N1 => ?_
  have T1 := Lib.hid (je.start h N1 rfl)
  obtain ⟨g,hg⟩ : ∃ g,w.heap.size = g := ⟨_,rfl⟩
  rw [hg] at T1 ⊢
  clear N1 hg h hM hf htk jq hw ha hhd hhl htot zk ni h1
  obtain ⟨c0,c1,c2,c3⟩ := ah T1.out.box
  rw [HK.out] at c0
  go_wp2_with fail
  go_ret2
  exact ⟨rfl,qg.no (show (1 : Int) ≠ 0 by decide),T1.out.fr⟩
 ·have l1 : ¬ (4611686018427387904 : Int) < (d.a : Int) := by omega
  by_cases h3 : d.a = 0
  ·rw [show qj M d.w d.a = M.no 1 from if_pos (.inl h3)]
   have HA := Lib.hid h3
   go_enter Tryz.func107,Tryz.ntmps107
   go_upto_region 1 with fail
   refine eu fun W1 N1 => ?_
   have T1 := Lib.hid (je.start h N1 rfl)
   obtain ⟨g,hg⟩ : ∃ g,w.heap.size = g := ⟨_,rfl⟩
   rw [hg] at T1 ⊢
   clear N1 hg h hM hf htk jq hw ha hhd hhl htot zk ni h1 h3
   obtain ⟨c0,c1,c2,c3⟩ := ah T1.out.box
   rw [HK.out] at c0
   rw [HA.out] at c3
   go_wp2_with fail
   go_ret2
   exact ⟨rfl,qg.no (show (1 : Int) ≠ 0 by decide),T1.out.fr⟩
  have b0 : ((d.a : Int) == 0) = false := beq_eq_false_iff_ne.2 (by omega)
  have b0' : (d.a == 0) = false := beq_eq_false_iff_ne.2 h3
  by_cases h2 : M.free d.w < d.a
  ·rw [show qj M d.w d.a = M.no 16 from by unfold qj; rw [if_neg (by omega),if_pos h2]]
   obtain ⟨xf,hxf⟩ : ∃ z,M.free d.w = z := ⟨_,rfl⟩
   have q6 : decide ((xf : Int) < (d.a : Int)) = true := decide_eq_true (by omega)
   have q6' : decide (xf < d.a) = true := decide_eq_true (by omega)
   have HX := Lib.hid hxf
   go_enter Tryz.func107,Tryz.ntmps107
   go_upto_region 1 with fail
   refine eu fun W1 N1 => ?_
   have T1 := Lib.hid (je.start h N1 rfl)
   obtain ⟨g,hg⟩ : ∃ g,w.heap.size = g := ⟨_,rfl⟩
   rw [hg] at T1 ⊢
   clear N1 hg h hM hf htk jq hw ha hhd hhl htot zk ni h1 h2 h3 hxf
   obtain ⟨c0,c1,c2,c3⟩ := ah T1.out.box
   rw [HK.out] at c0
   have cf := ak (T1.out.rb.free HW.out) HX.out
   go_upto_region 15 with fail
   go_region
   go_upto_region 16 with fail
   obtain ⟨W2,hW⟩ : ∃ X,X = W1.drew := ⟨_,rfl⟩
   refine bg W2 hW ?_
   have T2 := Lib.hid (show je _ _ _ _ _ _ _ W2 _ by rw [hW]; exact T1.out.drew)
   clear hW c0 c1 c2 c3 T1 cf
   go_wp2_with fail
   go_ret2
   exact ⟨rfl,qg.no (show (16 : Int) ≠ 0 by decide),T2.out.fr⟩
  ·skip
   obtain ⟨v,hv⟩ : ∃ z,M.free d.w - d.a = z := ⟨_,rfl⟩
   obtain ⟨y,hy⟩ : ∃ z,M.held + d.a = z := ⟨_,rfl⟩
   obtain ⟨u,hu⟩ : ∃ z,M.dep + d.a = z := ⟨_,rfl⟩
   rw [show qj M d.w d.a = ({ M with free := upd M.free d.w v,held := y,dep := u },0,0) from by unfold qj; rw [if_neg (by omega),if_neg h2,hv,hy,hu]]
   obtain ⟨xf,hxf⟩ : ∃ z,M.free d.w = z := ⟨_,rfl⟩
   obtain ⟨xh,hxh⟩ : ∃ z,M.held = z := ⟨_,rfl⟩
   obtain ⟨xd,hxd⟩ : ∃ z,M.dep = z := ⟨_,rfl⟩
   have q7 : decide ((xf : Int) < (d.a : Int)) = false := decide_eq_false (by omega)
   have q7' : decide (xf < d.a) = false := decide_eq_false (by omega)
   have m2 : IntKind.u64.wrap ((xf : Int) - (d.a : Int)) = ((v : Nat) : Int) := by rw [IntWalk.u64_in _ (by omega)]; omega
   have m3 : IntKind.u64.wrap ((xh : Int) + (d.a : Int)) = ((y : Nat) : Int) := by rw [IntWalk.u64_in _ (by omega)]; omega
   have m4 : IntKind.u64.wrap ((xd : Int) + (d.a : Int)) = ((u : Nat) : Int) := by rw [IntWalk.u64_in _ (by omega)]; omega
   have HX := Lib.hid hxf
   have HH := Lib.hid hxh
   have HD := Lib.hid hxd
   go_enter Tryz.func107,Tryz.ntmps107
   go_upto_region 1 with fail
   refine eu fun W1 N1 => ?_
   have T1 := Lib.hid (je.start h N1 rfl)
   obtain ⟨g,hg⟩ : ∃ g,w.heap.size = g := ⟨_,rfl⟩
   rw [hg] at T1 ⊢
   clear N1 hg h hM hf htk jq hw ha hhd hhl htot zk ni h1 h2 h3 hxf hxh hxd hv hy hu
   obtain ⟨c0,c1,c2,c3⟩ := ah T1.out.box
   rw [HK.out] at c0
   have cf := ak (T1.out.rb.free HW.out) HX.out
   go_upto_region 15 with fail
   go_region
   go_upto_region 17 with fail
   obtain ⟨W2,hW⟩ : ∃ X,X = W1.drew := ⟨_,rfl⟩
   refine bg W2 hW ?_
   have T2 := Lib.hid (show je _ _ _ _ _ _ _ W2 _ by rw [hW]; exact T1.out.drew)
   clear hW c0 c1 c2 c3 T1 cf
   obtain ⟨c0,c1,c2,c3⟩ := ah T2.out.box
   rw [HK.out] at c0
   have cf := ak (T2.out.rb.free HW.out) HX.out
   have zf := T2.out.rb.blk.frozen (270 + d.w)
   go_region
   go_upto_region 18 with fail
   have T3 := Lib.hid (T2.out.put (T2.out.rb.ab7 HW.out v))
   replace T3 := Lib.hid T3.out.drew
   generalize (W2.setCell ⟨m,270 + d.w,none⟩ (.int .u64 (v : Nat))).drew = W3 at *
   clear c0 c1 c2 c3 zf T2 cf
   obtain ⟨c0,c1,c2,c3⟩ := ah T3.out.box
   rw [HK.out] at c0
   have ch := ak (T3.out.rb.held) HH.out
   have zf := T3.out.rb.blk.frozen (526)
   go_region
   go_upto_region 19 with fail
   have T4 := Lib.hid (T3.out.put (T3.out.rb.adx y))
   replace T4 := Lib.hid T4.out.drew
   generalize (W3.setCell ⟨m,526,none⟩ (.int .u64 (y : Nat))).drew = W4 at *
   clear c0 c1 c2 c3 zf T3 ch
   obtain ⟨c0,c1,c2,c3⟩ := ah T4.out.box
   rw [HK.out] at c0
   have cd := ak (T4.out.rb.dep) HD.out
   have zf := T4.out.rb.blk.frozen (532)
   go_region
   go_upto_region 26 with fail
   have T5 := Lib.hid (T4.out.put (T4.out.rb.ali u))
   replace T5 := Lib.hid T5.out.drew
   generalize (W4.setCell ⟨m,532,none⟩ (.int .u64 (u : Nat))).drew = W5 at *
   clear c0 c1 c2 c3 zf T4 cd
   go_wp2_with fail
   go_ret2
   exact ⟨rfl,qg.yes T5.out.rb,T5.out.fr⟩
theorem ah5 (h : RB B w m R M sv) (hM : M.Ok) (d : Dd) (hk : d.kind = 21) (hw : d.w < 256) (ha : d.a < 18446744073709551616) :
  Calls Tryz.prog 107 #[.pointer (some ⟨m,0,none⟩),.agg (dC d)] w (aaq B w m R sv (uz M d.w d.a)) := by
 have HK := Lib.hid hk
 have hf := hM.jy hw
 have htk := hM.uq hw
 have jq := hM.most
 have HW := Lib.hid hw
 have l0 : (d.w : Int) < 256 := by omega
 have hhd := hM.held
 have hhl := hM.yj
 have htot := hM.tok
 have zk := hM.inn
 have ni := hM.paid
 clear hk
 unfold aaq
 by_cases h1 : 4611686018427387904 < d.a
 ·skip
  have l1 : (4611686018427387904 : Int) < (d.a : Int) := by omega
  have b0 : ((d.a : Int) == 0) = false := beq_eq_false_iff_ne.2 (by omega)
  have b0' : (d.a == 0) = false := beq_eq_false_iff_ne.2 (by omega)
  rw [show uz M d.w d.a = M.no 1 from if_pos (.inr h1)]
  go_enter Tryz.func107,Tryz.ntmps107
  go_upto_region 1 with fail
  refine eu fun W1 N1 => ?_
  have T1 := Lib.hid (je.start h N1 rfl)
  obtain ⟨g,hg⟩ : ∃ g,w.heap.size = g := ⟨_,rfl⟩
  rw [hg] at T1 ⊢
  clear N1 hg h hM hf htk jq hw ha hhd hhl htot zk ni h1
  obtain ⟨c0,c1,c2,c3⟩ := ah T1.out.box
  rw [HK.out] at c0
  go_wp2_with fail
  go_ret2
  exact ⟨rfl,qg.no (show (1 : Int) ≠ 0 by decide),T1.out.fr⟩
 ·have l1 : ¬ (4611686018427387904 : Int) < (d.a : Int) := by omega
  by_cases h3 : d.a = 0
  ·rw [show uz M d.w d.a = M.no 1 from if_pos (.inl h3)]
   have HA := Lib.hid h3
   go_enter Tryz.func107,Tryz.ntmps107
   go_upto_region 1 with fail
   refine eu fun W1 N1 => ?_
   have T1 := Lib.hid (je.start h N1 rfl)
   obtain ⟨g,hg⟩ : ∃ g,w.heap.size = g := ⟨_,rfl⟩
   rw [hg] at T1 ⊢
   clear N1 hg h hM hf htk jq hw ha hhd hhl htot zk ni h1 h3
   obtain ⟨c0,c1,c2,c3⟩ := ah T1.out.box
   rw [HK.out] at c0
   rw [HA.out] at c3
   go_wp2_with fail
   go_ret2
   exact ⟨rfl,qg.no (show (1 : Int) ≠ 0 by decide),T1.out.fr⟩
  have b0 : ((d.a : Int) == 0) = false := beq_eq_false_iff_ne.2 (by omega)
  have b0' : (d.a == 0) = false := beq_eq_false_iff_ne.2 h3
  by_cases h2 : M.dep < d.a
  ·rw [show uz M d.w d.a = M.no 16 from by unfold uz; rw [if_neg (by omega),if_pos h2]]
   obtain ⟨xd,hxd⟩ : ∃ z,M.dep = z := ⟨_,rfl⟩
   have q8 : decide ((xd : Int) < (d.a : Int)) = true := decide_eq_true (by omega)
   have q8' : decide (xd < d.a) = true := decide_eq_true (by omega)
   have HD := Lib.hid hxd
   go_enter Tryz.func107,Tryz.ntmps107
   go_upto_region 1 with fail
   refine eu fun W1 N1 => ?_
   have T1 := Lib.hid (je.start h N1 rfl)
   obtain ⟨g,hg⟩ : ∃ g,w.heap.size = g := ⟨_,rfl⟩
   rw [hg] at T1 ⊢
   clear N1 hg h hM hf htk jq hw ha hhd hhl htot zk ni h1 h2 h3 hxd
   obtain ⟨c0,c1,c2,c3⟩ := ah T1.out.box
   rw [HK.out] at c0
   have cd := ak (T1.out.rb.dep) HD.out
   go_upto_region 21 with fail
   go_region
   go_upto_region 22 with fail
   obtain ⟨W2,hW⟩ : ∃ X,X = W1.drew := ⟨_,rfl⟩
   refine bg W2 hW ?_
   have T2 := Lib.hid (show je _ _ _ _ _ _ _ W2 _ by rw [hW]; exact T1.out.drew)
   clear hW c0 c1 c2 c3 T1 cd
   go_wp2_with fail
   go_ret2
   exact ⟨rfl,qg.no (show (16 : Int) ≠ 0 by decide),T2.out.fr⟩
  ·skip
   obtain ⟨v,hv⟩ : ∃ z,M.free d.w + d.a = z := ⟨_,rfl⟩
   obtain ⟨y,hy⟩ : ∃ z,M.held - d.a = z := ⟨_,rfl⟩
   obtain ⟨u,hu⟩ : ∃ z,M.dep - d.a = z := ⟨_,rfl⟩
   rw [show uz M d.w d.a = ({ M with dep := u,held := y,free := upd M.free d.w v },0,0) from by unfold uz; rw [if_neg (by omega),if_neg h2,hv,hy,hu]]
   obtain ⟨xf,hxf⟩ : ∃ z,M.free d.w = z := ⟨_,rfl⟩
   obtain ⟨xh,hxh⟩ : ∃ z,M.held = z := ⟨_,rfl⟩
   obtain ⟨xd,hxd⟩ : ∃ z,M.dep = z := ⟨_,rfl⟩
   have q9 : decide ((xd : Int) < (d.a : Int)) = false := decide_eq_false (by omega)
   have q9' : decide (xd < d.a) = false := decide_eq_false (by omega)
   have m2 : IntKind.u64.wrap ((xf : Int) + (d.a : Int)) = ((v : Nat) : Int) := by rw [IntWalk.u64_in _ (by omega)]; omega
   have m3 : IntKind.u64.wrap ((xh : Int) - (d.a : Int)) = ((y : Nat) : Int) := by rw [IntWalk.u64_in _ (by omega)]; omega
   have m4 : IntKind.u64.wrap ((xd : Int) - (d.a : Int)) = ((u : Nat) : Int) := by rw [IntWalk.u64_in _ (by omega)]; omega
   have HX := Lib.hid hxf
   have HH := Lib.hid hxh
   have HD := Lib.hid hxd
   go_enter Tryz.func107,Tryz.ntmps107
   go_upto_region 1 with fail
   refine eu fun W1 N1 => ?_
   have T1 := Lib.hid (je.start h N1 rfl)
   obtain ⟨g,hg⟩ : ∃ g,w.heap.size = g := ⟨_,rfl⟩
   rw [hg] at T1 ⊢
   clear N1 hg h hM hf htk jq hw ha hhd hhl htot zk ni h1 h2 h3 hxf hxh hxd hv hy hu
   obtain ⟨c0,c1,c2,c3⟩ := ah T1.out.box
   rw [HK.out] at c0
   have cd := ak (T1.out.rb.dep) HD.out
   go_upto_region 21 with fail
   go_region
   go_upto_region 23 with fail
   obtain ⟨W2,hW⟩ : ∃ X,X = W1.drew := ⟨_,rfl⟩
   refine bg W2 hW ?_
   have T2 := Lib.hid (show je _ _ _ _ _ _ _ W2 _ by rw [hW]; exact T1.out.drew)
   clear hW c0 c1 c2 c3 T1 cd
   obtain ⟨c0,c1,c2,c3⟩ := ah T2.out.box
   rw [HK.out] at c0
   have cd := ak (T2.out.rb.dep) HD.out
   have zf := T2.out.rb.blk.frozen (532)
   go_region
   go_upto_region 24 with fail
   have T3 := Lib.hid (T2.out.put (T2.out.rb.ali u))
   replace T3 := Lib.hid T3.out.drew
   generalize (W2.setCell ⟨m,532,none⟩ (.int .u64 (u : Nat))).drew = W3 at *
   clear c0 c1 c2 c3 zf T2 cd
   obtain ⟨c0,c1,c2,c3⟩ := ah T3.out.box
   rw [HK.out] at c0
   have ch := ak (T3.out.rb.held) HH.out
   have zf := T3.out.rb.blk.frozen (526)
   go_region
   go_upto_region 25 with fail
   have T4 := Lib.hid (T3.out.put (T3.out.rb.adx y))
   replace T4 := Lib.hid T4.out.drew
   generalize (W3.setCell ⟨m,526,none⟩ (.int .u64 (y : Nat))).drew = W4 at *
   clear c0 c1 c2 c3 zf T3 ch
   obtain ⟨c0,c1,c2,c3⟩ := ah T4.out.box
   rw [HK.out] at c0
   have cf := ak (T4.out.rb.free HW.out) HX.out
   have zf := T4.out.rb.blk.frozen (270 + d.w)
   go_region
   go_upto_region 26 with fail
   have T5 := Lib.hid (T4.out.put (T4.out.rb.ab7 HW.out v))
   replace T5 := Lib.hid T5.out.drew
   generalize (W4.setCell ⟨m,270 + d.w,none⟩ (.int .u64 (v : Nat))).drew = W5 at *
   clear c0 c1 c2 c3 zf T4 cf
   go_wp2_with fail
   go_ret2
   exact ⟨rfl,qg.yes T5.out.rb,T5.out.fr⟩
end
end Go.Proofs.YtohckefafbhooaaGreat
