import Derived.Test.YtohckefafbhooaaGreatR1
import Derived.Test.YtohckefafbhooaaGreatR16
set_option maxRecDepth 100000
set_option maxHeartbeats 64000000
namespace Go.Proofs.YtohckefafbhooaaGreat
set_option linter.unusedVariables false
set_option linter.unusedSimpArgs false
open Go.RowKit
attribute [-go_sem] gq
section
variable {B : Nat} {w w' : World} {m : Nat} {R : Nat → Nat} {M : Bok} {sv : Value}
theorem ah6 (h : RB B w m R M sv) (hM : M.Ok) (d : Dd) (hk : d.kind = 19) (hw : d.w < 256) (ha : d.a < 18446744073709551616) :
  Calls Tryz.prog 107 #[.pointer (some ⟨m,0,none⟩),.agg (dC d)] w (aaq B w m R sv (su M d.w d.a)) := by
 have HK := Lib.hid hk
 have hf := hM.jy hw
 have htk := hM.uq hw
 have jq := hM.most
 have HW := Lib.hid hw
 have l0 : (d.w : Int) < 256 := by omega
 have hhd := hM.held
 have hhl := hM.yj
 have htot := hM.tok
 have zk := hM.inn
 have ni := hM.paid
 clear hk
 unfold aaq
 have hpn : M.pn ≤ 4611686018427387904 := by omega
 have aaz : M.pc ≤ M.held := by omega
 by_cases h1 : 4611686018427387904 < d.a
 ·skip
  have l1 : (4611686018427387904 : Int) < (d.a : Int) := by omega
  have b0 : ((d.a : Int) == 0) = false := beq_eq_false_iff_ne.2 (by omega)
  have b0' : (d.a == 0) = false := beq_eq_false_iff_ne.2 (by omega)
  rw [show su M d.w d.a = M.no 1 from if_pos (.inr h1)]
  go_enter Tryz.func107,Tryz.ntmps107
  go_upto_region 1 with fail
  refine eu fun W1 N1 => ?_
  have T1 := Lib.hid (je.start h N1 rfl)
  obtain ⟨g,hg⟩ : ∃ g,w.heap.size = g := ⟨_,rfl⟩
  rw [hg] at T1 ⊢
  clear N1 hg h hM hf htk jq hw ha hhd hhl htot zk ni hpn aaz h1
  obtain ⟨c0,c1,c2,c3⟩ := ah T1.out.box
  rw [HK.out] at c0
  go_wp2_with fail
  go_ret2
  exact ⟨rfl,qg.no (show (1 : Int) ≠ 0 by decide),T1.out.fr⟩
 ·have l1 : ¬ (4611686018427387904 : Int) < (d.a : Int) := by omega
  by_cases h3 : d.a = 0
  ·rw [show su M d.w d.a = M.no 1 from if_pos (.inl h3)]
   have HA := Lib.hid h3
   go_enter Tryz.func107,Tryz.ntmps107
   go_upto_region 1 with fail
   refine eu fun W1 N1 => ?_
   have T1 := Lib.hid (je.start h N1 rfl)
   obtain ⟨g,hg⟩ : ∃ g,w.heap.size = g := ⟨_,rfl⟩
   rw [hg] at T1 ⊢
   clear N1 hg h hM hf htk jq hw ha hhd hhl htot zk ni hpn aaz h1 h3
   obtain ⟨c0,c1,c2,c3⟩ := ah T1.out.box
   rw [HK.out] at c0
   rw [HA.out] at c3
   go_wp2_with fail
   go_ret2
   exact ⟨rfl,qg.no (show (1 : Int) ≠ 0 by decide),T1.out.fr⟩
  have b0 : ((d.a : Int) == 0) = false := beq_eq_false_iff_ne.2 (by omega)
  have b0' : (d.a == 0) = false := beq_eq_false_iff_ne.2 h3
  by_cases h2 : M.tok d.w < d.a
  ·rw [show su M d.w d.a = M.no 16 from by unfold su; rw [if_neg (by omega),if_pos (.inl h2)]]
   obtain ⟨xt,hxt⟩ : ∃ z,M.tok d.w = z := ⟨_,rfl⟩
   obtain ⟨xn,hxn⟩ : ∃ z,M.pn = z := ⟨_,rfl⟩
   have HT := Lib.hid hxt
   have HN := Lib.hid hxn
   have q6 : decide ((xt : Int) < (d.a : Int)) = true := decide_eq_true (by omega)
   have q6' : decide (xt < d.a) = true := decide_eq_true (by omega)
   go_enter Tryz.func107,Tryz.ntmps107
   go_upto_region 1 with fail
   refine eu fun W1 N1 => ?_
   have T1 := Lib.hid (je.start h N1 rfl)
   obtain ⟨g,hg⟩ : ∃ g,w.heap.size = g := ⟨_,rfl⟩
   rw [hg] at T1 ⊢
   clear N1 hg h hM hf htk jq hw ha hhd hhl htot zk ni hpn aaz h1 h2 h3 hxt hxn
   obtain ⟨c0,c1,c2,c3⟩ := ah T1.out.box
   rw [HK.out] at c0
   have ct := ak (T1.out.rb.tok HW.out) HT.out
   have cn := ak (T1.out.rb.pn) HN.out
   go_upto_region 5 with fail
   go_region
   go_upto_region 6 with fail
   obtain ⟨W2,hW⟩ : ∃ X,X = W1.drew := ⟨_,rfl⟩
   refine bg W2 hW ?_
   have T2 := Lib.hid (show je _ _ _ _ _ _ _ W2 _ by rw [hW]; exact T1.out.drew)
   clear hW c0 c1 c2 c3 T1 ct cn
   go_wp2_with fail
   go_ret2
   exact ⟨rfl,qg.no (show (16 : Int) ≠ 0 by decide),T2.out.fr⟩
  by_cases h4 : M.pn < d.a
  ·rw [show su M d.w d.a = M.no 16 from by unfold su; rw [if_neg (by omega),if_pos (.inr h4)]]
   obtain ⟨xt,hxt⟩ : ∃ z,M.tok d.w = z := ⟨_,rfl⟩
   obtain ⟨xn,hxn⟩ : ∃ z,M.pn = z := ⟨_,rfl⟩
   have HT := Lib.hid hxt
   have HN := Lib.hid hxn
   have q7 : decide ((xt : Int) < (d.a : Int)) = false := decide_eq_false (by omega)
   have q7' : decide (xt < d.a) = false := decide_eq_false (by omega)
   have q8 : decide ((xn : Int) < (d.a : Int)) = true := decide_eq_true (by omega)
   have q8' : decide (xn < d.a) = true := decide_eq_true (by omega)
   go_enter Tryz.func107,Tryz.ntmps107
   go_upto_region 1 with fail
   refine eu fun W1 N1 => ?_
   have T1 := Lib.hid (je.start h N1 rfl)
   obtain ⟨g,hg⟩ : ∃ g,w.heap.size = g := ⟨_,rfl⟩
   rw [hg] at T1 ⊢
   clear N1 hg h hM hf htk jq hw ha hhd hhl htot zk ni hpn aaz h1 h2 h3 h4 hxt hxn
   obtain ⟨c0,c1,c2,c3⟩ := ah T1.out.box
   rw [HK.out] at c0
   have ct := ak (T1.out.rb.tok HW.out) HT.out
   have cn := ak (T1.out.rb.pn) HN.out
   go_upto_region 5 with fail
   go_region
   go_upto_region 6 with fail
   obtain ⟨W2,hW⟩ : ∃ X,X = W1.drew := ⟨_,rfl⟩
   refine bg W2 hW ?_
   have T2 := Lib.hid (show je _ _ _ _ _ _ _ W2 _ by rw [hW]; exact T1.out.drew)
   clear hW c0 c1 c2 c3 T1 ct cn
   go_wp2_with fail
   go_ret2
   exact ⟨rfl,qg.no (show (16 : Int) ≠ 0 by decide),T2.out.fr⟩
  have hsl : M.pc * d.a / M.pn ≤ M.pc := afd (by omega)
  have HQ := Lib.hid (aff M.pc d.a M.pn false (by omega) (by omega) (by omega) (by omega) _ (aq7 _ _) (by omega))
  obtain ⟨s,hs⟩ : ∃ z,M.pc * d.a / M.pn = z := ⟨_,rfl⟩
  rw [hs] at hsl HQ
  obtain ⟨v1,hv1⟩ : ∃ z,M.tok d.w - d.a = z := ⟨_,rfl⟩
  obtain ⟨n1,hn1⟩ : ∃ z,M.pn - d.a = z := ⟨_,rfl⟩
  obtain ⟨p1,hp1⟩ : ∃ z,M.pc - s = z := ⟨_,rfl⟩
  obtain ⟨q1,hq1⟩ : ∃ z,M.held - s = z := ⟨_,rfl⟩
  obtain ⟨f1,hf1⟩ : ∃ z,M.free d.w + s = z := ⟨_,rfl⟩
  rw [show su M d.w d.a = ({ M with tok := upd M.tok d.w v1,pn := n1,pc := p1,held := q1,free := upd M.free d.w f1 },s,0) from by unfold su; rw [if_neg (by omega),if_neg (by omega),hs,hv1,hn1,hp1,hq1,hf1]]
  obtain ⟨xt,hxt⟩ : ∃ z,M.tok d.w = z := ⟨_,rfl⟩
  obtain ⟨xn,hxn⟩ : ∃ z,M.pn = z := ⟨_,rfl⟩
  have HT := Lib.hid hxt
  have HN := Lib.hid hxn
  obtain ⟨xp,hxp⟩ : ∃ z,M.pc = z := ⟨_,rfl⟩
  obtain ⟨xh,hxh⟩ : ∃ z,M.held = z := ⟨_,rfl⟩
  obtain ⟨xf,hxf⟩ : ∃ z,M.free d.w = z := ⟨_,rfl⟩
  rw [hxp,hxn] at HQ
  have HP := Lib.hid hxp
  have HH := Lib.hid hxh
  have HF := Lib.hid hxf
  have q9 : decide ((xt : Int) < (d.a : Int)) = false := decide_eq_false (by omega)
  have q9' : decide (xt < d.a) = false := decide_eq_false (by omega)
  have q10 : decide ((xn : Int) < (d.a : Int)) = false := decide_eq_false (by omega)
  have q10' : decide (xn < d.a) = false := decide_eq_false (by omega)
  have m1 : IntKind.u64.wrap ((xt : Int) - (d.a : Int)) = ((v1 : Nat) : Int) := by rw [IntWalk.u64_in _ (by omega)]; omega
  have m2 : IntKind.u64.wrap ((xn : Int) - (d.a : Int)) = ((n1 : Nat) : Int) := by rw [IntWalk.u64_in _ (by omega)]; omega
  have m3 : IntKind.u64.wrap ((xp : Int) - (s : Int)) = ((p1 : Nat) : Int) := by rw [IntWalk.u64_in _ (by omega)]; omega
  have m4 : IntKind.u64.wrap ((xh : Int) - (s : Int)) = ((q1 : Nat) : Int) := by rw [IntWalk.u64_in _ (by omega)]; omega
  have m5 : IntKind.u64.wrap ((xf : Int) + (s : Int)) = ((f1 : Nat) : Int) := by rw [IntWalk.u64_in _ (by omega)]; omega
  go_enter Tryz.func107,Tryz.ntmps107
  go_upto_region 1 with fail
  refine eu fun W1 N1 => ?_
  have T1 := Lib.hid (je.start h N1 rfl)
  obtain ⟨g,hg⟩ : ∃ g,w.heap.size = g := ⟨_,rfl⟩
  rw [hg] at T1 ⊢
  clear N1 hg h hM hf htk jq hw ha hhd hhl htot zk ni hpn aaz h1 h2 h3 h4 hxt hxn hxp hxh hxf hs hv1 hn1 hp1 hq1 hf1 hsl
  obtain ⟨c0,c1,c2,c3⟩ := ah T1.out.box
  rw [HK.out] at c0
  have ct := ak (T1.out.rb.tok HW.out) HT.out
  have cn := ak (T1.out.rb.pn) HN.out
  go_upto_region 5 with fail
  go_region
  go_upto_region 7 with fail
  obtain ⟨W2,hW⟩ : ∃ X,X = W1.drew := ⟨_,rfl⟩
  refine bg W2 hW ?_
  have T2 := Lib.hid (show je _ _ _ _ _ _ _ W2 _ by rw [hW]; exact T1.out.drew)
  clear hW c0 c1 c2 c3 T1 ct cn
  obtain ⟨c0,c1,c2,c3⟩ := ah T2.out.box
  rw [HK.out] at c0
  have ca := ak (T2.out.rb.pc) HP.out
  have cb := ak (T2.out.rb.pn) HN.out
  refine zn (S := (fun w' => ((w'.cell? ⟨m,529,none⟩ = some (.int .u64 (xp : Int)) ∧ w'.cell? ⟨m,530,none⟩ = some (.int .u64 (xn : Int))) ∧ w'.cell? ⟨g,3,none⟩ = some (.int .u64 (d.a : Int))) ∧ Fr F0 W2 w')) ?_ fun aj => ?_
  ·exact(by ((try dsimp only) <;> (exact ⟨⟨⟨ca,cb⟩,c3⟩,(Fr.refl F0 W2).drew⟩)))
  refine au 0 ?_
  refine au 1 ?_
  refine au 2 ?_
  refine au 3 ?_
  refine au 4 ?_
  refine au 5 ?_
  refine au 6 ?_
  refine au 7 ?_
  refine au 8 ?_
  refine au 9 ?_
  refine zi 10 fun K hK => ?_
  go_simp
  ((with_reducible refine (HQ.out _).mono ?_); rintro e w5 ⟨rfl,f5⟩)
  refine rpu hK (by ((try dsimp only) <;> (first | exact aj | exact ⟨⟨⟨f5.cell (fun e => e) aj.1.1.1,f5.cell (fun e => e) aj.1.1.2⟩,f5.cell (fun e => e) aj.1.2⟩,aj.2.trans' f5⟩))) fun aj => ?_
  clear hK K
  refine au 11 ?_
  refine aap ?_
  have T3 := Lib.hid (T2.out.fr0 aj.2)
  clear f5 aj HQ ca cb c0 c1 c2 c3 T2
  go_upto_region 8 with fail
  obtain ⟨c0,c1,c2,c3⟩ := ah T3.out.box
  rw [HK.out] at c0
  have ct := ak (T3.out.rb.tok HW.out) HT.out
  have zf := T3.out.rb.blk.frozen (14 + d.w)
  go_region
  go_upto_region 9 with fail
  have T4 := Lib.hid (T3.out.put (T3.out.rb.alh HW.out v1))
  replace T4 := Lib.hid T4.out.drew
  generalize (w5.setCell ⟨m,14 + d.w,none⟩ (.int .u64 (v1 : Nat))).drew = W4 at *
  clear c0 c1 c2 c3 zf T3 ct
  obtain ⟨c0,c1,c2,c3⟩ := ah T4.out.box
  rw [HK.out] at c0
  have cn := ak (T4.out.rb.pn) HN.out
  have zf := T4.out.rb.blk.frozen (530)
  go_region
  go_upto_region 10 with fail
  have T5 := Lib.hid (T4.out.put (T4.out.rb.ale n1))
  replace T5 := Lib.hid T5.out.drew
  generalize (W4.setCell ⟨m,530,none⟩ (.int .u64 (n1 : Nat))).drew = W5 at *
  clear c0 c1 c2 c3 zf T4 cn
  obtain ⟨c0,c1,c2,c3⟩ := ah T5.out.box
  rw [HK.out] at c0
  have cp := ak (T5.out.rb.pc) HP.out
  have zf := T5.out.rb.blk.frozen (529)
  go_upto_region 11 with fail
  have T6 := Lib.hid (T5.out.put (T5.out.rb.aom p1))
  generalize (W5.setCell ⟨m,529,none⟩ (.int .u64 (p1 : Nat))) = W6 at *
  clear c0 c1 c2 c3 zf T5 cp
  obtain ⟨c0,c1,c2,c3⟩ := ah T6.out.box
  rw [HK.out] at c0
  have ch := ak (T6.out.rb.held) HH.out
  have zf := T6.out.rb.blk.frozen (526)
  go_upto_region 12 with fail
  have T7 := Lib.hid (T6.out.put (T6.out.rb.adx q1))
  generalize (W6.setCell ⟨m,526,none⟩ (.int .u64 (q1 : Nat))) = W7 at *
  clear c0 c1 c2 c3 zf T6 ch
  obtain ⟨c0,c1,c2,c3⟩ := ah T7.out.box
  rw [HK.out] at c0
  have cf := ak (T7.out.rb.free HW.out) HF.out
  have zf := T7.out.rb.blk.frozen (270 + d.w)
  go_region
  go_upto_region 13 with fail
  have T8 := Lib.hid (T7.out.put (T7.out.rb.ab7 HW.out f1))
  replace T8 := Lib.hid T8.out.drew
  generalize (W7.setCell ⟨m,270 + d.w,none⟩ (.int .u64 (f1 : Nat))).drew = W8 at *
  clear c0 c1 c2 c3 zf T7 cf
  go_wp2_with fail
  go_ret2
  exact ⟨rfl,qg.yes T8.out.rb,T8.out.fr⟩
end
end Go.Proofs.YtohckefafbhooaaGreat
