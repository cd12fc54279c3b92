import Derived.Test.YtohckefafbhooaaGreatR1
import Derived.Test.YtohckefafbhooaaGreatR16
set_option maxRecDepth 100000
set_option maxHeartbeats 64000000
namespace Go.Proofs.YtohckefafbhooaaGreat
set_option linter.unusedVariables false
set_option linter.unusedSimpArgs false
open Go.RowKit
attribute [-go_sem] gq
section
variable {B : Nat} {w w' : World} {m : Nat} {R : Nat → Nat} {M : Bok} {sv : Value}
theorem anq {gv nv cv : Nat} {x : Vlt} (h : RB B w m R M (.slice (some ⟨gv,0,none⟩) nv cv)) (hM : M.Ok) (d : Dd) (hk : d.kind = 18) (hw : d.w < 256) (hv : d.v < 256) (ha : d.a < 18446744073709551616) (hx : M.vs[atV M.vs d.w]? = some x) (he : opE M d.w 1 false = 0) :
  Calls Tryz.prog 108 #[.pointer (some ⟨m,0,none⟩),.agg (dC d)] w (aaq B w m R (.slice (some ⟨gv,0,none⟩) nv cv) (ah0 M (atV M.vs d.w) x)) := by
 have HK := Lib.hid hk
 have hf := hM.jy hw
 have hfv := hM.jy hv
 have htk := hM.uq hw
 have htv := hM.uq hv
 have jq := hM.most
 have HW := Lib.hid hw
 have HV := Lib.hid hv
 have l0 : (d.w : Int) < 256 := by omega
 have lv : (d.v : Int) < 256 := by omega
 have hhd := hM.held
 have hhl := hM.yj
 have htot := hM.tok
 have zk := hM.inn
 have ni := hM.paid
 have aaj := hM.now
 have aa5 := hM.price
 have hlen := hM.len
 have aaz : M.pc + x.coll ≤ M.held := by have := qx Vlt.coll M.vs x (jh hx); omega
 have hpos := ab3 he
 have hxo := hM.vok x (jh hx)
 have hb := hxo.bur
 unfold Vlt.bur at hb
 have hlx := hxo.lea
 have hcl := hM.uf hx
 have HO := Lib.hid (fun (W : World) (rb : RB B W m R M (.slice (some ⟨gv,0,none⟩) nv cv)) => xk rb (by omega) d.w 1 false hx he)
 have hxw := zq hx
 obtain ⟨j,hj⟩ : ∃ j,atV M.vs d.w = j := ⟨_,rfl⟩
 rw [hj] at HO hx ⊢
 have HX := Lib.hid hx
 clear hj hk
 unfold aaq
 replace HO : Hid (∀ (W : World),RB B W m R M (.slice (some ⟨gv,0,none⟩) nv cv) → Calls Tryz.prog 136 #[.pointer (some ⟨m,0,none⟩),.int .i64 (d.w : Int),.int .u64 1,.bool false] W _) := HO
 have hkl := aqy x
 obtain ⟨kp,hkp⟩ : ∃ z,kpN x = z := ⟨_,rfl⟩
 obtain ⟨dk,hdk⟩ : ∃ z,x.coll - kp = z := ⟨_,rfl⟩
 obtain ⟨pq,hpq⟩ : ∃ z,M.pc + dk = z := ⟨_,rfl⟩
 obtain ⟨pz,hpz⟩ : ∃ z,M.pn + x.iss = z := ⟨_,rfl⟩
 rw [show ah0 M j x = ({ M.uh j { x with coll := kp,iss := 0,lea := 0,fal := true } with pc := pq,pn := pz },0,0) from by unfold ah0; rw [hkp,hdk,hpq,hpz]]
 have hil := hM.aJ2 hx
 by_cases h4 : 0 < x.goi
 ·skip
  obtain ⟨xi,hxi⟩ : ∃ z,x.iss = z := ⟨_,rfl⟩
  obtain ⟨xm,hxm⟩ : ∃ z,x.com = z := ⟨_,rfl⟩
  obtain ⟨xg,hxg⟩ : ∃ z,x.goi = z := ⟨_,rfl⟩
  obtain ⟨xl,hxl⟩ : ∃ z,x.lea = z := ⟨_,rfl⟩
  obtain ⟨xc,hxc⟩ : ∃ z,x.coll = z := ⟨_,rfl⟩
  obtain ⟨s1,hs1⟩ : ∃ z,xi + xm = z := ⟨_,rfl⟩
  obtain ⟨s2,hs2⟩ : ∃ z,s1 + xg = z := ⟨_,rfl⟩
  have mb1 : IntKind.u64.wrap ((xi : Int) + (xm : Int)) = ((s1 : Nat) : Int) := by rw [IntWalk.u64_in _ (by omega)]; omega
  have mb2 : IntKind.u64.wrap ((s1 : Int) + (xg : Int)) = ((s2 : Nat) : Int) := by rw [IntWalk.u64_in _ (by omega)]; omega
  have HI := Lib.hid hxi
  have HCm := Lib.hid hxm
  have HG := Lib.hid hxg
  have HLe := Lib.hid hxl
  have HCo := Lib.hid hxc
  obtain ⟨xp,hxp⟩ : ∃ z,M.pc = z := ⟨_,rfl⟩
  obtain ⟨xn,hxn⟩ : ∃ z,M.pn = z := ⟨_,rfl⟩
  have HP := Lib.hid hxp
  have HN := Lib.hid hxn
  have q1 : decide ((0 : Int) < (xg : Int)) = true := decide_eq_true (by omega)
  have q1' : decide (0 < xg) = true := decide_eq_true (by omega)
  have z0 : ((0 : Nat) : Int) = 0 := rfl
  have m2 : IntKind.u64.wrap ((xc : Int) - (kp : Int)) = ((dk : Nat) : Int) := by rw [IntWalk.u64_in _ (by omega)]; omega
  have m3 : IntKind.u64.wrap ((xp : Int) + (dk : Int)) = ((pq : Nat) : Int) := by rw [IntWalk.u64_in _ (by omega)]; omega
  have m4 : IntKind.u64.wrap ((xn : Int) + (xi : Int)) = ((pz : Nat) : Int) := by rw [IntWalk.u64_in _ (by omega)]; omega
  obtain ⟨sg,hsg⟩ : ∃ z,xi + xg = z := ⟨_,rfl⟩
  have m5 : IntKind.u64.wrap ((xi : Int) + (xg : Int)) = ((sg : Nat) : Int) := by rw [IntWalk.u64_in _ (by omega)]; omega
  have HQ := Lib.hid (aff xc xg sg true (by omega) (by omega) (by omega) (by omega) kp (by rw [aJk]; have e := hkp; unfold kpN at e; rw [hxg,hxc,hxi,hsg,if_pos (show 0 < xg by omega)] at e; exact e) (by omega))
  go_enter Tryz.func108,Tryz.ntmps108
  go_upto_region 1 with fail
  refine eu fun W1 N1 => ?_
  have T1 := Lib.hid (je.start h N1 rfl)
  obtain ⟨g,hg⟩ : ∃ g,w.heap.size = g := ⟨_,rfl⟩
  rw [hg] at T1 ⊢
  clear N1 hg h hM hf htk jq hw ha hhd hhl htot zk ni hv hx he hpos hxo hb hlx hcl hlen hfv htv aaj aa5 aaz hxi hxm hxg hxl hxc hs1 hs2 hxw h4 hdk hpq hpz hxp hxn hkl hil hkp hsg
  obtain ⟨c0,c1,c2,c3⟩ := ah T1.out.box
  rw [HK.out] at c0
  go_wp2_with fail
  (with_reducible refine (HO.out _ T1.out.rb).mono ?_); rintro e W2 ⟨rfl,f2⟩
  have T2 := Lib.hid (T1.out.fr0 f2)
  clear f2 c0 c1 c2 c3 T1
  clear HO
  obtain ⟨c0,c1,c2,c3⟩ := ah T2.out.box
  rw [HK.out] at c0
  have ci := ak (RB.field T2.out.rb.vs HX.out 1 rfl) HI.out
  have cm := ak (RB.field T2.out.rb.vs HX.out 2 rfl) HCm.out
  have cg := ak (RB.field T2.out.rb.vs HX.out 3 rfl) HG.out
  go_upto_region 8 with fail
  go_region
  go_upto_region 9 with fail
  obtain ⟨W3,hW⟩ : ∃ X,X = W2.drew := ⟨_,rfl⟩
  refine bg W3 hW ?_
  have T3 := Lib.hid (show je _ _ _ _ _ _ _ W3 _ by rw [hW]; exact T2.out.drew)
  clear hW c0 c1 c2 c3 ci cm cg T2
  obtain ⟨c0,c1,c2,c3⟩ := ah T3.out.box
  rw [HK.out] at c0
  have cz := ak (RB.field T3.out.rb.vs HX.out 3 rfl) HG.out
  go_upto_region 85 with fail
  clear c0 c1 c2 c3 cz
  have ca := ak (RB.field T3.out.rb.vs HX.out 0 rfl) HCo.out
  have cb := ak (RB.field T3.out.rb.vs HX.out 3 rfl) HG.out
  have cd := ak (RB.field T3.out.rb.vs HX.out 1 rfl) HI.out
  refine zn (S := (fun w' => ((w'.cell? ⟨gv,j * 27 + (21 + 0),none⟩ = some (.int .u64 (xc : Int)) ∧ w'.cell? ⟨gv,j * 27 + (21 + 3),none⟩ = some (.int .u64 (xg : Int))) ∧ w'.cell? ⟨gv,j * 27 + (21 + 1),none⟩ = some (.int .u64 (xi : Int))) ∧ Fr F0 W3 w')) ?_ fun aj => ?_
  ·exact(by ((try dsimp only) <;> (exact ⟨⟨⟨ca,cb⟩,cd⟩,(Fr.refl F0 W3).drew⟩)))
  refine au 0 ?_
  refine au 1 ?_
  refine au 2 ?_
  refine au 3 ?_
  refine au 4 ?_
  refine au 5 ?_
  refine au 6 ?_
  refine au 7 ?_
  refine au 8 ?_
  refine au 9 ?_
  refine au 10 ?_
  refine au 11 ?_
  refine au 12 ?_
  refine au 13 ?_
  refine au 14 ?_
  refine au 15 ?_
  refine au 16 ?_
  refine zi 17 fun K hK => ?_
  go_simp
  ((with_reducible refine (HQ.out _).mono ?_); rintro e w5 ⟨rfl,f5⟩)
  refine rpu hK (by ((try dsimp only) <;> (first | exact aj | exact ⟨⟨⟨f5.cell (fun e => e) aj.1.1.1,f5.cell (fun e => e) aj.1.1.2⟩,f5.cell (fun e => e) aj.1.2⟩,aj.2.trans' f5⟩))) fun aj => ?_
  clear hK K
  refine au 18 ?_
  refine aap ?_
  have T4 := Lib.hid (T3.out.fr0 aj.2)
  clear f5 aj HQ ca cb cd T3
  go_upto_region 86 with fail
  obtain ⟨c0,c1,c2,c3⟩ := ah T4.out.box
  rw [HK.out] at c0
  have cp := ak (T4.out.rb.pc) HP.out
  have ca := ak (RB.field T4.out.rb.vs HX.out 0 rfl) HCo.out
  have zf := T4.out.rb.blk.frozen 529
  go_region
  go_upto_region 87 with fail
  have T5 := Lib.hid (T4.out.put (T4.out.rb.aom pq))
  replace T5 := Lib.hid T5.out.drew
  generalize (w5.setCell ⟨m,529,none⟩ (.int .u64 (pq : Nat))).drew = W5 at *
  clear c0 c1 c2 c3 cp ca zf T4
  obtain ⟨c0,c1,c2,c3⟩ := ah T5.out.box
  rw [HK.out] at c0
  have cp := ak (T5.out.rb.pn) HN.out
  have ca := ak (RB.field T5.out.rb.vs HX.out 1 rfl) HI.out
  have zf := T5.out.rb.blk.frozen 530
  go_region
  go_upto_region 88 with fail
  have T6 := Lib.hid (T5.out.put (T5.out.rb.ale pz))
  replace T6 := Lib.hid T6.out.drew
  generalize (W5.setCell ⟨m,530,none⟩ (.int .u64 (pz : Nat))).drew = W6 at *
  clear c0 c1 c2 c3 cp ca zf T5
  obtain ⟨c0,c1,c2,c3⟩ := ah T6.out.box
  rw [HK.out] at c0
  have cc := ak (RB.field T6.out.rb.vs HX.out 0 rfl) HCo.out
  have zf := T6.out.rb.og (j * 27 + (21 + 0))
  go_upto_region 89 with fail
  have T7 := Lib.hid (T6.out.uh (T6.out.rb.ac8 HX.out 0 (by omega) (u := .int .u64 (kp : Nat)) (y := { x with coll := kp }) (by rw [jl]; rfl)))
  replace T7 : Hid (je _ _ _ _ _ _ _ (W6.setCell ⟨gv,j * 27 + 21,none⟩ (.int .u64 (kp : Nat))) _) := T7
  try rw [qm] at T7
  try rw [ql] at T7
  generalize (W6.setCell ⟨gv,j * 27 + 21,none⟩ (.int .u64 (kp : Nat))) = W7 at *
  have HX7 := Lib.hid (lq (y := { x with coll := kp }) HX.out)
  try rw [qm] at HX7
  try rw [ql] at HX7
  clear c0 c1 c2 c3 zf T6 cc
  obtain ⟨c0,c1,c2,c3⟩ := ah T7.out.box
  rw [HK.out] at c0
  have cc := ak (RB.field T7.out.rb.vs HX7.out 1 rfl) HI.out
  have zf := T7.out.rb.og (j * 27 + (21 + 1))
  go_upto_region 90 with fail
  have T8 := Lib.hid (T7.out.uh (T7.out.rb.ac8 HX7.out 1 (by omega) (u := .int .u64 0) (y := { x with coll := kp,iss := 0 }) (by rw [jl]; rfl)))
  replace T8 : Hid (je _ _ _ _ _ _ _ (W7.setCell ⟨gv,j * 27 + 22,none⟩ (.int .u64 0)) _) := T8
  try rw [qm] at T8
  try rw [ql] at T8
  generalize (W7.setCell ⟨gv,j * 27 + 22,none⟩ (.int .u64 0)) = W8 at *
  have HX8 := Lib.hid (lq (y := { x with coll := kp,iss := 0 }) HX7.out)
  try rw [qm] at HX8
  try rw [ql] at HX8
  clear c0 c1 c2 c3 zf T7 cc
  obtain ⟨c0,c1,c2,c3⟩ := ah T8.out.box
  rw [HK.out] at c0
  have cc := ak (RB.field T8.out.rb.vs HX8.out 4 rfl) HLe.out
  have zf := T8.out.rb.og (j * 27 + (21 + 4))
  go_upto_region 91 with fail
  have T9 := Lib.hid (T8.out.uh (T8.out.rb.ac8 HX8.out 4 (by omega) (u := .int .u64 0) (y := { x with coll := kp,iss := 0,lea := 0 }) (by rw [jl]; rfl)))
  replace T9 : Hid (je _ _ _ _ _ _ _ (W8.setCell ⟨gv,j * 27 + 25,none⟩ (.int .u64 0)) _) := T9
  try rw [qm] at T9
  try rw [ql] at T9
  generalize (W8.setCell ⟨gv,j * 27 + 25,none⟩ (.int .u64 0)) = W9 at *
  have HX9 := Lib.hid (lq (y := { x with coll := kp,iss := 0,lea := 0 }) HX8.out)
  try rw [qm] at HX9
  try rw [ql] at HX9
  clear c0 c1 c2 c3 zf T8 cc
  obtain ⟨c0,c1,c2,c3⟩ := ah T9.out.box
  rw [HK.out] at c0
  have cc := RB.field T9.out.rb.vs HX9.out 5 rfl
  have zf := T9.out.rb.og (j * 27 + (21 + 5))
  go_upto_region 92 with fail
  have T10 := Lib.hid (T9.out.uh (T9.out.rb.ac8 HX9.out 5 (by omega) (u := .bool true) (y := { x with coll := kp,iss := 0,lea := 0,fal := true }) (by rw [jl]; rfl)))
  replace T10 : Hid (je _ _ _ _ _ _ _ (W9.setCell ⟨gv,j * 27 + 26,none⟩ (.bool true)) _) := T10
  try rw [qm] at T10
  try rw [ql] at T10
  generalize (W9.setCell ⟨gv,j * 27 + 26,none⟩ (.bool true)) = W10 at *
  have HX10 := Lib.hid (lq (y := { x with coll := kp,iss := 0,lea := 0,fal := true }) HX9.out)
  try rw [qm] at HX10
  try rw [ql] at HX10
  clear c0 c1 c2 c3 zf T9 cc
  go_wp2_with fail
  go_ret2
  exact ⟨rfl,qg.yes T10.out.rb,T10.out.fr⟩
 ·have hk0 : kp = 0 := by rw [← hkp]; unfold kpN; rw [if_neg h4]
  subst hk0
  obtain ⟨xi,hxi⟩ : ∃ z,x.iss = z := ⟨_,rfl⟩
  obtain ⟨xm,hxm⟩ : ∃ z,x.com = z := ⟨_,rfl⟩
  obtain ⟨xg,hxg⟩ : ∃ z,x.goi = z := ⟨_,rfl⟩
  obtain ⟨xl,hxl⟩ : ∃ z,x.lea = z := ⟨_,rfl⟩
  obtain ⟨xc,hxc⟩ : ∃ z,x.coll = z := ⟨_,rfl⟩
  obtain ⟨s1,hs1⟩ : ∃ z,xi + xm = z := ⟨_,rfl⟩
  obtain ⟨s2,hs2⟩ : ∃ z,s1 + xg = z := ⟨_,rfl⟩
  have mb1 : IntKind.u64.wrap ((xi : Int) + (xm : Int)) = ((s1 : Nat) : Int) := by rw [IntWalk.u64_in _ (by omega)]; omega
  have mb2 : IntKind.u64.wrap ((s1 : Int) + (xg : Int)) = ((s2 : Nat) : Int) := by rw [IntWalk.u64_in _ (by omega)]; omega
  have HI := Lib.hid hxi
  have HCm := Lib.hid hxm
  have HG := Lib.hid hxg
  have HLe := Lib.hid hxl
  have HCo := Lib.hid hxc
  obtain ⟨xp,hxp⟩ : ∃ z,M.pc = z := ⟨_,rfl⟩
  obtain ⟨xn,hxn⟩ : ∃ z,M.pn = z := ⟨_,rfl⟩
  have HP := Lib.hid hxp
  have HN := Lib.hid hxn
  have q2 : decide ((0 : Int) < (xg : Int)) = false := decide_eq_false (by omega)
  have q2' : decide (0 < xg) = false := decide_eq_false (by omega)
  have z0 : ((0 : Nat) : Int) = 0 := rfl
  have m2 : IntKind.u64.wrap (xc : Int) = (dk : Int) := by rw [IntWalk.u64_in _ (by omega)]; omega
  have m3 : IntKind.u64.wrap ((xp : Int) + (dk : Int)) = ((pq : Nat) : Int) := by rw [IntWalk.u64_in _ (by omega)]; omega
  have m4 : IntKind.u64.wrap ((xn : Int) + (xi : Int)) = ((pz : Nat) : Int) := by rw [IntWalk.u64_in _ (by omega)]; omega
  go_enter Tryz.func108,Tryz.ntmps108
  go_upto_region 1 with fail
  refine eu fun W1 N1 => ?_
  have T1 := Lib.hid (je.start h N1 rfl)
  obtain ⟨g,hg⟩ : ∃ g,w.heap.size = g := ⟨_,rfl⟩
  rw [hg] at T1 ⊢
  clear N1 hg h hM hf htk jq hw ha hhd hhl htot zk ni hv hx he hpos hxo hb hlx hcl hlen hfv htv aaj aa5 aaz hxi hxm hxg hxl hxc hs1 hs2 hxw h4 hdk hpq hpz hxp hxn hkl hil hkp
  obtain ⟨c0,c1,c2,c3⟩ := ah T1.out.box
  rw [HK.out] at c0
  go_wp2_with fail
  (with_reducible refine (HO.out _ T1.out.rb).mono ?_); rintro e W2 ⟨rfl,f2⟩
  have T2 := Lib.hid (T1.out.fr0 f2)
  clear f2 c0 c1 c2 c3 T1
  clear HO
  obtain ⟨c0,c1,c2,c3⟩ := ah T2.out.box
  rw [HK.out] at c0
  have ci := ak (RB.field T2.out.rb.vs HX.out 1 rfl) HI.out
  have cm := ak (RB.field T2.out.rb.vs HX.out 2 rfl) HCm.out
  have cg := ak (RB.field T2.out.rb.vs HX.out 3 rfl) HG.out
  go_upto_region 8 with fail
  go_region
  go_upto_region 9 with fail
  obtain ⟨W3,hW⟩ : ∃ X,X = W2.drew := ⟨_,rfl⟩
  refine bg W3 hW ?_
  have T3 := Lib.hid (show je _ _ _ _ _ _ _ W3 _ by rw [hW]; exact T2.out.drew)
  clear hW c0 c1 c2 c3 ci cm cg T2
  obtain ⟨c0,c1,c2,c3⟩ := ah T3.out.box
  rw [HK.out] at c0
  have cz := ak (RB.field T3.out.rb.vs HX.out 3 rfl) HG.out
  go_upto_region 86 with fail
  clear c0 c1 c2 c3 cz
  obtain ⟨c0,c1,c2,c3⟩ := ah T3.out.box
  rw [HK.out] at c0
  have cp := ak (T3.out.rb.pc) HP.out
  have ca := ak (RB.field T3.out.rb.vs HX.out 0 rfl) HCo.out
  have zf := T3.out.rb.blk.frozen 529
  go_region
  go_upto_region 87 with fail
  have T4 := Lib.hid (T3.out.put (T3.out.rb.aom pq))
  replace T4 := Lib.hid T4.out.drew
  generalize (W3.setCell ⟨m,529,none⟩ (.int .u64 (pq : Nat))).drew = W4 at *
  clear c0 c1 c2 c3 cp ca zf T3
  obtain ⟨c0,c1,c2,c3⟩ := ah T4.out.box
  rw [HK.out] at c0
  have cp := ak (T4.out.rb.pn) HN.out
  have ca := ak (RB.field T4.out.rb.vs HX.out 1 rfl) HI.out
  have zf := T4.out.rb.blk.frozen 530
  go_region
  go_upto_region 88 with fail
  have T5 := Lib.hid (T4.out.put (T4.out.rb.ale pz))
  replace T5 := Lib.hid T5.out.drew
  generalize (W4.setCell ⟨m,530,none⟩ (.int .u64 (pz : Nat))).drew = W5 at *
  clear c0 c1 c2 c3 cp ca zf T4
  obtain ⟨c0,c1,c2,c3⟩ := ah T5.out.box
  rw [HK.out] at c0
  have cc := ak (RB.field T5.out.rb.vs HX.out 0 rfl) HCo.out
  have zf := T5.out.rb.og (j * 27 + (21 + 0))
  go_upto_region 89 with fail
  have T6 := Lib.hid (T5.out.uh (T5.out.rb.ac8 HX.out 0 (by omega) (u := .int .u64 0) (y := { x with coll := 0 }) (by rw [jl]; rfl)))
  replace T6 : Hid (je _ _ _ _ _ _ _ (W5.setCell ⟨gv,j * 27 + 21,none⟩ (.int .u64 0)) _) := T6
  try rw [qm] at T6
  try rw [ql] at T6
  generalize (W5.setCell ⟨gv,j * 27 + 21,none⟩ (.int .u64 0)) = W6 at *
  have HX6 := Lib.hid (lq (y := { x with coll := 0 }) HX.out)
  try rw [qm] at HX6
  try rw [ql] at HX6
  clear c0 c1 c2 c3 zf T5 cc
  obtain ⟨c0,c1,c2,c3⟩ := ah T6.out.box
  rw [HK.out] at c0
  have cc := ak (RB.field T6.out.rb.vs HX6.out 1 rfl) HI.out
  have zf := T6.out.rb.og (j * 27 + (21 + 1))
  go_upto_region 90 with fail
  have T7 := Lib.hid (T6.out.uh (T6.out.rb.ac8 HX6.out 1 (by omega) (u := .int .u64 0) (y := { x with coll := 0,iss := 0 }) (by rw [jl]; rfl)))
  replace T7 : Hid (je _ _ _ _ _ _ _ (W6.setCell ⟨gv,j * 27 + 22,none⟩ (.int .u64 0)) _) := T7
  try rw [qm] at T7
  try rw [ql] at T7
  generalize (W6.setCell ⟨gv,j * 27 + 22,none⟩ (.int .u64 0)) = W7 at *
  have HX7 := Lib.hid (lq (y := { x with coll := 0,iss := 0 }) HX6.out)
  try rw [qm] at HX7
  try rw [ql] at HX7
  clear c0 c1 c2 c3 zf T6 cc
  obtain ⟨c0,c1,c2,c3⟩ := ah T7.out.box
  rw [HK.out] at c0
  have cc := ak (RB.field T7.out.rb.vs HX7.out 4 rfl) HLe.out
  have zf := T7.out.rb.og (j * 27 + (21 + 4))
  go_upto_region 91 with fail
  have T8 := Lib.hid (T7.out.uh (T7.out.rb.ac8 HX7.out 4 (by omega) (u := .int .u64 0) (y := { x with coll := 0,iss := 0,lea := 0 }) (by rw [jl]; rfl)))
  replace T8 : Hid (je _ _ _ _ _ _ _ (W7.setCell ⟨gv,j * 27 + 25,none⟩ (.int .u64 0)) _) := T8
  try rw [qm] at T8
  try rw [ql] at T8
  generalize (W7.setCell ⟨gv,j * 27 + 25,none⟩ (.int .u64 0)) = W8 at *
  have HX8 := Lib.hid (lq (y := { x with coll := 0,iss := 0,lea := 0 }) HX7.out)
  try rw [qm] at HX8
  try rw [ql] at HX8
  clear c0 c1 c2 c3 zf T7 cc
  obtain ⟨c0,c1,c2,c3⟩ := ah T8.out.box
  rw [HK.out] at c0
  have cc := RB.field T8.out.rb.vs HX8.out 5 rfl
  have zf := T8.out.rb.og (j * 27 + (21 + 5))
  go_upto_region 92 with fail
  have T9 := Lib.hid (T8.out.uh (T8.out.rb.ac8 HX8.out 5 (by omega) (u := .bool true) (y := { x with coll := 0,iss := 0,lea := 0,fal := true }) (by rw [jl]; rfl)))
  replace T9 : Hid (je _ _ _ _ _ _ _ (W8.setCell ⟨gv,j * 27 + 26,none⟩ (.bool true)) _) := T9
  try rw [qm] at T9
  try rw [ql] at T9
  generalize (W8.setCell ⟨gv,j * 27 + 26,none⟩ (.bool true)) = W9 at *
  have HX9 := Lib.hid (lq (y := { x with coll := 0,iss := 0,lea := 0,fal := true }) HX8.out)
  try rw [qm] at HX9
  try rw [ql] at HX9
  clear c0 c1 c2 c3 zf T8 cc
  go_wp2_with fail
  go_ret2
  exact ⟨rfl,qg.yes T9.out.rb,T9.out.fr⟩
end
end Go.Proofs.YtohckefafbhooaaGreat
