import Derived.Test.YtohckefafbhooaaGreatR16
set_option maxRecDepth 100000
set_option maxHeartbeats 64000000
namespace Go.Proofs.YtohckefafbhooaaGreat
set_option linter.unusedVariables false
set_option linter.unusedSimpArgs false
open Go.RowKit
attribute [-go_sem] gq
section
variable {B : Nat} {w w' : World} {m : Nat} {R : Nat → Nat} {M : Bok} {sv : Value}
theorem ahp {gv nv cv : Nat} {x : Vlt} (h : RB B w m R M (.slice (some ⟨gv,0,none⟩) nv cv)) (hM : M.Ok) (d : Dd) (hk : d.kind = 8) (hw : d.w < 256) (hv : d.v < 256) (ha : d.a < 18446744073709551616) (hx : M.vs[atV M.vs d.w]? = some x) (he : opE M d.w d.a false = 0) (hR : R 0 < 18446744073709551616) :
  Calls Tryz.prog 108 #[.pointer (some ⟨m,0,none⟩),.agg (dC d)] w (aaq B w m R (.slice (some ⟨gv,0,none⟩) nv cv) (uo R M d.a (atV M.vs d.w) x)) := by
 have HK := Lib.hid hk
 have hf := hM.jy hw
 have hfv := hM.jy hv
 have htk := hM.uq hw
 have htv := hM.uq hv
 have jq := hM.most
 have HW := Lib.hid hw
 have HV := Lib.hid hv
 have l0 : (d.w : Int) < 256 := by omega
 have lv : (d.v : Int) < 256 := by omega
 have hhd := hM.held
 have hhl := hM.yj
 have htot := hM.tok
 have zk := hM.inn
 have ni := hM.paid
 have aaj := hM.now
 have aa5 := hM.price
 have hlen := hM.len
 have aaz : M.pc + x.coll ≤ M.held := by have := qx Vlt.coll M.vs x (jh hx); omega
 have hpos := ab3 he
 have hxo := hM.vok x (jh hx)
 have hb := hxo.bur
 unfold Vlt.bur at hb
 have hlx := hxo.lea
 have hcl := hM.uf hx
 have HO := Lib.hid (fun (W : World) (rb : RB B W m R M (.slice (some ⟨gv,0,none⟩) nv cv)) => xk rb (by omega) d.w d.a false hx he)
 have hxw := zq hx
 obtain ⟨j,hj⟩ : ∃ j,atV M.vs d.w = j := ⟨_,rfl⟩
 rw [hj] at HO hx ⊢
 have HX := Lib.hid hx
 clear hj hk
 unfold aaq
 have aIv : x.bur = x.iss + x.com + x.goi := rfl
 obtain ⟨q,hq⟩ : ∃ z,x.bur + d.a = z := ⟨_,rfl⟩
 obtain ⟨E,hE⟩ : ∃ z,ahw R M x.coll q = z := ⟨_,rfl⟩
 by_cases h5 : E = 0
 ·skip
  obtain ⟨u,hu⟩ : ∃ z,x.com + d.a = z := ⟨_,rfl⟩
  rw [show uo R M d.a j x = (M.uh j { x with com := u },0,0) from by unfold uo; rw [hq,hE,if_pos h5,hu]]
  obtain ⟨xi,hxi⟩ : ∃ z,x.iss = z := ⟨_,rfl⟩
  obtain ⟨xm,hxm⟩ : ∃ z,x.com = z := ⟨_,rfl⟩
  obtain ⟨xg,hxg⟩ : ∃ z,x.goi = z := ⟨_,rfl⟩
  obtain ⟨xl,hxl⟩ : ∃ z,x.lea = z := ⟨_,rfl⟩
  obtain ⟨xc,hxc⟩ : ∃ z,x.coll = z := ⟨_,rfl⟩
  obtain ⟨s1,hs1⟩ : ∃ z,xi + xm = z := ⟨_,rfl⟩
  obtain ⟨s2,hs2⟩ : ∃ z,s1 + xg = z := ⟨_,rfl⟩
  have mb1 : IntKind.u64.wrap ((xi : Int) + (xm : Int)) = ((s1 : Nat) : Int) := by rw [IntWalk.u64_in _ (by omega)]; omega
  have mb2 : IntKind.u64.wrap ((s1 : Int) + (xg : Int)) = ((s2 : Nat) : Int) := by rw [IntWalk.u64_in _ (by omega)]; omega
  have HI := Lib.hid hxi
  have HCm := Lib.hid hxm
  have HG := Lib.hid hxg
  have HLe := Lib.hid hxl
  have HCo := Lib.hid hxc
  have m2 : IntKind.u64.wrap ((s2 : Int) + (d.a : Int)) = ((q : Nat) : Int) := by rw [IntWalk.u64_in _ (by omega)]; omega
  have m3 : IntKind.u64.wrap ((xm : Int) + (d.a : Int)) = ((u : Nat) : Int) := by rw [IntWalk.u64_in _ (by omega)]; omega
  rw [h5] at hE
  rw [hxc] at hE
  have HE := Lib.hid (fun (W : World) (rb : RB B W m R M (.slice (some ⟨gv,0,none⟩) nv cv)) => aby rb aaj aa5 hR xc q (by omega) (by omega))
  rw [hE] at HE
  go_enter Tryz.func108,Tryz.ntmps108
  go_upto_region 1 with fail
  refine eu fun W1 N1 => ?_
  have T1 := Lib.hid (je.start h N1 rfl)
  obtain ⟨g,hg⟩ : ∃ g,w.heap.size = g := ⟨_,rfl⟩
  rw [hg] at T1 ⊢
  clear N1 hg h hM hf htk jq hw ha hhd hhl htot zk ni hv hx he hpos hxo hb hlx hcl hlen hfv htv aaj aa5 aaz hxi hxm hxg hxl hxc hs1 hs2 hxw hu hE aIv h5 hR hq
  obtain ⟨c0,c1,c2,c3⟩ := ah T1.out.box
  rw [HK.out] at c0
  go_wp2_with fail
  (with_reducible refine (HO.out _ T1.out.rb).mono ?_); rintro e W2 ⟨rfl,f2⟩
  have T2 := Lib.hid (T1.out.fr0 f2)
  clear f2 c0 c1 c2 c3 T1
  clear HO
  obtain ⟨c0,c1,c2,c3⟩ := ah T2.out.box
  rw [HK.out] at c0
  have ci := ak (RB.field T2.out.rb.vs HX.out 1 rfl) HI.out
  have cm := ak (RB.field T2.out.rb.vs HX.out 2 rfl) HCm.out
  have cg := ak (RB.field T2.out.rb.vs HX.out 3 rfl) HG.out
  go_upto_region 8 with fail
  go_region
  go_upto_region 9 with fail
  obtain ⟨W3,hW⟩ : ∃ X,X = W2.drew := ⟨_,rfl⟩
  refine bg W3 hW ?_
  have T3 := Lib.hid (show je _ _ _ _ _ _ _ W3 _ by rw [hW]; exact T2.out.drew)
  clear hW c0 c1 c2 c3 ci cm cg T2
  obtain ⟨c0,c1,c2,c3⟩ := ah T3.out.box
  rw [HK.out] at c0
  have cc := ak (RB.field T3.out.rb.vs HX.out 0 rfl) HCo.out
  go_wp2_with fail
  (with_reducible refine (HE.out _ T3.out.rb).mono ?_); rintro e W4 ⟨rfl,f2⟩
  have T4 := Lib.hid (T3.out.fr0 f2)
  clear f2 c0 c1 c2 c3 T3 cc
  clear HE
  go_upto_region 29 with fail
  obtain ⟨c0,c1,c2,c3⟩ := ah T4.out.box
  rw [HK.out] at c0
  have cc := ak (RB.field T4.out.rb.vs HX.out 2 rfl) HCm.out
  have zf := T4.out.rb.og (j * 27 + (21 + 2))
  go_upto_region 92 with fail
  have T5 := Lib.hid (T4.out.uh (T4.out.rb.ac8 HX.out 2 (by omega) (u := .int .u64 (u : Nat)) (y := { x with com := u }) (by rw [jl]; rfl)))
  replace T5 : Hid (je _ _ _ _ _ _ _ (W4.setCell ⟨gv,j * 27 + 23,none⟩ (.int .u64 (u : Nat))) _) := T5
  try rw [qm] at T5
  try rw [ql] at T5
  generalize (W4.setCell ⟨gv,j * 27 + 23,none⟩ (.int .u64 (u : Nat))) = W5 at *
  have HX5 := Lib.hid (lq (y := { x with com := u }) HX.out)
  clear c0 c1 c2 c3 zf T4 cc
  go_wp2_with fail
  go_ret2
  exact ⟨rfl,qg.yes T5.out.rb,T5.out.fr⟩
 ·rw [show uo R M d.a j x = M.no E from by unfold uo; rw [hq,hE,if_neg h5]]
  obtain ⟨xi,hxi⟩ : ∃ z,x.iss = z := ⟨_,rfl⟩
  obtain ⟨xm,hxm⟩ : ∃ z,x.com = z := ⟨_,rfl⟩
  obtain ⟨xg,hxg⟩ : ∃ z,x.goi = z := ⟨_,rfl⟩
  obtain ⟨xl,hxl⟩ : ∃ z,x.lea = z := ⟨_,rfl⟩
  obtain ⟨xc,hxc⟩ : ∃ z,x.coll = z := ⟨_,rfl⟩
  obtain ⟨s1,hs1⟩ : ∃ z,xi + xm = z := ⟨_,rfl⟩
  obtain ⟨s2,hs2⟩ : ∃ z,s1 + xg = z := ⟨_,rfl⟩
  have mb1 : IntKind.u64.wrap ((xi : Int) + (xm : Int)) = ((s1 : Nat) : Int) := by rw [IntWalk.u64_in _ (by omega)]; omega
  have mb2 : IntKind.u64.wrap ((s1 : Int) + (xg : Int)) = ((s2 : Nat) : Int) := by rw [IntWalk.u64_in _ (by omega)]; omega
  have HI := Lib.hid hxi
  have HCm := Lib.hid hxm
  have HG := Lib.hid hxg
  have HLe := Lib.hid hxl
  have HCo := Lib.hid hxc
  have m2 : IntKind.u64.wrap ((s2 : Int) + (d.a : Int)) = ((q : Nat) : Int) := by rw [IntWalk.u64_in _ (by omega)]; omega
  rw [hxc] at hE
  have HE := Lib.hid (fun (W : World) (rb : RB B W m R M (.slice (some ⟨gv,0,none⟩) nv cv)) => aby rb aaj aa5 hR xc q (by omega) (by omega))
  rw [hE] at HE
  have b0 : (E != 0) = true := bne_iff_ne.2 h5
  have H5 := Lib.hid h5
  go_enter Tryz.func108,Tryz.ntmps108
  go_upto_region 1 with fail
  refine eu fun W1 N1 => ?_
  have T1 := Lib.hid (je.start h N1 rfl)
  obtain ⟨g,hg⟩ : ∃ g,w.heap.size = g := ⟨_,rfl⟩
  rw [hg] at T1 ⊢
  clear N1 hg h hM hf htk jq hw ha hhd hhl htot zk ni hv hx he hpos hxo hb hlx hcl hlen hfv htv aaj aa5 aaz hxi hxm hxg hxl hxc hs1 hs2 hxw hE aIv h5 hR hq
  obtain ⟨c0,c1,c2,c3⟩ := ah T1.out.box
  rw [HK.out] at c0
  go_wp2_with fail
  (with_reducible refine (HO.out _ T1.out.rb).mono ?_); rintro e W2 ⟨rfl,f2⟩
  have T2 := Lib.hid (T1.out.fr0 f2)
  clear f2 c0 c1 c2 c3 T1
  clear HO
  obtain ⟨c0,c1,c2,c3⟩ := ah T2.out.box
  rw [HK.out] at c0
  have ci := ak (RB.field T2.out.rb.vs HX.out 1 rfl) HI.out
  have cm := ak (RB.field T2.out.rb.vs HX.out 2 rfl) HCm.out
  have cg := ak (RB.field T2.out.rb.vs HX.out 3 rfl) HG.out
  go_upto_region 8 with fail
  go_region
  go_upto_region 9 with fail
  obtain ⟨W3,hW⟩ : ∃ X,X = W2.drew := ⟨_,rfl⟩
  refine bg W3 hW ?_
  have T3 := Lib.hid (show je _ _ _ _ _ _ _ W3 _ by rw [hW]; exact T2.out.drew)
  clear hW c0 c1 c2 c3 ci cm cg T2
  obtain ⟨c0,c1,c2,c3⟩ := ah T3.out.box
  rw [HK.out] at c0
  have cc := ak (RB.field T3.out.rb.vs HX.out 0 rfl) HCo.out
  go_wp2_with fail
  (with_reducible refine (HE.out _ T3.out.rb).mono ?_); rintro e W4 ⟨rfl,f2⟩
  have T4 := Lib.hid (T3.out.fr0 f2)
  clear f2 c0 c1 c2 c3 T3 cc
  clear HE
  go_wp2_with fail
  go_ret2
  exact ⟨rfl,qg.no H5.out,T4.out.fr⟩
theorem ahq {gv nv cv : Nat} {x : Vlt} (h : RB B w m R M (.slice (some ⟨gv,0,none⟩) nv cv)) (hM : M.Ok) (d : Dd) (hk : d.kind = 9) (hw : d.w < 256) (hv : d.v < 256) (ha : d.a < 18446744073709551616) (hx : M.vs[atV M.vs d.w]? = some x) (he : opE M d.w d.a true = 0) :
  Calls Tryz.prog 108 #[.pointer (some ⟨m,0,none⟩),.agg (dC d)] w (aaq B w m R (.slice (some ⟨gv,0,none⟩) nv cv) (zy M d.a (atV M.vs d.w) x)) := by
 have HK := Lib.hid hk
 have hf := hM.jy hw
 have hfv := hM.jy hv
 have htk := hM.uq hw
 have htv := hM.uq hv
 have jq := hM.most
 have HW := Lib.hid hw
 have HV := Lib.hid hv
 have l0 : (d.w : Int) < 256 := by omega
 have lv : (d.v : Int) < 256 := by omega
 have hhd := hM.held
 have hhl := hM.yj
 have htot := hM.tok
 have zk := hM.inn
 have ni := hM.paid
 have aaj := hM.now
 have aa5 := hM.price
 have hlen := hM.len
 have aaz : M.pc + x.coll ≤ M.held := by have := qx Vlt.coll M.vs x (jh hx); omega
 have hpos := ab3 he
 have hxo := hM.vok x (jh hx)
 have hb := hxo.bur
 unfold Vlt.bur at hb
 have hlx := hxo.lea
 have hcl := hM.uf hx
 have HO := Lib.hid (fun (W : World) (rb : RB B W m R M (.slice (some ⟨gv,0,none⟩) nv cv)) => xk rb (by omega) d.w d.a true hx he)
 have hxw := zq hx
 obtain ⟨j,hj⟩ : ∃ j,atV M.vs d.w = j := ⟨_,rfl⟩
 rw [hj] at HO hx ⊢
 have HX := Lib.hid hx
 clear hj hk
 unfold aaq
 by_cases h2 : x.com < d.a
 ·rw [show zy M d.a j x = M.no 16 from if_pos h2]
  obtain ⟨xi,hxi⟩ : ∃ z,x.iss = z := ⟨_,rfl⟩
  obtain ⟨xm,hxm⟩ : ∃ z,x.com = z := ⟨_,rfl⟩
  obtain ⟨xg,hxg⟩ : ∃ z,x.goi = z := ⟨_,rfl⟩
  obtain ⟨xl,hxl⟩ : ∃ z,x.lea = z := ⟨_,rfl⟩
  obtain ⟨xc,hxc⟩ : ∃ z,x.coll = z := ⟨_,rfl⟩
  obtain ⟨s1,hs1⟩ : ∃ z,xi + xm = z := ⟨_,rfl⟩
  obtain ⟨s2,hs2⟩ : ∃ z,s1 + xg = z := ⟨_,rfl⟩
  have mb1 : IntKind.u64.wrap ((xi : Int) + (xm : Int)) = ((s1 : Nat) : Int) := by rw [IntWalk.u64_in _ (by omega)]; omega
  have mb2 : IntKind.u64.wrap ((s1 : Int) + (xg : Int)) = ((s2 : Nat) : Int) := by rw [IntWalk.u64_in _ (by omega)]; omega
  have HI := Lib.hid hxi
  have HCm := Lib.hid hxm
  have HG := Lib.hid hxg
  have HLe := Lib.hid hxl
  have HCo := Lib.hid hxc
  have q4 : decide ((xm : Int) < (d.a : Int)) = true := decide_eq_true (by omega)
  have q4' : decide (xm < d.a) = true := decide_eq_true (by omega)
  go_enter Tryz.func108,Tryz.ntmps108
  go_upto_region 1 with fail
  refine eu fun W1 N1 => ?_
  have T1 := Lib.hid (je.start h N1 rfl)
  obtain ⟨g,hg⟩ : ∃ g,w.heap.size = g := ⟨_,rfl⟩
  rw [hg] at T1 ⊢
  clear N1 hg h hM hf htk jq hw ha hhd hhl htot zk ni hv hx he hpos hxo hb hlx hcl hlen hfv htv aaj aa5 aaz hxi hxm hxg hxl hxc hs1 hs2 hxw h2
  obtain ⟨c0,c1,c2,c3⟩ := ah T1.out.box
  rw [HK.out] at c0
  go_wp2_with fail
  (with_reducible refine (HO.out _ T1.out.rb).mono ?_); rintro e W2 ⟨rfl,f2⟩
  have T2 := Lib.hid (T1.out.fr0 f2)
  clear f2 c0 c1 c2 c3 T1
  clear HO
  obtain ⟨c0,c1,c2,c3⟩ := ah T2.out.box
  rw [HK.out] at c0
  have ci := ak (RB.field T2.out.rb.vs HX.out 1 rfl) HI.out
  have cm := ak (RB.field T2.out.rb.vs HX.out 2 rfl) HCm.out
  have cg := ak (RB.field T2.out.rb.vs HX.out 3 rfl) HG.out
  go_upto_region 8 with fail
  go_region
  go_upto_region 9 with fail
  obtain ⟨W3,hW⟩ : ∃ X,X = W2.drew := ⟨_,rfl⟩
  refine bg W3 hW ?_
  have T3 := Lib.hid (show je _ _ _ _ _ _ _ W3 _ by rw [hW]; exact T2.out.drew)
  clear hW c0 c1 c2 c3 ci cm cg T2
  obtain ⟨c0,c1,c2,c3⟩ := ah T3.out.box
  rw [HK.out] at c0
  have cz := ak (RB.field T3.out.rb.vs HX.out 2 rfl) HCm.out
  go_upto_region 32 with fail
  go_upto_region 33 with fail
  clear c0 c1 c2 c3 cz
  go_wp2_with fail
  go_ret2
  exact ⟨rfl,qg.no (show (16 : Int) ≠ 0 by decide),T3.out.fr⟩
 ·skip
  obtain ⟨u,hu⟩ : ∃ z,x.com - d.a = z := ⟨_,rfl⟩
  rw [show zy M d.a j x = (M.uh j { x with com := u },0,0) from by unfold zy; rw [if_neg h2,hu]]
  obtain ⟨xi,hxi⟩ : ∃ z,x.iss = z := ⟨_,rfl⟩
  obtain ⟨xm,hxm⟩ : ∃ z,x.com = z := ⟨_,rfl⟩
  obtain ⟨xg,hxg⟩ : ∃ z,x.goi = z := ⟨_,rfl⟩
  obtain ⟨xl,hxl⟩ : ∃ z,x.lea = z := ⟨_,rfl⟩
  obtain ⟨xc,hxc⟩ : ∃ z,x.coll = z := ⟨_,rfl⟩
  obtain ⟨s1,hs1⟩ : ∃ z,xi + xm = z := ⟨_,rfl⟩
  obtain ⟨s2,hs2⟩ : ∃ z,s1 + xg = z := ⟨_,rfl⟩
  have mb1 : IntKind.u64.wrap ((xi : Int) + (xm : Int)) = ((s1 : Nat) : Int) := by rw [IntWalk.u64_in _ (by omega)]; omega
  have mb2 : IntKind.u64.wrap ((s1 : Int) + (xg : Int)) = ((s2 : Nat) : Int) := by rw [IntWalk.u64_in _ (by omega)]; omega
  have HI := Lib.hid hxi
  have HCm := Lib.hid hxm
  have HG := Lib.hid hxg
  have HLe := Lib.hid hxl
  have HCo := Lib.hid hxc
  have q5 : decide ((xm : Int) < (d.a : Int)) = false := decide_eq_false (by omega)
  have q5' : decide (xm < d.a) = false := decide_eq_false (by omega)
  have m2 : IntKind.u64.wrap ((xm : Int) - (d.a : Int)) = ((u : Nat) : Int) := by rw [IntWalk.u64_in _ (by omega)]; omega
  go_enter Tryz.func108,Tryz.ntmps108
  go_upto_region 1 with fail
  refine eu fun W1 N1 => ?_
  have T1 := Lib.hid (je.start h N1 rfl)
  obtain ⟨g,hg⟩ : ∃ g,w.heap.size = g := ⟨_,rfl⟩
  rw [hg] at T1 ⊢
  clear N1 hg h hM hf htk jq hw ha hhd hhl htot zk ni hv hx he hpos hxo hb hlx hcl hlen hfv htv aaj aa5 aaz hxi hxm hxg hxl hxc hs1 hs2 hxw h2 hu
  obtain ⟨c0,c1,c2,c3⟩ := ah T1.out.box
  rw [HK.out] at c0
  go_wp2_with fail
  (with_reducible refine (HO.out _ T1.out.rb).mono ?_); rintro e W2 ⟨rfl,f2⟩
  have T2 := Lib.hid (T1.out.fr0 f2)
  clear f2 c0 c1 c2 c3 T1
  clear HO
  obtain ⟨c0,c1,c2,c3⟩ := ah T2.out.box
  rw [HK.out] at c0
  have ci := ak (RB.field T2.out.rb.vs HX.out 1 rfl) HI.out
  have cm := ak (RB.field T2.out.rb.vs HX.out 2 rfl) HCm.out
  have cg := ak (RB.field T2.out.rb.vs HX.out 3 rfl) HG.out
  go_upto_region 8 with fail
  go_region
  go_upto_region 9 with fail
  obtain ⟨W3,hW⟩ : ∃ X,X = W2.drew := ⟨_,rfl⟩
  refine bg W3 hW ?_
  have T3 := Lib.hid (show je _ _ _ _ _ _ _ W3 _ by rw [hW]; exact T2.out.drew)
  clear hW c0 c1 c2 c3 ci cm cg T2
  obtain ⟨c0,c1,c2,c3⟩ := ah T3.out.box
  rw [HK.out] at c0
  have cz := ak (RB.field T3.out.rb.vs HX.out 2 rfl) HCm.out
  go_upto_region 32 with fail
  go_upto_region 34 with fail
  clear c0 c1 c2 c3 cz
  obtain ⟨c0,c1,c2,c3⟩ := ah T3.out.box
  rw [HK.out] at c0
  have cz := ak (RB.field T3.out.rb.vs HX.out 2 rfl) HCm.out
  have zf := T3.out.rb.og (j * 27 + (21 + 2))
  go_upto_region 35 with fail
  have T4 := Lib.hid (T3.out.uh (T3.out.rb.ac8 HX.out 2 (by omega) (u := .int .u64 (u : Nat)) (y := { x with com := u }) (by rw [jl]; rfl)))
  replace T4 : Hid (je _ _ _ _ _ _ _ (W3.setCell ⟨gv,j * 27 + 23,none⟩ (.int .u64 (u : Nat))) _) := T4
  try rw [qm] at T4
  try rw [ql] at T4
  generalize (W3.setCell ⟨gv,j * 27 + 23,none⟩ (.int .u64 (u : Nat))) = W4 at *
  have HX4 := Lib.hid (lq (y := { x with com := u }) HX.out)
  clear c0 c1 c2 c3 zf T3 cz
  obtain ⟨c0,c1,c2,c3⟩ := ah T4.out.box
  rw [HK.out] at c0
  go_wp2_with fail
  go_ret2
  exact ⟨rfl,qg.yes T4.out.rb,T4.out.fr⟩
end
end Go.Proofs.YtohckefafbhooaaGreat
