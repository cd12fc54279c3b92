import Derived.Test.YtohckefafbhooaaGreatR16
set_option maxRecDepth 100000
set_option maxHeartbeats 64000000
namespace Go.Proofs.YtohckefafbhooaaGreat
set_option linter.unusedVariables false
set_option linter.unusedSimpArgs false
open Go.RowKit
attribute [-go_sem] gq
section
variable {B : Nat} {w w' : World} {m : Nat} {R : Nat → Nat} {M : Bok} {sv : Value}
theorem anl {gv nv cv : Nat} {x : Vlt} (h : RB B w m R M (.slice (some ⟨gv,0,none⟩) nv cv)) (hM : M.Ok) (d : Dd) (hk : d.kind = 6) (hw : d.w < 256) (hv : d.v < 256) (ha : d.a < 18446744073709551616) (hx : M.vs[atV M.vs d.w]? = some x) (he : opE M d.w d.a false = 0) :
  Calls Tryz.prog 108 #[.pointer (some ⟨m,0,none⟩),.agg (dC d)] w (aaq B w m R (.slice (some ⟨gv,0,none⟩) nv cv) (afa M d.w d.a (atV M.vs d.w) x)) := by
 have HK := Lib.hid hk
 have hf := hM.jy hw
 have hfv := hM.jy hv
 have htk := hM.uq hw
 have htv := hM.uq hv
 have jq := hM.most
 have HW := Lib.hid hw
 have HV := Lib.hid hv
 have l0 : (d.w : Int) < 256 := by omega
 have lv : (d.v : Int) < 256 := by omega
 have hhd := hM.held
 have hhl := hM.yj
 have htot := hM.tok
 have zk := hM.inn
 have ni := hM.paid
 have aaj := hM.now
 have aa5 := hM.price
 have hlen := hM.len
 have aaz : M.pc + x.coll ≤ M.held := by have := qx Vlt.coll M.vs x (jh hx); omega
 have hpos := ab3 he
 have hxo := hM.vok x (jh hx)
 have hb := hxo.bur
 unfold Vlt.bur at hb
 have hlx := hxo.lea
 have hcl := hM.uf hx
 have HO := Lib.hid (fun (W : World) (rb : RB B W m R M (.slice (some ⟨gv,0,none⟩) nv cv)) => xk rb (by omega) d.w d.a false hx he)
 have hxw := zq hx
 obtain ⟨j,hj⟩ : ∃ j,atV M.vs d.w = j := ⟨_,rfl⟩
 rw [hj] at HO hx ⊢
 have HX := Lib.hid hx
 clear hj hk
 unfold aaq
 by_cases h2 : M.free d.w < d.a
 ·rw [show afa M d.w d.a j x = M.no 16 from if_pos h2]
  obtain ⟨xi,hxi⟩ : ∃ z,x.iss = z := ⟨_,rfl⟩
  obtain ⟨xm,hxm⟩ : ∃ z,x.com = z := ⟨_,rfl⟩
  obtain ⟨xg,hxg⟩ : ∃ z,x.goi = z := ⟨_,rfl⟩
  obtain ⟨xl,hxl⟩ : ∃ z,x.lea = z := ⟨_,rfl⟩
  obtain ⟨xc,hxc⟩ : ∃ z,x.coll = z := ⟨_,rfl⟩
  obtain ⟨s1,hs1⟩ : ∃ z,xi + xm = z := ⟨_,rfl⟩
  obtain ⟨s2,hs2⟩ : ∃ z,s1 + xg = z := ⟨_,rfl⟩
  have mb1 : IntKind.u64.wrap ((xi : Int) + (xm : Int)) = ((s1 : Nat) : Int) := by rw [IntWalk.u64_in _ (by omega)]; omega
  have mb2 : IntKind.u64.wrap ((s1 : Int) + (xg : Int)) = ((s2 : Nat) : Int) := by rw [IntWalk.u64_in _ (by omega)]; omega
  have HI := Lib.hid hxi
  have HCm := Lib.hid hxm
  have HG := Lib.hid hxg
  have HLe := Lib.hid hxl
  have HCo := Lib.hid hxc
  obtain ⟨xf,hxf⟩ : ∃ z,M.free d.w = z := ⟨_,rfl⟩
  have q1 : decide ((xf : Int) < (d.a : Int)) = true := decide_eq_true (by omega)
  have q1' : decide (xf < d.a) = true := decide_eq_true (by omega)
  have HF := Lib.hid hxf
  go_enter Tryz.func108,Tryz.ntmps108
  go_upto_region 1 with fail
  refine eu fun W1 N1 => ?_
  have T1 := Lib.hid (je.start h N1 rfl)
  obtain ⟨g,hg⟩ : ∃ g,w.heap.size = g := ⟨_,rfl⟩
  rw [hg] at T1 ⊢
  clear N1 hg h hM hf htk jq hw ha hhd hhl htot zk ni hv hx he hpos hxo hb hlx hcl hlen hfv htv aaj aa5 aaz hxi hxm hxg hxl hxc hs1 hs2 hxw h2 hxf
  obtain ⟨c0,c1,c2,c3⟩ := ah T1.out.box
  rw [HK.out] at c0
  go_wp2_with fail
  (with_reducible refine (HO.out _ T1.out.rb).mono ?_); rintro e W2 ⟨rfl,f2⟩
  have T2 := Lib.hid (T1.out.fr0 f2)
  clear f2 c0 c1 c2 c3 T1
  clear HO
  obtain ⟨c0,c1,c2,c3⟩ := ah T2.out.box
  rw [HK.out] at c0
  have ci := ak (RB.field T2.out.rb.vs HX.out 1 rfl) HI.out
  have cm := ak (RB.field T2.out.rb.vs HX.out 2 rfl) HCm.out
  have cg := ak (RB.field T2.out.rb.vs HX.out 3 rfl) HG.out
  go_upto_region 8 with fail
  go_region
  go_upto_region 9 with fail
  obtain ⟨W3,hW⟩ : ∃ X,X = W2.drew := ⟨_,rfl⟩
  refine bg W3 hW ?_
  have T3 := Lib.hid (show je _ _ _ _ _ _ _ W3 _ by rw [hW]; exact T2.out.drew)
  clear hW c0 c1 c2 c3 ci cm cg T2
  obtain ⟨c0,c1,c2,c3⟩ := ah T3.out.box
  rw [HK.out] at c0
  have cf := ak (T3.out.rb.free HW.out) HF.out
  go_upto_region 11 with fail
  go_region
  go_upto_region 12 with fail
  obtain ⟨W4,hW⟩ : ∃ X,X = W3.drew := ⟨_,rfl⟩
  refine bg W4 hW ?_
  have T4 := Lib.hid (show je _ _ _ _ _ _ _ W4 _ by rw [hW]; exact T3.out.drew)
  clear hW c0 c1 c2 c3 T3 cf
  go_wp2_with fail
  go_ret2
  exact ⟨rfl,qg.no (show (16 : Int) ≠ 0 by decide),T4.out.fr⟩
 ·skip
  obtain ⟨v,hv1⟩ : ∃ z,M.free d.w - d.a = z := ⟨_,rfl⟩
  obtain ⟨y,hy⟩ : ∃ z,M.held + d.a = z := ⟨_,rfl⟩
  obtain ⟨u,hu⟩ : ∃ z,x.coll + d.a = z := ⟨_,rfl⟩
  rw [show afa M d.w d.a j x = ({ M.uh j { x with coll := u } with free := upd M.free d.w v,held := y },0,0) from by unfold afa; rw [if_neg h2,hv1,hy,hu]]
  obtain ⟨xi,hxi⟩ : ∃ z,x.iss = z := ⟨_,rfl⟩
  obtain ⟨xm,hxm⟩ : ∃ z,x.com = z := ⟨_,rfl⟩
  obtain ⟨xg,hxg⟩ : ∃ z,x.goi = z := ⟨_,rfl⟩
  obtain ⟨xl,hxl⟩ : ∃ z,x.lea = z := ⟨_,rfl⟩
  obtain ⟨xc,hxc⟩ : ∃ z,x.coll = z := ⟨_,rfl⟩
  obtain ⟨s1,hs1⟩ : ∃ z,xi + xm = z := ⟨_,rfl⟩
  obtain ⟨s2,hs2⟩ : ∃ z,s1 + xg = z := ⟨_,rfl⟩
  have mb1 : IntKind.u64.wrap ((xi : Int) + (xm : Int)) = ((s1 : Nat) : Int) := by rw [IntWalk.u64_in _ (by omega)]; omega
  have mb2 : IntKind.u64.wrap ((s1 : Int) + (xg : Int)) = ((s2 : Nat) : Int) := by rw [IntWalk.u64_in _ (by omega)]; omega
  have HI := Lib.hid hxi
  have HCm := Lib.hid hxm
  have HG := Lib.hid hxg
  have HLe := Lib.hid hxl
  have HCo := Lib.hid hxc
  obtain ⟨xf,hxf⟩ : ∃ z,M.free d.w = z := ⟨_,rfl⟩
  obtain ⟨xh,hxh⟩ : ∃ z,M.held = z := ⟨_,rfl⟩
  have q2 : decide ((xf : Int) < (d.a : Int)) = false := decide_eq_false (by omega)
  have q2' : decide (xf < d.a) = false := decide_eq_false (by omega)
  have m2 : IntKind.u64.wrap ((xf : Int) - (d.a : Int)) = ((v : Nat) : Int) := by rw [IntWalk.u64_in _ (by omega)]; omega
  have m3 : IntKind.u64.wrap ((xh : Int) + (d.a : Int)) = ((y : Nat) : Int) := by rw [IntWalk.u64_in _ (by omega)]; omega
  have m4 : IntKind.u64.wrap ((xc : Int) + (d.a : Int)) = ((u : Nat) : Int) := by rw [IntWalk.u64_in _ (by omega)]; omega
  have HF := Lib.hid hxf
  have HH := Lib.hid hxh
  go_enter Tryz.func108,Tryz.ntmps108
  go_upto_region 1 with fail
  refine eu fun W1 N1 => ?_
  have T1 := Lib.hid (je.start h N1 rfl)
  obtain ⟨g,hg⟩ : ∃ g,w.heap.size = g := ⟨_,rfl⟩
  rw [hg] at T1 ⊢
  clear N1 hg h hM hf htk jq hw ha hhd hhl htot zk ni hv hx he hpos hxo hb hlx hcl hlen hfv htv aaj aa5 aaz hxi hxm hxg hxl hxc hs1 hs2 hxw h2 hxf hxh hv1 hy hu
  obtain ⟨c0,c1,c2,c3⟩ := ah T1.out.box
  rw [HK.out] at c0
  go_wp2_with fail
  (with_reducible refine (HO.out _ T1.out.rb).mono ?_); rintro e W2 ⟨rfl,f2⟩
  have T2 := Lib.hid (T1.out.fr0 f2)
  clear f2 c0 c1 c2 c3 T1
  clear HO
  obtain ⟨c0,c1,c2,c3⟩ := ah T2.out.box
  rw [HK.out] at c0
  have ci := ak (RB.field T2.out.rb.vs HX.out 1 rfl) HI.out
  have cm := ak (RB.field T2.out.rb.vs HX.out 2 rfl) HCm.out
  have cg := ak (RB.field T2.out.rb.vs HX.out 3 rfl) HG.out
  go_upto_region 8 with fail
  go_region
  go_upto_region 9 with fail
  obtain ⟨W3,hW⟩ : ∃ X,X = W2.drew := ⟨_,rfl⟩
  refine bg W3 hW ?_
  have T3 := Lib.hid (show je _ _ _ _ _ _ _ W3 _ by rw [hW]; exact T2.out.drew)
  clear hW c0 c1 c2 c3 ci cm cg T2
  obtain ⟨c0,c1,c2,c3⟩ := ah T3.out.box
  rw [HK.out] at c0
  have cf := ak (T3.out.rb.free HW.out) HF.out
  go_upto_region 11 with fail
  go_region
  go_upto_region 13 with fail
  obtain ⟨W4,hW⟩ : ∃ X,X = W3.drew := ⟨_,rfl⟩
  refine bg W4 hW ?_
  have T4 := Lib.hid (show je _ _ _ _ _ _ _ W4 _ by rw [hW]; exact T3.out.drew)
  clear hW c0 c1 c2 c3 T3 cf
  obtain ⟨c0,c1,c2,c3⟩ := ah T4.out.box
  rw [HK.out] at c0
  have cf := ak (T4.out.rb.free HW.out) HF.out
  have zf := T4.out.rb.blk.frozen (270 + d.w)
  go_region
  go_upto_region 14 with fail
  have T5 := Lib.hid (T4.out.put (T4.out.rb.ab7 HW.out v))
  replace T5 := Lib.hid T5.out.drew
  generalize (W4.setCell ⟨m,270 + d.w,none⟩ (.int .u64 (v : Nat))).drew = W5 at *
  clear c0 c1 c2 c3 zf T4 cf
  obtain ⟨c0,c1,c2,c3⟩ := ah T5.out.box
  rw [HK.out] at c0
  have ch := ak (T5.out.rb.held) HH.out
  have zf := T5.out.rb.blk.frozen (526)
  go_upto_region 15 with fail
  have T6 := Lib.hid (T5.out.put (T5.out.rb.adx y))
  generalize (W5.setCell ⟨m,526,none⟩ (.int .u64 (y : Nat))) = W6 at *
  clear c0 c1 c2 c3 zf T5 ch
  obtain ⟨c0,c1,c2,c3⟩ := ah T6.out.box
  rw [HK.out] at c0
  have cc := ak (RB.field T6.out.rb.vs HX.out 0 rfl) HCo.out
  have zf := T6.out.rb.og (j * 27 + (21 + 0))
  go_upto_region 92 with fail
  have T7 := Lib.hid (T6.out.uh (T6.out.rb.ac8 HX.out 0 (by omega) (u := .int .u64 (u : Nat)) (y := { x with coll := u }) (by rw [jl]; rfl)))
  replace T7 : Hid (je _ _ _ _ _ _ _ (W6.setCell ⟨gv,j * 27 + 21,none⟩ (.int .u64 (u : Nat))) _) := T7
  try rw [qm] at T7
  try rw [ql] at T7
  generalize (W6.setCell ⟨gv,j * 27 + 21,none⟩ (.int .u64 (u : Nat))) = W7 at *
  have HX7 := Lib.hid (lq (y := { x with coll := u }) HX.out)
  clear c0 c1 c2 c3 zf T6 cc
  go_wp2_with fail
  go_ret2
  exact ⟨rfl,qg.yes T7.out.rb,T7.out.fr⟩
end
end Go.Proofs.YtohckefafbhooaaGreat
