import Derived.Test.YtohckefafbhooaaGreatR16
set_option maxRecDepth 100000
set_option maxHeartbeats 64000000
namespace Go.Proofs.YtohckefafbhooaaGreat
set_option linter.unusedVariables false
set_option linter.unusedSimpArgs false
open Go.RowKit
attribute [-go_sem] gq
section
variable {B : Nat} {w w' : World} {m : Nat} {R : Nat → Nat} {M : Bok} {sv : Value}
theorem akr {gv nv cv : Nat} {x : Vlt} (h : RB B w m R M (.slice (some ⟨gv,0,none⟩) nv cv)) (hM : M.Ok) (d : Dd) (hk : d.kind = 14) (hw : d.w < 256) (hv : d.v < 256) (ha : d.a < 18446744073709551616) (hx : M.vs[atV M.vs d.w]? = some x) (he : opE M d.w d.a true = 0) :
  Calls Tryz.prog 108 #[.pointer (some ⟨m,0,none⟩),.agg (dC d)] w (aaq B w m R (.slice (some ⟨gv,0,none⟩) nv cv) (acn M d.v d.a (atV M.vs d.w) x)) := by
 have HK := Lib.hid hk
 have hf := hM.jy hw
 have hfv := hM.jy hv
 have htk := hM.uq hw
 have htv := hM.uq hv
 have jq := hM.most
 have HW := Lib.hid hw
 have HV := Lib.hid hv
 have l0 : (d.w : Int) < 256 := by omega
 have lv : (d.v : Int) < 256 := by omega
 have hhd := hM.held
 have hhl := hM.yj
 have htot := hM.tok
 have zk := hM.inn
 have ni := hM.paid
 have aaj := hM.now
 have aa5 := hM.price
 have hlen := hM.len
 have aaz : M.pc + x.coll ≤ M.held := by have := qx Vlt.coll M.vs x (jh hx); omega
 have hpos := ab3 he
 have hxo := hM.vok x (jh hx)
 have hb := hxo.bur
 unfold Vlt.bur at hb
 have hlx := hxo.lea
 have hcl := hM.uf hx
 have HO := Lib.hid (fun (W : World) (rb : RB B W m R M (.slice (some ⟨gv,0,none⟩) nv cv)) => xk rb (by omega) d.w d.a true hx he)
 have hxw := zq hx
 obtain ⟨j,hj⟩ : ∃ j,atV M.vs d.w = j := ⟨_,rfl⟩
 rw [hj] at HO hx ⊢
 have HX := Lib.hid hx
 clear hj hk
 unfold aaq
 obtain ⟨n,hn⟩ : ∃ z,min d.a x.coll = z := ⟨_,rfl⟩
 have hnl : n ≤ x.coll ∧ n ≤ d.a := by omega
 obtain ⟨u,hu⟩ : ∃ z,x.coll - n = z := ⟨_,rfl⟩
 obtain ⟨v,hv1⟩ : ∃ z,M.free d.v + n = z := ⟨_,rfl⟩
 obtain ⟨y,hy⟩ : ∃ z,M.held - n = z := ⟨_,rfl⟩
 rw [show acn M d.v d.a j x = ({ M.uh j { x with coll := u } with free := upd M.free d.v v,held := y },n,0) from by unfold acn; rw [hn,hu,hv1,hy]]
 obtain ⟨xi,hxi⟩ : ∃ z,x.iss = z := ⟨_,rfl⟩
 obtain ⟨xm,hxm⟩ : ∃ z,x.com = z := ⟨_,rfl⟩
 obtain ⟨xg,hxg⟩ : ∃ z,x.goi = z := ⟨_,rfl⟩
 obtain ⟨xl,hxl⟩ : ∃ z,x.lea = z := ⟨_,rfl⟩
 obtain ⟨xc,hxc⟩ : ∃ z,x.coll = z := ⟨_,rfl⟩
 obtain ⟨s1,hs1⟩ : ∃ z,xi + xm = z := ⟨_,rfl⟩
 obtain ⟨s2,hs2⟩ : ∃ z,s1 + xg = z := ⟨_,rfl⟩
 have mb1 : IntKind.u64.wrap ((xi : Int) + (xm : Int)) = ((s1 : Nat) : Int) := by rw [IntWalk.u64_in _ (by omega)]; omega
 have mb2 : IntKind.u64.wrap ((s1 : Int) + (xg : Int)) = ((s2 : Nat) : Int) := by rw [IntWalk.u64_in _ (by omega)]; omega
 have HI := Lib.hid hxi
 have HCm := Lib.hid hxm
 have HG := Lib.hid hxg
 have HLe := Lib.hid hxl
 have HCo := Lib.hid hxc
 obtain ⟨xf,hxf⟩ : ∃ z,M.free d.v = z := ⟨_,rfl⟩
 obtain ⟨xh,hxh⟩ : ∃ z,M.held = z := ⟨_,rfl⟩
 have q1 := fun ts t w => aeh ts t d.a xc n (by rw [← hxc]; exact hn) w
 have m2 : IntKind.u64.wrap ((xc : Int) - (n : Int)) = ((u : Nat) : Int) := by rw [IntWalk.u64_in _ (by omega)]; omega
 have m3 : IntKind.u64.wrap ((xh : Int) - (n : Int)) = ((y : Nat) : Int) := by rw [IntWalk.u64_in _ (by omega)]; omega
 have m4 : IntKind.u64.wrap ((xf : Int) + (n : Int)) = ((v : Nat) : Int) := by rw [IntWalk.u64_in _ (by omega)]; omega
 have HF := Lib.hid hxf
 have HH := Lib.hid hxh
 go_enter Tryz.func108,Tryz.ntmps108
 go_upto_region 1 with fail
 refine eu fun W1 N1 => ?_
 have T1 := Lib.hid (je.start h N1 rfl)
 obtain ⟨g,hg⟩ : ∃ g,w.heap.size = g := ⟨_,rfl⟩
 rw [hg] at T1 ⊢
 clear N1 hg h hM hf htk jq hw ha hhd hhl htot zk ni hv hx he hpos hxo hb hlx hcl hlen hfv htv aaj aa5 aaz hxi hxm hxg hxl hxc hs1 hs2 hxw hn hnl hu hv1 hy hxf hxh
 obtain ⟨c0,c1,c2,c3⟩ := ah T1.out.box
 rw [HK.out] at c0
 go_wp2_with fail
 (with_reducible refine (HO.out _ T1.out.rb).mono ?_); rintro e W2 ⟨rfl,f2⟩
 have T2 := Lib.hid (T1.out.fr0 f2)
 clear f2 c0 c1 c2 c3 T1
 clear HO
 obtain ⟨c0,c1,c2,c3⟩ := ah T2.out.box
 rw [HK.out] at c0
 have ci := ak (RB.field T2.out.rb.vs HX.out 1 rfl) HI.out
 have cm := ak (RB.field T2.out.rb.vs HX.out 2 rfl) HCm.out
 have cg := ak (RB.field T2.out.rb.vs HX.out 3 rfl) HG.out
 go_upto_region 8 with fail
 go_region
 go_upto_region 9 with fail
 obtain ⟨W3,hW⟩ : ∃ X,X = W2.drew := ⟨_,rfl⟩
 refine bg W3 hW ?_
 have T3 := Lib.hid (show je _ _ _ _ _ _ _ W3 _ by rw [hW]; exact T2.out.drew)
 clear hW c0 c1 c2 c3 ci cm cg T2
 obtain ⟨c0,c1,c2,c3⟩ := ah T3.out.box
 rw [HK.out] at c0
 have cc := ak (RB.field T3.out.rb.vs HX.out 0 rfl) HCo.out
 go_upto_region 58 with fail
 clear c0 c1 c2 c3 cc
 obtain ⟨c0,c1,c2,c3⟩ := ah T3.out.box
 rw [HK.out] at c0
 have cc := ak (RB.field T3.out.rb.vs HX.out 0 rfl) HCo.out
 have zf := T3.out.rb.og (j * 27 + (21 + 0))
 go_upto_region 59 with fail
 have T4 := Lib.hid (T3.out.uh (T3.out.rb.ac8 HX.out 0 (by omega) (u := .int .u64 (u : Nat)) (y := { x with coll := u }) (by rw [jl]; rfl)))
 replace T4 : Hid (je _ _ _ _ _ _ _ (W3.setCell ⟨gv,j * 27 + 21,none⟩ (.int .u64 (u : Nat))) _) := T4
 try rw [qm] at T4
 try rw [ql] at T4
 generalize (W3.setCell ⟨gv,j * 27 + 21,none⟩ (.int .u64 (u : Nat))) = W4 at *
 have HX4 := Lib.hid (lq (y := { x with coll := u }) HX.out)
 clear c0 c1 c2 c3 zf T3 cc
 obtain ⟨c0,c1,c2,c3⟩ := ah T4.out.box
 rw [HK.out] at c0
 have ch := ak (T4.out.rb.held) HH.out
 have zf := T4.out.rb.blk.frozen (526)
 go_upto_region 60 with fail
 have T5 := Lib.hid (T4.out.put (T4.out.rb.adx y))
 generalize (W4.setCell ⟨m,526,none⟩ (.int .u64 (y : Nat))) = W5 at *
 clear c0 c1 c2 c3 zf T4 ch
 obtain ⟨c0,c1,c2,c3⟩ := ah T5.out.box
 rw [HK.out] at c0
 have cf := ak (T5.out.rb.free HV.out) HF.out
 have zf := T5.out.rb.blk.frozen (270 + d.v)
 go_region
 go_upto_region 61 with fail
 have T6 := Lib.hid (T5.out.put (T5.out.rb.ab7 HV.out v))
 replace T6 := Lib.hid T6.out.drew
 generalize (W5.setCell ⟨m,270 + d.v,none⟩ (.int .u64 (v : Nat))).drew = W6 at *
 clear c0 c1 c2 c3 zf T5 cf
 go_wp2_with fail
 go_ret2
 exact ⟨rfl,qg.yes T6.out.rb,T6.out.fr⟩
theorem anr {gv nv cv : Nat} {x : Vlt} (h : RB B w m R M (.slice (some ⟨gv,0,none⟩) nv cv)) (hM : M.Ok) (d : Dd) (hk : d.kind = 11) (hw : d.w < 256) (hv : d.v < 256) (ha : d.a < 18446744073709551616) (hx : M.vs[atV M.vs d.w]? = some x) (he : opE M d.w d.a false = 0) :
  Calls Tryz.prog 108 #[.pointer (some ⟨m,0,none⟩),.agg (dC d)] w (aaq B w m R (.slice (some ⟨gv,0,none⟩) nv cv) (adk M d.v d.a (atV M.vs d.w) x)) := by
 have HK := Lib.hid hk
 have hf := hM.jy hw
 have hfv := hM.jy hv
 have htk := hM.uq hw
 have htv := hM.uq hv
 have jq := hM.most
 have HW := Lib.hid hw
 have HV := Lib.hid hv
 have l0 : (d.w : Int) < 256 := by omega
 have lv : (d.v : Int) < 256 := by omega
 have hhd := hM.held
 have hhl := hM.yj
 have htot := hM.tok
 have zk := hM.inn
 have ni := hM.paid
 have aaj := hM.now
 have aa5 := hM.price
 have hlen := hM.len
 have aaz : M.pc + x.coll ≤ M.held := by have := qx Vlt.coll M.vs x (jh hx); omega
 have hpos := ab3 he
 have hxo := hM.vok x (jh hx)
 have hb := hxo.bur
 unfold Vlt.bur at hb
 have hlx := hxo.lea
 have hcl := hM.uf hx
 have HO := Lib.hid (fun (W : World) (rb : RB B W m R M (.slice (some ⟨gv,0,none⟩) nv cv)) => xk rb (by omega) d.w d.a false hx he)
 have hxw := zq hx
 obtain ⟨j,hj⟩ : ∃ j,atV M.vs d.w = j := ⟨_,rfl⟩
 rw [hj] at HO hx ⊢
 have HX := Lib.hid hx
 clear hj hk
 unfold aaq
 obtain ⟨dl,hdl⟩ : ∃ z,x.iss - x.lea = z := ⟨_,rfl⟩
 by_cases h2 : dl < d.a
 ·rw [show adk M d.v d.a j x = M.no 16 from by unfold adk; rw [hdl,if_pos (.inl h2)]]
  obtain ⟨xi,hxi⟩ : ∃ z,x.iss = z := ⟨_,rfl⟩
  obtain ⟨xm,hxm⟩ : ∃ z,x.com = z := ⟨_,rfl⟩
  obtain ⟨xg,hxg⟩ : ∃ z,x.goi = z := ⟨_,rfl⟩
  obtain ⟨xl,hxl⟩ : ∃ z,x.lea = z := ⟨_,rfl⟩
  obtain ⟨xc,hxc⟩ : ∃ z,x.coll = z := ⟨_,rfl⟩
  obtain ⟨s1,hs1⟩ : ∃ z,xi + xm = z := ⟨_,rfl⟩
  obtain ⟨s2,hs2⟩ : ∃ z,s1 + xg = z := ⟨_,rfl⟩
  have mb1 : IntKind.u64.wrap ((xi : Int) + (xm : Int)) = ((s1 : Nat) : Int) := by rw [IntWalk.u64_in _ (by omega)]; omega
  have mb2 : IntKind.u64.wrap ((s1 : Int) + (xg : Int)) = ((s2 : Nat) : Int) := by rw [IntWalk.u64_in _ (by omega)]; omega
  have HI := Lib.hid hxi
  have HCm := Lib.hid hxm
  have HG := Lib.hid hxg
  have HLe := Lib.hid hxl
  have HCo := Lib.hid hxc
  obtain ⟨xt,hxt⟩ : ∃ z,M.tok d.v = z := ⟨_,rfl⟩
  have q10 : decide ((dl : Int) < (d.a : Int)) = true := decide_eq_true (by omega)
  have q10' : decide (dl < d.a) = true := decide_eq_true (by omega)
  have m2 : IntKind.u64.wrap ((xi : Int) - (xl : Int)) = ((dl : Nat) : Int) := by rw [IntWalk.u64_in _ (by omega)]; omega
  have HT := Lib.hid hxt
  go_enter Tryz.func108,Tryz.ntmps108
  go_upto_region 1 with fail
  refine eu fun W1 N1 => ?_
  have T1 := Lib.hid (je.start h N1 rfl)
  obtain ⟨g,hg⟩ : ∃ g,w.heap.size = g := ⟨_,rfl⟩
  rw [hg] at T1 ⊢
  clear N1 hg h hM hf htk jq hw ha hhd hhl htot zk ni hv hx he hpos hxo hb hlx hcl hlen hfv htv aaj aa5 aaz hxi hxm hxg hxl hxc hs1 hs2 hxw h2 hdl hxt
  obtain ⟨c0,c1,c2,c3⟩ := ah T1.out.box
  rw [HK.out] at c0
  go_wp2_with fail
  (with_reducible refine (HO.out _ T1.out.rb).mono ?_); rintro e W2 ⟨rfl,f2⟩
  have T2 := Lib.hid (T1.out.fr0 f2)
  clear f2 c0 c1 c2 c3 T1
  clear HO
  obtain ⟨c0,c1,c2,c3⟩ := ah T2.out.box
  rw [HK.out] at c0
  have ci := ak (RB.field T2.out.rb.vs HX.out 1 rfl) HI.out
  have cm := ak (RB.field T2.out.rb.vs HX.out 2 rfl) HCm.out
  have cg := ak (RB.field T2.out.rb.vs HX.out 3 rfl) HG.out
  go_upto_region 8 with fail
  go_region
  go_upto_region 9 with fail
  obtain ⟨W3,hW⟩ : ∃ X,X = W2.drew := ⟨_,rfl⟩
  refine bg W3 hW ?_
  have T3 := Lib.hid (show je _ _ _ _ _ _ _ W3 _ by rw [hW]; exact T2.out.drew)
  clear hW c0 c1 c2 c3 ci cm cg T2
  obtain ⟨c0,c1,c2,c3⟩ := ah T3.out.box
  rw [HK.out] at c0
  have ca := ak (RB.field T3.out.rb.vs HX.out 1 rfl) HI.out
  have cb := ak (RB.field T3.out.rb.vs HX.out 4 rfl) HLe.out
  have ct := ak (T3.out.rb.tok HV.out) HT.out
  go_upto_region 39 with fail
  go_region
  go_upto_region 40 with fail
  obtain ⟨W4,hW⟩ : ∃ X,X = W3.drew := ⟨_,rfl⟩
  refine bg W4 hW ?_
  have T4 := Lib.hid (show je _ _ _ _ _ _ _ W4 _ by rw [hW]; exact T3.out.drew)
  clear hW c0 c1 c2 c3 T3 ca cb ct
  go_wp2_with fail
  go_ret2
  exact ⟨rfl,qg.no (show (16 : Int) ≠ 0 by decide),T4.out.fr⟩
 by_cases h4 : M.tok d.v < d.a
 ·rw [show adk M d.v d.a j x = M.no 16 from by unfold adk; rw [hdl,if_pos (.inr h4)]]
  obtain ⟨xi,hxi⟩ : ∃ z,x.iss = z := ⟨_,rfl⟩
  obtain ⟨xm,hxm⟩ : ∃ z,x.com = z := ⟨_,rfl⟩
  obtain ⟨xg,hxg⟩ : ∃ z,x.goi = z := ⟨_,rfl⟩
  obtain ⟨xl,hxl⟩ : ∃ z,x.lea = z := ⟨_,rfl⟩
  obtain ⟨xc,hxc⟩ : ∃ z,x.coll = z := ⟨_,rfl⟩
  obtain ⟨s1,hs1⟩ : ∃ z,xi + xm = z := ⟨_,rfl⟩
  obtain ⟨s2,hs2⟩ : ∃ z,s1 + xg = z := ⟨_,rfl⟩
  have mb1 : IntKind.u64.wrap ((xi : Int) + (xm : Int)) = ((s1 : Nat) : Int) := by rw [IntWalk.u64_in _ (by omega)]; omega
  have mb2 : IntKind.u64.wrap ((s1 : Int) + (xg : Int)) = ((s2 : Nat) : Int) := by rw [IntWalk.u64_in _ (by omega)]; omega
  have HI := Lib.hid hxi
  have HCm := Lib.hid hxm
  have HG := Lib.hid hxg
  have HLe := Lib.hid hxl
  have HCo := Lib.hid hxc
  obtain ⟨xt,hxt⟩ : ∃ z,M.tok d.v = z := ⟨_,rfl⟩
  have q11 : decide ((dl : Int) < (d.a : Int)) = false := decide_eq_false (by omega)
  have q11' : decide (dl < d.a) = false := decide_eq_false (by omega)
  have q12 : decide ((xt : Int) < (d.a : Int)) = true := decide_eq_true (by omega)
  have q12' : decide (xt < d.a) = true := decide_eq_true (by omega)
  have m2 : IntKind.u64.wrap ((xi : Int) - (xl : Int)) = ((dl : Nat) : Int) := by rw [IntWalk.u64_in _ (by omega)]; omega
  have HT := Lib.hid hxt
  go_enter Tryz.func108,Tryz.ntmps108
  go_upto_region 1 with fail
  refine eu fun W1 N1 => ?_
  have T1 := Lib.hid (je.start h N1 rfl)
  obtain ⟨g,hg⟩ : ∃ g,w.heap.size = g := ⟨_,rfl⟩
  rw [hg] at T1 ⊢
  clear N1 hg h hM hf htk jq hw ha hhd hhl htot zk ni hv hx he hpos hxo hb hlx hcl hlen hfv htv aaj aa5 aaz hxi hxm hxg hxl hxc hs1 hs2 hxw h2 h4 hdl hxt
  obtain ⟨c0,c1,c2,c3⟩ := ah T1.out.box
  rw [HK.out] at c0
  go_wp2_with fail
  (with_reducible refine (HO.out _ T1.out.rb).mono ?_); rintro e W2 ⟨rfl,f2⟩
  have T2 := Lib.hid (T1.out.fr0 f2)
  clear f2 c0 c1 c2 c3 T1
  clear HO
  obtain ⟨c0,c1,c2,c3⟩ := ah T2.out.box
  rw [HK.out] at c0
  have ci := ak (RB.field T2.out.rb.vs HX.out 1 rfl) HI.out
  have cm := ak (RB.field T2.out.rb.vs HX.out 2 rfl) HCm.out
  have cg := ak (RB.field T2.out.rb.vs HX.out 3 rfl) HG.out
  go_upto_region 8 with fail
  go_region
  go_upto_region 9 with fail
  obtain ⟨W3,hW⟩ : ∃ X,X = W2.drew := ⟨_,rfl⟩
  refine bg W3 hW ?_
  have T3 := Lib.hid (show je _ _ _ _ _ _ _ W3 _ by rw [hW]; exact T2.out.drew)
  clear hW c0 c1 c2 c3 ci cm cg T2
  obtain ⟨c0,c1,c2,c3⟩ := ah T3.out.box
  rw [HK.out] at c0
  have ca := ak (RB.field T3.out.rb.vs HX.out 1 rfl) HI.out
  have cb := ak (RB.field T3.out.rb.vs HX.out 4 rfl) HLe.out
  have ct := ak (T3.out.rb.tok HV.out) HT.out
  go_upto_region 39 with fail
  go_region
  go_upto_region 40 with fail
  obtain ⟨W4,hW⟩ : ∃ X,X = W3.drew := ⟨_,rfl⟩
  refine bg W4 hW ?_
  have T4 := Lib.hid (show je _ _ _ _ _ _ _ W4 _ by rw [hW]; exact T3.out.drew)
  clear hW c0 c1 c2 c3 T3 ca cb ct
  go_wp2_with fail
  go_ret2
  exact ⟨rfl,qg.no (show (16 : Int) ≠ 0 by decide),T4.out.fr⟩
 obtain ⟨u,hu⟩ : ∃ z,x.iss - d.a = z := ⟨_,rfl⟩
 obtain ⟨y,hy⟩ : ∃ z,x.goi + d.a = z := ⟨_,rfl⟩
 obtain ⟨v,hv1⟩ : ∃ z,M.tok d.v - d.a = z := ⟨_,rfl⟩
 rw [show adk M d.v d.a j x = ({ M.uh j { x with iss := u,goi := y } with tok := upd M.tok d.v v },0,0) from by unfold adk; rw [hdl,if_neg (by omega),hu,hy,hv1]]
 obtain ⟨xi,hxi⟩ : ∃ z,x.iss = z := ⟨_,rfl⟩
 obtain ⟨xm,hxm⟩ : ∃ z,x.com = z := ⟨_,rfl⟩
 obtain ⟨xg,hxg⟩ : ∃ z,x.goi = z := ⟨_,rfl⟩
 obtain ⟨xl,hxl⟩ : ∃ z,x.lea = z := ⟨_,rfl⟩
 obtain ⟨xc,hxc⟩ : ∃ z,x.coll = z := ⟨_,rfl⟩
 obtain ⟨s1,hs1⟩ : ∃ z,xi + xm = z := ⟨_,rfl⟩
 obtain ⟨s2,hs2⟩ : ∃ z,s1 + xg = z := ⟨_,rfl⟩
 have mb1 : IntKind.u64.wrap ((xi : Int) + (xm : Int)) = ((s1 : Nat) : Int) := by rw [IntWalk.u64_in _ (by omega)]; omega
 have mb2 : IntKind.u64.wrap ((s1 : Int) + (xg : Int)) = ((s2 : Nat) : Int) := by rw [IntWalk.u64_in _ (by omega)]; omega
 have HI := Lib.hid hxi
 have HCm := Lib.hid hxm
 have HG := Lib.hid hxg
 have HLe := Lib.hid hxl
 have HCo := Lib.hid hxc
 obtain ⟨xt,hxt⟩ : ∃ z,M.tok d.v = z := ⟨_,rfl⟩
 have q13 : decide ((dl : Int) < (d.a : Int)) = false := decide_eq_false (by omega)
 have q13' : decide (dl < d.a) = false := decide_eq_false (by omega)
 have q14 : decide ((xt : Int) < (d.a : Int)) = false := decide_eq_false (by omega)
 have q14' : decide (xt < d.a) = false := decide_eq_false (by omega)
 have m2 : IntKind.u64.wrap ((xi : Int) - (xl : Int)) = ((dl : Nat) : Int) := by rw [IntWalk.u64_in _ (by omega)]; omega
 have HT := Lib.hid hxt
 have m3 : IntKind.u64.wrap ((xi : Int) - (d.a : Int)) = ((u : Nat) : Int) := by rw [IntWalk.u64_in _ (by omega)]; omega
 have m4 : IntKind.u64.wrap ((xg : Int) + (d.a : Int)) = ((y : Nat) : Int) := by rw [IntWalk.u64_in _ (by omega)]; omega
 have m5 : IntKind.u64.wrap ((xt : Int) - (d.a : Int)) = ((v : Nat) : Int) := by rw [IntWalk.u64_in _ (by omega)]; omega
 go_enter Tryz.func108,Tryz.ntmps108
 go_upto_region 1 with fail
 refine eu fun W1 N1 => ?_
 have T1 := Lib.hid (je.start h N1 rfl)
 obtain ⟨g,hg⟩ : ∃ g,w.heap.size = g := ⟨_,rfl⟩
 rw [hg] at T1 ⊢
 clear N1 hg h hM hf htk jq hw ha hhd hhl htot zk ni hv hx he hpos hxo hb hlx hcl hlen hfv htv aaj aa5 aaz hxi hxm hxg hxl hxc hs1 hs2 hxw h2 h4 hdl hxt hu hy hv1
 obtain ⟨c0,c1,c2,c3⟩ := ah T1.out.box
 rw [HK.out] at c0
 go_wp2_with fail
 (with_reducible refine (HO.out _ T1.out.rb).mono ?_); rintro e W2 ⟨rfl,f2⟩
 have T2 := Lib.hid (T1.out.fr0 f2)
 clear f2 c0 c1 c2 c3 T1
 clear HO
 obtain ⟨c0,c1,c2,c3⟩ := ah T2.out.box
 rw [HK.out] at c0
 have ci := ak (RB.field T2.out.rb.vs HX.out 1 rfl) HI.out
 have cm := ak (RB.field T2.out.rb.vs HX.out 2 rfl) HCm.out
 have cg := ak (RB.field T2.out.rb.vs HX.out 3 rfl) HG.out
 go_upto_region 8 with fail
 go_region
 go_upto_region 9 with fail
 obtain ⟨W3,hW⟩ : ∃ X,X = W2.drew := ⟨_,rfl⟩
 refine bg W3 hW ?_
 have T3 := Lib.hid (show je _ _ _ _ _ _ _ W3 _ by rw [hW]; exact T2.out.drew)
 clear hW c0 c1 c2 c3 ci cm cg T2
 obtain ⟨c0,c1,c2,c3⟩ := ah T3.out.box
 rw [HK.out] at c0
 have ca := ak (RB.field T3.out.rb.vs HX.out 1 rfl) HI.out
 have cb := ak (RB.field T3.out.rb.vs HX.out 4 rfl) HLe.out
 have ct := ak (T3.out.rb.tok HV.out) HT.out
 go_upto_region 39 with fail
 go_region
 go_upto_region 41 with fail
 obtain ⟨W4,hW⟩ : ∃ X,X = W3.drew := ⟨_,rfl⟩
 refine bg W4 hW ?_
 have T4 := Lib.hid (show je _ _ _ _ _ _ _ W4 _ by rw [hW]; exact T3.out.drew)
 clear hW c0 c1 c2 c3 T3 ca cb ct
 obtain ⟨c0,c1,c2,c3⟩ := ah T4.out.box
 rw [HK.out] at c0
 have ca := ak (RB.field T4.out.rb.vs HX.out 1 rfl) HI.out
 have zf := T4.out.rb.og (j * 27 + (21 + 1))
 go_upto_region 42 with fail
 have T5 := Lib.hid (T4.out.uh (T4.out.rb.ac8 HX.out 1 (by omega) (u := .int .u64 (u : Nat)) (y := { x with iss := u }) (by rw [jl]; rfl)))
 replace T5 : Hid (je _ _ _ _ _ _ _ (W4.setCell ⟨gv,j * 27 + 22,none⟩ (.int .u64 (u : Nat))) _) := T5
 try rw [qm] at T5
 try rw [ql] at T5
 generalize (W4.setCell ⟨gv,j * 27 + 22,none⟩ (.int .u64 (u : Nat))) = W5 at *
 have HX5 := Lib.hid (lq (y := { x with iss := u }) HX.out)
 clear c0 c1 c2 c3 zf T4 ca
 obtain ⟨c0,c1,c2,c3⟩ := ah T5.out.box
 rw [HK.out] at c0
 have cg := ak (RB.field T5.out.rb.vs HX5.out 3 rfl) HG.out
 have zf := T5.out.rb.og (j * 27 + (21 + 3))
 go_upto_region 43 with fail
 have T6 := Lib.hid (T5.out.uh (T5.out.rb.ac8 HX5.out 3 (by omega) (u := .int .u64 (y : Nat)) (y := { x with iss := u,goi := y }) (by rw [jl]; rfl)))
 replace T6 : Hid (je _ _ _ _ _ _ _ (W5.setCell ⟨gv,j * 27 + 24,none⟩ (.int .u64 (y : Nat))) _) := T6
 try rw [qm] at T6
 try rw [ql] at T6
 generalize (W5.setCell ⟨gv,j * 27 + 24,none⟩ (.int .u64 (y : Nat))) = W6 at *
 have HX6 := Lib.hid (lq (y := { x with iss := u,goi := y }) HX5.out)
 clear c0 c1 c2 c3 zf T5 cg
 obtain ⟨c0,c1,c2,c3⟩ := ah T6.out.box
 rw [HK.out] at c0
 have ct := ak (T6.out.rb.tok HV.out) HT.out
 have zf := T6.out.rb.blk.frozen (14 + d.v)
 go_region
 go_upto_region 92 with fail
 have T7 := Lib.hid (T6.out.put (T6.out.rb.alh HV.out v))
 replace T7 := Lib.hid T7.out.drew
 generalize (W6.setCell ⟨m,14 + d.v,none⟩ (.int .u64 (v : Nat))).drew = W7 at *
 clear c0 c1 c2 c3 zf T6 ct
 go_wp2_with fail
 go_ret2
 exact ⟨rfl,qg.yes T7.out.rb,T7.out.fr⟩
end
end Go.Proofs.YtohckefafbhooaaGreat
