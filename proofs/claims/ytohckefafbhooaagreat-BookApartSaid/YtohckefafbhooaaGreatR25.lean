import Derived.Test.YtohckefafbhooaaGreatR16
set_option maxRecDepth 100000
set_option maxHeartbeats 64000000
namespace Go.Proofs.YtohckefafbhooaaGreat
set_option linter.unusedVariables false
set_option linter.unusedSimpArgs false
open Go.RowKit
attribute [-go_sem] gq
section
variable {B : Nat} {w w' : World} {m : Nat} {R : Nat → Nat} {M : Bok} {sv : Value}
theorem ah4 {gv nv cv : Nat} {x : Vlt} (h : RB B w m R M (.slice (some ⟨gv,0,none⟩) nv cv)) (hM : M.Ok) (d : Dd) (hk : d.kind = 13) (hw : d.w < 256) (hv : d.v < 256) (ha : d.a < 18446744073709551616) (hx : M.vs[atV M.vs d.w]? = some x) (he : opE M d.w d.a true = 0) :
  Calls Tryz.prog 108 #[.pointer (some ⟨m,0,none⟩),.agg (dC d)] w (aaq B w m R (.slice (some ⟨gv,0,none⟩) nv cv) (zo M d.v d.a (atV M.vs d.w) x)) := by
 have HK := Lib.hid hk
 have hf := hM.jy hw
 have hfv := hM.jy hv
 have htk := hM.uq hw
 have htv := hM.uq hv
 have jq := hM.most
 have HW := Lib.hid hw
 have HV := Lib.hid hv
 have l0 : (d.w : Int) < 256 := by omega
 have lv : (d.v : Int) < 256 := by omega
 have hhd := hM.held
 have hhl := hM.yj
 have htot := hM.tok
 have zk := hM.inn
 have ni := hM.paid
 have aaj := hM.now
 have aa5 := hM.price
 have hlen := hM.len
 have aaz : M.pc + x.coll ≤ M.held := by have := qx Vlt.coll M.vs x (jh hx); omega
 have hpos := ab3 he
 have hxo := hM.vok x (jh hx)
 have hb := hxo.bur
 unfold Vlt.bur at hb
 have hlx := hxo.lea
 have hcl := hM.uf hx
 have HO := Lib.hid (fun (W : World) (rb : RB B W m R M (.slice (some ⟨gv,0,none⟩) nv cv)) => xk rb (by omega) d.w d.a true hx he)
 have hxw := zq hx
 obtain ⟨j,hj⟩ : ∃ j,atV M.vs d.w = j := ⟨_,rfl⟩
 rw [hj] at HO hx ⊢
 have HX := Lib.hid hx
 clear hj hk
 unfold aaq
 by_cases h2 : x.goi < d.a
 ·rw [show zo M d.v d.a j x = M.no 16 from if_pos h2]
  obtain ⟨xi,hxi⟩ : ∃ z,x.iss = z := ⟨_,rfl⟩
  obtain ⟨xm,hxm⟩ : ∃ z,x.com = z := ⟨_,rfl⟩
  obtain ⟨xg,hxg⟩ : ∃ z,x.goi = z := ⟨_,rfl⟩
  obtain ⟨xl,hxl⟩ : ∃ z,x.lea = z := ⟨_,rfl⟩
  obtain ⟨xc,hxc⟩ : ∃ z,x.coll = z := ⟨_,rfl⟩
  obtain ⟨s1,hs1⟩ : ∃ z,xi + xm = z := ⟨_,rfl⟩
  obtain ⟨s2,hs2⟩ : ∃ z,s1 + xg = z := ⟨_,rfl⟩
  have mb1 : IntKind.u64.wrap ((xi : Int) + (xm : Int)) = ((s1 : Nat) : Int) := by rw [IntWalk.u64_in _ (by omega)]; omega
  have mb2 : IntKind.u64.wrap ((s1 : Int) + (xg : Int)) = ((s2 : Nat) : Int) := by rw [IntWalk.u64_in _ (by omega)]; omega
  have HI := Lib.hid hxi
  have HCm := Lib.hid hxm
  have HG := Lib.hid hxg
  have HLe := Lib.hid hxl
  have HCo := Lib.hid hxc
  have q7 : decide ((xg : Int) < (d.a : Int)) = true := decide_eq_true (by omega)
  have q7' : decide (xg < d.a) = true := decide_eq_true (by omega)
  go_enter Tryz.func108,Tryz.ntmps108
  go_upto_region 1 with fail
  refine eu fun W1 N1 => ?_
  have T1 := Lib.hid (je.start h N1 rfl)
  obtain ⟨g,hg⟩ : ∃ g,w.heap.size = g := ⟨_,rfl⟩
  rw [hg] at T1 ⊢
  clear N1 hg h hM hf htk jq hw ha hhd hhl htot zk ni hv hx he hpos hxo hb hlx hcl hlen hfv htv aaj aa5 aaz hxi hxm hxg hxl hxc hs1 hs2 hxw h2
  obtain ⟨c0,c1,c2,c3⟩ := ah T1.out.box
  rw [HK.out] at c0
  go_wp2_with fail
  (with_reducible refine (HO.out _ T1.out.rb).mono ?_); rintro e W2 ⟨rfl,f2⟩
  have T2 := Lib.hid (T1.out.fr0 f2)
  clear f2 c0 c1 c2 c3 T1
  clear HO
  obtain ⟨c0,c1,c2,c3⟩ := ah T2.out.box
  rw [HK.out] at c0
  have ci := ak (RB.field T2.out.rb.vs HX.out 1 rfl) HI.out
  have cm := ak (RB.field T2.out.rb.vs HX.out 2 rfl) HCm.out
  have cg := ak (RB.field T2.out.rb.vs HX.out 3 rfl) HG.out
  go_upto_region 8 with fail
  go_region
  go_upto_region 9 with fail
  obtain ⟨W3,hW⟩ : ∃ X,X = W2.drew := ⟨_,rfl⟩
  refine bg W3 hW ?_
  have T3 := Lib.hid (show je _ _ _ _ _ _ _ W3 _ by rw [hW]; exact T2.out.drew)
  clear hW c0 c1 c2 c3 ci cm cg T2
  obtain ⟨c0,c1,c2,c3⟩ := ah T3.out.box
  rw [HK.out] at c0
  have cz := ak (RB.field T3.out.rb.vs HX.out 3 rfl) HG.out
  go_upto_region 46 with fail
  go_upto_region 47 with fail
  clear c0 c1 c2 c3 cz
  go_wp2_with fail
  go_ret2
  exact ⟨rfl,qg.no (show (16 : Int) ≠ 0 by decide),T3.out.fr⟩
 ·skip
  obtain ⟨u,hu⟩ : ∃ z,x.goi - d.a = z := ⟨_,rfl⟩
  obtain ⟨y,hy⟩ : ∃ z,x.iss + d.a = z := ⟨_,rfl⟩
  obtain ⟨z,hz⟩ : ∃ z,M.pn + d.a = z := ⟨_,rfl⟩
  by_cases h4 : 4611686018427387904 < uy M.tok 256 + d.a
  ·rw [show zo M d.v d.a j x = M.no 4 from by unfold zo; rw [if_neg h2,if_pos h4]]
   by_cases af4 : x.fal = true
   ·skip
    obtain ⟨q,hq⟩ : ∃ z,x.coll * d.a / x.goi = z := ⟨_,rfl⟩
    obtain ⟨cq,hcq⟩ : ∃ z,x.coll - q = z := ⟨_,rfl⟩
    obtain ⟨pq,hpq⟩ : ∃ z,M.pc + q = z := ⟨_,rfl⟩
    have HP := Lib.hid (fun (W : World) (rb : RB B W m R M (.slice (some ⟨gv,0,none⟩) nv cv)) => ac4 (M := M) rb hM hx d.a (by omega) (by omega))
    rw [hq,hcq,hpq] at HP
    have aol := Lib.hid af4
    obtain ⟨xi,hxi⟩ : ∃ z,x.iss = z := ⟨_,rfl⟩
    obtain ⟨xm,hxm⟩ : ∃ z,x.com = z := ⟨_,rfl⟩
    obtain ⟨xg,hxg⟩ : ∃ z,x.goi = z := ⟨_,rfl⟩
    obtain ⟨xl,hxl⟩ : ∃ z,x.lea = z := ⟨_,rfl⟩
    obtain ⟨xc,hxc⟩ : ∃ z,x.coll = z := ⟨_,rfl⟩
    obtain ⟨s1,hs1⟩ : ∃ z,xi + xm = z := ⟨_,rfl⟩
    obtain ⟨s2,hs2⟩ : ∃ z,s1 + xg = z := ⟨_,rfl⟩
    have mb1 : IntKind.u64.wrap ((xi : Int) + (xm : Int)) = ((s1 : Nat) : Int) := by rw [IntWalk.u64_in _ (by omega)]; omega
    have mb2 : IntKind.u64.wrap ((s1 : Int) + (xg : Int)) = ((s2 : Nat) : Int) := by rw [IntWalk.u64_in _ (by omega)]; omega
    have HI := Lib.hid hxi
    have HCm := Lib.hid hxm
    have HG := Lib.hid hxg
    have HLe := Lib.hid hxl
    have HCo := Lib.hid hxc
    obtain ⟨xn,hxn⟩ : ∃ z,M.pn = z := ⟨_,rfl⟩
    have HN := Lib.hid hxn
    have q8 : decide ((xg : Int) < (d.a : Int)) = false := decide_eq_false (by omega)
    have q8' : decide (xg < d.a) = false := decide_eq_false (by omega)
    have m2 : IntKind.u64.wrap ((xg : Int) - (d.a : Int)) = ((u : Nat) : Int) := by rw [IntWalk.u64_in _ (by omega)]; omega
    have m3 : IntKind.u64.wrap ((xi : Int) + (d.a : Int)) = ((y : Nat) : Int) := by rw [IntWalk.u64_in _ (by omega)]; omega
    have m4 : IntKind.u64.wrap ((xn : Int) + (d.a : Int)) = ((z : Nat) : Int) := by rw [IntWalk.u64_in _ (by omega)]; omega
    have HMT := Lib.hid (And.intro jq (And.intro hpos.2 h4))
    go_enter Tryz.func108,Tryz.ntmps108
    go_upto_region 1 with fail
    refine eu fun W1 N1 => ?_
    have T1 := Lib.hid (je.start h N1 rfl)
    obtain ⟨g,hg⟩ : ∃ g,w.heap.size = g := ⟨_,rfl⟩
    rw [hg] at T1 ⊢
    clear N1 hg h hM hf htk jq hw ha hhd hhl htot zk ni hv hx he hpos hxo hb hlx hcl hlen hfv htv aaj aa5 aaz hxi hxm hxg hxl hxc hs1 hs2 hxw h2 h4 hu hy hz hxn af4 hq hcq hpq
    obtain ⟨c0,c1,c2,c3⟩ := ah T1.out.box
    rw [HK.out] at c0
    go_wp2_with fail
    (with_reducible refine (HO.out _ T1.out.rb).mono ?_); rintro e W2 ⟨rfl,f2⟩
    have T2 := Lib.hid (T1.out.fr0 f2)
    clear f2 c0 c1 c2 c3 T1
    clear HO
    obtain ⟨c0,c1,c2,c3⟩ := ah T2.out.box
    rw [HK.out] at c0
    have ci := ak (RB.field T2.out.rb.vs HX.out 1 rfl) HI.out
    have cm := ak (RB.field T2.out.rb.vs HX.out 2 rfl) HCm.out
    have cg := ak (RB.field T2.out.rb.vs HX.out 3 rfl) HG.out
    go_upto_region 8 with fail
    go_region
    go_upto_region 9 with fail
    obtain ⟨W3,hW⟩ : ∃ X,X = W2.drew := ⟨_,rfl⟩
    refine bg W3 hW ?_
    have T3 := Lib.hid (show je _ _ _ _ _ _ _ W3 _ by rw [hW]; exact T2.out.drew)
    clear hW c0 c1 c2 c3 ci cm cg T2
    obtain ⟨c0,c1,c2,c3⟩ := ah T3.out.box
    rw [HK.out] at c0
    have cz := ak (RB.field T3.out.rb.vs HX.out 3 rfl) HG.out
    go_upto_region 46 with fail
    go_upto_region 48 with fail
    clear c0 c1 c2 c3 cz
    obtain ⟨c0,c1,c2,c3⟩ := ah T3.out.box
    rw [HK.out] at c0
    have cf := RB.field T3.out.rb.vs HX.out 5 rfl
    rw [aol.out] at cf
    go_wp2_with fail
    (with_reducible refine (HP.out _ T3.out.rb).mono ?_); rintro e W4 ⟨rfl,rb5,f5⟩
    have T4 := Lib.hid (T3.out.set rb5 (f5.mono fun k _ e => e.elim .inl fun e => .inr (by rw [e]; rfl)))
    have HXP := Lib.hid (lq (y := { x with coll := cq }) HX.out)
    clear rb5 f5 HP c0 c1 c2 c3 cf T3
    go_upto_region 50 with fail
    obtain ⟨c0,c1,c2,c3⟩ := ah T4.out.box
    rw [HK.out] at c0
    have cz := ak (RB.field T4.out.rb.vs HXP.out 3 rfl) HG.out
    have zf := T4.out.rb.og (j * 27 + (21 + 3))
    go_upto_region 51 with fail
    have T5 := Lib.hid (T4.out.uh (T4.out.rb.ac8 HXP.out 3 (by omega) (u := .int .u64 (u : Nat)) (y := { x with coll := cq,goi := u }) (by rw [jl]; rfl)))
    replace T5 : Hid (je _ _ _ _ _ _ _ (W4.setCell ⟨gv,j * 27 + 24,none⟩ (.int .u64 (u : Nat))) _) := T5
    try rw [qm] at T5
    try rw [ql] at T5
    generalize (W4.setCell ⟨gv,j * 27 + 24,none⟩ (.int .u64 (u : Nat))) = W5 at *
    have HX5 := Lib.hid (lq (y := { x with coll := cq,goi := u }) HXP.out)
    try rw [qm] at HX5
    try rw [ql] at HX5
    clear c0 c1 c2 c3 zf T4 cz
    obtain ⟨c0,c1,c2,c3⟩ := ah T5.out.box
    rw [HK.out] at c0
    have cf := RB.field T5.out.rb.vs HX5.out 5 rfl
    rw [aol.out] at cf
    go_upto_region 53 with fail
    clear c0 c1 c2 c3 cf
    obtain ⟨c0,c1,c2,c3⟩ := ah T5.out.box
    rw [HK.out] at c0
    have cn := ak (T5.out.rb.pn) HN.out
    have zf := T5.out.rb.blk.frozen (530)
    go_upto_region 55 with fail
    have T6 := Lib.hid (T5.out.put (T5.out.rb.ale z))
    generalize (W5.setCell ⟨m,530,none⟩ (.int .u64 (z : Nat))) = W6 at *
    clear c0 c1 c2 c3 zf T5 cn
    obtain ⟨c0,c1,c2,c3⟩ := ah T6.out.box
    rw [HK.out] at c0
    have HC := Lib.hid (ag1 T6.out.rb HMT.out.1 d.v d.a HMT.out.2.1 HMT.out.2.2)
    go_wp2_with fail
    (with_reducible refine HC.out.mono ?_); rintro e W7 ⟨rfl,f2⟩
    have T7 := Lib.hid (T6.out.fr0 f2)
    clear f2 HC c0 c1 c2 c3 T6
    go_wp2_with fail
    go_ret2
    exact ⟨rfl,qg.no (show (4 : Int) ≠ 0 by decide),T7.out.fr⟩
   ·replace af4 : x.fal = false := by cases e : x.fal with | false => rfl | true => exact absurd e af4
    have aol := Lib.hid af4
    obtain ⟨xi,hxi⟩ : ∃ z,x.iss = z := ⟨_,rfl⟩
    obtain ⟨xm,hxm⟩ : ∃ z,x.com = z := ⟨_,rfl⟩
    obtain ⟨xg,hxg⟩ : ∃ z,x.goi = z := ⟨_,rfl⟩
    obtain ⟨xl,hxl⟩ : ∃ z,x.lea = z := ⟨_,rfl⟩
    obtain ⟨xc,hxc⟩ : ∃ z,x.coll = z := ⟨_,rfl⟩
    obtain ⟨s1,hs1⟩ : ∃ z,xi + xm = z := ⟨_,rfl⟩
    obtain ⟨s2,hs2⟩ : ∃ z,s1 + xg = z := ⟨_,rfl⟩
    have mb1 : IntKind.u64.wrap ((xi : Int) + (xm : Int)) = ((s1 : Nat) : Int) := by rw [IntWalk.u64_in _ (by omega)]; omega
    have mb2 : IntKind.u64.wrap ((s1 : Int) + (xg : Int)) = ((s2 : Nat) : Int) := by rw [IntWalk.u64_in _ (by omega)]; omega
    have HI := Lib.hid hxi
    have HCm := Lib.hid hxm
    have HG := Lib.hid hxg
    have HLe := Lib.hid hxl
    have HCo := Lib.hid hxc
    obtain ⟨xn,hxn⟩ : ∃ z,M.pn = z := ⟨_,rfl⟩
    have HN := Lib.hid hxn
    have q9 : decide ((xg : Int) < (d.a : Int)) = false := decide_eq_false (by omega)
    have q9' : decide (xg < d.a) = false := decide_eq_false (by omega)
    have m2 : IntKind.u64.wrap ((xg : Int) - (d.a : Int)) = ((u : Nat) : Int) := by rw [IntWalk.u64_in _ (by omega)]; omega
    have m3 : IntKind.u64.wrap ((xi : Int) + (d.a : Int)) = ((y : Nat) : Int) := by rw [IntWalk.u64_in _ (by omega)]; omega
    have m4 : IntKind.u64.wrap ((xn : Int) + (d.a : Int)) = ((z : Nat) : Int) := by rw [IntWalk.u64_in _ (by omega)]; omega
    have HMT := Lib.hid (And.intro jq (And.intro hpos.2 h4))
    go_enter Tryz.func108,Tryz.ntmps108
    go_upto_region 1 with fail
    refine eu fun W1 N1 => ?_
    have T1 := Lib.hid (je.start h N1 rfl)
    obtain ⟨g,hg⟩ : ∃ g,w.heap.size = g := ⟨_,rfl⟩
    rw [hg] at T1 ⊢
    clear N1 hg h hM hf htk jq hw ha hhd hhl htot zk ni hv hx he hpos hxo hb hlx hcl hlen hfv htv aaj aa5 aaz hxi hxm hxg hxl hxc hs1 hs2 hxw h2 h4 hu hy hz hxn af4
    obtain ⟨c0,c1,c2,c3⟩ := ah T1.out.box
    rw [HK.out] at c0
    go_wp2_with fail
    (with_reducible refine (HO.out _ T1.out.rb).mono ?_); rintro e W2 ⟨rfl,f2⟩
    have T2 := Lib.hid (T1.out.fr0 f2)
    clear f2 c0 c1 c2 c3 T1
    clear HO
    obtain ⟨c0,c1,c2,c3⟩ := ah T2.out.box
    rw [HK.out] at c0
    have ci := ak (RB.field T2.out.rb.vs HX.out 1 rfl) HI.out
    have cm := ak (RB.field T2.out.rb.vs HX.out 2 rfl) HCm.out
    have cg := ak (RB.field T2.out.rb.vs HX.out 3 rfl) HG.out
    go_upto_region 8 with fail
    go_region
    go_upto_region 9 with fail
    obtain ⟨W3,hW⟩ : ∃ X,X = W2.drew := ⟨_,rfl⟩
    refine bg W3 hW ?_
    have T3 := Lib.hid (show je _ _ _ _ _ _ _ W3 _ by rw [hW]; exact T2.out.drew)
    clear hW c0 c1 c2 c3 ci cm cg T2
    obtain ⟨c0,c1,c2,c3⟩ := ah T3.out.box
    rw [HK.out] at c0
    have cz := ak (RB.field T3.out.rb.vs HX.out 3 rfl) HG.out
    go_upto_region 46 with fail
    go_upto_region 48 with fail
    clear c0 c1 c2 c3 cz
    obtain ⟨c0,c1,c2,c3⟩ := ah T3.out.box
    rw [HK.out] at c0
    have cf := RB.field T3.out.rb.vs HX.out 5 rfl
    rw [aol.out] at cf
    go_upto_region 50 with fail
    clear c0 c1 c2 c3 cf
    obtain ⟨c0,c1,c2,c3⟩ := ah T3.out.box
    rw [HK.out] at c0
    have cz := ak (RB.field T3.out.rb.vs HX.out 3 rfl) HG.out
    have zf := T3.out.rb.og (j * 27 + (21 + 3))
    go_upto_region 51 with fail
    have T4 := Lib.hid (T3.out.uh (T3.out.rb.ac8 HX.out 3 (by omega) (u := .int .u64 (u : Nat)) (y := { x with goi := u }) (by rw [jl]; rfl)))
    replace T4 : Hid (je _ _ _ _ _ _ _ (W3.setCell ⟨gv,j * 27 + 24,none⟩ (.int .u64 (u : Nat))) _) := T4
    try rw [qm] at T4
    try rw [ql] at T4
    generalize (W3.setCell ⟨gv,j * 27 + 24,none⟩ (.int .u64 (u : Nat))) = W4 at *
    have HX4 := Lib.hid (lq (y := { x with goi := u }) HX.out)
    try rw [qm] at HX4
    try rw [ql] at HX4
    clear c0 c1 c2 c3 zf T3 cz
    obtain ⟨c0,c1,c2,c3⟩ := ah T4.out.box
    rw [HK.out] at c0
    have cf := RB.field T4.out.rb.vs HX4.out 5 rfl
    rw [aol.out] at cf
    go_upto_region 54 with fail
    clear c0 c1 c2 c3 cf
    obtain ⟨c0,c1,c2,c3⟩ := ah T4.out.box
    rw [HK.out] at c0
    have cz := ak (RB.field T4.out.rb.vs HX4.out 1 rfl) HI.out
    have zf := T4.out.rb.og (j * 27 + (21 + 1))
    go_upto_region 55 with fail
    have T5 := Lib.hid (T4.out.uh (T4.out.rb.ac8 HX4.out 1 (by omega) (u := .int .u64 (y : Nat)) (y := { x with goi := u,iss := y }) (by rw [jl]; rfl)))
    replace T5 : Hid (je _ _ _ _ _ _ _ (W4.setCell ⟨gv,j * 27 + 22,none⟩ (.int .u64 (y : Nat))) _) := T5
    try rw [qm] at T5
    try rw [ql] at T5
    generalize (W4.setCell ⟨gv,j * 27 + 22,none⟩ (.int .u64 (y : Nat))) = W5 at *
    have HX5 := Lib.hid (lq (y := { x with goi := u,iss := y }) HX4.out)
    try rw [qm] at HX5
    try rw [ql] at HX5
    clear c0 c1 c2 c3 zf T4 cz
    obtain ⟨c0,c1,c2,c3⟩ := ah T5.out.box
    rw [HK.out] at c0
    have HC := Lib.hid (ag1 T5.out.rb HMT.out.1 d.v d.a HMT.out.2.1 HMT.out.2.2)
    go_wp2_with fail
    (with_reducible refine HC.out.mono ?_); rintro e W6 ⟨rfl,f2⟩
    have T6 := Lib.hid (T5.out.fr0 f2)
    clear f2 HC c0 c1 c2 c3 T5
    go_wp2_with fail
    go_ret2
    exact ⟨rfl,qg.no (show (4 : Int) ≠ 0 by decide),T6.out.fr⟩
  by_cases af4 : x.fal = true
  ·skip
   obtain ⟨q,hq⟩ : ∃ z,x.coll * d.a / x.goi = z := ⟨_,rfl⟩
   obtain ⟨cq,hcq⟩ : ∃ z,x.coll - q = z := ⟨_,rfl⟩
   obtain ⟨pq,hpq⟩ : ∃ z,M.pc + q = z := ⟨_,rfl⟩
   have HP := Lib.hid (fun (W : World) (rb : RB B W m R M (.slice (some ⟨gv,0,none⟩) nv cv)) => ac4 (M := M) rb hM hx d.a (by omega) (by omega))
   rw [hq,hcq,hpq] at HP
   rw [show zo M d.v d.a j x = ({ M.uh j { x with coll := cq,goi := u } with pc := pq,pn := z,tok := upd M.tok d.v (M.tok d.v + d.a) },0,0) from by unfold zo; rw [if_neg h2,if_neg h4,if_pos af4,hu,hq,hcq,hpq,hz]]
   have aol := Lib.hid af4
   obtain ⟨xi,hxi⟩ : ∃ z,x.iss = z := ⟨_,rfl⟩
   obtain ⟨xm,hxm⟩ : ∃ z,x.com = z := ⟨_,rfl⟩
   obtain ⟨xg,hxg⟩ : ∃ z,x.goi = z := ⟨_,rfl⟩
   obtain ⟨xl,hxl⟩ : ∃ z,x.lea = z := ⟨_,rfl⟩
   obtain ⟨xc,hxc⟩ : ∃ z,x.coll = z := ⟨_,rfl⟩
   obtain ⟨s1,hs1⟩ : ∃ z,xi + xm = z := ⟨_,rfl⟩
   obtain ⟨s2,hs2⟩ : ∃ z,s1 + xg = z := ⟨_,rfl⟩
   have mb1 : IntKind.u64.wrap ((xi : Int) + (xm : Int)) = ((s1 : Nat) : Int) := by rw [IntWalk.u64_in _ (by omega)]; omega
   have mb2 : IntKind.u64.wrap ((s1 : Int) + (xg : Int)) = ((s2 : Nat) : Int) := by rw [IntWalk.u64_in _ (by omega)]; omega
   have HI := Lib.hid hxi
   have HCm := Lib.hid hxm
   have HG := Lib.hid hxg
   have HLe := Lib.hid hxl
   have HCo := Lib.hid hxc
   obtain ⟨xn,hxn⟩ : ∃ z,M.pn = z := ⟨_,rfl⟩
   have HN := Lib.hid hxn
   have q10 : decide ((xg : Int) < (d.a : Int)) = false := decide_eq_false (by omega)
   have q10' : decide (xg < d.a) = false := decide_eq_false (by omega)
   have m2 : IntKind.u64.wrap ((xg : Int) - (d.a : Int)) = ((u : Nat) : Int) := by rw [IntWalk.u64_in _ (by omega)]; omega
   have m3 : IntKind.u64.wrap ((xi : Int) + (d.a : Int)) = ((y : Nat) : Int) := by rw [IntWalk.u64_in _ (by omega)]; omega
   have m4 : IntKind.u64.wrap ((xn : Int) + (d.a : Int)) = ((z : Nat) : Int) := by rw [IntWalk.u64_in _ (by omega)]; omega
   have HMT := Lib.hid (And.intro jq (And.intro hpos.2 h4))
   go_enter Tryz.func108,Tryz.ntmps108
   go_upto_region 1 with fail
   refine eu fun W1 N1 => ?_
   have T1 := Lib.hid (je.start h N1 rfl)
   obtain ⟨g,hg⟩ : ∃ g,w.heap.size = g := ⟨_,rfl⟩
   rw [hg] at T1 ⊢
   clear N1 hg h hM hf htk jq hw ha hhd hhl htot zk ni hv hx he hpos hxo hb hlx hcl hlen hfv htv aaj aa5 aaz hxi hxm hxg hxl hxc hs1 hs2 hxw h2 h4 hu hy hz hxn af4 hq hcq hpq
   obtain ⟨c0,c1,c2,c3⟩ := ah T1.out.box
   rw [HK.out] at c0
   go_wp2_with fail
   (with_reducible refine (HO.out _ T1.out.rb).mono ?_); rintro e W2 ⟨rfl,f2⟩
   have T2 := Lib.hid (T1.out.fr0 f2)
   clear f2 c0 c1 c2 c3 T1
   clear HO
   obtain ⟨c0,c1,c2,c3⟩ := ah T2.out.box
   rw [HK.out] at c0
   have ci := ak (RB.field T2.out.rb.vs HX.out 1 rfl) HI.out
   have cm := ak (RB.field T2.out.rb.vs HX.out 2 rfl) HCm.out
   have cg := ak (RB.field T2.out.rb.vs HX.out 3 rfl) HG.out
   go_upto_region 8 with fail
   go_region
   go_upto_region 9 with fail
   obtain ⟨W3,hW⟩ : ∃ X,X = W2.drew := ⟨_,rfl⟩
   refine bg W3 hW ?_
   have T3 := Lib.hid (show je _ _ _ _ _ _ _ W3 _ by rw [hW]; exact T2.out.drew)
   clear hW c0 c1 c2 c3 ci cm cg T2
   obtain ⟨c0,c1,c2,c3⟩ := ah T3.out.box
   rw [HK.out] at c0
   have cz := ak (RB.field T3.out.rb.vs HX.out 3 rfl) HG.out
   go_upto_region 46 with fail
   go_upto_region 48 with fail
   clear c0 c1 c2 c3 cz
   obtain ⟨c0,c1,c2,c3⟩ := ah T3.out.box
   rw [HK.out] at c0
   have cf := RB.field T3.out.rb.vs HX.out 5 rfl
   rw [aol.out] at cf
   go_wp2_with fail
   (with_reducible refine (HP.out _ T3.out.rb).mono ?_); rintro e W4 ⟨rfl,rb5,f5⟩
   have T4 := Lib.hid (T3.out.set rb5 (f5.mono fun k _ e => e.elim .inl fun e => .inr (by rw [e]; rfl)))
   have HXP := Lib.hid (lq (y := { x with coll := cq }) HX.out)
   clear rb5 f5 HP c0 c1 c2 c3 cf T3
   go_upto_region 50 with fail
   obtain ⟨c0,c1,c2,c3⟩ := ah T4.out.box
   rw [HK.out] at c0
   have cz := ak (RB.field T4.out.rb.vs HXP.out 3 rfl) HG.out
   have zf := T4.out.rb.og (j * 27 + (21 + 3))
   go_upto_region 51 with fail
   have T5 := Lib.hid (T4.out.uh (T4.out.rb.ac8 HXP.out 3 (by omega) (u := .int .u64 (u : Nat)) (y := { x with coll := cq,goi := u }) (by rw [jl]; rfl)))
   replace T5 : Hid (je _ _ _ _ _ _ _ (W4.setCell ⟨gv,j * 27 + 24,none⟩ (.int .u64 (u : Nat))) _) := T5
   try rw [qm] at T5
   try rw [ql] at T5
   generalize (W4.setCell ⟨gv,j * 27 + 24,none⟩ (.int .u64 (u : Nat))) = W5 at *
   have HX5 := Lib.hid (lq (y := { x with coll := cq,goi := u }) HXP.out)
   try rw [qm] at HX5
   try rw [ql] at HX5
   clear c0 c1 c2 c3 zf T4 cz
   obtain ⟨c0,c1,c2,c3⟩ := ah T5.out.box
   rw [HK.out] at c0
   have cf := RB.field T5.out.rb.vs HX5.out 5 rfl
   rw [aol.out] at cf
   go_upto_region 53 with fail
   clear c0 c1 c2 c3 cf
   obtain ⟨c0,c1,c2,c3⟩ := ah T5.out.box
   rw [HK.out] at c0
   have cn := ak (T5.out.rb.pn) HN.out
   have zf := T5.out.rb.blk.frozen (530)
   go_upto_region 55 with fail
   have T6 := Lib.hid (T5.out.put (T5.out.rb.ale z))
   generalize (W5.setCell ⟨m,530,none⟩ (.int .u64 (z : Nat))) = W6 at *
   clear c0 c1 c2 c3 zf T5 cn
   obtain ⟨c0,c1,c2,c3⟩ := ah T6.out.box
   rw [HK.out] at c0
   have HC := Lib.hid (ag0 T6.out.rb HMT.out.1 d.v d.a HV.out HMT.out.2.1 HMT.out.2.2)
   go_wp2_with fail
   (with_reducible refine HC.out.mono ?_); rintro e W7 ⟨rfl,rb2,f2⟩
   have T7 := Lib.hid (T6.out.set rb2 (f2.mono fun k _ e => .inl e))
   clear f2 rb2 HC c0 c1 c2 c3 T6
   go_wp2_with fail
   go_ret2
   exact ⟨rfl,qg.yes T7.out.rb,T7.out.fr⟩
  ·replace af4 : x.fal = false := by cases e : x.fal with | false => rfl | true => exact absurd e af4
   rw [show zo M d.v d.a j x = ({ M.uh j { x with goi := u,iss := y } with tok := upd M.tok d.v (M.tok d.v + d.a) },0,0) from by unfold zo; rw [if_neg h2,if_neg h4,if_neg (by rw [af4]; simp),hu,hy]]
   have aol := Lib.hid af4
   obtain ⟨xi,hxi⟩ : ∃ z,x.iss = z := ⟨_,rfl⟩
   obtain ⟨xm,hxm⟩ : ∃ z,x.com = z := ⟨_,rfl⟩
   obtain ⟨xg,hxg⟩ : ∃ z,x.goi = z := ⟨_,rfl⟩
   obtain ⟨xl,hxl⟩ : ∃ z,x.lea = z := ⟨_,rfl⟩
   obtain ⟨xc,hxc⟩ : ∃ z,x.coll = z := ⟨_,rfl⟩
   obtain ⟨s1,hs1⟩ : ∃ z,xi + xm = z := ⟨_,rfl⟩
   obtain ⟨s2,hs2⟩ : ∃ z,s1 + xg = z := ⟨_,rfl⟩
   have mb1 : IntKind.u64.wrap ((xi : Int) + (xm : Int)) = ((s1 : Nat) : Int) := by rw [IntWalk.u64_in _ (by omega)]; omega
   have mb2 : IntKind.u64.wrap ((s1 : Int) + (xg : Int)) = ((s2 : Nat) : Int) := by rw [IntWalk.u64_in _ (by omega)]; omega
   have HI := Lib.hid hxi
   have HCm := Lib.hid hxm
   have HG := Lib.hid hxg
   have HLe := Lib.hid hxl
   have HCo := Lib.hid hxc
   obtain ⟨xn,hxn⟩ : ∃ z,M.pn = z := ⟨_,rfl⟩
   have HN := Lib.hid hxn
   have q11 : decide ((xg : Int) < (d.a : Int)) = false := decide_eq_false (by omega)
   have q11' : decide (xg < d.a) = false := decide_eq_false (by omega)
   have m2 : IntKind.u64.wrap ((xg : Int) - (d.a : Int)) = ((u : Nat) : Int) := by rw [IntWalk.u64_in _ (by omega)]; omega
   have m3 : IntKind.u64.wrap ((xi : Int) + (d.a : Int)) = ((y : Nat) : Int) := by rw [IntWalk.u64_in _ (by omega)]; omega
   have m4 : IntKind.u64.wrap ((xn : Int) + (d.a : Int)) = ((z : Nat) : Int) := by rw [IntWalk.u64_in _ (by omega)]; omega
   have HMT := Lib.hid (And.intro jq (And.intro hpos.2 h4))
   go_enter Tryz.func108,Tryz.ntmps108
   go_upto_region 1 with fail
   refine eu fun W1 N1 => ?_
   have T1 := Lib.hid (je.start h N1 rfl)
   obtain ⟨g,hg⟩ : ∃ g,w.heap.size = g := ⟨_,rfl⟩
   rw [hg] at T1 ⊢
   clear N1 hg h hM hf htk jq hw ha hhd hhl htot zk ni hv hx he hpos hxo hb hlx hcl hlen hfv htv aaj aa5 aaz hxi hxm hxg hxl hxc hs1 hs2 hxw h2 h4 hu hy hz hxn af4
   obtain ⟨c0,c1,c2,c3⟩ := ah T1.out.box
   rw [HK.out] at c0
   go_wp2_with fail
   (with_reducible refine (HO.out _ T1.out.rb).mono ?_); rintro e W2 ⟨rfl,f2⟩
   have T2 := Lib.hid (T1.out.fr0 f2)
   clear f2 c0 c1 c2 c3 T1
   clear HO
   obtain ⟨c0,c1,c2,c3⟩ := ah T2.out.box
   rw [HK.out] at c0
   have ci := ak (RB.field T2.out.rb.vs HX.out 1 rfl) HI.out
   have cm := ak (RB.field T2.out.rb.vs HX.out 2 rfl) HCm.out
   have cg := ak (RB.field T2.out.rb.vs HX.out 3 rfl) HG.out
   go_upto_region 8 with fail
   go_region
   go_upto_region 9 with fail
   obtain ⟨W3,hW⟩ : ∃ X,X = W2.drew := ⟨_,rfl⟩
   refine bg W3 hW ?_
   have T3 := Lib.hid (show je _ _ _ _ _ _ _ W3 _ by rw [hW]; exact T2.out.drew)
   clear hW c0 c1 c2 c3 ci cm cg T2
   obtain ⟨c0,c1,c2,c3⟩ := ah T3.out.box
   rw [HK.out] at c0
   have cz := ak (RB.field T3.out.rb.vs HX.out 3 rfl) HG.out
   go_upto_region 46 with fail
   go_upto_region 48 with fail
   clear c0 c1 c2 c3 cz
   obtain ⟨c0,c1,c2,c3⟩ := ah T3.out.box
   rw [HK.out] at c0
   have cf := RB.field T3.out.rb.vs HX.out 5 rfl
   rw [aol.out] at cf
   go_upto_region 50 with fail
   clear c0 c1 c2 c3 cf
   obtain ⟨c0,c1,c2,c3⟩ := ah T3.out.box
   rw [HK.out] at c0
   have cz := ak (RB.field T3.out.rb.vs HX.out 3 rfl) HG.out
   have zf := T3.out.rb.og (j * 27 + (21 + 3))
   go_upto_region 51 with fail
   have T4 := Lib.hid (T3.out.uh (T3.out.rb.ac8 HX.out 3 (by omega) (u := .int .u64 (u : Nat)) (y := { x with goi := u }) (by rw [jl]; rfl)))
   replace T4 : Hid (je _ _ _ _ _ _ _ (W3.setCell ⟨gv,j * 27 + 24,none⟩ (.int .u64 (u : Nat))) _) := T4
   try rw [qm] at T4
   try rw [ql] at T4
   generalize (W3.setCell ⟨gv,j * 27 + 24,none⟩ (.int .u64 (u : Nat))) = W4 at *
   have HX4 := Lib.hid (lq (y := { x with goi := u }) HX.out)
   try rw [qm] at HX4
   try rw [ql] at HX4
   clear c0 c1 c2 c3 zf T3 cz
   obtain ⟨c0,c1,c2,c3⟩ := ah T4.out.box
   rw [HK.out] at c0
   have cf := RB.field T4.out.rb.vs HX4.out 5 rfl
   rw [aol.out] at cf
   go_upto_region 54 with fail
   clear c0 c1 c2 c3 cf
   obtain ⟨c0,c1,c2,c3⟩ := ah T4.out.box
   rw [HK.out] at c0
   have cz := ak (RB.field T4.out.rb.vs HX4.out 1 rfl) HI.out
   have zf := T4.out.rb.og (j * 27 + (21 + 1))
   go_upto_region 55 with fail
   have T5 := Lib.hid (T4.out.uh (T4.out.rb.ac8 HX4.out 1 (by omega) (u := .int .u64 (y : Nat)) (y := { x with goi := u,iss := y }) (by rw [jl]; rfl)))
   replace T5 : Hid (je _ _ _ _ _ _ _ (W4.setCell ⟨gv,j * 27 + 22,none⟩ (.int .u64 (y : Nat))) _) := T5
   try rw [qm] at T5
   try rw [ql] at T5
   generalize (W4.setCell ⟨gv,j * 27 + 22,none⟩ (.int .u64 (y : Nat))) = W5 at *
   have HX5 := Lib.hid (lq (y := { x with goi := u,iss := y }) HX4.out)
   try rw [qm] at HX5
   try rw [ql] at HX5
   clear c0 c1 c2 c3 zf T4 cz
   obtain ⟨c0,c1,c2,c3⟩ := ah T5.out.box
   rw [HK.out] at c0
   have HC := Lib.hid (ag0 T5.out.rb HMT.out.1 d.v d.a HV.out HMT.out.2.1 HMT.out.2.2)
   go_wp2_with fail
   (with_reducible refine HC.out.mono ?_); rintro e W6 ⟨rfl,rb2,f2⟩
   have T6 := Lib.hid (T5.out.set rb2 (f2.mono fun k _ e => .inl e))
   clear f2 rb2 HC c0 c1 c2 c3 T5
   go_wp2_with fail
   go_ret2
   exact ⟨rfl,qg.yes T6.out.rb,T6.out.fr⟩
end
end Go.Proofs.YtohckefafbhooaaGreat
