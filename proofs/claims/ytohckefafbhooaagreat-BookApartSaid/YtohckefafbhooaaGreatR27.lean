import Derived.Test.YtohckefafbhooaaGreatR16
set_option maxRecDepth 100000
set_option maxHeartbeats 64000000
namespace Go.Proofs.YtohckefafbhooaaGreat
set_option linter.unusedVariables false
set_option linter.unusedSimpArgs false
open Go.RowKit
attribute [-go_sem] gq
section
variable {B : Nat} {w w' : World} {m : Nat} {R : Nat → Nat} {M : Bok} {sv : Value}
theorem anp {gv nv cv : Nat} {x : Vlt} (h : RB B w m R M (.slice (some ⟨gv,0,none⟩) nv cv)) (hM : M.Ok) (d : Dd) (hk : d.kind = 17) (hw : d.w < 256) (hv : d.v < 256) (ha : d.a < 18446744073709551616) (hx : M.vs[atV M.vs d.w]? = some x) (he : opE M d.w d.a false = 0) :
  Calls Tryz.prog 108 #[.pointer (some ⟨m,0,none⟩),.agg (dC d)] w (aaq B w m R (.slice (some ⟨gv,0,none⟩) nv cv) (adw M d.w d.v d.a (atV M.vs d.w) x)) := by
 have HK := Lib.hid hk
 have hf := hM.jy hw
 have hfv := hM.jy hv
 have htk := hM.uq hw
 have htv := hM.uq hv
 have jq := hM.most
 have HW := Lib.hid hw
 have HV := Lib.hid hv
 have l0 : (d.w : Int) < 256 := by omega
 have lv : (d.v : Int) < 256 := by omega
 have hhd := hM.held
 have hhl := hM.yj
 have htot := hM.tok
 have zk := hM.inn
 have ni := hM.paid
 have aaj := hM.now
 have aa5 := hM.price
 have hlen := hM.len
 have aaz : M.pc + x.coll ≤ M.held := by have := qx Vlt.coll M.vs x (jh hx); omega
 have hpos := ab3 he
 have hxo := hM.vok x (jh hx)
 have hb := hxo.bur
 unfold Vlt.bur at hb
 have hlx := hxo.lea
 have hcl := hM.uf hx
 have HO := Lib.hid (fun (W : World) (rb : RB B W m R M (.slice (some ⟨gv,0,none⟩) nv cv)) => xk rb (by omega) d.w d.a false hx he)
 have hxw := zq hx
 obtain ⟨j,hj⟩ : ∃ j,atV M.vs d.w = j := ⟨_,rfl⟩
 rw [hj] at HO hx ⊢
 have HX := Lib.hid hx
 clear hj hk
 unfold aaq
 by_cases h5 : opE M d.v d.a false = 0
 ·obtain ⟨u,hu⟩ := ard h5
  have HO2 := Lib.hid (fun (W : World) (rb : RB B W m R M (.slice (some ⟨gv,0,none⟩) nv cv)) => xk rb (by omega) d.v d.a false hu h5)
  have huo := hM.vok u (jh hu)
  have hub := huo.bur
  unfold Vlt.bur at hub
  have huw := zq hu
  by_cases h6 : d.v = d.w
  ·rw [show adw M d.w d.v d.a j x = M.no 9 from by unfold adw; rw [if_pos h5,if_pos h6]]
   obtain ⟨xi,hxi⟩ : ∃ z,x.iss = z := ⟨_,rfl⟩
   obtain ⟨xm,hxm⟩ : ∃ z,x.com = z := ⟨_,rfl⟩
   obtain ⟨xg,hxg⟩ : ∃ z,x.goi = z := ⟨_,rfl⟩
   obtain ⟨xl,hxl⟩ : ∃ z,x.lea = z := ⟨_,rfl⟩
   obtain ⟨xc,hxc⟩ : ∃ z,x.coll = z := ⟨_,rfl⟩
   obtain ⟨s1,hs1⟩ : ∃ z,xi + xm = z := ⟨_,rfl⟩
   obtain ⟨s2,hs2⟩ : ∃ z,s1 + xg = z := ⟨_,rfl⟩
   have mb1 : IntKind.u64.wrap ((xi : Int) + (xm : Int)) = ((s1 : Nat) : Int) := by rw [IntWalk.u64_in _ (by omega)]; omega
   have mb2 : IntKind.u64.wrap ((s1 : Int) + (xg : Int)) = ((s2 : Nat) : Int) := by rw [IntWalk.u64_in _ (by omega)]; omega
   have HI := Lib.hid hxi
   have HCm := Lib.hid hxm
   have HG := Lib.hid hxg
   have HLe := Lib.hid hxl
   have HCo := Lib.hid hxc
   have e1 : ((d.v : Int) == (d.w : Int)) = true := beq_iff_eq.2 (by omega)
   have e1' : (d.v == d.w) = true := beq_iff_eq.2 h6
   go_enter Tryz.func108,Tryz.ntmps108
   go_upto_region 1 with fail
   refine eu fun W1 N1 => ?_
   have T1 := Lib.hid (je.start h N1 rfl)
   obtain ⟨g,hg⟩ : ∃ g,w.heap.size = g := ⟨_,rfl⟩
   rw [hg] at T1 ⊢
   clear N1 hg h hM hf htk jq hw ha hhd hhl htot zk ni hv hx he hpos hxo hb hlx hcl hlen hfv htv aaj aa5 aaz hxi hxm hxg hxl hxc hs1 hs2 hxw h5 h6 hu huo hub huw
   obtain ⟨c0,c1,c2,c3⟩ := ah T1.out.box
   rw [HK.out] at c0
   go_wp2_with fail
   (with_reducible refine (HO.out _ T1.out.rb).mono ?_); rintro e W2 ⟨rfl,f2⟩
   have T2 := Lib.hid (T1.out.fr0 f2)
   clear f2 c0 c1 c2 c3 T1
   clear HO
   obtain ⟨c0,c1,c2,c3⟩ := ah T2.out.box
   rw [HK.out] at c0
   have ci := ak (RB.field T2.out.rb.vs HX.out 1 rfl) HI.out
   have cm := ak (RB.field T2.out.rb.vs HX.out 2 rfl) HCm.out
   have cg := ak (RB.field T2.out.rb.vs HX.out 3 rfl) HG.out
   go_upto_region 8 with fail
   go_region
   go_upto_region 9 with fail
   obtain ⟨W3,hW⟩ : ∃ X,X = W2.drew := ⟨_,rfl⟩
   refine bg W3 hW ?_
   have T3 := Lib.hid (show je _ _ _ _ _ _ _ W3 _ by rw [hW]; exact T2.out.drew)
   clear hW c0 c1 c2 c3 ci cm cg T2
   obtain ⟨c0,c1,c2,c3⟩ := ah T3.out.box
   rw [HK.out] at c0
   go_wp2_with fail
   (with_reducible refine (HO2.out _ T3.out.rb).mono ?_); rintro e W4 ⟨rfl,f2⟩
   have T4 := Lib.hid (T3.out.fr0 f2)
   clear f2 c0 c1 c2 c3 T3
   clear HO2
   obtain ⟨c0,c1,c2,c3⟩ := ah T4.out.box
   rw [HK.out] at c0
   go_wp2_with fail
   go_ret2
   exact ⟨rfl,qg.no (show (9 : Int) ≠ 0 by decide),T4.out.fr⟩
  have e1 : ((d.v : Int) == (d.w : Int)) = false := beq_eq_false_iff_ne.2 (by omega)
  have e1' : (d.v == d.w) = false := beq_eq_false_iff_ne.2 h6
  have hne : atV M.vs d.v ≠ j := fun e => by
   rw [e] at hu
   rw [hu] at hx
   cases hx
   omega
  have hrs : adw M d.w d.v d.a j x = if x.lea < d.a ∨ u.com < d.a then M.no 16 else ((M.uh j { x with lea := x.lea - d.a,iss := x.iss - d.a }).uh (atV M.vs d.v) { u with com := u.com - d.a,iss := u.iss + d.a },0,0) := by unfold adw; rw [if_pos h5,if_neg h6,hu]
  obtain ⟨i,hi⟩ : ∃ i,atV M.vs d.v = i := ⟨_,rfl⟩
  rw [hi] at HO2 hu hne hrs
  rw [hrs]
  have HU := Lib.hid hu
  have HNE := Lib.hid hne
  by_cases h2 : x.lea < d.a
  ·rw [if_pos (.inl h2)]
   obtain ⟨um,hum⟩ : ∃ z,u.com = z := ⟨_,rfl⟩
   obtain ⟨ui,hui⟩ : ∃ z,u.iss = z := ⟨_,rfl⟩
   obtain ⟨xi,hxi⟩ : ∃ z,x.iss = z := ⟨_,rfl⟩
   obtain ⟨xm,hxm⟩ : ∃ z,x.com = z := ⟨_,rfl⟩
   obtain ⟨xg,hxg⟩ : ∃ z,x.goi = z := ⟨_,rfl⟩
   obtain ⟨xl,hxl⟩ : ∃ z,x.lea = z := ⟨_,rfl⟩
   obtain ⟨xc,hxc⟩ : ∃ z,x.coll = z := ⟨_,rfl⟩
   obtain ⟨s1,hs1⟩ : ∃ z,xi + xm = z := ⟨_,rfl⟩
   obtain ⟨s2,hs2⟩ : ∃ z,s1 + xg = z := ⟨_,rfl⟩
   have mb1 : IntKind.u64.wrap ((xi : Int) + (xm : Int)) = ((s1 : Nat) : Int) := by rw [IntWalk.u64_in _ (by omega)]; omega
   have mb2 : IntKind.u64.wrap ((s1 : Int) + (xg : Int)) = ((s2 : Nat) : Int) := by rw [IntWalk.u64_in _ (by omega)]; omega
   have HI := Lib.hid hxi
   have HCm := Lib.hid hxm
   have HG := Lib.hid hxg
   have HLe := Lib.hid hxl
   have HCo := Lib.hid hxc
   have HUm := Lib.hid hum
   have HUi := Lib.hid hui
   have q1 : decide ((xl : Int) < (d.a : Int)) = true := decide_eq_true (by omega)
   have q1' : decide (xl < d.a) = true := decide_eq_true (by omega)
   go_enter Tryz.func108,Tryz.ntmps108
   go_upto_region 1 with fail
   refine eu fun W1 N1 => ?_
   have T1 := Lib.hid (je.start h N1 rfl)
   obtain ⟨g,hg⟩ : ∃ g,w.heap.size = g := ⟨_,rfl⟩
   rw [hg] at T1 ⊢
   clear N1 hg h hM hf htk jq hw ha hhd hhl htot zk ni hv hx he hpos hxo hb hlx hcl hlen hfv htv aaj aa5 aaz hxi hxm hxg hxl hxc hs1 hs2 hxw h5 h6 hu huo hub huw hne hi hrs hum hui h2
   obtain ⟨c0,c1,c2,c3⟩ := ah T1.out.box
   rw [HK.out] at c0
   go_wp2_with fail
   (with_reducible refine (HO.out _ T1.out.rb).mono ?_); rintro e W2 ⟨rfl,f2⟩
   have T2 := Lib.hid (T1.out.fr0 f2)
   clear f2 c0 c1 c2 c3 T1
   clear HO
   obtain ⟨c0,c1,c2,c3⟩ := ah T2.out.box
   rw [HK.out] at c0
   have ci := ak (RB.field T2.out.rb.vs HX.out 1 rfl) HI.out
   have cm := ak (RB.field T2.out.rb.vs HX.out 2 rfl) HCm.out
   have cg := ak (RB.field T2.out.rb.vs HX.out 3 rfl) HG.out
   go_upto_region 8 with fail
   go_region
   go_upto_region 9 with fail
   obtain ⟨W3,hW⟩ : ∃ X,X = W2.drew := ⟨_,rfl⟩
   refine bg W3 hW ?_
   have T3 := Lib.hid (show je _ _ _ _ _ _ _ W3 _ by rw [hW]; exact T2.out.drew)
   clear hW c0 c1 c2 c3 ci cm cg T2
   obtain ⟨c0,c1,c2,c3⟩ := ah T3.out.box
   rw [HK.out] at c0
   go_wp2_with fail
   (with_reducible refine (HO2.out _ T3.out.rb).mono ?_); rintro e W4 ⟨rfl,f2⟩
   have T4 := Lib.hid (T3.out.fr0 f2)
   clear f2 c0 c1 c2 c3 T3
   clear HO2
   obtain ⟨c0,c1,c2,c3⟩ := ah T4.out.box
   rw [HK.out] at c0
   have ca := ak (RB.field T4.out.rb.vs HX.out 4 rfl) HLe.out
   have cb := ak (RB.field T4.out.rb.vs HU.out 2 rfl) HUm.out
   go_wp2_with fail
   go_ret2
   exact ⟨rfl,qg.no (show (16 : Int) ≠ 0 by decide),T4.out.fr⟩
  by_cases h4 : u.com < d.a
  ·rw [if_pos (.inr h4)]
   obtain ⟨um,hum⟩ : ∃ z,u.com = z := ⟨_,rfl⟩
   obtain ⟨ui,hui⟩ : ∃ z,u.iss = z := ⟨_,rfl⟩
   obtain ⟨xi,hxi⟩ : ∃ z,x.iss = z := ⟨_,rfl⟩
   obtain ⟨xm,hxm⟩ : ∃ z,x.com = z := ⟨_,rfl⟩
   obtain ⟨xg,hxg⟩ : ∃ z,x.goi = z := ⟨_,rfl⟩
   obtain ⟨xl,hxl⟩ : ∃ z,x.lea = z := ⟨_,rfl⟩
   obtain ⟨xc,hxc⟩ : ∃ z,x.coll = z := ⟨_,rfl⟩
   obtain ⟨s1,hs1⟩ : ∃ z,xi + xm = z := ⟨_,rfl⟩
   obtain ⟨s2,hs2⟩ : ∃ z,s1 + xg = z := ⟨_,rfl⟩
   have mb1 : IntKind.u64.wrap ((xi : Int) + (xm : Int)) = ((s1 : Nat) : Int) := by rw [IntWalk.u64_in _ (by omega)]; omega
   have mb2 : IntKind.u64.wrap ((s1 : Int) + (xg : Int)) = ((s2 : Nat) : Int) := by rw [IntWalk.u64_in _ (by omega)]; omega
   have HI := Lib.hid hxi
   have HCm := Lib.hid hxm
   have HG := Lib.hid hxg
   have HLe := Lib.hid hxl
   have HCo := Lib.hid hxc
   have HUm := Lib.hid hum
   have HUi := Lib.hid hui
   have q2 : decide ((xl : Int) < (d.a : Int)) = false := decide_eq_false (by omega)
   have q2' : decide (xl < d.a) = false := decide_eq_false (by omega)
   have q3 : decide ((um : Int) < (d.a : Int)) = true := decide_eq_true (by omega)
   have q3' : decide (um < d.a) = true := decide_eq_true (by omega)
   go_enter Tryz.func108,Tryz.ntmps108
   go_upto_region 1 with fail
   refine eu fun W1 N1 => ?_
   have T1 := Lib.hid (je.start h N1 rfl)
   obtain ⟨g,hg⟩ : ∃ g,w.heap.size = g := ⟨_,rfl⟩
   rw [hg] at T1 ⊢
   clear N1 hg h hM hf htk jq hw ha hhd hhl htot zk ni hv hx he hpos hxo hb hlx hcl hlen hfv htv aaj aa5 aaz hxi hxm hxg hxl hxc hs1 hs2 hxw h5 h6 hu huo hub huw hne hi hrs hum hui h2 h4
   obtain ⟨c0,c1,c2,c3⟩ := ah T1.out.box
   rw [HK.out] at c0
   go_wp2_with fail
   (with_reducible refine (HO.out _ T1.out.rb).mono ?_); rintro e W2 ⟨rfl,f2⟩
   have T2 := Lib.hid (T1.out.fr0 f2)
   clear f2 c0 c1 c2 c3 T1
   clear HO
   obtain ⟨c0,c1,c2,c3⟩ := ah T2.out.box
   rw [HK.out] at c0
   have ci := ak (RB.field T2.out.rb.vs HX.out 1 rfl) HI.out
   have cm := ak (RB.field T2.out.rb.vs HX.out 2 rfl) HCm.out
   have cg := ak (RB.field T2.out.rb.vs HX.out 3 rfl) HG.out
   go_upto_region 8 with fail
   go_region
   go_upto_region 9 with fail
   obtain ⟨W3,hW⟩ : ∃ X,X = W2.drew := ⟨_,rfl⟩
   refine bg W3 hW ?_
   have T3 := Lib.hid (show je _ _ _ _ _ _ _ W3 _ by rw [hW]; exact T2.out.drew)
   clear hW c0 c1 c2 c3 ci cm cg T2
   obtain ⟨c0,c1,c2,c3⟩ := ah T3.out.box
   rw [HK.out] at c0
   go_wp2_with fail
   (with_reducible refine (HO2.out _ T3.out.rb).mono ?_); rintro e W4 ⟨rfl,f2⟩
   have T4 := Lib.hid (T3.out.fr0 f2)
   clear f2 c0 c1 c2 c3 T3
   clear HO2
   obtain ⟨c0,c1,c2,c3⟩ := ah T4.out.box
   rw [HK.out] at c0
   have ca := ak (RB.field T4.out.rb.vs HX.out 4 rfl) HLe.out
   have cb := ak (RB.field T4.out.rb.vs HU.out 2 rfl) HUm.out
   go_wp2_with fail
   go_ret2
   exact ⟨rfl,qg.no (show (16 : Int) ≠ 0 by decide),T4.out.fr⟩
  rw [if_neg (by omega)]
  obtain ⟨y1,hy1⟩ : ∃ z,x.lea - d.a = z := ⟨_,rfl⟩
  obtain ⟨y2,hy2⟩ : ∃ z,x.iss - d.a = z := ⟨_,rfl⟩
  obtain ⟨y3,hy3⟩ : ∃ z,u.com - d.a = z := ⟨_,rfl⟩
  obtain ⟨y4,hy4⟩ : ∃ z,u.iss + d.a = z := ⟨_,rfl⟩
  rw [hy1,hy2,hy3,hy4]
  obtain ⟨um,hum⟩ : ∃ z,u.com = z := ⟨_,rfl⟩
  obtain ⟨ui,hui⟩ : ∃ z,u.iss = z := ⟨_,rfl⟩
  obtain ⟨xi,hxi⟩ : ∃ z,x.iss = z := ⟨_,rfl⟩
  obtain ⟨xm,hxm⟩ : ∃ z,x.com = z := ⟨_,rfl⟩
  obtain ⟨xg,hxg⟩ : ∃ z,x.goi = z := ⟨_,rfl⟩
  obtain ⟨xl,hxl⟩ : ∃ z,x.lea = z := ⟨_,rfl⟩
  obtain ⟨xc,hxc⟩ : ∃ z,x.coll = z := ⟨_,rfl⟩
  obtain ⟨s1,hs1⟩ : ∃ z,xi + xm = z := ⟨_,rfl⟩
  obtain ⟨s2,hs2⟩ : ∃ z,s1 + xg = z := ⟨_,rfl⟩
  have mb1 : IntKind.u64.wrap ((xi : Int) + (xm : Int)) = ((s1 : Nat) : Int) := by rw [IntWalk.u64_in _ (by omega)]; omega
  have mb2 : IntKind.u64.wrap ((s1 : Int) + (xg : Int)) = ((s2 : Nat) : Int) := by rw [IntWalk.u64_in _ (by omega)]; omega
  have HI := Lib.hid hxi
  have HCm := Lib.hid hxm
  have HG := Lib.hid hxg
  have HLe := Lib.hid hxl
  have HCo := Lib.hid hxc
  have HUm := Lib.hid hum
  have HUi := Lib.hid hui
  have q4 : decide ((xl : Int) < (d.a : Int)) = false := decide_eq_false (by omega)
  have q4' : decide (xl < d.a) = false := decide_eq_false (by omega)
  have q5 : decide ((um : Int) < (d.a : Int)) = false := decide_eq_false (by omega)
  have q5' : decide (um < d.a) = false := decide_eq_false (by omega)
  have m1 : IntKind.u64.wrap ((xl : Int) - (d.a : Int)) = ((y1 : Nat) : Int) := by rw [IntWalk.u64_in _ (by omega)]; omega
  have m2 : IntKind.u64.wrap ((xi : Int) - (d.a : Int)) = ((y2 : Nat) : Int) := by rw [IntWalk.u64_in _ (by omega)]; omega
  have m3 : IntKind.u64.wrap ((um : Int) - (d.a : Int)) = ((y3 : Nat) : Int) := by rw [IntWalk.u64_in _ (by omega)]; omega
  have m4 : IntKind.u64.wrap ((ui : Int) + (d.a : Int)) = ((y4 : Nat) : Int) := by rw [IntWalk.u64_in _ (by omega)]; omega
  go_enter Tryz.func108,Tryz.ntmps108
  go_upto_region 1 with fail
  refine eu fun W1 N1 => ?_
  have T1 := Lib.hid (je.start h N1 rfl)
  obtain ⟨g,hg⟩ : ∃ g,w.heap.size = g := ⟨_,rfl⟩
  rw [hg] at T1 ⊢
  clear N1 hg h hM hf htk jq hw ha hhd hhl htot zk ni hv hx he hpos hxo hb hlx hcl hlen hfv htv aaj aa5 aaz hxi hxm hxg hxl hxc hs1 hs2 hxw h5 h6 hu huo hub huw hne hi hrs hum hui h2 h4 hy1 hy2 hy3 hy4
  obtain ⟨c0,c1,c2,c3⟩ := ah T1.out.box
  rw [HK.out] at c0
  go_wp2_with fail
  (with_reducible refine (HO.out _ T1.out.rb).mono ?_); rintro e W2 ⟨rfl,f2⟩
  have T2 := Lib.hid (T1.out.fr0 f2)
  clear f2 c0 c1 c2 c3 T1
  clear HO
  obtain ⟨c0,c1,c2,c3⟩ := ah T2.out.box
  rw [HK.out] at c0
  have ci := ak (RB.field T2.out.rb.vs HX.out 1 rfl) HI.out
  have cm := ak (RB.field T2.out.rb.vs HX.out 2 rfl) HCm.out
  have cg := ak (RB.field T2.out.rb.vs HX.out 3 rfl) HG.out
  go_upto_region 8 with fail
  go_region
  go_upto_region 9 with fail
  obtain ⟨W3,hW⟩ : ∃ X,X = W2.drew := ⟨_,rfl⟩
  refine bg W3 hW ?_
  have T3 := Lib.hid (show je _ _ _ _ _ _ _ W3 _ by rw [hW]; exact T2.out.drew)
  clear hW c0 c1 c2 c3 ci cm cg T2
  obtain ⟨c0,c1,c2,c3⟩ := ah T3.out.box
  rw [HK.out] at c0
  go_wp2_with fail
  (with_reducible refine (HO2.out _ T3.out.rb).mono ?_); rintro e W4 ⟨rfl,f2⟩
  have T4 := Lib.hid (T3.out.fr0 f2)
  clear f2 c0 c1 c2 c3 T3
  clear HO2
  obtain ⟨c0,c1,c2,c3⟩ := ah T4.out.box
  rw [HK.out] at c0
  have ca := ak (RB.field T4.out.rb.vs HX.out 4 rfl) HLe.out
  have cb := ak (RB.field T4.out.rb.vs HU.out 2 rfl) HUm.out
  go_upto_region 78 with fail
  clear c0 c1 c2 c3 ca cb
  obtain ⟨c0,c1,c2,c3⟩ := ah T4.out.box
  rw [HK.out] at c0
  have ca := ak (RB.field T4.out.rb.vs HX.out 4 rfl) HLe.out
  have zf := T4.out.rb.og (j * 27 + (21 + 4))
  go_upto_region 79 with fail
  have T5 := Lib.hid (T4.out.uh (T4.out.rb.ac8 HX.out 4 (by omega) (u := .int .u64 (y1 : Nat)) (y := { x with lea := y1 }) (by rw [jl]; rfl)))
  replace T5 : Hid (je _ _ _ _ _ _ _ (W4.setCell ⟨gv,j * 27 + 25,none⟩ (.int .u64 (y1 : Nat))) _) := T5
  try rw [qm] at T5
  try rw [ql] at T5
  generalize (W4.setCell ⟨gv,j * 27 + 25,none⟩ (.int .u64 (y1 : Nat))) = W5 at *
  have HX5 := Lib.hid (lq (y := { x with lea := y1 }) HX.out)
  try rw [qm] at HX5
  try rw [ql] at HX5
  clear c0 c1 c2 c3 zf T4 ca
  obtain ⟨c0,c1,c2,c3⟩ := ah T5.out.box
  rw [HK.out] at c0
  have ca := ak (RB.field T5.out.rb.vs HX5.out 1 rfl) HI.out
  have zf := T5.out.rb.og (j * 27 + (21 + 1))
  go_upto_region 80 with fail
  have T6 := Lib.hid (T5.out.uh (T5.out.rb.ac8 HX5.out 1 (by omega) (u := .int .u64 (y2 : Nat)) (y := { x with lea := y1,iss := y2 }) (by rw [jl]; rfl)))
  replace T6 : Hid (je _ _ _ _ _ _ _ (W5.setCell ⟨gv,j * 27 + 22,none⟩ (.int .u64 (y2 : Nat))) _) := T6
  try rw [qm] at T6
  try rw [ql] at T6
  generalize (W5.setCell ⟨gv,j * 27 + 22,none⟩ (.int .u64 (y2 : Nat))) = W6 at *
  have HX6 := Lib.hid (lq (y := { x with lea := y1,iss := y2 }) HX5.out)
  try rw [qm] at HX6
  try rw [ql] at HX6
  clear c0 c1 c2 c3 zf T5 ca
  have HU2 := Lib.hid (aDx (y := { x with lea := y1,iss := y2 }) HU.out HNE.out)
  obtain ⟨c0,c1,c2,c3⟩ := ah T6.out.box
  rw [HK.out] at c0
  have ca := ak (RB.field T6.out.rb.vs HU2.out 2 rfl) HUm.out
  have zf := T6.out.rb.og (i * 27 + (21 + 2))
  go_upto_region 81 with fail
  have T7 := Lib.hid (T6.out.uh (T6.out.rb.ac8 HU2.out 2 (by omega) (u := .int .u64 (y3 : Nat)) (y := { u with com := y3 }) (by rw [jl]; rfl)))
  replace T7 : Hid (je _ _ _ _ _ _ _ (W6.setCell ⟨gv,i * 27 + 23,none⟩ (.int .u64 (y3 : Nat))) _) := T7
  try rw [qm] at T7
  try rw [ql] at T7
  generalize (W6.setCell ⟨gv,i * 27 + 23,none⟩ (.int .u64 (y3 : Nat))) = W7 at *
  have HX7 := Lib.hid (lq (y := { u with com := y3 }) HU2.out)
  try rw [qm] at HX7
  try rw [ql] at HX7
  clear c0 c1 c2 c3 zf T6 ca
  obtain ⟨c0,c1,c2,c3⟩ := ah T7.out.box
  rw [HK.out] at c0
  have ca := ak (RB.field T7.out.rb.vs HX7.out 1 rfl) HUi.out
  have zf := T7.out.rb.og (i * 27 + (21 + 1))
  go_upto_region 92 with fail
  have T8 := Lib.hid (T7.out.uh (T7.out.rb.ac8 HX7.out 1 (by omega) (u := .int .u64 (y4 : Nat)) (y := { u with com := y3,iss := y4 }) (by rw [jl]; rfl)))
  replace T8 : Hid (je _ _ _ _ _ _ _ (W7.setCell ⟨gv,i * 27 + 22,none⟩ (.int .u64 (y4 : Nat))) _) := T8
  try rw [qm] at T8
  try rw [ql] at T8
  generalize (W7.setCell ⟨gv,i * 27 + 22,none⟩ (.int .u64 (y4 : Nat))) = W8 at *
  have HX8 := Lib.hid (lq (y := { u with com := y3,iss := y4 }) HX7.out)
  try rw [qm] at HX8
  try rw [ql] at HX8
  clear c0 c1 c2 c3 zf T7 ca
  go_wp2_with fail
  go_ret2
  exact ⟨rfl,qg.yes T8.out.rb,T8.out.fr⟩
 ·rw [show adw M d.w d.v d.a j x = M.no (opE M d.v d.a false) from if_neg h5]
  have HN := Lib.hid (fun (W : World) (rb : RB B W m R M (.slice (some ⟨gv,0,none⟩) nv cv)) => xu rb (by omega) d.v d.a false h5)
  obtain ⟨E,hE⟩ : ∃ z,opE M d.v d.a false = z := ⟨_,rfl⟩
  rw [hE] at HN h5 ⊢
  have b0 : (E != 0) = true := bne_iff_ne.2 h5
  have H5 := Lib.hid h5
  obtain ⟨xi,hxi⟩ : ∃ z,x.iss = z := ⟨_,rfl⟩
  obtain ⟨xm,hxm⟩ : ∃ z,x.com = z := ⟨_,rfl⟩
  obtain ⟨xg,hxg⟩ : ∃ z,x.goi = z := ⟨_,rfl⟩
  obtain ⟨xl,hxl⟩ : ∃ z,x.lea = z := ⟨_,rfl⟩
  obtain ⟨xc,hxc⟩ : ∃ z,x.coll = z := ⟨_,rfl⟩
  obtain ⟨s1,hs1⟩ : ∃ z,xi + xm = z := ⟨_,rfl⟩
  obtain ⟨s2,hs2⟩ : ∃ z,s1 + xg = z := ⟨_,rfl⟩
  have mb1 : IntKind.u64.wrap ((xi : Int) + (xm : Int)) = ((s1 : Nat) : Int) := by rw [IntWalk.u64_in _ (by omega)]; omega
  have mb2 : IntKind.u64.wrap ((s1 : Int) + (xg : Int)) = ((s2 : Nat) : Int) := by rw [IntWalk.u64_in _ (by omega)]; omega
  have HI := Lib.hid hxi
  have HCm := Lib.hid hxm
  have HG := Lib.hid hxg
  have HLe := Lib.hid hxl
  have HCo := Lib.hid hxc
  go_enter Tryz.func108,Tryz.ntmps108
  go_upto_region 1 with fail
  refine eu fun W1 N1 => ?_
  have T1 := Lib.hid (je.start h N1 rfl)
  obtain ⟨g,hg⟩ : ∃ g,w.heap.size = g := ⟨_,rfl⟩
  rw [hg] at T1 ⊢
  clear N1 hg h hM hf htk jq hw ha hhd hhl htot zk ni hv hx he hpos hxo hb hlx hcl hlen hfv htv aaj aa5 aaz hxi hxm hxg hxl hxc hs1 hs2 hxw h5 hE
  obtain ⟨c0,c1,c2,c3⟩ := ah T1.out.box
  rw [HK.out] at c0
  go_wp2_with fail
  (with_reducible refine (HO.out _ T1.out.rb).mono ?_); rintro e W2 ⟨rfl,f2⟩
  have T2 := Lib.hid (T1.out.fr0 f2)
  clear f2 c0 c1 c2 c3 T1
  clear HO
  obtain ⟨c0,c1,c2,c3⟩ := ah T2.out.box
  rw [HK.out] at c0
  have ci := ak (RB.field T2.out.rb.vs HX.out 1 rfl) HI.out
  have cm := ak (RB.field T2.out.rb.vs HX.out 2 rfl) HCm.out
  have cg := ak (RB.field T2.out.rb.vs HX.out 3 rfl) HG.out
  go_upto_region 8 with fail
  go_region
  go_upto_region 9 with fail
  obtain ⟨W3,hW⟩ : ∃ X,X = W2.drew := ⟨_,rfl⟩
  refine bg W3 hW ?_
  have T3 := Lib.hid (show je _ _ _ _ _ _ _ W3 _ by rw [hW]; exact T2.out.drew)
  clear hW c0 c1 c2 c3 ci cm cg T2
  obtain ⟨c0,c1,c2,c3⟩ := ah T3.out.box
  rw [HK.out] at c0
  go_wp2_with fail
  (with_reducible refine (HN.out _ T3.out.rb).mono ?_); rintro e W4 ⟨rfl,f2⟩
  have T4 := Lib.hid (T3.out.fr0 f2)
  clear f2 c0 c1 c2 c3 T3
  clear HN
  go_wp2_with fail
  go_ret2
  exact ⟨rfl,qg.no H5.out,T4.out.fr⟩
end
end Go.Proofs.YtohckefafbhooaaGreat
