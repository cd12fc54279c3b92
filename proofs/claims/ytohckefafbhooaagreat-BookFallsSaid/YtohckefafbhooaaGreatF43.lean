import Derived.Test.YtohckefafbhooaaGreatF40
import Derived.Test.YtohckefafbhooaaGreatF39
import Derived.Test.YtohckefafbhooaaGreatF42
import Derived.Test.YtohckefafbhooaaGreatF9
import Derived.Test.YtohckefafbhooaaGreatF1
import Derived.Test.YtohckefafbhooaaGreatF38
import Derived.Test.YtohckefafbhooaaGreatF41
set_option maxRecDepth 100000
set_option maxHeartbeats 64000000
namespace Go.Proofs.YtohckefafbhooaaGreat
set_option maxRecDepth 100000
set_option linter.unusedVariables false
set_option linter.unusedSimpArgs false
open Go.RowKit
theorem sec_ways (M : Bok) (c q : Nat) : (prE 50 M.price M.told M.now ≠ 0 ∧ secE usR M c q = prE 50 M.price M.told M.now) ∨ (prE 50 M.price M.told M.now = 0 ∧ 4611686018427387904 < q ∧ secE usR M c q = 4) ∨
  (prE 50 M.price M.told M.now = 0 ∧ q ≤ 4611686018427387904 ∧ decide (enP c q (prV 50 M.price M.told M.now) 2000) = false ∧ secE usR M c q = 19) ∨ (prE 50 M.price M.told M.now = 0 ∧ q ≤ 4611686018427387904 ∧ decide (enP c q (prV 50 M.price M.told M.now) 2000) = true ∧ secE usR M c q = 0) := by
 unfold secE
 rw [show usR 4 = 50 from rfl,show usR 0 = 2000 from rfl]
 by_cases h : prE 50 M.price M.told M.now = 0
 ·have hv : prV 50 M.price M.told M.now = M.price := if_pos h
  rw [if_pos h,hv]
  by_cases h2 : 4611686018427387904 < q
  ·exact .inr (.inl ⟨h,h2,if_pos h2⟩)
  ·rw [if_neg h2]
   by_cases h3 : enP c q M.price 2000
   ·exact .inr (.inr (.inr ⟨h,by omega,decide_eq_true h3,if_pos h3⟩))
   ·exact .inr (.inr (.inl ⟨h,by omega,decide_eq_false h3,if_neg h3⟩))
 ·rw [if_neg h]; exact .inl ⟨h,rfl⟩
section
variable {S : Nat → Prop} {w w' W : World} {p tp q fp vb : Nat} {M : Bok}
theorem vok_coll (hM : M.Ok) {y : Vlt} {j : Nat} (hy : M.vs[j]? = some y) : y.coll ≤ 4611686018427387904 := by
 have h1 := hM.coll_le hy
 have h2 := hM.inn
 have h3 := hM.paid
 omega
theorem bkReserve_any (h : KP S w p tp q fp vb M) (hM : M.Ok) {x a : Nat} (hx : x < 256) (ha : a < 18446744073709551616) :
  Calls Tryz.prog 23 #[.pointer (some ⟨p,0,none⟩),.int .u8 (x : Int),.int .u64 (a : Int)] w (EP S w p tp q fp vb (vD M x a false (reserveD usR M a)).1 (.int .i64 (vD M x a false (reserveD usR M a)).2.2)) := by
 by_cases hE : opE M x a false = 0
 ·obtain ⟨y,hb,hy,hg,hyw,hf⟩ := opE_good hE
  replace hf := hf rfl
  rw [vD_yes hE hy]
  unfold reserveD
  have hc := vok_coll hM hy
  rcases sec_ways M y.coll (y.bur + a) with ⟨h1,e⟩ | ⟨h1,h2,e⟩ | ⟨h1,h2,h3,e⟩ | ⟨h1,h2,h3,e⟩
  ·rw [e,if_neg h1]; exact bkReserve_price h hM hx ha hb hg hy hyw hf h1
  ·rw [e,if_neg (by decide)]; exact bkReserve_over h hM hx ha hb hg hy hyw hf h1 h2
  ·rw [e,if_neg (by decide)]; exact bkReserve_insec h hM hx ha hb hg hy hyw hf h1 h2 (by omega) h3
  ·rw [e,if_pos rfl]; exact bkReserve_ok h hM hx ha hb hg hy hyw hf h1 h2 (by omega) h3
 ·rw [vD_no hE]
  exact bkReserve_no h hx hE
theorem kFeedP (h : KP S w p tp q fp vb M) : Calls Tryz.prog 17 #[.pointer (some ⟨p,0,none⟩)] w fun e w' => e = .returned (.pointer (some ⟨fp,0,none⟩)) ∧ w' = w := by
 obtain ⟨tob,qp,qob,b,e⟩ := h
 exact bkFeed_any b
theorem kPurseP (h : KP S w p tp q fp vb M) : Calls Tryz.prog 20 #[.pointer (some ⟨p,0,none⟩)] w fun e w' => e = .returned (.pointer (some ⟨q,0,none⟩)) ∧ w' = w := by
 obtain ⟨tob,qp,qob,b,e⟩ := h
 exact bkPurse_any b
theorem kTokensP (h : KP S w p tp q fp vb M) : Calls Tryz.prog 35 #[.pointer (some ⟨p,0,none⟩)] w fun e w' => e = .returned (.pointer (some ⟨tp,0,none⟩)) ∧ w' = w := by
 obtain ⟨tob,qp,qob,b,e⟩ := h
 exact bkTokens_any b
theorem kDepositsP (h : KP S w p tp q fp vb M) : Calls Tryz.prog 32 #[.pointer (some ⟨p,0,none⟩)] w fun e w' => e = .returned (.int .u64 (M.dep : Int)) ∧ w' = w := by
 obtain ⟨tob,qp,qob,b,e⟩ := h
 exact bkDeposits_any b
end
def A1 : List UInt8 := 1 :: List.replicate 19 0
theorem built_A1 (w : World) : (buildAd #[(0,.int .u8 1)]).run Tryz.prog w = .ok (.agg (A1.map B8).toArray) w := run_build w _ _ _ (by kernel_rfl)
def lv1 : Bok := { bok0 with price := 100,told := 0 }
def lv2 : Bok := { lv1 with inn := 200,free := upd lv1.free 1 200 }
def lvV : Vlt := ⟨1,A1,200,0,0,0,0,false⟩
def lv3 : Bok := { lv2 with free := upd lv2.free 1 0,held := 200,vs := [lvV] }
def lv4 : Bok := { lv3 with vs := [{ lvV with com := 100000000 }] }
theorem A1_len : A1.length = 20 := rfl
theorem lv1_is : (step20 usR bok0 ⟨1,0,0,100,A1⟩).1 = lv1 := by
 show (priceD usR bok0 100).1 = lv1
 unfold priceD
 rw [if_pos (by decide)]
 rfl
theorem lv1_ok : lv1.Ok := by rw [← lv1_is]; exact step_ok bok0_ok (by decide) (by decide) rfl
theorem lv2_is : inD lv1 1 200 = (lv2,0,0) := by
 unfold inD
 rw [if_neg (by decide),if_neg (by decide)]
 rfl
theorem lv2_ok : lv2.Ok := by
 have := step_ok (R := usR) (d := ⟨2,1,0,200,A1⟩) lv1_ok (by decide) (by decide) rfl
 rw [show (step20 usR lv1 ⟨2,1,0,200,A1⟩).1 = lv2 from congrArg Prod.fst lv2_is] at this
 exact this
theorem lv3_is : registerD lv2 1 200 A1 = (lv3,0,0) := by
 unfold registerD
 rw [if_neg (by decide),if_neg (by simp [lv2,lv1,bok0]),if_neg (by decide),if_neg (by decide)]
 rfl
theorem lv3_ok : lv3.Ok := by
 have := step_ok (R := usR) (d := ⟨5,1,0,200,A1⟩) lv2_ok (by decide) (by decide) rfl
 rw [show (step20 usR lv2 ⟨5,1,0,200,A1⟩).1 = lv3 from congrArg Prod.fst lv3_is] at this
 exact this
theorem lv4_is : vD lv3 1 100000000 false (reserveD usR lv3 100000000) = (lv4,0,0) := by
 rw [vD_yes (y := lvV) (by decide) rfl]
 unfold reserveD
 rw [if_pos (by decide)]
 rfl
theorem lv4_ok : lv4.Ok := by
 have := step_ok (R := usR) (d := ⟨8,1,0,100000000,A1⟩) lv3_ok (by decide) (by decide) rfl
 rw [show (step20 usR lv3 ⟨8,1,0,100000000,A1⟩).1 = lv4 from congrArg Prod.fst lv4_is] at this
 exact this
theorem lv5_is : (vD lv4 1 1 false (reserveD usR lv4 1)) = (lv4,0,19) := by
 rw [vD_yes (y := { lvV with com := 100000000 }) (by decide) rfl]
 unfold reserveD
 have e : secE usR lv4 200 100000001 = 19 := by decide
 show (if secE usR lv4 200 100000001 = 0 then _ else lv4.no (secE usR lv4 200 100000001)) = _
 rw [e]
 rfl
theorem lives20_any (w : World) : Calls Tryz.prog 7 #[] w fun e w' => e = .returned (.bool true) ∧ Fr F0 w w' := by
 have HU := Lib.hid usual20_any
 have HN := Lib.hid bkNew_us
 have hb := built_A1
 go_enter Tryz.func7,Tryz.ntmps7
 go_wp2_with fail
 (with_reducible refine (HU.out _).mono ?_); rintro e w1 ⟨rfl,f1⟩
 have F1 := Lib.hid f1
 clear f1
 go_wp2_with fail
 refine (HN.out _).mono ?_; rintro e w2 ⟨p,tp,q,fp,vb,S,rfl,k2,hS,f2⟩
 have HS := Lib.hid (And.intro hS (F1.out.trans' f2))
 have HFd := Lib.hid (kFeedP k2)
 have HSt := Lib.hid (kSet_any k2 100 0)
 rw [if_pos (by decide),show seE 100 bok0.price bok0.told 100 0 = 0 by decide,show ((100 : Nat) : Int) = 100 from rfl,show ((0 : Nat) : Int) = 0 from rfl] at HSt
 have m2 := Lib.hid (MidT.start k2 (Fr.refl F0 w2))
 clear hS f2 k2
 go_wp2_with fail
 (with_reducible refine HFd.out.mono ?_); rintro e w3 ⟨rfl,hw⟩; replace hw := hw.symm; subst hw
 go_wp2_with fail
 (with_reducible refine HSt.out.mono ?_); rintro e w3 ⟨rfl,h3⟩
 obtain ⟨T3,m3⟩ := m2.out.next h3
 have HPu := Lib.hid (kPurseP m3.kp)
 have HIn := Lib.hid (kIn_ok (M := lv1) (a := 1) (x := 200) m3.kp (by decide) (by decide))
 rw [show ((1 : Nat) : Int) = 1 from rfl,show ((200 : Nat) : Int) = 200 from rfl] at HIn
 replace m3 : Hid (MidT S T3 w2 p tp q fp vb lv1 (fun _ => False) w3) := Lib.hid m3
 clear h3 HSt HFd m2
 go_wp2_with fail
 (with_reducible refine HPu.out.mono ?_); rintro e w4 ⟨rfl,hw⟩; replace hw := hw.symm; subst hw
 go_wp2_with fail
 (with_reducible refine HIn.out.mono ?_); rintro e w4 ⟨rfl,h4⟩
 obtain ⟨T4,m4⟩ := m3.out.next h4
 have HRe := Lib.hid (bkRegister_any (M := lv2) (x := 1) (a := 200) (A := A1) m4.kp lv2_ok (by decide) (by decide) A1_len)
 rw [lv3_is] at HRe
 unfold argsR at HRe
 rw [show ((1 : Nat) : Int) = 1 from rfl,show ((200 : Nat) : Int) = 200 from rfl] at HRe
 replace m4 : Hid (MidT S T4 w2 p tp q fp vb lv2 (fun _ => False) w4) := Lib.hid m4
 clear h4 HPu HIn m3
 obtain ⟨X,hX⟩ : ∃ X,X = (A1.map B8).toArray := ⟨_,rfl⟩
 rw [← hX] at HRe hb
 clear hX
 go_wp2_with fail
 (with_reducible refine HRe.out.mono ?_); rintro e w5 ⟨rfl,h5⟩
 obtain ⟨T5,m5⟩ := m4.out.next h5
 have HR1 := Lib.hid (bkReserve_any (M := lv3) (x := 1) (a := 100000000) m5.kp lv3_ok (by decide) (by decide))
 rw [lv4_is,show ((1 : Nat) : Int) = 1 from rfl,show ((100000000 : Nat) : Int) = 100000000 from rfl] at HR1
 replace m5 : Hid (MidT S T5 w2 p tp q fp vb lv3 (fun _ => False) w5) := Lib.hid m5
 clear h5 HRe m4
 go_wp2_with fail
 (with_reducible refine HR1.out.mono ?_); rintro e w6 ⟨rfl,h6⟩
 obtain ⟨T6,m6⟩ := m5.out.next h6
 have HR2 := Lib.hid (bkReserve_any (M := lv4) (x := 1) (a := 1) m6.kp lv4_ok (by decide) (by decide))
 rw [lv5_is,show ((1 : Nat) : Int) = 1 from rfl] at HR2
 replace m6 : Hid (MidT S T6 w2 p tp q fp vb lv4 (fun _ => False) w6) := Lib.hid m6
 clear h6 HR1 m5
 go_wp2_with fail
 (with_reducible refine HR2.out.mono ?_); rintro e w7 ⟨rfl,h7⟩
 obtain ⟨T7,m7⟩ := m6.out.next h7
 have HF := Lib.hid (HS.out.2.trans m7.fr fun i hi e => absurd hi (Nat.not_lt.2 (Nat.le_trans F1.out.size (HS.out.1 i e).1)))
 clear h7 m7 m6 HR2
 go_wp2_with fail
 go_ret
 exact ⟨rfl,HF.out⟩
end Go.Proofs.YtohckefafbhooaaGreat
namespace Go.Proofs.YtohckefafbhooaaGreat
set_option maxRecDepth 100000
set_option linter.unusedVariables false
set_option linter.unusedSimpArgs false
open Go.RowKit
theorem bkMint_ref {pv : Option Addr} {w : World} {x v a : Nat} {u : Vlt} {E1 E : Int} (H1 : Calls Tryz.prog 83 #[.pointer pv,.int .u8 (x : Int),.int .u64 (a : Int)] w fun e w' => e = .returned (.tuple #[vBv u,.int .i64 E1]) ∧ Fr F0 w w') (H2 : ∀ W,Calls Tryz.prog 82 #[vBv u,.int .i64 E1] W fun e w' => e = .returned (.tuple #[vBv v0,.int .i64 E]) ∧ Fr F0 W w') (hE : E ≠ 0) : Calls Tryz.prog 24 #[.pointer pv,.int .u8 (x : Int),.int .u8 (v : Int),.int .u64 (a : Int)] w fun e w' => e = .returned (.int .i64 E) ∧ Fr F0 w w' := by
 have sz0 := cB_size v0
 have oS0 := cB_one v0
 have q0 : (E != 0) = true := bne_iff_ne.2 hE
 simp only [vBv_is] at H1 H2
 generalize cB v0 = C0 at *
 generalize cB u = U at *
 replace H2 := Lib.hid H2
 replace H1 := Lib.hid H1
 clear hE
 go_enter Tryz.func24,Tryz.ntmps24
 go_wp2_with fail
 (with_reducible refine H1.out.mono ?_); rintro e w1 ⟨rfl,f1⟩
 have F2 := Lib.hid f1
 clear f1 H1
 go_wp2_with fail
 (with_reducible refine (H2.out _).mono ?_); rintro e w2 ⟨rfl,f2⟩
 replace F2 := Lib.hid (F2.out.trans' f2)
 clear f2 H2
 go_upto_region 2 with fail
 refine wp_put fun W3 N => ?_
 have F3 := Lib.hid (F2.out.trans' N.fr)
 clear N F2
 go_wp2_with fail
 go_ret
 exact ⟨rfl,F3.out⟩
theorem bkBurn_ref {pv : Option Addr} {w : World} {x v a : Nat} {u : Vlt} {E1 E : Int} (H1 : Calls Tryz.prog 83 #[.pointer pv,.int .u8 (x : Int),.int .u64 (a : Int)] w fun e w' => e = .returned (.tuple #[vBv u,.int .i64 E1]) ∧ Fr F0 w w') (H2 : ∀ W,Calls Tryz.prog 82 #[vBv u,.int .i64 E1] W fun e w' => e = .returned (.tuple #[vBv v0,.int .i64 E]) ∧ Fr F0 W w') (hE : E ≠ 0) : Calls Tryz.prog 25 #[.pointer pv,.int .u8 (x : Int),.int .u8 (v : Int),.int .u64 (a : Int)] w fun e w' => e = .returned (.int .i64 E) ∧ Fr F0 w w' := by
 have sz0 := cB_size v0
 have oS0 := cB_one v0
 have q0 : (E != 0) = true := bne_iff_ne.2 hE
 simp only [vBv_is] at H1 H2
 generalize cB v0 = C0 at *
 generalize cB u = U at *
 replace H2 := Lib.hid H2
 replace H1 := Lib.hid H1
 clear hE
 go_enter Tryz.func25,Tryz.ntmps25
 go_wp2_with fail
 (with_reducible refine H1.out.mono ?_); rintro e w1 ⟨rfl,f1⟩
 have F2 := Lib.hid f1
 clear f1 H1
 go_wp2_with fail
 (with_reducible refine (H2.out _).mono ?_); rintro e w2 ⟨rfl,f2⟩
 replace F2 := Lib.hid (F2.out.trans' f2)
 clear f2 H2
 go_upto_region 2 with fail
 refine wp_put fun W3 N => ?_
 have F3 := Lib.hid (F2.out.trans' N.fr)
 clear N F2
 go_wp2_with fail
 go_ret
 exact ⟨rfl,F3.out⟩
theorem bkFall_ref {pv : Option Addr} {w : World} {x : Nat} {u : Vlt} {E1 E : Int} (H1 : Calls Tryz.prog 88 #[.pointer pv,.int .u8 (x : Int)] w fun e w' => e = .returned (.tuple #[vBv u,.int .i64 E1]) ∧ Fr F0 w w') (H2 : ∀ W,Calls Tryz.prog 82 #[vBv u,.int .i64 E1] W fun e w' => e = .returned (.tuple #[vBv v0,.int .i64 E]) ∧ Fr F0 W w') (hE : E ≠ 0) : Calls Tryz.prog 26 #[.pointer pv,.int .u8 (x : Int)] w fun e w' => e = .returned (.int .i64 E) ∧ Fr F0 w w' := by
 have sz0 := cB_size v0
 have oS0 := cB_one v0
 have q0 : (E != 0) = true := bne_iff_ne.2 hE
 simp only [vBv_is] at H1 H2
 generalize cB v0 = C0 at *
 generalize cB u = U at *
 replace H2 := Lib.hid H2
 replace H1 := Lib.hid H1
 clear hE
 go_enter Tryz.func26,Tryz.ntmps26
 go_wp2_with fail
 (with_reducible refine H1.out.mono ?_); rintro e w1 ⟨rfl,f1⟩
 have F2 := Lib.hid f1
 clear f1 H1
 go_wp2_with fail
 (with_reducible refine (H2.out _).mono ?_); rintro e w2 ⟨rfl,f2⟩
 replace F2 := Lib.hid (F2.out.trans' f2)
 clear f2 H2
 go_upto_region 2 with fail
 refine wp_put fun W3 N => ?_
 have F3 := Lib.hid (F2.out.trans' N.fr)
 clear N F2
 go_wp2_with fail
 go_ret
 exact ⟨rfl,F3.out⟩
end Go.Proofs.YtohckefafbhooaaGreat
namespace Go.Proofs.YtohckefafbhooaaGreat
set_option maxRecDepth 100000
set_option linter.unusedVariables false
set_option linter.unusedSimpArgs false
open Go.RowKit
section
variable {S : Nat → Prop} {w w' W : World} {p tp q fp vb : Nat} {M : Bok}
theorem bkMint_few (h : KP S w p tp q fp vb M) (hM : M.Ok) {x v a : Nat} (hv : v < 256) (hx : x < 256) (ha : a < 18446744073709551616) (hb : ¬ badM a) {y : Vlt} (hg : gOf M.vs x = some y) (hy : M.vs[atV M.vs x]? = some y) (hyw : y.who = x) (hf : y.fal = false) (hc : y.com < a) :
  Calls Tryz.prog 24 #[.pointer (some ⟨p,0,none⟩),.int .u8 (x : Int),.int .u8 (v : Int),.int .u64 (a : Int)] w (EP S w p tp q fp vb M (.int .i64 16)) := by
 have hvk := hM.vok y (memAt hy)
 have hbu := hvk.bur
 have hxl := hvk.lea
 have hbb : ¬ (a = 0 ∨ 4611686018427387904 < a) := hb
 unfold Vlt.bur at hbu
 have H1 := Lib.hid (kAsked_yes h hx hb hg)
 have H2 := Lib.hid (bkstanding_yes y hf)
 have HM := Lib.hid (fun (W : World) (f : Fr F0 w W) => MidT.start h f)
 simp only [vBv_is] at H1 H2
 have HA := Lib.hid (fun (W : World) => aSub_any y.com a (by omega) ha W)
 rw [show sbE y.com a = 16 by unfold sbE; rw [if_pos (by omega),if_neg (by omega)]] at HA
 generalize sbV y.com a = z at *
 obtain ⟨sz,oS,c0,c21,c22,c23,c24,c25,c26⟩ := cBf y
 try dsimp only at c0 c21 c22 c23 c24 c25 c26
 obtain ⟨C,hC⟩ : ∃ C,C = cB y := ⟨_,rfl⟩
 rw [← hC] at H1 H2 sz oS c0 c21 c22 c23 c24 c25 c26
 have d23 := cell_is c23
 clear c0 c21 c22 c24 c25 c26
 replace hC := Lib.hid hC
 clear h hM hx ha hb hg hy hyw hvk hbu hxl hbb hc
 unfold EP
 go_enter Tryz.func24,Tryz.ntmps24
 go_wp2_with fail
 (with_reducible refine H1.out.mono ?_); rintro e w1 ⟨rfl,f1⟩
 have F2 := Lib.hid f1
 clear f1 H1
 go_wp2_with fail
 (with_reducible refine (H2.out _).mono ?_); rintro e w2 ⟨rfl,f2⟩
 replace F2 := Lib.hid (F2.out.trans' f2)
 clear f2 H2
 go_upto_region 2 with fail
 refine wp_put fun w4 N => ?_
 have r7 := N.new
 have m := Lib.hid ((HM.out _ F2.out).add N.fr (Nat.le_refl _) (Array.getElem?_eq_some_iff.1 r7).1)
 clear N F2 HM
 obtain ⟨g7,hg7⟩ : ∃ g,w2.heap.size = g := ⟨_,rfl⟩
 rw [hg7] at r7 m ⊢
 clear hg7
 go_wp2_with fail
 (with_reducible refine (HA.out _).mono ?_); rintro e w4 ⟨rfl,f4⟩
 replace r7 := keep_fr f4 r7
 replace m := Lib.hid (m.out.fr0 f4)
 clear f4
 go_upto_region 5 with fail
 have f5 := (Fr.refl (fun k => False ∨ k = g7) w4).setCell (p := ⟨g7,23,none⟩) (fun _ => .inr rfl) (.int .u64 (z : Int))
 have r8 : VX (w4.setCell ⟨g7,23,none⟩ (.int .u64 (z : Int))) g7 { y with com := z } := VX.setCom (show VX w4 g7 y by unfold VX; rw [← hC.out]; exact r7) z
 replace m := Lib.hid (m.out.box f5)
 clear f5 r7
 obtain ⟨w4,hW5⟩ : ∃ X,X = w4.setCell ⟨g7,23,none⟩ (.int .u64 (z : Int)) := ⟨_,rfl⟩
 rw [← hW5] at r8 m ⊢
 clear hW5
 have r7 := r8
 clear r8
 unfold VX at r7
 obtain ⟨sz,oS,c0,c21,c22,c23,c24,c25,c26⟩ := cBf { y with com := z }
 try dsimp only at c0 c21 c22 c23 c24 c25 c26
 obtain ⟨C,hC⟩ : ∃ C,C = cB { y with com := z } := ⟨_,rfl⟩
 rw [← hC] at r7 sz oS c0 c21 c22 c23 c24 c25 c26
 clear c0 c21 c22 c23 c24 c25 c26
 replace hC := Lib.hid hC
 go_wp2_with fail
 go_ret
 exact ⟨rfl,m.out.qp⟩
theorem bkMint_over (h : KP S w p tp q fp vb M) (hM : M.Ok) {x v a : Nat} (hv : v < 256) (hx : x < 256) (ha : a < 18446744073709551616) (hb : ¬ badM a) {y : Vlt} (hg : gOf M.vs x = some y) (hy : M.vs[atV M.vs x]? = some y) (hyw : y.who = x) (hf : y.fal = false) (hc : ¬ y.com < a) (ho : 4611686018427387904 < sumN M.tok 256 + a) :
  Calls Tryz.prog 24 #[.pointer (some ⟨p,0,none⟩),.int .u8 (x : Int),.int .u8 (v : Int),.int .u64 (a : Int)] w (EP S w p tp q fp vb M (.int .i64 4)) := by
 have hvk := hM.vok y (memAt hy)
 have hbu := hvk.bur
 have hxl := hvk.lea
 have hbb : ¬ (a = 0 ∨ 4611686018427387904 < a) := hb
 unfold Vlt.bur at hbu
 have H1 := Lib.hid (kAsked_yes h hx hb hg)
 have H2 := Lib.hid (bkstanding_yes y hf)
 have HM := Lib.hid (fun (W : World) (f : Fr F0 w W) => MidT.start h f)
 simp only [vBv_is] at H1 H2
 obtain ⟨z,hz⟩ : ∃ z,z = y.com - a := ⟨_,rfl⟩
 have HA := Lib.hid (fun (W : World) => aSub_any y.com a (by omega) ha W)
 rw [(sbQ (show a ≤ y.com by omega) (by omega)).1,(sbQ (show a ≤ y.com by omega) (by omega)).2,← hz] at HA
 have hq : mintQ M.tok (sumN M.tok 256) v a = (4,M.tok,sumN M.tok 256) := by unfold mintQ badA; rw [if_neg (by simp; omega)]; exact if_pos (by omega)
 have HMi := Lib.hid (fun (W : World) (T : Nat → Prop) (k : KP T W p tp q fp vb M) => kMint_any k hM hv ha)
 rw [hq] at HMi
 obtain ⟨sz,oS,c0,c21,c22,c23,c24,c25,c26⟩ := cBf y
 try dsimp only at c0 c21 c22 c23 c24 c25 c26
 obtain ⟨C,hC⟩ : ∃ C,C = cB y := ⟨_,rfl⟩
 rw [← hC] at H1 H2 sz oS c0 c21 c22 c23 c24 c25 c26
 have d23 := cell_is c23
 clear c0 c21 c22 c24 c25 c26
 replace hC := Lib.hid hC
 clear h hM hx ha hb hg hy hyw hvk hbu hxl hbb hc ho hz hq hv
 unfold EP
 go_enter Tryz.func24,Tryz.ntmps24
 go_wp2_with fail
 (with_reducible refine H1.out.mono ?_); rintro e w1 ⟨rfl,f1⟩
 have F2 := Lib.hid f1
 clear f1 H1
 go_wp2_with fail
 (with_reducible refine (H2.out _).mono ?_); rintro e w2 ⟨rfl,f2⟩
 replace F2 := Lib.hid (F2.out.trans' f2)
 clear f2 H2
 go_upto_region 2 with fail
 refine wp_put fun w4 N => ?_
 have r7 := N.new
 have m := Lib.hid ((HM.out _ F2.out).add N.fr (Nat.le_refl _) (Array.getElem?_eq_some_iff.1 r7).1)
 clear N F2 HM
 obtain ⟨g7,hg7⟩ : ∃ g,w2.heap.size = g := ⟨_,rfl⟩
 rw [hg7] at r7 m ⊢
 clear hg7
 go_wp2_with fail
 (with_reducible refine (HA.out _).mono ?_); rintro e w4 ⟨rfl,f4⟩
 replace r7 := keep_fr f4 r7
 replace m := Lib.hid (m.out.fr0 f4)
 clear f4
 go_upto_region 5 with fail
 have f5 := (Fr.refl (fun k => False ∨ k = g7) w4).setCell (p := ⟨g7,23,none⟩) (fun _ => .inr rfl) (.int .u64 (z : Int))
 have r8 : VX (w4.setCell ⟨g7,23,none⟩ (.int .u64 (z : Int))) g7 { y with com := z } := VX.setCom (show VX w4 g7 y by unfold VX; rw [← hC.out]; exact r7) z
 replace m := Lib.hid (m.out.box f5)
 clear f5 r7
 obtain ⟨w4,hW5⟩ : ∃ X,X = w4.setCell ⟨g7,23,none⟩ (.int .u64 (z : Int)) := ⟨_,rfl⟩
 rw [← hW5] at r8 m ⊢
 clear hW5
 have r7 := r8
 clear r8
 unfold VX at r7
 obtain ⟨sz,oS,c0,c21,c22,c23,c24,c25,c26⟩ := cBf { y with com := z }
 try dsimp only at c0 c21 c22 c23 c24 c25 c26
 obtain ⟨C,hC⟩ : ∃ C,C = cB { y with com := z } := ⟨_,rfl⟩
 rw [← hC] at r7 sz oS c0 c21 c22 c23 c24 c25 c26
 clear c0 c21 c22 c23 c24 c25 c26
 replace hC := Lib.hid hC
 have e0 := m.out.kp.at_
 unfold bkC at e0
 try dsimp only at e0
 go_wp2_with fail
 (with_reducible refine (HMi.out _ _ m.out.kp).mono ?_); rintro e w4 ⟨rfl,h4⟩
 replace r7 := m.out.row h4 (.inr rfl) r7
 obtain ⟨T4,m4⟩ := m.out.next h4
 clear h4 m
 have m : Hid (MidT S T4 w p tp q fp vb M (fun k => False ∨ k = g7) w4) := Lib.hid m4
 clear m4
 go_wp2_with fail
 go_ret
 exact ⟨rfl,m.out.qp⟩
theorem bkMint_ok (h : KP S w p tp q fp vb M) (hM : M.Ok) {x v a : Nat} (hv : v < 256) (hx : x < 256) (ha : a < 18446744073709551616) (hb : ¬ badM a) {y : Vlt} (hg : gOf M.vs x = some y) (hy : M.vs[atV M.vs x]? = some y) (hyw : y.who = x) (hf : y.fal = false) (hc : ¬ y.com < a) (ho : ¬ 4611686018427387904 < sumN M.tok 256 + a) :
  Calls Tryz.prog 24 #[.pointer (some ⟨p,0,none⟩),.int .u8 (x : Int),.int .u8 (v : Int),.int .u64 (a : Int)] w (EP S w p tp q fp vb { M with tok := upd M.tok v (M.tok v + a),vs := M.vs.set (atV M.vs x) { y with com := y.com - a,iss := y.iss + a } } (.int .i64 0)) := by
 have hvk := hM.vok y (memAt hy)
 have hbu := hvk.bur
 have hxl := hvk.lea
 have hbb : ¬ (a = 0 ∨ 4611686018427387904 < a) := hb
 unfold Vlt.bur at hbu
 obtain ⟨z,hz⟩ : ∃ z,z = y.com - a := ⟨_,rfl⟩
 rw [← hz]
 obtain ⟨z2,hz2⟩ : ∃ z,z = y.iss + a := ⟨_,rfl⟩
 rw [← hz2]
 have H1 := Lib.hid (kAsked_yes h hx hb hg)
 have H2 := Lib.hid (bkstanding_yes y hf)
 have HM := Lib.hid (fun (W : World) (f : Fr F0 w W) => MidT.start h f)
 simp only [vBv_is] at H1 H2
 have HA := Lib.hid (fun (W : World) => aSub_any y.com a (by omega) ha W)
 rw [(sbQ (show a ≤ y.com by omega) (by omega)).1,(sbQ (show a ≤ y.com by omega) (by omega)).2,← hz] at HA
 have hq : mintQ M.tok (sumN M.tok 256) v a = (0,upd M.tok v (M.tok v + a),sumN M.tok 256 + a) := by unfold mintQ badA; rw [if_neg (by simp; omega)]; exact if_neg (by omega)
 have HMi := Lib.hid (fun (W : World) (T : Nat → Prop) (k : KP T W p tp q fp vb M) => kMint_any k hM hv ha)
 rw [hq] at HMi
 have m1 : IntKind.u64.wrap ((y.iss : Int) + (a : Int)) = (z2 : Int) := by rw [IntWalk.u64_in _ (by omega)]; omega
 have HPu := Lib.hid (fun (W : World) (T : Nat → Prop) (k : KP T W p tp q fp vb { M with tok := upd M.tok v (M.tok v + a) }) => bkput_any k (l := M.vs.set (atV M.vs x) { y with com := z,iss := z2 }) (y := { y with com := z,iss := z2 }) (by rw [show ({ y with com := z,iss := z2 } : Vlt).who = y.who from rfl,hyw]; exact hx) (putL hM hy (z := { y with com := z,iss := z2 }) rfl))
 simp only [vBv_is] at HPu
 obtain ⟨sz,oS,c0,c21,c22,c23,c24,c25,c26⟩ := cBf y
 try dsimp only at c0 c21 c22 c23 c24 c25 c26
 obtain ⟨C,hC⟩ : ∃ C,C = cB y := ⟨_,rfl⟩
 rw [← hC] at H1 H2 sz oS c0 c21 c22 c23 c24 c25 c26
 have d23 := cell_is c23
 clear c0 c21 c22 c24 c25 c26
 replace hC := Lib.hid hC
 clear h hM hx ha hb hg hy hyw hvk hbu hxl hbb hc ho hz hz2 hq hv
 unfold EP
 go_enter Tryz.func24,Tryz.ntmps24
 go_wp2_with fail
 (with_reducible refine H1.out.mono ?_); rintro e w1 ⟨rfl,f1⟩
 have F2 := Lib.hid f1
 clear f1 H1
 go_wp2_with fail
 (with_reducible refine (H2.out _).mono ?_); rintro e w2 ⟨rfl,f2⟩
 replace F2 := Lib.hid (F2.out.trans' f2)
 clear f2 H2
 go_upto_region 2 with fail
 refine wp_put fun w4 N => ?_
 have r7 := N.new
 have m := Lib.hid ((HM.out _ F2.out).add N.fr (Nat.le_refl _) (Array.getElem?_eq_some_iff.1 r7).1)
 clear N F2 HM
 obtain ⟨g7,hg7⟩ : ∃ g,w2.heap.size = g := ⟨_,rfl⟩
 rw [hg7] at r7 m ⊢
 clear hg7
 go_wp2_with fail
 (with_reducible refine (HA.out _).mono ?_); rintro e w4 ⟨rfl,f4⟩
 replace r7 := keep_fr f4 r7
 replace m := Lib.hid (m.out.fr0 f4)
 clear f4
 go_upto_region 5 with fail
 have f5 := (Fr.refl (fun k => False ∨ k = g7) w4).setCell (p := ⟨g7,23,none⟩) (fun _ => .inr rfl) (.int .u64 (z : Int))
 have r8 : VX (w4.setCell ⟨g7,23,none⟩ (.int .u64 (z : Int))) g7 { y with com := z } := VX.setCom (show VX w4 g7 y by unfold VX; rw [← hC.out]; exact r7) z
 replace m := Lib.hid (m.out.box f5)
 clear f5 r7
 obtain ⟨w4,hW5⟩ : ∃ X,X = w4.setCell ⟨g7,23,none⟩ (.int .u64 (z : Int)) := ⟨_,rfl⟩
 rw [← hW5] at r8 m ⊢
 clear hW5
 have r7 := r8
 clear r8
 unfold VX at r7
 obtain ⟨sz,oS,c0,c21,c22,c23,c24,c25,c26⟩ := cBf { y with com := z }
 try dsimp only at c0 c21 c22 c23 c24 c25 c26
 obtain ⟨C,hC⟩ : ∃ C,C = cB { y with com := z } := ⟨_,rfl⟩
 rw [← hC] at r7 sz oS c0 c21 c22 c23 c24 c25 c26
 have d22 := cell_is c22
 clear c0 c21 c23 c24 c25 c26
 replace hC := Lib.hid hC
 have e0 := m.out.kp.at_
 unfold bkC at e0
 try dsimp only at e0
 go_wp2_with fail
 (with_reducible refine (HMi.out _ _ m.out.kp).mono ?_); rintro e w4 ⟨rfl,h4⟩
 replace r7 := m.out.row h4 (.inr rfl) r7
 obtain ⟨T4,m4⟩ := m.out.next h4
 clear h4 m
 have m := Lib.hid m4
 clear m4
 go_upto_region 11 with fail
 have f5 := (Fr.refl (fun k => False ∨ k = g7) w4).setCell (p := ⟨g7,22,none⟩) (fun _ => .inr rfl) (.int .u64 (z2 : Int))
 have r8 : VX (w4.setCell ⟨g7,22,none⟩ (.int .u64 (z2 : Int))) g7 { y with com := z,iss := z2 } := VX.setIss (show VX w4 g7 { y with com := z } by unfold VX; rw [← hC.out]; exact r7) z2
 replace m := Lib.hid (m.out.box f5)
 clear f5 r7
 obtain ⟨w4,hW5⟩ : ∃ X,X = w4.setCell ⟨g7,22,none⟩ (.int .u64 (z2 : Int)) := ⟨_,rfl⟩
 rw [← hW5] at r8 m ⊢
 clear hW5
 have r7 := r8
 clear r8
 unfold VX at r7
 obtain ⟨sz,oS,c0,c21,c22,c23,c24,c25,c26⟩ := cBf { y with com := z,iss := z2 }
 try dsimp only at c0 c21 c22 c23 c24 c25 c26
 obtain ⟨C,hC⟩ : ∃ C,C = cB { y with com := z,iss := z2 } := ⟨_,rfl⟩
 rw [← hC] at r7 sz oS c0 c21 c22 c23 c24 c25 c26
 clear c0 c21 c22 c23 c24 c25 c26
 replace hC := Lib.hid hC
 have HP2 := HPu.out
 rw [← hC.out] at HP2
 replace HP2 := Lib.hid HP2
 go_wp2_with fail
 (with_reducible refine (HP2.out _ _ m.out.kp).mono ?_); rintro e w6 ⟨rfl,h6⟩
 replace m := Lib.hid (m.out.last h6)
 clear h6 r7
 go_wp2_with fail
 go_ret
 exact ⟨rfl,m.out⟩
theorem bkBurn_few (h : KP S w p tp q fp vb M) (hM : M.Ok) {x v a : Nat} (hv : v < 256) (hx : x < 256) (ha : a < 18446744073709551616) (hb : ¬ badM a) {y : Vlt} (hg : gOf M.vs x = some y) (hy : M.vs[atV M.vs x]? = some y) (hyw : y.who = x) (hf : y.fal = false) (hc : y.iss - y.lea < a) :
  Calls Tryz.prog 25 #[.pointer (some ⟨p,0,none⟩),.int .u8 (x : Int),.int .u8 (v : Int),.int .u64 (a : Int)] w (EP S w p tp q fp vb M (.int .i64 16)) := by
 have hvk := hM.vok y (memAt hy)
 have hbu := hvk.bur
 have hxl := hvk.lea
 have hbb : ¬ (a = 0 ∨ 4611686018427387904 < a) := hb
 unfold Vlt.bur at hbu
 have H1 := Lib.hid (kAsked_yes h hx hb hg)
 have H2 := Lib.hid (bkstanding_yes y hf)
 have HM := Lib.hid (fun (W : World) (f : Fr F0 w W) => MidT.start h f)
 simp only [vBv_is] at H1 H2
 obtain ⟨df,hdf⟩ : ∃ z,z = y.iss - y.lea := ⟨_,rfl⟩
 have m0 : IntKind.u64.wrap ((y.iss : Int) - (y.lea : Int)) = (df : Int) := by rw [IntWalk.u64_in _ (by omega)]; omega
 have l1 : (df : Int) < (a : Int) := by omega
 have l1n : df < a := by omega
 obtain ⟨sz,oS,c0,c21,c22,c23,c24,c25,c26⟩ := cBf y
 try dsimp only at c0 c21 c22 c23 c24 c25 c26
 obtain ⟨C,hC⟩ : ∃ C,C = cB y := ⟨_,rfl⟩
 rw [← hC] at H1 H2 sz oS c0 c21 c22 c23 c24 c25 c26
 have d22 := cell_is c22
 have d25 := cell_is c25
 clear c0 c21 c23 c24 c26
 replace hC := Lib.hid hC
 clear h hM hx ha hb hg hy hyw hvk hbu hxl hbb hc hdf hv
 unfold EP
 go_enter Tryz.func25,Tryz.ntmps25
 go_wp2_with fail
 (with_reducible refine H1.out.mono ?_); rintro e w1 ⟨rfl,f1⟩
 have F2 := Lib.hid f1
 clear f1 H1
 go_wp2_with fail
 (with_reducible refine (H2.out _).mono ?_); rintro e w2 ⟨rfl,f2⟩
 replace F2 := Lib.hid (F2.out.trans' f2)
 clear f2 H2
 go_upto_region 2 with fail
 refine wp_put fun w4 N => ?_
 have r7 := N.new
 have m := Lib.hid ((HM.out _ F2.out).add N.fr (Nat.le_refl _) (Array.getElem?_eq_some_iff.1 r7).1)
 clear N F2 HM
 obtain ⟨g7,hg7⟩ : ∃ g,w2.heap.size = g := ⟨_,rfl⟩
 rw [hg7] at r7 m ⊢
 clear hg7
 go_wp2_with fail
 go_ret
 exact ⟨rfl,m.out.qp⟩
theorem bkBurn_no (h : KP S w p tp q fp vb M) (hM : M.Ok) {x v a : Nat} (hv : v < 256) (hx : x < 256) (ha : a < 18446744073709551616) (hb : ¬ badM a) {y : Vlt} (hg : gOf M.vs x = some y) (hy : M.vs[atV M.vs x]? = some y) (hyw : y.who = x) (hf : y.fal = false) (hc : ¬ y.iss - y.lea < a) (ho : M.tok v < a) :
  Calls Tryz.prog 25 #[.pointer (some ⟨p,0,none⟩),.int .u8 (x : Int),.int .u8 (v : Int),.int .u64 (a : Int)] w (EP S w p tp q fp vb M (.int .i64 16)) := by
 have hvk := hM.vok y (memAt hy)
 have hbu := hvk.bur
 have hxl := hvk.lea
 have hbb : ¬ (a = 0 ∨ 4611686018427387904 < a) := hb
 unfold Vlt.bur at hbu
 have H1 := Lib.hid (kAsked_yes h hx hb hg)
 have H2 := Lib.hid (bkstanding_yes y hf)
 have HM := Lib.hid (fun (W : World) (f : Fr F0 w W) => MidT.start h f)
 simp only [vBv_is] at H1 H2
 obtain ⟨df,hdf⟩ : ∃ z,z = y.iss - y.lea := ⟨_,rfl⟩
 have m0 : IntKind.u64.wrap ((y.iss : Int) - (y.lea : Int)) = (df : Int) := by rw [IntWalk.u64_in _ (by omega)]; omega
 have l1 : ¬ (df : Int) < (a : Int) := by omega
 have l1n : ¬ df < a := by omega
 have hq : burnQ M.tok (sumN M.tok 256) v a = (16,M.tok,sumN M.tok 256) := by unfold burnQ badA; rw [if_neg (by simp; omega)]; exact if_pos ho
 have HBu := Lib.hid (fun (W : World) (T : Nat → Prop) (k : KP T W p tp q fp vb M) => kBurn_any k hM hv ha)
 rw [hq] at HBu
 obtain ⟨sz,oS,c0,c21,c22,c23,c24,c25,c26⟩ := cBf y
 try dsimp only at c0 c21 c22 c23 c24 c25 c26
 obtain ⟨C,hC⟩ : ∃ C,C = cB y := ⟨_,rfl⟩
 rw [← hC] at H1 H2 sz oS c0 c21 c22 c23 c24 c25 c26
 have d22 := cell_is c22
 have d25 := cell_is c25
 clear c0 c21 c23 c24 c26
 replace hC := Lib.hid hC
 clear h hM hx ha hb hg hy hyw hvk hbu hxl hbb hc ho hdf hq hv
 unfold EP
 go_enter Tryz.func25,Tryz.ntmps25
 go_wp2_with fail
 (with_reducible refine H1.out.mono ?_); rintro e w1 ⟨rfl,f1⟩
 have F2 := Lib.hid f1
 clear f1 H1
 go_wp2_with fail
 (with_reducible refine (H2.out _).mono ?_); rintro e w2 ⟨rfl,f2⟩
 replace F2 := Lib.hid (F2.out.trans' f2)
 clear f2 H2
 go_upto_region 2 with fail
 refine wp_put fun w4 N => ?_
 have r7 := N.new
 have m := Lib.hid ((HM.out _ F2.out).add N.fr (Nat.le_refl _) (Array.getElem?_eq_some_iff.1 r7).1)
 clear N F2 HM
 obtain ⟨g7,hg7⟩ : ∃ g,w2.heap.size = g := ⟨_,rfl⟩
 rw [hg7] at r7 m ⊢
 clear hg7
 have e0 := m.out.kp.at_
 unfold bkC at e0
 try dsimp only at e0
 go_wp2_with fail
 (with_reducible refine (HBu.out _ _ m.out.kp).mono ?_); rintro e w4 ⟨rfl,h4⟩
 replace r7 := m.out.row h4 (.inr rfl) r7
 obtain ⟨T4,m4⟩ := m.out.next h4
 clear h4 m
 have m : Hid (MidT S T4 w p tp q fp vb M (fun k => False ∨ k = g7) w4) := Lib.hid m4
 clear m4
 go_wp2_with fail
 go_ret
 exact ⟨rfl,m.out.qp⟩
theorem bkBurn_ok (h : KP S w p tp q fp vb M) (hM : M.Ok) {x v a : Nat} (hv : v < 256) (hx : x < 256) (ha : a < 18446744073709551616) (hb : ¬ badM a) {y : Vlt} (hg : gOf M.vs x = some y) (hy : M.vs[atV M.vs x]? = some y) (hyw : y.who = x) (hf : y.fal = false) (hc : ¬ y.iss - y.lea < a) (ho : ¬ M.tok v < a) :
  Calls Tryz.prog 25 #[.pointer (some ⟨p,0,none⟩),.int .u8 (x : Int),.int .u8 (v : Int),.int .u64 (a : Int)] w (EP S w p tp q fp vb { M with tok := upd M.tok v (M.tok v - a),vs := M.vs.set (atV M.vs x) { y with iss := y.iss - a,goi := y.goi + a } } (.int .i64 0)) := by
 have hvk := hM.vok y (memAt hy)
 have hbu := hvk.bur
 have hxl := hvk.lea
 have hbb : ¬ (a = 0 ∨ 4611686018427387904 < a) := hb
 unfold Vlt.bur at hbu
 obtain ⟨z,hz⟩ : ∃ z,z = y.iss - a := ⟨_,rfl⟩
 rw [← hz]
 obtain ⟨z2,hz2⟩ : ∃ z,z = y.goi + a := ⟨_,rfl⟩
 rw [← hz2]
 have H1 := Lib.hid (kAsked_yes h hx hb hg)
 have H2 := Lib.hid (bkstanding_yes y hf)
 have HM := Lib.hid (fun (W : World) (f : Fr F0 w W) => MidT.start h f)
 simp only [vBv_is] at H1 H2
 obtain ⟨df,hdf⟩ : ∃ z,z = y.iss - y.lea := ⟨_,rfl⟩
 have m0 : IntKind.u64.wrap ((y.iss : Int) - (y.lea : Int)) = (df : Int) := by rw [IntWalk.u64_in _ (by omega)]; omega
 have l1 : ¬ (df : Int) < (a : Int) := by omega
 have l1n : ¬ df < a := by omega
 have hq : burnQ M.tok (sumN M.tok 256) v a = (0,upd M.tok v (M.tok v - a),sumN M.tok 256 - a) := by unfold burnQ badA; rw [if_neg (by simp; omega)]; exact if_neg ho
 have HBu := Lib.hid (fun (W : World) (T : Nat → Prop) (k : KP T W p tp q fp vb M) => kBurn_any k hM hv ha)
 rw [hq] at HBu
 have m1 : IntKind.u64.wrap ((y.iss : Int) - (a : Int)) = (z : Int) := by rw [IntWalk.u64_in _ (by omega)]; omega
 have m2 : IntKind.u64.wrap ((y.goi : Int) + (a : Int)) = (z2 : Int) := by rw [IntWalk.u64_in _ (by omega)]; omega
 have HPu := Lib.hid (fun (W : World) (T : Nat → Prop) (k : KP T W p tp q fp vb { M with tok := upd M.tok v (M.tok v - a) }) => bkput_any k (l := M.vs.set (atV M.vs x) { y with iss := z,goi := z2 }) (y := { y with iss := z,goi := z2 }) (by rw [show ({ y with iss := z,goi := z2 } : Vlt).who = y.who from rfl,hyw]; exact hx) (putL hM hy (z := { y with iss := z,goi := z2 }) rfl))
 simp only [vBv_is] at HPu
 obtain ⟨sz,oS,c0,c21,c22,c23,c24,c25,c26⟩ := cBf y
 try dsimp only at c0 c21 c22 c23 c24 c25 c26
 obtain ⟨C,hC⟩ : ∃ C,C = cB y := ⟨_,rfl⟩
 rw [← hC] at H1 H2 sz oS c0 c21 c22 c23 c24 c25 c26
 have d22 := cell_is c22
 have d25 := cell_is c25
 clear c0 c21 c23 c24 c26
 replace hC := Lib.hid hC
 clear h hM hx ha hb hg hy hyw hvk hbu hxl hbb hc ho hdf hz hz2 hq hv
 unfold EP
 go_enter Tryz.func25,Tryz.ntmps25
 go_wp2_with fail
 (with_reducible refine H1.out.mono ?_); rintro e w1 ⟨rfl,f1⟩
 have F2 := Lib.hid f1
 clear f1 H1
 go_wp2_with fail
 (with_reducible refine (H2.out _).mono ?_); rintro e w2 ⟨rfl,f2⟩
 replace F2 := Lib.hid (F2.out.trans' f2)
 clear f2 H2
 go_upto_region 2 with fail
 refine wp_put fun w4 N => ?_
 have r7 := N.new
 have m := Lib.hid ((HM.out _ F2.out).add N.fr (Nat.le_refl _) (Array.getElem?_eq_some_iff.1 r7).1)
 clear N F2 HM
 obtain ⟨g7,hg7⟩ : ∃ g,w2.heap.size = g := ⟨_,rfl⟩
 rw [hg7] at r7 m ⊢
 clear hg7
 have e0 := m.out.kp.at_
 unfold bkC at e0
 try dsimp only at e0
 go_wp2_with fail
 (with_reducible refine (HBu.out _ _ m.out.kp).mono ?_); rintro e w4 ⟨rfl,h4⟩
 replace r7 := m.out.row h4 (.inr rfl) r7
 obtain ⟨T4,m4⟩ := m.out.next h4
 clear h4 m
 have m := Lib.hid m4
 clear m4
 go_upto_region 10 with fail
 have f5 := (Fr.refl (fun k => False ∨ k = g7) w4).setCell (p := ⟨g7,22,none⟩) (fun _ => .inr rfl) (.int .u64 (z : Int))
 have r8 : VX (w4.setCell ⟨g7,22,none⟩ (.int .u64 (z : Int))) g7 { y with iss := z } := VX.setIss (show VX w4 g7 y by unfold VX; rw [← hC.out]; exact r7) z
 replace m := Lib.hid (m.out.box f5)
 clear f5 r7
 obtain ⟨w4,hW5⟩ : ∃ X,X = w4.setCell ⟨g7,22,none⟩ (.int .u64 (z : Int)) := ⟨_,rfl⟩
 rw [← hW5] at r8 m ⊢
 clear hW5
 have r7 := r8
 clear r8
 unfold VX at r7
 obtain ⟨sz,oS,c0,c21,c22,c23,c24,c25,c26⟩ := cBf { y with iss := z }
 try dsimp only at c0 c21 c22 c23 c24 c25 c26
 obtain ⟨C,hC⟩ : ∃ C,C = cB { y with iss := z } := ⟨_,rfl⟩
 rw [← hC] at r7 sz oS c0 c21 c22 c23 c24 c25 c26
 have d24 := cell_is c24
 clear c0 c21 c22 c23 c25 c26
 replace hC := Lib.hid hC
 go_upto_region 11 with fail
 have f5 := (Fr.refl (fun k => False ∨ k = g7) w4).setCell (p := ⟨g7,24,none⟩) (fun _ => .inr rfl) (.int .u64 (z2 : Int))
 have r8 : VX (w4.setCell ⟨g7,24,none⟩ (.int .u64 (z2 : Int))) g7 { y with iss := z,goi := z2 } := VX.setGoi (show VX w4 g7 { y with iss := z } by unfold VX; rw [← hC.out]; exact r7) z2
 replace m := Lib.hid (m.out.box f5)
 clear f5 r7
 obtain ⟨w4,hW5⟩ : ∃ X,X = w4.setCell ⟨g7,24,none⟩ (.int .u64 (z2 : Int)) := ⟨_,rfl⟩
 rw [← hW5] at r8 m ⊢
 clear hW5
 have r7 := r8
 clear r8
 unfold VX at r7
 obtain ⟨sz,oS,c0,c21,c22,c23,c24,c25,c26⟩ := cBf { y with iss := z,goi := z2 }
 try dsimp only at c0 c21 c22 c23 c24 c25 c26
 obtain ⟨C,hC⟩ : ∃ C,C = cB { y with iss := z,goi := z2 } := ⟨_,rfl⟩
 rw [← hC] at r7 sz oS c0 c21 c22 c23 c24 c25 c26
 clear c0 c21 c22 c23 c24 c25 c26
 replace hC := Lib.hid hC
 have HP2 := HPu.out
 rw [← hC.out] at HP2
 replace HP2 := Lib.hid HP2
 go_wp2_with fail
 (with_reducible refine (HP2.out _ _ m.out.kp).mono ?_); rintro e w6 ⟨rfl,h6⟩
 replace m := Lib.hid (m.out.last h6)
 clear h6 r7
 go_wp2_with fail
 go_ret
 exact ⟨rfl,m.out⟩
end
end Go.Proofs.YtohckefafbhooaaGreat
namespace Go.Proofs.YtohckefafbhooaaGreat
set_option maxRecDepth 100000
set_option linter.unusedVariables false
set_option linter.unusedSimpArgs false
open Go.RowKit
section
variable {S : Nat → Prop} {w w' W : World} {p tp q fp vb : Nat} {M : Bok}
end
end Go.Proofs.YtohckefafbhooaaGreat
namespace Go.Proofs.YtohckefafbhooaaGreat
set_option maxRecDepth 100000
set_option linter.unusedVariables false
set_option linter.unusedSimpArgs false
open Go.RowKit
section
variable {S : Nat → Prop} {w w' W : World} {p tp q fp vb : Nat} {M : Bok}
end
end Go.Proofs.YtohckefafbhooaaGreat
namespace Go.Proofs.YtohckefafbhooaaGreat
set_option maxRecDepth 100000
set_option linter.unusedVariables false
set_option linter.unusedSimpArgs false
open Go.RowKit
def buildP0 (p : Array (Nat × Value)) : Sem Value := Instr.build 76 p
@[go_sem ↓ high] theorem build_P0 (p : Array (Nat × Value)) : Instr.build 76 p = buildP0 p := rfl
theorem pool_one (a b : Int) : rowOne #[.int .u64 a,.int .u64 b] := by
 unfold rowOne
 rw [Array.all_eq_true_iff_forall_mem]
 intro v hv
 simp only [List.mem_toArray,List.mem_cons,List.not_mem_nil,or_false] at hv
 rcases hv with rfl | rfl <;> rfl
end Go.Proofs.YtohckefafbhooaaGreat
namespace Go.Proofs.YtohckefafbhooaaGreat
set_option maxRecDepth 100000
set_option linter.unusedVariables false
set_option linter.unusedSimpArgs false
open Go.RowKit
section
variable {S : Nat → Prop} {w w' W : World} {p tp q fp vb : Nat} {M : Bok}
theorem KP.ldPool (h : KP S w p tp q fp vb M) : (loadRowAt 76 (.pointer (some ⟨p,15,none⟩))).run Tryz.prog w = .ok (.agg #[.int .u64 (M.pc : Int),.int .u64 (M.pn : Int)]) w := by
 refine run_loadAt_mid (P := Tryz.prog) w p 15 76 [.int .u64 (M.pc : Int),.int .u64 (M.pn : Int)] _ (fun j u hj => ?_) Tryz.underlying76 rfl (by rw [Tryz.szPool]; rfl)
 have hj' : j = 0 ∨ j = 1 := by have := (List.getElem?_eq_some_iff.1 hj).1; simp at this; omega
 rw [cell_at,h.at_,cellAt_cells]
 rcases hj' with rfl | rfl <;> exact hj
theorem bkPool_any (h : KP S w p tp q fp vb M) : Calls Tryz.prog 28 #[.pointer (some ⟨p,0,none⟩)] w fun e w' => e = .returned (.agg #[.int .u64 (M.pc : Int),.int .u64 (M.pn : Int)]) ∧ Fr F0 w w' := by
 have HK := Lib.hid (fun (W : World) (f : Fr F0 w W) => (h.fr0 f).ldPool)
 have oS := pool_one M.pc M.pn
 generalize (M.pc : Int) = c at *
 generalize (M.pn : Int) = i at *
 clear h
 go_enter Tryz.func28,Tryz.ntmps28
 go_upto_region 1 with fail
 refine wp_new fun W1 N => ?_
 have r2 := N.new
 have F1 := Lib.hid N.fr
 have hl := HK.out W1 N.fr
 clear N
 obtain ⟨g2,hg2⟩ : ∃ g,w.heap.size = g := ⟨_,rfl⟩
 rw [hg2] at r2 ⊢
 replace hg2 := Lib.hid hg2
 go_wp2_with fail
 refine bodyPost_ret (results_cell_row rfl _ _ g2 _ _ _ _ rfl (by rw [heap_setRow_at,r2]; rfl) Tryz.underlying76 rfl (by rw [Tryz.szPool]; rfl)) rfl ?_
 exact ⟨rfl,F1.out.setRow (fun h => by have := hg2.out; omega) _⟩
theorem kTake_ok (h : KP S w p tp q fp vb M) {x y : Nat} (h1 : M.pc + x ≤ 4611686018427387904) (h2 : M.pn + y ≤ 4611686018427387904) :
  Calls Tryz.prog 89 #[.pointer (some ⟨p,15,none⟩),.int .u64 (x : Int),.int .u64 (y : Int)] w (EP S w p tp q fp vb { M with pc := M.pc + x,pn := M.pn + y } (.int .i64 0)) := by
 have H1 := Lib.hid (aRight_any x true (decide_eq_true (by omega)))
 have H2 := Lib.hid (aRight_any y true (decide_eq_true (by omega)))
 have HA := Lib.hid (fun w => aAdd_any M.pc x (by omega) (by omega) w)
 have HB := Lib.hid (fun w => aAdd_any M.pn y (by omega) (by omega) w)
 rw [(adQ h1).1,(adQ h1).2] at HA
 rw [(adQ h2).1,(adQ h2).2] at HB
 have HK := Lib.hid (fun (W : World) (f : Fr F0 w W) => h.fr0 f)
 have HE := Lib.hid (fun (W : World) (f : Fr F0 w W) => (h.fr0 f).at_)
 have HX := Lib.hid (fun (W : World) (f : Fr F0 w W) => QP.then (h.fr0 f |>.setPc (M.pc + x)) (fun T k => k.setPn (M.pn + y)))
 have HY := Lib.hid (fun (W : World) (f : Fr F0 w W) => QP.then (h.fr0 f |>.setPn (M.pn + y)) (fun T k => k.setPc (M.pc + x)))
 unfold bkC at HE
 unfold EP
 generalize M.pc + x = c' at *
 generalize M.pn + y = i' at *
 generalize (M.now : Int) = now at *
 generalize (M.pc : Int) = pc at *
 generalize (M.pn : Int) = pn at *
 generalize (M.dep : Int) = dep at *
 clear h h1 h2
 have e0 := HE.out w (Fr.refl _ _)
 go_enter Tryz.func89,Tryz.ntmps89
 go_wp2_with fail
 (with_reducible refine (H1.out _).mono ?_); rintro e w1 ⟨rfl,hw⟩; replace hw := hw.symm; subst hw
 go_wp2_with fail
 (with_reducible refine (H2.out _).mono ?_); rintro e w1 ⟨rfl,hw⟩; replace hw := hw.symm; subst hw
 go_wp2_with fail
 (with_reducible refine (HA.out _).mono ?_); rintro e w1 ⟨rfl,f1⟩
 have e1 := HE.out w1 f1
 have F1 := Lib.hid f1
 clear f1 e0
 go_wp2_with fail
 (with_reducible refine (HB.out _).mono ?_); rintro e w2 ⟨rfl,f2⟩
 have F2 := Lib.hid (F1.out.trans' f2)
 have e2 := HE.out w2 F2.out
 clear f2 e1
 go_wp2_with fail
 all_goals
  go_ret
  first
   |exact ⟨rfl,QP.ahead F2.out (HX.out w2 F2.out)⟩
   |exact ⟨rfl,QP.ahead F2.out (HY.out w2 F2.out)⟩
end
end Go.Proofs.YtohckefafbhooaaGreat
namespace Go.Proofs.YtohckefafbhooaaGreat
set_option maxRecDepth 100000
set_option linter.unusedVariables false
set_option linter.unusedSimpArgs false
open Go.RowKit
theorem pa_kp {x : Vlt} (h : x.coll ≤ 4611686018427387904) : paV x.coll x.goi (x.iss + x.goi) true = kpN x := by
 have hk := kpN_le x
 unfold paV ptA
 by_cases hg : 0 < x.goi
 ·have e : ptQ x.coll x.goi (x.iss + x.goi) true = kpN x := by
   unfold ptQ kpN upP
   rw [if_pos hg]
   by_cases h1 : x.coll * x.goi % (x.iss + x.goi) = 0
   ·rw [if_neg (by simp [h1]),if_pos h1]
   ·rw [if_pos ⟨rfl,h1⟩,if_neg h1]
  rw [e,if_pos ⟨h,by omega⟩,if_pos (by omega)]
 ·have hg0 : x.goi = 0 := by omega
  have e : kpN x = 0 := by unfold kpN; rw [if_neg hg]
  have e2 : ptQ x.coll x.goi (x.iss + x.goi) true = 0 := by unfold ptQ; rw [hg0]; simp
  rw [e,e2]
  split <;> rfl
theorem VX.setIss0 {w : World} {g : Nat} {x : Vlt} (h : VX w g x) : VX (w.setCell ⟨g,22,none⟩ (.int .u64 0)) g { x with iss := 0 } := h.setIss 0
theorem VX.setLea0 {w : World} {g : Nat} {x : Vlt} (h : VX w g x) : VX (w.setCell ⟨g,25,none⟩ (.int .u64 0)) g { x with lea := 0 } := h.setLea 0
section
variable {S : Nat → Prop} {w w' W : World} {p tp q fp vb : Nat} {M : Bok}
theorem kVault_yes (h : KP S w p tp q fp vb M) {x : Nat} {y : Vlt} (hx : x < 256) (hy : gOf M.vs x = some y) : Calls Tryz.prog 88 #[.pointer (some ⟨p,0,none⟩),.int .u8 (x : Int)] w fun e w' => e = .returned (.tuple #[vBv y,.int .i64 0]) ∧ Fr F0 w w' := by
 have := kVault_any h hx
 rw [hy] at this
 exact this
theorem bkFall_ok (h : KP S w p tp q fp vb M) (hM : M.Ok) {x : Nat} (hx : x < 256) {y : Vlt} (hg : gOf M.vs x = some y) (hy : M.vs[atV M.vs x]? = some y) (hyw : y.who = x) (hf : y.fal = false) :
  Calls Tryz.prog 26 #[.pointer (some ⟨p,0,none⟩),.int .u8 (x : Int)] w (EP S w p tp q fp vb { M with pc := M.pc + (y.coll - kpN y),pn := M.pn + y.iss,vs := M.vs.set (atV M.vs x) { y with coll := kpN y,iss := 0,lea := 0,fal := true } } (.int .i64 0)) := by
 have hvk := hM.vok y (memAt hy)
 have hbu := hvk.bur
 have hxl := hvk.lea
 unfold Vlt.bur at hbu
 have hcl := hM.coll_le hy
 have hin := hM.inn
 have hpd := hM.paid
 have htk := hM.tok
 have hms := hM.most
 have hiss := sumV_mem Vlt.iss M.vs y (memAt hy)
 have hcs := sumV_mem Vlt.coll M.vs y (memAt hy)
 have hhe := hM.held
 have hkl := kpN_le y
 have hpk := pa_kp (x := y) (by omega)
 obtain ⟨k,hk⟩ : ∃ k,k = kpN y := ⟨_,rfl⟩
 rw [← hk] at hpk hkl ⊢
 obtain ⟨dd,hdd⟩ : ∃ k',k' = y.coll - k := ⟨_,rfl⟩
 rw [← hdd]
 obtain ⟨b,hb⟩ : ∃ b,b = y.iss + y.goi := ⟨_,rfl⟩
 rw [← hb] at hpk
 have H1 := Lib.hid (kVault_yes h hx hg)
 have H2 := Lib.hid (bkstanding_yes y hf)
 have HM := Lib.hid (fun (W : World) (f : Fr F0 w W) => MidT.start h f)
 simp only [vBv_is] at H1 H2
 have m0 : IntKind.u64.wrap ((y.iss : Int) + (y.goi : Int)) = (b : Int) := by rw [IntWalk.u64_in _ (by omega)]; omega
 have m1 : IntKind.u64.wrap ((y.coll : Int) - (k : Int)) = (dd : Int) := by rw [IntWalk.u64_in _ (by omega)]; omega
 have HA := Lib.hid (fun (W : World) => aPart_any y.coll y.goi b true (by omega) (by omega) W)
 rw [hpk] at HA
 generalize paE y.coll y.goi b true = E at *
 have HT := Lib.hid (fun (W : World) (T : Nat → Prop) (kp0 : KP T W p tp q fp vb M) => kTake_ok (x := dd) (y := y.iss) kp0 (by omega) (by omega))
 have HPu := Lib.hid (fun (W : World) (T : Nat → Prop) (kp0 : KP T W p tp q fp vb { M with pc := M.pc + dd,pn := M.pn + y.iss }) => bkput_any kp0 (l := M.vs.set (atV M.vs x) { y with coll := k,iss := 0,lea := 0,fal := true }) (y := { y with coll := k,iss := 0,lea := 0,fal := true }) (by rw [show ({ y with coll := k,iss := 0,lea := 0,fal := true } : Vlt).who = y.who from rfl,hyw]; exact hx) (putL hM hy (z := { y with coll := k,iss := 0,lea := 0,fal := true }) rfl))
 simp only [vBv_is] at HPu
 obtain ⟨sz,oS,c0,c21,c22,c23,c24,c25,c26⟩ := cBf y
 try dsimp only at c0 c21 c22 c23 c24 c25 c26
 obtain ⟨C,hC⟩ : ∃ C,C = cB y := ⟨_,rfl⟩
 rw [← hC] at H1 H2 sz oS c0 c21 c22 c23 c24 c25 c26
 have d21 := cell_is c21
 have d22 := cell_is c22
 have d24 := cell_is c24
 clear c0 c23 c25 c26
 replace hC := Lib.hid hC
 clear h hM hx hg hy hyw hvk hbu hxl hcl hin hpd htk hms hiss hcs hhe hkl hpk hk hdd hb
 unfold EP
 go_enter Tryz.func26,Tryz.ntmps26
 go_wp2_with fail
 (with_reducible refine H1.out.mono ?_); rintro e w1 ⟨rfl,f1⟩
 have F2 := Lib.hid f1
 clear f1 H1
 go_wp2_with fail
 (with_reducible refine (H2.out _).mono ?_); rintro e w2 ⟨rfl,f2⟩
 replace F2 := Lib.hid (F2.out.trans' f2)
 clear f2 H2
 go_upto_region 2 with fail
 refine wp_put fun w4 N => ?_
 have r7 := N.new
 have m := Lib.hid ((HM.out _ F2.out).add N.fr (Nat.le_refl _) (Array.getElem?_eq_some_iff.1 r7).1)
 clear N F2 HM
 obtain ⟨g7,hg7⟩ : ∃ g,w2.heap.size = g := ⟨_,rfl⟩
 rw [hg7] at r7 m ⊢
 clear hg7
 go_wp2_with fail
 (with_reducible refine (HA.out _).mono ?_); rintro e w4 ⟨rfl,f4⟩
 replace r7 := keep_fr f4 r7
 replace m := Lib.hid (m.out.fr0 f4)
 clear f4
 go_upto_region 5 with fail
 have md := Lib.hid (m.out.fr0 (Fr.refl F0 w4).drew)
 clear m
 refine rbegin (S := (fun w' => w'.heap[g7]? = some (.cells C 72 (0,0)))) ?_ fun hHeld => ?_
 ·((try dsimp only) <;> (exact r7))
 refine rtake 0 ?_
 refine rtake 1 ?_
 refine rtake 2 ?_
 refine rtake 3 ?_
 refine rtake 4 ?_
 refine rtake 5 ?_
 refine rtake 6 ?_
 refine rtake 7 ?_
 refine rtake 8 ?_
 refine rone 9 fun K hK => ?_
 go_simp
 ((with_reducible refine (HT.out _ _ md.out.kp).mono ?_); rintro e w5 ⟨rfl,h5⟩; have r8 := md.out.row h5 (.inr rfl) r7; obtain ⟨T4,m4⟩ := md.out.next h5; have m := Lib.hid m4; clear h5 m4)
 refine hK.out _ _ ?_ (fun hHeld => ?_)
 ·((try dsimp only) <;> (first | exact hHeld | exact r8))
 clear hK K
 try (simp only [Act.put,aST]; dsimp only [aS0,aS1])
 refine rtake 10 ?_
 refine rdone ?_
 go_upto_region 9 with fail
 have x4 := (((VX.setColl (show VX w5 g7 y by unfold VX; rw [← hC.out]; exact r8) k).setIss0).setLea0).setFal true
 have f5 := ((((Fr.refl (fun k => False ∨ k = g7) w5).setCell (p := ⟨g7,21,none⟩) (fun _ => .inr rfl) (.int .u64 (k : Int))).setCell (p := ⟨g7,22,none⟩) (fun _ => .inr rfl) (.int .u64 0)).setCell (p := ⟨g7,25,none⟩) (fun _ => .inr rfl) (.int .u64 0)).setCell (p := ⟨g7,26,none⟩) (fun _ => .inr rfl) (.bool true)
 replace m := Lib.hid (m.out.box f5)
 clear f5 r7 r8
 obtain ⟨w4,hW5⟩ : ∃ X,X = (((w5.setCell ⟨g7,21,none⟩ (.int .u64 (k : Int))).setCell ⟨g7,22,none⟩ (.int .u64 0)).setCell ⟨g7,25,none⟩ (.int .u64 0)).setCell ⟨g7,26,none⟩ (.bool true) := ⟨_,rfl⟩
 rw [← hW5] at x4 m ⊢
 clear hW5
 have r7 := x4
 clear x4
 unfold VX at r7
 obtain ⟨sz,oS,c0,c21,c22,c23,c24,c25,c26⟩ := cBf { y with coll := k,iss := 0,lea := 0,fal := true }
 try dsimp only at c0 c21 c22 c23 c24 c25 c26
 obtain ⟨C,hC⟩ : ∃ C,C = cB { y with coll := k,iss := 0,lea := 0,fal := true } := ⟨_,rfl⟩
 rw [← hC] at r7 sz oS c0 c21 c22 c23 c24 c25 c26
 clear c0 c21 c22 c23 c24 c25 c26
 replace hC := Lib.hid hC
 have HP2 := HPu.out
 rw [← hC.out] at HP2
 replace HP2 := Lib.hid HP2
 go_wp2_with fail
 (with_reducible refine (HP2.out _ _ m.out.kp).mono ?_); rintro e w6 ⟨rfl,h6⟩
 replace m := Lib.hid (m.out.last h6)
 clear h6 r7
 go_wp2_with fail
 go_ret
 exact ⟨rfl,m.out⟩
end
end Go.Proofs.YtohckefafbhooaaGreat
namespace Go.Proofs.YtohckefafbhooaaGreat
set_option maxRecDepth 100000
set_option linter.unusedVariables false
set_option linter.unusedSimpArgs false
open Go.RowKit
section
variable {S : Nat → Prop} {w w' W : World} {p tp q fp vb : Nat} {M : Bok}
end
end Go.Proofs.YtohckefafbhooaaGreat
namespace Go.Proofs.YtohckefafbhooaaGreat
set_option maxRecDepth 100000
set_option linter.unusedVariables false
set_option linter.unusedSimpArgs false
open Go.RowKit
section
variable {S T : Nat → Prop} {w w' W : World} {p tp q fp vb : Nat} {M : Bok}
end
end Go.Proofs.YtohckefafbhooaaGreat
namespace Go.Proofs.YtohckefafbhooaaGreat
set_option maxRecDepth 100000
set_option linter.unusedVariables false
set_option linter.unusedSimpArgs false
open Go.RowKit
section
variable {S : Nat → Prop} {w w' W : World} {p tp q fp vb : Nat} {M : Bok}
end
end Go.Proofs.YtohckefafbhooaaGreat
namespace Go.Proofs.YtohckefafbhooaaGreat
set_option maxRecDepth 100000
set_option linter.unusedVariables false
set_option linter.unusedSimpArgs false
open Go.RowKit
section
variable {S : Nat → Prop} {w w' W : World} {p tp q fp vb : Nat} {M : Bok}
end
end Go.Proofs.YtohckefafbhooaaGreat
namespace Go.Proofs.YtohckefafbhooaaGreat
set_option maxRecDepth 100000
set_option linter.unusedVariables false
set_option linter.unusedSimpArgs false
open Go.RowKit
section
variable {S : Nat → Prop} {w w' W : World} {p tp q fp vb : Nat} {M : Bok}
abbrev V3 (p x a : Nat) : Array Value := #[.pointer (some ⟨p,0,none⟩),.int .u8 (x : Int),.int .u64 (a : Int)]
abbrev V4 (p x v a : Nat) : Array Value := #[.pointer (some ⟨p,0,none⟩),.int .u8 (x : Int),.int .u8 (v : Int),.int .u64 (a : Int)]
abbrev ED (S : Nat → Prop) (w : World) (p tp q fp vb : Nat) (r : Rs20) : Ending → World → Prop := EP S w p tp q fp vb r.1 (.int .i64 r.2.2)
theorem ep_same {f : FuncId} {args : Array Value} {v : Value} (h : KP S w p tp q fp vb M) (H : Calls Tryz.prog f args w fun e w' => e = .returned v ∧ Fr F0 w w') : Calls Tryz.prog f args w (EP S w p tp q fp vb M v) := H.mono fun _ _ ⟨a,b⟩ => ⟨a,QP.same h b⟩
theorem bkMint_any (h : KP S w p tp q fp vb M) (hM : M.Ok) {x v a : Nat} (hx : x < 256) (hv : v < 256) (ha : a < 18446744073709551616) : Calls Tryz.prog 24 (V4 p x v a) w (ED S w p tp q fp vb (vD M x a false (mintD M v a))) := by
 by_cases hE : opE M x a false = 0
 ·obtain ⟨y,hb,hy,hg,hyw,hf⟩ := opE_good hE
  replace hf := hf rfl
  rw [vD_yes hE hy]
  unfold mintD
  by_cases hc : y.com < a
  ·rw [if_pos hc]; exact bkMint_few h hM hv hx ha hb hg hy hyw hf hc
  ·rw [if_neg hc]
   by_cases ho : 4611686018427387904 < sumN M.tok 256 + a
   ·rw [if_pos ho]; exact bkMint_over h hM hv hx ha hb hg hy hyw hf hc ho
   ·rw [if_neg ho]; exact bkMint_ok h hM hv hx ha hb hg hy hyw hf hc ho
 ·rw [vD_no hE]
  obtain ⟨u,E1,H1,H2⟩ := kStand_no h hx hE
  exact ep_same h (bkMint_ref H1 H2 hE)
theorem bkBurn_any (h : KP S w p tp q fp vb M) (hM : M.Ok) {x v a : Nat} (hx : x < 256) (hv : v < 256) (ha : a < 18446744073709551616) : Calls Tryz.prog 25 (V4 p x v a) w (ED S w p tp q fp vb (vD M x a false (burnD M v a))) := by
 by_cases hE : opE M x a false = 0
 ·obtain ⟨y,hb,hy,hg,hyw,hf⟩ := opE_good hE
  replace hf := hf rfl
  rw [vD_yes hE hy]
  unfold burnD
  by_cases hc : y.iss - y.lea < a
  ·rw [if_pos (.inl hc)]; exact bkBurn_few h hM hv hx ha hb hg hy hyw hf hc
  ·by_cases ho : M.tok v < a
   ·rw [if_pos (.inr ho)]; exact bkBurn_no h hM hv hx ha hb hg hy hyw hf hc ho
   ·rw [if_neg (fun e => e.elim hc ho)]; exact bkBurn_ok h hM hv hx ha hb hg hy hyw hf hc ho
 ·rw [vD_no hE]
  obtain ⟨u,E1,H1,H2⟩ := kStand_no h hx hE
  exact ep_same h (bkBurn_ref H1 H2 hE)
theorem bkFall_any (h : KP S w p tp q fp vb M) (hM : M.Ok) {x : Nat} (hx : x < 256) : Calls Tryz.prog 26 #[.pointer (some ⟨p,0,none⟩),.int .u8 (x : Int)] w (ED S w p tp q fp vb (vD M x 1 false (fallD M))) := by
 by_cases hE : opE M x 1 false = 0
 ·obtain ⟨y,hb,hy,hg,hyw,hf⟩ := opE_good hE
  replace hf := hf rfl
  rw [vD_yes hE hy]
  exact bkFall_ok h hM hx hg hy hyw hf
 ·rw [vD_no hE]
  have hv := kVault_any h hx
  rcases opE_ways M x 1 with ⟨h1,h2⟩ | ⟨h1,h2,h3,h4⟩ | ⟨y,h1,h2,h3,h4,h5,h6⟩
  ·exact absurd h1 (by decide)
  ·rw [h2] at hv
   rw [h4]
   exact ep_same h (bkFall_ref hv (fun W => bkstanding_no v0 12 (by decide) W) (show (12 : Int) ≠ 0 by decide))
  ·rw [h2] at hv
   have hf : y.fal = true := by
    cases hf : y.fal with
    |true => rfl
    |false => rw [h6,hf] at hE; exact absurd rfl hE
   rw [h6,hf,if_pos rfl]
   exact ep_same h (bkFall_ref hv (fun W => bkstanding_fallen y hf W) (show (20 : Int) ≠ 0 by decide))
theorem kIn_any (h : KP S w p tp q fp vb M) (hM : M.Ok) {x a : Nat} (hx : x < 256) (ha : a < 18446744073709551616) : Calls Tryz.prog 21 #[.pointer (some ⟨q,0,none⟩),.int .u8 (x : Int),.int .u64 (a : Int)] w (ED S w p tp q fp vb (inD M x a)) := by
 have hin := hM.inn
 have hpd := hM.paid
 unfold inD
 by_cases h1 : 4611686018427387904 < a
 ·rw [if_pos h1]
  have := kIn_no h hx (show 4611686018427387904 < M.inn + a by omega) ha
  rw [show overE a = 1 from if_pos h1] at this
  exact this
 ·rw [if_neg h1]
  by_cases h2 : 4611686018427387904 < M.inn + a
  ·rw [if_pos (.inl h2)]
   have := kIn_no h hx h2 ha
   rw [show overE a = 4 from if_neg h1] at this
   exact this
  ·rw [if_neg (fun e => by omega)]; exact kIn_ok h hx (by omega)
end
end Go.Proofs.YtohckefafbhooaaGreat
namespace Go.Proofs.YtohckefafbhooaaGreat
set_option maxRecDepth 100000
set_option linter.unusedVariables false
set_option linter.unusedSimpArgs false
open Go.RowKit
def fl1 : Bok := { bok0 with price := 1,told := 0 }
def fl2 (c : Nat) : Bok := { fl1 with inn := c,free := upd (fun _ => 0) 1 c }
def flV (c : Nat) : Vlt := ⟨1,A1,c,0,0,0,0,false⟩
def fl3 (c : Nat) : Bok := { fl2 c with free := upd (fun _ => 0) 1 0,held := c,vs := [flV c] }
def fl4 (c s : Nat) : Bok := { fl3 c with vs := [{ flV c with com := s }] }
def fl5 (c s : Nat) : Bok := { fl3 c with vs := [{ flV c with iss := s }],tok := upd (fun _ => 0) 2 s }
def fl6 (c i g : Nat) : Bok := { fl3 c with vs := [{ flV c with iss := i,goi := g }],tok := upd (fun _ => 0) 2 i }
def flK (c i g : Nat) : Nat := upP c g (i + g)
def fl7 (c i g : Nat) : Bok := { fl6 c i g with vs := [{ flV c with coll := flK c i g,goi := g,fal := true }],pc := c - flK c i g,pn := i }
theorem at_one (y : Vlt) (h : y.who = 1) : atV [y] 1 = 0 := by
 unfold atV
 simp [List.findIdx_cons,h]
theorem op_one {M : Bok} {y : Vlt} (hv : M.vs = [y]) (h : y.who = 1) (hf : y.fal = false) {a : Nat} (h0 : 0 < a) (h1 : a ≤ 4611686018427387904) : opE M 1 a false = 0 := by
 unfold opE
 rw [if_neg (by omega),hv,at_one y h]
 simp [hf]
theorem fl1_is : (step20 usR bok0 ⟨1,0,0,1,A1⟩).1 = fl1 := by
 show (priceD usR bok0 1).1 = fl1
 unfold priceD
 rw [if_pos (by decide)]
 rfl
theorem fl1_ok : fl1.Ok := by rw [← fl1_is]; exact step_ok bok0_ok (by decide) (by decide) rfl
theorem fl2_is {c : Nat} (hc : c ≤ 4611686018427387904) : inD fl1 1 c = (fl2 c,0,0) := by
 unfold inD
 rw [if_neg (by omega),if_neg (by simp [fl1,bok0]; omega)]
 simp [fl2,fl1,bok0]
theorem fl2_ok {c : Nat} (hc : c ≤ 4611686018427387904) : (fl2 c).Ok := by
 have := step_ok (R := usR) (d := ⟨2,1,0,c,A1⟩) fl1_ok (by show 1 < 256; decide) (by show 0 < 256; decide) rfl
 rw [show (step20 usR fl1 ⟨2,1,0,c,A1⟩).1 = fl2 c from congrArg Prod.fst (fl2_is hc)] at this
 exact this
theorem fl3_is {c : Nat} (hc : c ≤ 4611686018427387904) : registerD (fl2 c) 1 c A1 = (fl3 c,0,0) := by
 unfold registerD
 rw [if_neg (by omega),if_neg (by simp [fl2,fl1,bok0]),if_neg (by simp [fl2,fl1,bok0]),if_neg (by simp [fl2,upd_same])]
 simp [fl3,fl2,fl1,bok0,insV,upd_upd,upd_same,flV]
theorem fl3_ok {c : Nat} (hc : c ≤ 4611686018427387904) : (fl3 c).Ok := by
 have := step_ok (R := usR) (d := ⟨5,1,0,c,A1⟩) (fl2_ok hc) (by show 1 < 256; decide) (by show 0 < 256; decide) rfl
 rw [show (step20 usR (fl2 c) ⟨5,1,0,c,A1⟩).1 = fl3 c from congrArg Prod.fst (fl3_is hc)] at this
 exact this
theorem fl4_is {c s : Nat} (hc : c ≤ 4611686018427387904) (h0 : 0 < s) (hs : s ≤ 4611686018427387904) (he : s * 2000 ≤ c * 100000000000) : vD (fl3 c) 1 s false (reserveD usR (fl3 c) s) = (fl4 c s,0,0) := by
 rw [vD_yes (y := flV c) (op_one rfl rfl rfl h0 hs) rfl]
 unfold reserveD
 have e : secE usR (fl3 c) (flV c).coll ((flV c).bur + s) = 0 := by
  unfold secE
  rw [show prE (usR 4) (fl3 c).price (fl3 c).told (fl3 c).now = 0 from (show prE (usR 4) 1 0 0 = 0 by decide),if_pos rfl]
  have hb : (flV c).bur + s = s := by show 0 + 0 + 0 + s = s; omega
  rw [hb,if_neg (by omega),if_pos]
  show enP c s 1 2000
  unfold enP riP
  refine ⟨⟨⟨by decide,by decide⟩,hc,hs⟩,by omega⟩
 rw [if_pos e]
 simp [fl4,fl3,Bok.putV,at_one,flV,atV]
theorem fl4_ok {c s : Nat} (hc : c ≤ 4611686018427387904) (h0 : 0 < s) (hs : s ≤ 4611686018427387904) (he : s * 2000 ≤ c * 100000000000) : (fl4 c s).Ok := by
 have := step_ok (R := usR) (d := ⟨8,1,0,s,A1⟩) (fl3_ok hc) (by show 1 < 256; decide) (by show 0 < 256; decide) rfl
 rw [show (step20 usR (fl3 c) ⟨8,1,0,s,A1⟩).1 = fl4 c s from congrArg Prod.fst (fl4_is hc h0 hs he)] at this
 exact this
theorem fl5_is {c s : Nat} (h0 : 0 < s) (hs : s ≤ 4611686018427387904) : vD (fl4 c s) 1 s false (mintD (fl4 c s) 2 s) = (fl5 c s,0,0) := by
 rw [vD_yes (y := { flV c with com := s }) (op_one rfl rfl rfl h0 hs) rfl]
 unfold mintD
 have hz : sumN (fl4 c s).tok 256 = 0 := sumN_zero 256
 rw [if_neg (by show ¬ s < s; omega),hz,if_neg (by omega)]
 simp [fl5,fl4,fl3,fl2,fl1,bok0,Bok.putV,atV,flV]
theorem fl5_ok {c s : Nat} (hc : c ≤ 4611686018427387904) (h0 : 0 < s) (hs : s ≤ 4611686018427387904) (he : s * 2000 ≤ c * 100000000000) : (fl5 c s).Ok := by
 have := step_ok (R := usR) (d := ⟨10,1,2,s,A1⟩) (fl4_ok hc h0 hs he) (by show 1 < 256; decide) (by show 2 < 256; decide) rfl
 rw [show (step20 usR (fl4 c s) ⟨10,1,2,s,A1⟩).1 = fl5 c s from congrArg Prod.fst (fl5_is h0 hs)] at this
 exact this
theorem fl6_is {c i g : Nat} (h0 : 0 < g) (hs : i + g ≤ 4611686018427387904) : vD (fl5 c (i + g)) 1 g false (burnD (fl5 c (i + g)) 2 g) = (fl6 c i g,0,0) := by
 rw [vD_yes (y := { flV c with iss := i + g }) (op_one rfl rfl rfl h0 (by omega)) rfl]
 unfold burnD
 rw [if_neg (by show ¬ (i + g - 0 < g ∨ (fl5 c (i + g)).tok 2 < g); rw [show (fl5 c (i + g)).tok 2 = i + g from upd_same (fun _ => 0) 2 (i + g)]; omega)]
 simp [fl6,fl5,fl3,fl2,fl1,bok0,Bok.putV,atV,flV,upd_upd,upd_same]
theorem fl6_ok {c i g : Nat} (hc : c ≤ 4611686018427387904) (h0 : 0 < g) (hs : i + g ≤ 4611686018427387904) (he : (i + g) * 2000 ≤ c * 100000000000) : (fl6 c i g).Ok := by
 have := step_ok (R := usR) (d := ⟨11,1,2,g,A1⟩) (fl5_ok hc (by omega) hs he) (by show 1 < 256; decide) (by show 2 < 256; decide) rfl
 rw [show (step20 usR (fl5 c (i + g)) ⟨11,1,2,g,A1⟩).1 = fl6 c i g from congrArg Prod.fst (fl6_is h0 hs)] at this
 exact this
theorem flK_is {c i g : Nat} (h0 : 0 < g) : kpN { flV c with iss := i,goi := g } = flK c i g := by
 unfold kpN
 rw [if_pos (show 0 < g from h0)]
 rfl
theorem fl7_is {c i g : Nat} (h0 : 0 < g) : vD (fl6 c i g) 1 1 false (fallD (fl6 c i g)) = (fl7 c i g,0,0) := by
 rw [vD_yes (y := { flV c with iss := i,goi := g }) (op_one rfl rfl rfl (by decide) (by decide)) rfl]
 unfold fallD
 rw [flK_is h0]
 simp [fl7,fl6,fl5,fl3,fl2,fl1,bok0,Bok.putV,atV,flV]
theorem fl7_ok {c i g : Nat} (hc : c ≤ 4611686018427387904) (h0 : 0 < g) (hs : i + g ≤ 4611686018427387904) (he : (i + g) * 2000 ≤ c * 100000000000) : (fl7 c i g).Ok := by
 have := step_ok (R := usR) (d := ⟨18,1,2,g,A1⟩) (fl6_ok hc h0 hs he) (by show 1 < 256; decide) (by show 2 < 256; decide) rfl
 rw [show (step20 usR (fl6 c i g) ⟨18,1,2,g,A1⟩).1 = fl7 c i g from congrArg Prod.fst (fl7_is h0)] at this
 exact this
theorem fl8_is {c i g : Nat} : vD (fl7 c i g) 1 1 false (fallD (fl7 c i g)) = (fl7 c i g,0,20) := by
 have : opE (fl7 c i g) 1 1 false = 20 := by
  unfold opE
  rw [if_neg (by decide),show (fl7 c i g).vs = [{ flV c with coll := flK c i g,goi := g,fal := true }] from rfl,at_one _ rfl]
  rfl
 rw [vD_no (by rw [this]; decide),this]
 rfl
theorem flK_le {c i g : Nat} (h0 : 0 < i + g) : flK c i g ≤ c := by
 unfold flK upP
 have h1 : c * g ≤ c * (i + g) := Nat.mul_le_mul_left _ (by omega)
 have h2 := Nat.div_le_of_le_mul (show c * g ≤ (i + g) * c by rw [Nat.mul_comm (i + g)]; exact h1)
 split
 ·exact h2
 ·rename_i h
  have : c * g / (i + g) < c := by
   rcases Nat.lt_or_eq_of_le h2 with h3 | h3
   ·exact h3
   ·exfalso
    have h4 := Nat.div_add_mod (c * g) (i + g)
    rw [h3,Nat.mul_comm (i + g)] at h4
    omega
  omega
theorem flK_ge {c i g : Nat} (h0 : 0 < g) : c ≤ flK c i g * (i + g) / g := by
 rw [Nat.le_div_iff_mul_le h0]
 have h4 := Nat.div_add_mod (c * g) (i + g)
 have h5 := Nat.mod_lt (c * g) (show 0 < i + g by omega)
 unfold flK upP
 split
 ·rename_i h
  rw [h,Nat.add_zero,Nat.mul_comm] at h4
  omega
 ·rw [Nat.add_mul,Nat.one_mul,Nat.mul_comm (c * g / (i + g))]
  omega
theorem fl_share {c i g : Nat} (hc : c ≤ 4611686018427387904) (h0 : 0 < g) : vlE (rdQ (flK c i g * (i + g)) g false) = 4 ∨ (vlE (rdQ (flK c i g * (i + g)) g false) = 0 ∧ c ≤ vlV (rdQ (flK c i g * (i + g)) g false)) := by
 have h := flK_ge (c := c) (i := i) h0
 have e : rdQ (flK c i g * (i + g)) g false = flK c i g * (i + g) / g := by unfold rdQ; simp
 rw [e]
 unfold vlE vlV
 by_cases hq : flK c i g * (i + g) / g ≤ 4611686018427387904
 ·rw [if_pos hq,if_pos hq]; exact .inr ⟨rfl,h⟩
 ·rw [if_neg hq]; exact .inl rfl
theorem fl_need {s c : Nat} (hs : s ≤ 4294967296) (hc : vlV (rdQ (s * (1 * 2000)) 100000000000 true) ≤ c) : s * 2000 ≤ c * 100000000000 := by
 have h4 := Nat.div_add_mod (s * (1 * 2000)) 100000000000
 have h5 := Nat.mod_lt (s * (1 * 2000)) (show 0 < 100000000000 by decide)
 simp only [vlV,rdQ,true_and,ne_eq] at hc
 split at hc <;> split at hc <;> omega
theorem fl_small (s : Nat) (hs : s ≤ 4294967296) : vlV (rdQ (s * (1 * 2000)) 100000000000 true) ≤ 1000 := by
 have h4 := Nat.div_add_mod (s * (1 * 2000)) 100000000000
 unfold vlV rdQ
 split <;> split <;> omega
end Go.Proofs.YtohckefafbhooaaGreat
namespace Go.Proofs.YtohckefafbhooaaGreat
set_option maxRecDepth 100000
set_option linter.unusedVariables false
set_option linter.unusedSimpArgs false
open Go.RowKit
theorem bkVault_of {pv : Option Addr} {w : World} {x : Nat} {u : Vlt} {E : Int} {o : Bool} (ho : (E == 0) = o) (H : ∀ W,Fr F0 w W → Calls Tryz.prog 88 #[.pointer pv,.int .u8 (x : Int)] W fun e w' => e = .returned (.tuple #[vBv u,.int .i64 E]) ∧ Fr F0 W w') :
  Calls Tryz.prog 27 #[.pointer pv,.int .u8 (x : Int)] w fun e w' => e = .returned (.tuple #[vBv u,.bool o]) ∧ Fr F0 w w' := by
 have sz := cB_size u
 have oS := cB_one u
 simp only [vBv_is] at H ⊢
 generalize cB u = C at *
 replace H := Lib.hid H
 go_enter Tryz.func27,Tryz.ntmps27
 go_upto_region 1 with fail
 refine wp_new fun W1 N => ?_
 have r4 := N.new
 have F1 := Lib.hid N.fr
 clear N
 obtain ⟨g4,hg4⟩ : ∃ g,w.heap.size = g := ⟨_,rfl⟩
 rw [hg4] at r4 ⊢
 replace hg4 := Lib.hid hg4
 go_wp2_with fail
 (with_reducible refine (H.out _ F1.out).mono ?_); rintro e w2 ⟨rfl,f2⟩
 replace r4 := keep_fr f2 r4
 replace F1 := Lib.hid (F1.out.trans' f2)
 clear f2 H
 go_upto_region 2 with fail
 refine wp_put fun W3 N => ?_
 have r6 := N.new
 replace r4 := N.old r4
 have F3 := Lib.hid (F1.out.trans' N.fr)
 clear N F1
 go_wp2_with fail
 refine bodyPost_ret (results_cell_row_tmp rfl _ _ g4 _ _ _ _ rfl (by rw [heap_setRow_at,r4]; rfl) Tryz.underlying72 rfl (by rw [Tryz.szBVault,sz])) rfl ?_
 exact ⟨rfl,F3.out.setRow (fun h => by have := hg4.out; omega) _⟩
end Go.Proofs.YtohckefafbhooaaGreat
