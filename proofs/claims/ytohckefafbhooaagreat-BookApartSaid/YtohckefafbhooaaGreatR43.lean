import Derived.Test.YtohckefafbhooaaGreatR40
import Derived.Test.YtohckefafbhooaaGreatR39
import Derived.Test.YtohckefafbhooaaGreatR42
import Derived.Test.YtohckefafbhooaaGreatR9
import Derived.Test.YtohckefafbhooaaGreatR1
import Derived.Test.YtohckefafbhooaaGreatR38
import Derived.Test.YtohckefafbhooaaGreatR41
set_option maxRecDepth 100000
set_option maxHeartbeats 64000000
namespace Go.Proofs.YtohckefafbhooaaGreat
set_option linter.unusedVariables false
set_option linter.unusedSimpArgs false
open Go.RowKit
theorem aq4 (M : Bok) (c q : Nat) : (prE 50 M.price M.told M.now ≠ 0 ∧ ahw usR M c q = prE 50 M.price M.told M.now) ∨ (prE 50 M.price M.told M.now = 0 ∧ 4611686018427387904 < q ∧ ahw usR M c q = 4) ∨
  (prE 50 M.price M.told M.now = 0 ∧ q ≤ 4611686018427387904 ∧ decide (enP c q (prV 50 M.price M.told M.now) 2000) = false ∧ ahw usR M c q = 19) ∨ (prE 50 M.price M.told M.now = 0 ∧ q ≤ 4611686018427387904 ∧ decide (enP c q (prV 50 M.price M.told M.now) 2000) = true ∧ ahw usR M c q = 0) := by
 unfold ahw
 rw [show usR 4 = 50 from rfl,show usR 0 = 2000 from rfl]
 by_cases h : prE 50 M.price M.told M.now = 0
 ·have hv : prV 50 M.price M.told M.now = M.price := if_pos h
  rw [if_pos h,hv]
  by_cases h2 : 4611686018427387904 < q
  ·exact .inr (.inl ⟨h,h2,if_pos h2⟩)
  ·rw [if_neg h2]
   by_cases h3 : enP c q M.price 2000
   ·exact .inr (.inr (.inr ⟨h,by omega,decide_eq_true h3,if_pos h3⟩))
   ·exact .inr (.inr (.inl ⟨h,by omega,decide_eq_false h3,if_neg h3⟩))
 ·rw [if_neg h]; exact .inl ⟨h,rfl⟩
section
variable {S : Nat → Prop} {w w' W : World} {p tp q fp vb : Nat} {M : Bok}
theorem azl (hM : M.Ok) {y : Vlt} {j : Nat} (hy : M.vs[j]? = some y) : y.coll ≤ 4611686018427387904 := by
 have h1 := hM.uf hy
 have h2 := hM.inn
 have h3 := hM.paid
 omega
theorem acj (h : KP S w p tp q fp vb M) (hM : M.Ok) {x a : Nat} (hx : x < 256) (ha : a < 18446744073709551616) :
  Calls Tryz.prog 23 #[.pointer (some ⟨p,0,none⟩),.int .u8 (x : Int),.int .u64 (a : Int)] w (EP S w p tp q fp vb (vD M x a false (uo usR M a)).1 (.int .i64 (vD M x a false (uo usR M a)).2.2)) := by
 by_cases hE : opE M x a false = 0
 ·obtain ⟨y,hb,hy,hg,hyw,hf⟩ := yx hE
  replace hf := hf rfl
  rw [abd hE hy]
  unfold uo
  have hc := azl hM hy
  rcases aq4 M y.coll (y.bur + a) with ⟨h1,e⟩ | ⟨h1,h2,e⟩ | ⟨h1,h2,h3,e⟩ | ⟨h1,h2,h3,e⟩
  ·rw [e,if_neg h1]; exact ahs h hM hx ha hb hg hy hyw hf h1
  ·rw [e,if_neg (by decide)]; exact aib h hM hx ha hb hg hy hyw hf h1 h2
  ·rw [e,if_neg (by decide)]; exact aht h hM hx ha hb hg hy hyw hf h1 h2 (by omega) h3
  ·rw [e,if_pos rfl]; exact an6 h hM hx ha hb hg hy hyw hf h1 h2 (by omega) h3
 ·rw [ae6 hE]
  exact an7 h hx hE
theorem avk (h : KP S w p tp q fp vb M) : Calls Tryz.prog 17 #[.pointer (some ⟨p,0,none⟩)] w fun e w' => e = .returned (.pointer (some ⟨fp,0,none⟩)) ∧ w' = w := by
 obtain ⟨tob,qp,qob,b,e⟩ := h
 exact aji b
theorem ad1 (h : KP S w p tp q fp vb M) : Calls Tryz.prog 20 #[.pointer (some ⟨p,0,none⟩)] w fun e w' => e = .returned (.pointer (some ⟨q,0,none⟩)) ∧ w' = w := by
 obtain ⟨tob,qp,qob,b,e⟩ := h
 exact aqe b
theorem agc (h : KP S w p tp q fp vb M) : Calls Tryz.prog 35 #[.pointer (some ⟨p,0,none⟩)] w fun e w' => e = .returned (.pointer (some ⟨tp,0,none⟩)) ∧ w' = w := by
 obtain ⟨tob,qp,qob,b,e⟩ := h
 exact an2 b
theorem aI3 (h : KP S w p tp q fp vb M) : Calls Tryz.prog 31 #[.pointer (some ⟨p,0,none⟩)] w fun e w' => e = .returned (.int .u64 (M.now : Int)) ∧ w' = w := by
 obtain ⟨tob,qp,qob,b,e⟩ := h
 exact amk b
theorem ai9 (h : KP S w p tp q fp vb M) : Calls Tryz.prog 32 #[.pointer (some ⟨p,0,none⟩)] w fun e w' => e = .returned (.int .u64 (M.dep : Int)) ∧ w' = w := by
 obtain ⟨tob,qp,qob,b,e⟩ := h
 exact aii b
end
def A1 : List UInt8 := 1 :: List.replicate 19 0
theorem aBf (w : World) : (awn #[(0,.int .u8 1)]).run Tryz.prog w = .ok (.agg (A1.map B8).toArray) w := run_build w _ _ _ (by kernel_rfl)
def lv1 : Bok := { alb with price := 100,told := 0 }
def lv2 : Bok := { lv1 with inn := 200,free := upd lv1.free 1 200 }
def lvV : Vlt := ⟨1,A1,200,0,0,0,0,false⟩
def lv3 : Bok := { lv2 with free := upd lv2.free 1 0,held := 200,vs := [lvV] }
def lv4 : Bok := { lv3 with vs := [{ lvV with com := 100000000 }] }
theorem aKp : A1.length = 20 := rfl
theorem aJw : (jf usR alb ⟨1,0,0,100,A1⟩).1 = lv1 := by
 show (yh usR alb 100).1 = lv1
 unfold yh
 rw [if_pos (by decide)]
 rfl
theorem aJv : lv1.Ok := by rw [← aJw]; exact step_ok ao5 (by decide) (by decide) rfl
theorem aJu : inD lv1 1 200 = (lv2,0,0) := by
 unfold inD
 rw [if_neg (by decide),if_neg (by decide)]
 rfl
theorem aB4 : lv2.Ok := by
 have := step_ok (R := usR) (d := ⟨2,1,0,200,A1⟩) aJv (by decide) (by decide) rfl
 rw [show (jf usR lv1 ⟨2,1,0,200,A1⟩).1 = lv2 from congrArg Prod.fst aJu] at this
 exact this
theorem aB3 : ji lv2 1 200 A1 = (lv3,0,0) := by
 unfold ji
 rw [if_neg (by decide),if_neg (by simp [lv2,lv1,alb]),if_neg (by decide),if_neg (by decide)]
 rfl
theorem aB2 : lv3.Ok := by
 have := step_ok (R := usR) (d := ⟨5,1,0,200,A1⟩) aB4 (by decide) (by decide) rfl
 rw [show (jf usR lv2 ⟨5,1,0,200,A1⟩).1 = lv3 from congrArg Prod.fst aB3] at this
 exact this
theorem aB1 : vD lv3 1 100000000 false (uo usR lv3 100000000) = (lv4,0,0) := by
 rw [abd (y := lvV) (by decide) rfl]
 unfold uo
 rw [if_pos (by decide)]
 rfl
theorem aJt : lv4.Ok := by
 have := step_ok (R := usR) (d := ⟨8,1,0,100000000,A1⟩) aB2 (by decide) (by decide) rfl
 rw [show (jf usR lv3 ⟨8,1,0,100000000,A1⟩).1 = lv4 from congrArg Prod.fst aB1] at this
 exact this
theorem aJs : (vD lv4 1 1 false (uo usR lv4 1)) = (lv4,0,19) := by
 rw [abd (y := { lvV with com := 100000000 }) (by decide) rfl]
 unfold uo
 have e : ahw usR lv4 200 100000001 = 19 := by decide
 show (if ahw usR lv4 200 100000001 = 0 then _ else lv4.no (ahw usR lv4 200 100000001)) = _
 rw [e]
 rfl
theorem ap0 (w : World) : Calls Tryz.prog 7 #[] w fun e w' => e = .returned (.bool true) ∧ Fr F0 w w' := by
 have HU := Lib.hid abk
 have HN := Lib.hid arx
 have hb := aBf
 go_enter Tryz.func7,Tryz.ntmps7
 go_wp2_with fail
 (with_reducible refine (HU.out _).mono ?_); rintro e w1 ⟨rfl,f1⟩
 have F1 := Lib.hid f1
 clear f1
 go_wp2_with fail
 refine (HN.out _).mono ?_; rintro e w2 ⟨p,tp,q,fp,vb,S,rfl,k2,hS,f2⟩
 have HS := Lib.hid (And.intro hS (F1.out.trans' f2))
 have HFd := Lib.hid (avk k2)
 have HSt := Lib.hid (aro k2 100 0)
 rw [if_pos (by decide),show seE 100 alb.price alb.told 100 0 = 0 by decide,show ((100 : Nat) : Int) = 100 from rfl,show ((0 : Nat) : Int) = 0 from rfl] at HSt
 have m2 := Lib.hid (zl.start k2 (Fr.refl F0 w2))
 clear hS f2 k2
 go_wp2_with fail
 (with_reducible refine HFd.out.mono ?_); rintro e w3 ⟨rfl,hw⟩; replace hw := hw.symm; subst hw
 go_wp2_with fail
 (with_reducible refine HSt.out.mono ?_); rintro e w3 ⟨rfl,h3⟩
 obtain ⟨T3,m3⟩ := m2.out.next h3
 have HPu := Lib.hid (ad1 m3.kp)
 have HIn := Lib.hid (aB5 (M := lv1) (a := 1) (x := 200) m3.kp (by decide) (by decide))
 rw [show ((1 : Nat) : Int) = 1 from rfl,show ((200 : Nat) : Int) = 200 from rfl] at HIn
 replace m3 : Hid (zl S T3 w2 p tp q fp vb lv1 (fun _ => False) w3) := Lib.hid m3
 clear h3 HSt HFd m2
 go_wp2_with fail
 (with_reducible refine HPu.out.mono ?_); rintro e w4 ⟨rfl,hw⟩; replace hw := hw.symm; subst hw
 go_wp2_with fail
 (with_reducible refine HIn.out.mono ?_); rintro e w4 ⟨rfl,h4⟩
 obtain ⟨T4,m4⟩ := m3.out.next h4
 have HRe := Lib.hid (adr (M := lv2) (x := 1) (a := 200) (A := A1) m4.kp aB4 (by decide) (by decide) aKp)
 rw [aB3] at HRe
 unfold afz at HRe
 rw [show ((1 : Nat) : Int) = 1 from rfl,show ((200 : Nat) : Int) = 200 from rfl] at HRe
 replace m4 : Hid (zl S T4 w2 p tp q fp vb lv2 (fun _ => False) w4) := Lib.hid m4
 clear h4 HPu HIn m3
 obtain ⟨X,hX⟩ : ∃ X,X = (A1.map B8).toArray := ⟨_,rfl⟩
 rw [← hX] at HRe hb
 clear hX
 go_wp2_with fail
 (with_reducible refine HRe.out.mono ?_); rintro e w5 ⟨rfl,h5⟩
 obtain ⟨T5,m5⟩ := m4.out.next h5
 have HR1 := Lib.hid (acj (M := lv3) (x := 1) (a := 100000000) m5.kp aB2 (by decide) (by decide))
 rw [aB1,show ((1 : Nat) : Int) = 1 from rfl,show ((100000000 : Nat) : Int) = 100000000 from rfl] at HR1
 replace m5 : Hid (zl S T5 w2 p tp q fp vb lv3 (fun _ => False) w5) := Lib.hid m5
 clear h5 HRe m4
 go_wp2_with fail
 (with_reducible refine HR1.out.mono ?_); rintro e w6 ⟨rfl,h6⟩
 obtain ⟨T6,m6⟩ := m5.out.next h6
 have HR2 := Lib.hid (acj (M := lv4) (x := 1) (a := 1) m6.kp aJt (by decide) (by decide))
 rw [aJs,show ((1 : Nat) : Int) = 1 from rfl] at HR2
 replace m6 : Hid (zl S T6 w2 p tp q fp vb lv4 (fun _ => False) w6) := Lib.hid m6
 clear h6 HR1 m5
 go_wp2_with fail
 (with_reducible refine HR2.out.mono ?_); rintro e w7 ⟨rfl,h7⟩
 obtain ⟨T7,m7⟩ := m6.out.next h7
 have HF := Lib.hid (HS.out.2.trans m7.fr fun i hi e => absurd hi (Nat.not_lt.2 (Nat.le_trans F1.out.size (HS.out.1 i e).1)))
 clear h7 m7 m6 HR2
 go_wp2_with fail
 go_ret
 exact ⟨rfl,HF.out⟩
theorem aae {P : Program} {fn : Func} {p p2 u : Tmp} {ty ty2 : TypeId} (h : fn.results = #[.cell p ty,.cell p2 ty2,.tmp u]) (tmps : Array Value) (w : World) (g g2 : Nat) (t t2 : TypeId) (cs cs2 : Array Value) (fr fr2 : Nat × Nat) (d d2 : TypeDesc)
  (hp : tmps.getD p undef = .pointer (some ⟨g,0,none⟩)) (hp2 : tmps.getD p2 undef = .pointer (some ⟨g2,0,none⟩)) (hg : w.heap[g]? = some (.cells cs t fr)) (hg2 : w.heap[g2]? = some (.cells cs2 t2 fr2))
  (hu : P.underlying ty = some d) (hd : (match d with | .struct _ | .array _ _ => true | _ => false) = true) (hi : (P.info? ty).map (·.size) = some cs.size)
  (hu2 : P.underlying ty2 = some d2) (hd2 : (match d2 with | .struct _ | .array _ _ => true | _ => false) = true) (hi2 : (P.info? ty2).map (·.size) = some cs2.size) :
  (results fn tmps).run P w = .ok (.tuple #[.agg cs,.agg cs2,tmps.getD u undef]) w := by
 have h1 := run_loadVar_row w g t ty cs fr d hg hu hd hi
 have h2 := run_loadVar_row w g2 t2 ty2 cs2 fr2 d2 hg2 hu2 hd2 hi2
 have hp' : tmps[p]?.getD undef = .pointer (some ⟨g,0,none⟩) := by simpa using hp
 have hp2' : tmps[p2]?.getD undef = .pointer (some ⟨g2,0,none⟩) := by simpa using hp2
 simp [results,h,hp',hp2',asAddr,h1,h2,Sem.run_bind]
theorem aub {pv : Option Addr} {w : World} {x a : Nat} {u : Vlt} {E1 E : Int} (H1 : Calls Tryz.prog 83 #[.pointer pv,.int .u8 (x : Int),.int .u64 (a : Int)] w fun e w' => e = .returned (.tuple #[vBv u,.int .i64 E1]) ∧ Fr F0 w w') (H2 : ∀ W,Calls Tryz.prog 82 #[vBv u,.int .i64 E1] W fun e w' => e = .returned (.tuple #[vBv v0,.int .i64 E]) ∧ Fr F0 W w') (hE : E ≠ 0) : Calls Tryz.prog 46 #[.pointer pv,.int .u8 (x : Int),.int .u64 (a : Int)] w fun e w' => e = .returned (.int .i64 E) ∧ Fr F0 w w' := by
 have sz0 := lu v0
 have oS0 := ru v0
 have q0 : (E != 0) = true := bne_iff_ne.2 hE
 simp only [iq] at H1 H2
 generalize cB v0 = C0 at *
 generalize cB u = U at *
 replace H2 := Lib.hid H2
 replace H1 := Lib.hid H1
 clear hE
 go_enter Tryz.func46,Tryz.ntmps46
 go_wp2_with fail
 (with_reducible refine H1.out.mono ?_); rintro e w1 ⟨rfl,f1⟩
 have F2 := Lib.hid f1
 clear f1 H1
 go_wp2_with fail
 (with_reducible refine (H2.out _).mono ?_); rintro e w2 ⟨rfl,f2⟩
 replace F2 := Lib.hid (F2.out.trans' f2)
 clear f2 H2
 go_upto_region 2 with fail
 refine jc fun W3 N => ?_
 have F3 := Lib.hid (F2.out.trans' N.fr)
 clear N F2
 go_wp2_with fail
 go_ret
 exact ⟨rfl,F3.out⟩
theorem auh {pv : Option Addr} {w : World} {x a : Nat} {u : Vlt} {E1 E : Int} (H1 : Calls Tryz.prog 83 #[.pointer pv,.int .u8 (x : Int),.int .u64 (a : Int)] w fun e w' => e = .returned (.tuple #[vBv u,.int .i64 E1]) ∧ Fr F0 w w') (H2 : ∀ W,Calls Tryz.prog 82 #[vBv u,.int .i64 E1] W fun e w' => e = .returned (.tuple #[vBv v0,.int .i64 E]) ∧ Fr F0 W w') (hE : E ≠ 0) : Calls Tryz.prog 47 #[.pointer pv,.int .u8 (x : Int),.int .u64 (a : Int)] w fun e w' => e = .returned (.int .i64 E) ∧ Fr F0 w w' := by
 have sz0 := lu v0
 have oS0 := ru v0
 have q0 : (E != 0) = true := bne_iff_ne.2 hE
 simp only [iq] at H1 H2
 generalize cB v0 = C0 at *
 generalize cB u = U at *
 replace H2 := Lib.hid H2
 replace H1 := Lib.hid H1
 clear hE
 go_enter Tryz.func47,Tryz.ntmps47
 go_wp2_with fail
 (with_reducible refine H1.out.mono ?_); rintro e w1 ⟨rfl,f1⟩
 have F2 := Lib.hid f1
 clear f1 H1
 go_wp2_with fail
 (with_reducible refine (H2.out _).mono ?_); rintro e w2 ⟨rfl,f2⟩
 replace F2 := Lib.hid (F2.out.trans' f2)
 clear f2 H2
 go_upto_region 2 with fail
 refine jc fun W3 N => ?_
 have F3 := Lib.hid (F2.out.trans' N.fr)
 clear N F2
 go_wp2_with fail
 go_ret
 exact ⟨rfl,F3.out⟩
theorem aqh {pv : Option Addr} {w : World} {x a : Nat} {u : Vlt} {E1 E : Int} (H1 : Calls Tryz.prog 83 #[.pointer pv,.int .u8 (x : Int),.int .u64 (a : Int)] w fun e w' => e = .returned (.tuple #[vBv u,.int .i64 E1]) ∧ Fr F0 w w') (H2 : ∀ W,Calls Tryz.prog 82 #[vBv u,.int .i64 E1] W fun e w' => e = .returned (.tuple #[vBv v0,.int .i64 E]) ∧ Fr F0 W w') (hE : E ≠ 0) : Calls Tryz.prog 52 #[.pointer pv,.int .u8 (x : Int),.int .u64 (a : Int)] w fun e w' => e = .returned (.int .i64 E) ∧ Fr F0 w w' := by
 have sz0 := lu v0
 have oS0 := ru v0
 have q0 : (E != 0) = true := bne_iff_ne.2 hE
 simp only [iq] at H1 H2
 generalize cB v0 = C0 at *
 generalize cB u = U at *
 replace H2 := Lib.hid H2
 replace H1 := Lib.hid H1
 clear hE
 go_enter Tryz.func52,Tryz.ntmps52
 go_wp2_with fail
 (with_reducible refine H1.out.mono ?_); rintro e w1 ⟨rfl,f1⟩
 have F2 := Lib.hid f1
 clear f1 H1
 go_wp2_with fail
 (with_reducible refine (H2.out _).mono ?_); rintro e w2 ⟨rfl,f2⟩
 replace F2 := Lib.hid (F2.out.trans' f2)
 clear f2 H2
 go_upto_region 2 with fail
 refine jc fun W3 N => ?_
 have F3 := Lib.hid (F2.out.trans' N.fr)
 clear N F2
 go_wp2_with fail
 go_ret
 exact ⟨rfl,F3.out⟩
theorem atx {pv : Option Addr} {w : World} {x a : Nat} {u : Vlt} {E1 E : Int} (H1 : Calls Tryz.prog 83 #[.pointer pv,.int .u8 (x : Int),.int .u64 (a : Int)] w fun e w' => e = .returned (.tuple #[vBv u,.int .i64 E1]) ∧ Fr F0 w w') (H2 : ∀ W,Calls Tryz.prog 82 #[vBv u,.int .i64 E1] W fun e w' => e = .returned (.tuple #[vBv v0,.int .i64 E]) ∧ Fr F0 W w') (hE : E ≠ 0) : Calls Tryz.prog 53 #[.pointer pv,.int .u8 (x : Int),.int .u64 (a : Int)] w fun e w' => e = .returned (.int .i64 E) ∧ Fr F0 w w' := by
 have sz0 := lu v0
 have oS0 := ru v0
 have q0 : (E != 0) = true := bne_iff_ne.2 hE
 simp only [iq] at H1 H2
 generalize cB v0 = C0 at *
 generalize cB u = U at *
 replace H2 := Lib.hid H2
 replace H1 := Lib.hid H1
 clear hE
 go_enter Tryz.func53,Tryz.ntmps53
 go_wp2_with fail
 (with_reducible refine H1.out.mono ?_); rintro e w1 ⟨rfl,f1⟩
 have F2 := Lib.hid f1
 clear f1 H1
 go_wp2_with fail
 (with_reducible refine (H2.out _).mono ?_); rintro e w2 ⟨rfl,f2⟩
 replace F2 := Lib.hid (F2.out.trans' f2)
 clear f2 H2
 go_upto_region 2 with fail
 refine jc fun W3 N => ?_
 have F3 := Lib.hid (F2.out.trans' N.fr)
 clear N F2
 go_wp2_with fail
 go_ret
 exact ⟨rfl,F3.out⟩
theorem aue {pv : Option Addr} {w : World} {x v a : Nat} {u : Vlt} {E1 E : Int} (H1 : Calls Tryz.prog 83 #[.pointer pv,.int .u8 (x : Int),.int .u64 (a : Int)] w fun e w' => e = .returned (.tuple #[vBv u,.int .i64 E1]) ∧ Fr F0 w w') (H2 : ∀ W,Calls Tryz.prog 82 #[vBv u,.int .i64 E1] W fun e w' => e = .returned (.tuple #[vBv v0,.int .i64 E]) ∧ Fr F0 W w') (hE : E ≠ 0) : Calls Tryz.prog 24 #[.pointer pv,.int .u8 (x : Int),.int .u8 (v : Int),.int .u64 (a : Int)] w fun e w' => e = .returned (.int .i64 E) ∧ Fr F0 w w' := by
 have sz0 := lu v0
 have oS0 := ru v0
 have q0 : (E != 0) = true := bne_iff_ne.2 hE
 simp only [iq] at H1 H2
 generalize cB v0 = C0 at *
 generalize cB u = U at *
 replace H2 := Lib.hid H2
 replace H1 := Lib.hid H1
 clear hE
 go_enter Tryz.func24,Tryz.ntmps24
 go_wp2_with fail
 (with_reducible refine H1.out.mono ?_); rintro e w1 ⟨rfl,f1⟩
 have F2 := Lib.hid f1
 clear f1 H1
 go_wp2_with fail
 (with_reducible refine (H2.out _).mono ?_); rintro e w2 ⟨rfl,f2⟩
 replace F2 := Lib.hid (F2.out.trans' f2)
 clear f2 H2
 go_upto_region 2 with fail
 refine jc fun W3 N => ?_
 have F3 := Lib.hid (F2.out.trans' N.fr)
 clear N F2
 go_wp2_with fail
 go_ret
 exact ⟨rfl,F3.out⟩
theorem auq {pv : Option Addr} {w : World} {x v a : Nat} {u : Vlt} {E1 E : Int} (H1 : Calls Tryz.prog 83 #[.pointer pv,.int .u8 (x : Int),.int .u64 (a : Int)] w fun e w' => e = .returned (.tuple #[vBv u,.int .i64 E1]) ∧ Fr F0 w w') (H2 : ∀ W,Calls Tryz.prog 82 #[vBv u,.int .i64 E1] W fun e w' => e = .returned (.tuple #[vBv v0,.int .i64 E]) ∧ Fr F0 W w') (hE : E ≠ 0) : Calls Tryz.prog 25 #[.pointer pv,.int .u8 (x : Int),.int .u8 (v : Int),.int .u64 (a : Int)] w fun e w' => e = .returned (.int .i64 E) ∧ Fr F0 w w' := by
 have sz0 := lu v0
 have oS0 := ru v0
 have q0 : (E != 0) = true := bne_iff_ne.2 hE
 simp only [iq] at H1 H2
 generalize cB v0 = C0 at *
 generalize cB u = U at *
 replace H2 := Lib.hid H2
 replace H1 := Lib.hid H1
 clear hE
 go_enter Tryz.func25,Tryz.ntmps25
 go_wp2_with fail
 (with_reducible refine H1.out.mono ?_); rintro e w1 ⟨rfl,f1⟩
 have F2 := Lib.hid f1
 clear f1 H1
 go_wp2_with fail
 (with_reducible refine (H2.out _).mono ?_); rintro e w2 ⟨rfl,f2⟩
 replace F2 := Lib.hid (F2.out.trans' f2)
 clear f2 H2
 go_upto_region 2 with fail
 refine jc fun W3 N => ?_
 have F3 := Lib.hid (F2.out.trans' N.fr)
 clear N F2
 go_wp2_with fail
 go_ret
 exact ⟨rfl,F3.out⟩
theorem aul {pv : Option Addr} {w : World} {x v a : Nat} {u : Vlt} {E1 E : Int} (H1 : Calls Tryz.prog 83 #[.pointer pv,.int .u8 (x : Int),.int .u64 (a : Int)] w fun e w' => e = .returned (.tuple #[vBv u,.int .i64 E1]) ∧ Fr F0 w w') (H2 : ∀ W,Calls Tryz.prog 82 #[vBv u,.int .i64 E1] W fun e w' => e = .returned (.tuple #[vBv v0,.int .i64 E]) ∧ Fr F0 W w') (hE : E ≠ 0) : Calls Tryz.prog 54 #[.pointer pv,.int .u8 (x : Int),.int .u8 (v : Int),.int .u64 (a : Int)] w fun e w' => e = .returned (.int .i64 E) ∧ Fr F0 w w' := by
 have sz0 := lu v0
 have oS0 := ru v0
 have q0 : (E != 0) = true := bne_iff_ne.2 hE
 simp only [iq] at H1 H2
 generalize cB v0 = C0 at *
 generalize cB u = U at *
 replace H2 := Lib.hid H2
 replace H1 := Lib.hid H1
 clear hE
 go_enter Tryz.func54,Tryz.ntmps54
 go_wp2_with fail
 (with_reducible refine H1.out.mono ?_); rintro e w1 ⟨rfl,f1⟩
 have F2 := Lib.hid f1
 clear f1 H1
 go_wp2_with fail
 (with_reducible refine (H2.out _).mono ?_); rintro e w2 ⟨rfl,f2⟩
 replace F2 := Lib.hid (F2.out.trans' f2)
 clear f2 H2
 go_upto_region 2 with fail
 refine jc fun W3 N => ?_
 have F3 := Lib.hid (F2.out.trans' N.fr)
 clear N F2
 go_wp2_with fail
 go_ret
 exact ⟨rfl,F3.out⟩
theorem akz {pv : Option Addr} {w : World} {x a : Nat} {u : Vlt} {E1 E : Int} (H1 : Calls Tryz.prog 83 #[.pointer pv,.int .u8 (x : Int),.int .u64 (a : Int)] w fun e w' => e = .returned (.tuple #[vBv v0,.int .i64 E]) ∧ Fr F0 w w')  (hE : E ≠ 0) : Calls Tryz.prog 48 #[.pointer pv,.int .u8 (x : Int),.int .u64 (a : Int)] w fun e w' => e = .returned (.int .i64 E) ∧ Fr F0 w w' := by
 have sz0 := lu v0
 have oS0 := ru v0
 have q0 : (E != 0) = true := bne_iff_ne.2 hE
 simp only [iq] at H1
 generalize cB v0 = C0 at *
 replace H1 := Lib.hid H1
 clear hE
 go_enter Tryz.func48,Tryz.ntmps48
 go_wp2_with fail
 (with_reducible refine H1.out.mono ?_); rintro e w1 ⟨rfl,f1⟩
 have F2 := Lib.hid f1
 clear f1 H1
 go_upto_region 2 with fail
 refine jc fun W3 N => ?_
 have F3 := Lib.hid (F2.out.trans' N.fr)
 clear N F2
 go_wp2_with fail
 go_ret
 exact ⟨rfl,F3.out⟩
theorem ap9 {pv : Option Addr} {w : World} {x v a : Nat} {u : Vlt} {E1 E : Int} (H1 : Calls Tryz.prog 83 #[.pointer pv,.int .u8 (x : Int),.int .u64 (a : Int)] w fun e w' => e = .returned (.tuple #[vBv v0,.int .i64 E]) ∧ Fr F0 w w')  (hE : E ≠ 0) : Calls Tryz.prog 51 #[.pointer pv,.int .u8 (x : Int),.int .u8 (v : Int),.int .u64 (a : Int)] w fun e w' => e = .returned (.tuple #[.int .u64 0,.int .i64 E]) ∧ Fr F0 w w' := by
 have sz0 := lu v0
 have oS0 := ru v0
 have q0 : (E != 0) = true := bne_iff_ne.2 hE
 simp only [iq] at H1
 generalize cB v0 = C0 at *
 replace H1 := Lib.hid H1
 clear hE
 go_enter Tryz.func51,Tryz.ntmps51
 go_wp2_with fail
 (with_reducible refine H1.out.mono ?_); rintro e w1 ⟨rfl,f1⟩
 have F2 := Lib.hid f1
 clear f1 H1
 go_upto_region 2 with fail
 refine jc fun W3 N => ?_
 have F3 := Lib.hid (F2.out.trans' N.fr)
 clear N F2
 go_wp2_with fail
 go_ret2
 exact ⟨rfl,F3.out⟩
theorem ajj {pv : Option Addr} {w : World} {x : Nat} {u : Vlt} {E1 E : Int} (H1 : Calls Tryz.prog 88 #[.pointer pv,.int .u8 (x : Int)] w fun e w' => e = .returned (.tuple #[vBv u,.int .i64 E1]) ∧ Fr F0 w w') (H2 : ∀ W,Calls Tryz.prog 82 #[vBv u,.int .i64 E1] W fun e w' => e = .returned (.tuple #[vBv v0,.int .i64 E]) ∧ Fr F0 W w') (hE : E ≠ 0) : Calls Tryz.prog 26 #[.pointer pv,.int .u8 (x : Int)] w fun e w' => e = .returned (.int .i64 E) ∧ Fr F0 w w' := by
 have sz0 := lu v0
 have oS0 := ru v0
 have q0 : (E != 0) = true := bne_iff_ne.2 hE
 simp only [iq] at H1 H2
 generalize cB v0 = C0 at *
 generalize cB u = U at *
 replace H2 := Lib.hid H2
 replace H1 := Lib.hid H1
 clear hE
 go_enter Tryz.func26,Tryz.ntmps26
 go_wp2_with fail
 (with_reducible refine H1.out.mono ?_); rintro e w1 ⟨rfl,f1⟩
 have F2 := Lib.hid f1
 clear f1 H1
 go_wp2_with fail
 (with_reducible refine (H2.out _).mono ?_); rintro e w2 ⟨rfl,f2⟩
 replace F2 := Lib.hid (F2.out.trans' f2)
 clear f2 H2
 go_upto_region 2 with fail
 refine jc fun W3 N => ?_
 have F3 := Lib.hid (F2.out.trans' N.fr)
 clear N F2
 go_wp2_with fail
 go_ret
 exact ⟨rfl,F3.out⟩
section
variable {S : Nat → Prop} {w w' W : World} {p tp q fp vb : Nat} {M : Bok}
theorem auf (h : KP S w p tp q fp vb M) (hM : M.Ok) {x v a : Nat} (hv : v < 256) (hx : x < 256) (ha : a < 18446744073709551616) (hb : ¬ badM a) {y : Vlt} (hg : gOf M.vs x = some y) (hy : M.vs[atV M.vs x]? = some y) (hyw : y.who = x) (hf : y.fal = false) (hc : y.com < a) :
  Calls Tryz.prog 24 #[.pointer (some ⟨p,0,none⟩),.int .u8 (x : Int),.int .u8 (v : Int),.int .u64 (a : Int)] w (EP S w p tp q fp vb M (.int .i64 16)) := by
 have hvk := hM.vok y (jh hy)
 have hbu := hvk.bur
 have hxl := hvk.lea
 have hbb : ¬ (a = 0 ∨ 4611686018427387904 < a) := hb
 unfold Vlt.bur at hbu
 have H1 := Lib.hid (iw h hx hb hg)
 have H2 := Lib.hid (gy y hf)
 have HM := Lib.hid (fun (W : World) (f : Fr F0 w W) => zl.start h f)
 simp only [iq] at H1 H2
 have HA := Lib.hid (fun (W : World) => vw y.com a (by omega) ha W)
 rw [show sbE y.com a = 16 by unfold sbE; rw [if_pos (by omega),if_neg (by omega)]] at HA
 generalize sbV y.com a = z at *
 obtain ⟨sz,oS,c0,c21,c22,c23,c24,c25,c26⟩ := cBf y
 try dsimp only at c0 c21 c22 c23 c24 c25 c26
 obtain ⟨C,hC⟩ : ∃ C,C = cB y := ⟨_,rfl⟩
 rw [← hC] at H1 H2 sz oS c0 c21 c22 c23 c24 c25 c26
 have d23 := ay c23
 clear c0 c21 c22 c24 c25 c26
 replace hC := Lib.hid hC
 clear h hM hx ha hb hg hy hyw hvk hbu hxl hbb hc
 unfold EP
 go_enter Tryz.func24,Tryz.ntmps24
 go_wp2_with fail
 (with_reducible refine H1.out.mono ?_); rintro e w1 ⟨rfl,f1⟩
 have F2 := Lib.hid f1
 clear f1 H1
 go_wp2_with fail
 (with_reducible refine (H2.out _).mono ?_); rintro e w2 ⟨rfl,f2⟩
 replace F2 := Lib.hid (F2.out.trans' f2)
 clear f2 H2
 go_upto_region 2 with fail
 refine jc fun w4 N => ?_
 have r7 := N.new
 have m := Lib.hid ((HM.out _ F2.out).add N.fr (Nat.le_refl _) (Array.getElem?_eq_some_iff.1 r7).1)
 clear N F2 HM
 obtain ⟨g7,hg7⟩ : ∃ g,w2.heap.size = g := ⟨_,rfl⟩
 rw [hg7] at r7 m ⊢
 clear hg7
 go_wp2_with fail
 (with_reducible refine (HA.out _).mono ?_); rintro e w4 ⟨rfl,f4⟩
 replace r7 := dn f4 r7
 replace m := Lib.hid (m.out.fr0 f4)
 clear f4
 go_upto_region 5 with fail
 have f5 := (Fr.refl (fun k => False ∨ k = g7) w4).setCell (p := ⟨g7,23,none⟩) (fun _ => .inr rfl) (.int .u64 (z : Int))
 have r8 : VX (w4.setCell ⟨g7,23,none⟩ (.int .u64 (z : Int))) g7 { y with com := z } := VX.ail (show VX w4 g7 y by unfold VX; rw [← hC.out]; exact r7) z
 replace m := Lib.hid (m.out.box f5)
 clear f5 r7
 obtain ⟨w4,hW5⟩ : ∃ X,X = w4.setCell ⟨g7,23,none⟩ (.int .u64 (z : Int)) := ⟨_,rfl⟩
 rw [← hW5] at r8 m ⊢
 clear hW5
 have r7 := r8
 clear r8
 unfold VX at r7
 obtain ⟨sz,oS,c0,c21,c22,c23,c24,c25,c26⟩ := cBf { y with com := z }
 try dsimp only at c0 c21 c22 c23 c24 c25 c26
 obtain ⟨C,hC⟩ : ∃ C,C = cB { y with com := z } := ⟨_,rfl⟩
 rw [← hC] at r7 sz oS c0 c21 c22 c23 c24 c25 c26
 clear c0 c21 c22 c23 c24 c25 c26
 replace hC := Lib.hid hC
 go_wp2_with fail
 go_ret
 exact ⟨rfl,m.out.qp⟩
theorem aqf (h : KP S w p tp q fp vb M) (hM : M.Ok) {x v a : Nat} (hv : v < 256) (hx : x < 256) (ha : a < 18446744073709551616) (hb : ¬ badM a) {y : Vlt} (hg : gOf M.vs x = some y) (hy : M.vs[atV M.vs x]? = some y) (hyw : y.who = x) (hf : y.fal = false) (hc : ¬ y.com < a) (ho : 4611686018427387904 < uy M.tok 256 + a) :
  Calls Tryz.prog 24 #[.pointer (some ⟨p,0,none⟩),.int .u8 (x : Int),.int .u8 (v : Int),.int .u64 (a : Int)] w (EP S w p tp q fp vb M (.int .i64 4)) := by
 have hvk := hM.vok y (jh hy)
 have hbu := hvk.bur
 have hxl := hvk.lea
 have hbb : ¬ (a = 0 ∨ 4611686018427387904 < a) := hb
 unfold Vlt.bur at hbu
 have H1 := Lib.hid (iw h hx hb hg)
 have H2 := Lib.hid (gy y hf)
 have HM := Lib.hid (fun (W : World) (f : Fr F0 w W) => zl.start h f)
 simp only [iq] at H1 H2
 obtain ⟨z,hz⟩ : ∃ z,z = y.com - a := ⟨_,rfl⟩
 have HA := Lib.hid (fun (W : World) => vw y.com a (by omega) ha W)
 rw [(sbQ (show a ≤ y.com by omega) (by omega)).1,(sbQ (show a ≤ y.com by omega) (by omega)).2,← hz] at HA
 have hq : abo M.tok (uy M.tok 256) v a = (4,M.tok,uy M.tok 256) := by unfold abo afy; rw [if_neg (by simp; omega)]; exact if_pos (by omega)
 have HMi := Lib.hid (fun (W : World) (T : Nat → Prop) (k : KP T W p tp q fp vb M) => ab4 k hM hv ha)
 rw [hq] at HMi
 obtain ⟨sz,oS,c0,c21,c22,c23,c24,c25,c26⟩ := cBf y
 try dsimp only at c0 c21 c22 c23 c24 c25 c26
 obtain ⟨C,hC⟩ : ∃ C,C = cB y := ⟨_,rfl⟩
 rw [← hC] at H1 H2 sz oS c0 c21 c22 c23 c24 c25 c26
 have d23 := ay c23
 clear c0 c21 c22 c24 c25 c26
 replace hC := Lib.hid hC
 clear h hM hx ha hb hg hy hyw hvk hbu hxl hbb hc ho hz hq hv
 unfold EP
 go_enter Tryz.func24,Tryz.ntmps24
 go_wp2_with fail
 (with_reducible refine H1.out.mono ?_); rintro e w1 ⟨rfl,f1⟩
 have F2 := Lib.hid f1
 clear f1 H1
 go_wp2_with fail
 (with_reducible refine (H2.out _).mono ?_); rintro e w2 ⟨rfl,f2⟩
 replace F2 := Lib.hid (F2.out.trans' f2)
 clear f2 H2
 go_upto_region 2 with fail
 refine jc fun w4 N => ?_
 have r7 := N.new
 have m := Lib.hid ((HM.out _ F2.out).add N.fr (Nat.le_refl _) (Array.getElem?_eq_some_iff.1 r7).1)
 clear N F2 HM
 obtain ⟨g7,hg7⟩ : ∃ g,w2.heap.size = g := ⟨_,rfl⟩
 rw [hg7] at r7 m ⊢
 clear hg7
 go_wp2_with fail
 (with_reducible refine (HA.out _).mono ?_); rintro e w4 ⟨rfl,f4⟩
 replace r7 := dn f4 r7
 replace m := Lib.hid (m.out.fr0 f4)
 clear f4
 go_upto_region 5 with fail
 have f5 := (Fr.refl (fun k => False ∨ k = g7) w4).setCell (p := ⟨g7,23,none⟩) (fun _ => .inr rfl) (.int .u64 (z : Int))
 have r8 : VX (w4.setCell ⟨g7,23,none⟩ (.int .u64 (z : Int))) g7 { y with com := z } := VX.ail (show VX w4 g7 y by unfold VX; rw [← hC.out]; exact r7) z
 replace m := Lib.hid (m.out.box f5)
 clear f5 r7
 obtain ⟨w4,hW5⟩ : ∃ X,X = w4.setCell ⟨g7,23,none⟩ (.int .u64 (z : Int)) := ⟨_,rfl⟩
 rw [← hW5] at r8 m ⊢
 clear hW5
 have r7 := r8
 clear r8
 unfold VX at r7
 obtain ⟨sz,oS,c0,c21,c22,c23,c24,c25,c26⟩ := cBf { y with com := z }
 try dsimp only at c0 c21 c22 c23 c24 c25 c26
 obtain ⟨C,hC⟩ : ∃ C,C = cB { y with com := z } := ⟨_,rfl⟩
 rw [← hC] at r7 sz oS c0 c21 c22 c23 c24 c25 c26
 clear c0 c21 c22 c23 c24 c25 c26
 replace hC := Lib.hid hC
 have e0 := m.out.kp.at_
 unfold bkC at e0
 try dsimp only at e0
 go_wp2_with fail
 (with_reducible refine (HMi.out _ _ m.out.kp).mono ?_); rintro e w4 ⟨rfl,h4⟩
 replace r7 := m.out.row h4 (.inr rfl) r7
 obtain ⟨T4,m4⟩ := m.out.next h4
 clear h4 m
 have m : Hid (zl S T4 w p tp q fp vb M (fun k => False ∨ k = g7) w4) := Lib.hid m4
 clear m4
 go_wp2_with fail
 go_ret
 exact ⟨rfl,m.out.qp⟩
theorem aya (h : KP S w p tp q fp vb M) (hM : M.Ok) {x v a : Nat} (hv : v < 256) (hx : x < 256) (ha : a < 18446744073709551616) (hb : ¬ badM a) {y : Vlt} (hg : gOf M.vs x = some y) (hy : M.vs[atV M.vs x]? = some y) (hyw : y.who = x) (hf : y.fal = false) (hc : ¬ y.com < a) (ho : ¬ 4611686018427387904 < uy M.tok 256 + a) :
  Calls Tryz.prog 24 #[.pointer (some ⟨p,0,none⟩),.int .u8 (x : Int),.int .u8 (v : Int),.int .u64 (a : Int)] w (EP S w p tp q fp vb { M with tok := upd M.tok v (M.tok v + a),vs := M.vs.set (atV M.vs x) { y with com := y.com - a,iss := y.iss + a } } (.int .i64 0)) := by
 have hvk := hM.vok y (jh hy)
 have hbu := hvk.bur
 have hxl := hvk.lea
 have hbb : ¬ (a = 0 ∨ 4611686018427387904 < a) := hb
 unfold Vlt.bur at hbu
 obtain ⟨z,hz⟩ : ∃ z,z = y.com - a := ⟨_,rfl⟩
 rw [← hz]
 obtain ⟨z2,hz2⟩ : ∃ z,z = y.iss + a := ⟨_,rfl⟩
 rw [← hz2]
 have H1 := Lib.hid (iw h hx hb hg)
 have H2 := Lib.hid (gy y hf)
 have HM := Lib.hid (fun (W : World) (f : Fr F0 w W) => zl.start h f)
 simp only [iq] at H1 H2
 have HA := Lib.hid (fun (W : World) => vw y.com a (by omega) ha W)
 rw [(sbQ (show a ≤ y.com by omega) (by omega)).1,(sbQ (show a ≤ y.com by omega) (by omega)).2,← hz] at HA
 have hq : abo M.tok (uy M.tok 256) v a = (0,upd M.tok v (M.tok v + a),uy M.tok 256 + a) := by unfold abo afy; rw [if_neg (by simp; omega)]; exact if_neg (by omega)
 have HMi := Lib.hid (fun (W : World) (T : Nat → Prop) (k : KP T W p tp q fp vb M) => ab4 k hM hv ha)
 rw [hq] at HMi
 have m1 : IntKind.u64.wrap ((y.iss : Int) + (a : Int)) = (z2 : Int) := by rw [IntWalk.u64_in _ (by omega)]; omega
 have HPu := Lib.hid (fun (W : World) (T : Nat → Prop) (k : KP T W p tp q fp vb { M with tok := upd M.tok v (M.tok v + a) }) => ug k (l := M.vs.set (atV M.vs x) { y with com := z,iss := z2 }) (y := { y with com := z,iss := z2 }) (by rw [show ({ y with com := z,iss := z2 } : Vlt).who = y.who from rfl,hyw]; exact hx) (aok hM hy (z := { y with com := z,iss := z2 }) rfl))
 simp only [iq] at HPu
 obtain ⟨sz,oS,c0,c21,c22,c23,c24,c25,c26⟩ := cBf y
 try dsimp only at c0 c21 c22 c23 c24 c25 c26
 obtain ⟨C,hC⟩ : ∃ C,C = cB y := ⟨_,rfl⟩
 rw [← hC] at H1 H2 sz oS c0 c21 c22 c23 c24 c25 c26
 have d23 := ay c23
 clear c0 c21 c22 c24 c25 c26
 replace hC := Lib.hid hC
 clear h hM hx ha hb hg hy hyw hvk hbu hxl hbb hc ho hz hz2 hq hv
 unfold EP
 go_enter Tryz.func24,Tryz.ntmps24
 go_wp2_with fail
 (with_reducible refine H1.out.mono ?_); rintro e w1 ⟨rfl,f1⟩
 have F2 := Lib.hid f1
 clear f1 H1
 go_wp2_with fail
 (with_reducible refine (H2.out _).mono ?_); rintro e w2 ⟨rfl,f2⟩
 replace F2 := Lib.hid (F2.out.trans' f2)
 clear f2 H2
 go_upto_region 2 with fail
 refine jc fun w4 N => ?_
 have r7 := N.new
 have m := Lib.hid ((HM.out _ F2.out).add N.fr (Nat.le_refl _) (Array.getElem?_eq_some_iff.1 r7).1)
 clear N F2 HM
 obtain ⟨g7,hg7⟩ : ∃ g,w2.heap.size = g := ⟨_,rfl⟩
 rw [hg7] at r7 m ⊢
 clear hg7
 go_wp2_with fail
 (with_reducible refine (HA.out _).mono ?_); rintro e w4 ⟨rfl,f4⟩
 replace r7 := dn f4 r7
 replace m := Lib.hid (m.out.fr0 f4)
 clear f4
 go_upto_region 5 with fail
 have f5 := (Fr.refl (fun k => False ∨ k = g7) w4).setCell (p := ⟨g7,23,none⟩) (fun _ => .inr rfl) (.int .u64 (z : Int))
 have r8 : VX (w4.setCell ⟨g7,23,none⟩ (.int .u64 (z : Int))) g7 { y with com := z } := VX.ail (show VX w4 g7 y by unfold VX; rw [← hC.out]; exact r7) z
 replace m := Lib.hid (m.out.box f5)
 clear f5 r7
 obtain ⟨w4,hW5⟩ : ∃ X,X = w4.setCell ⟨g7,23,none⟩ (.int .u64 (z : Int)) := ⟨_,rfl⟩
 rw [← hW5] at r8 m ⊢
 clear hW5
 have r7 := r8
 clear r8
 unfold VX at r7
 obtain ⟨sz,oS,c0,c21,c22,c23,c24,c25,c26⟩ := cBf { y with com := z }
 try dsimp only at c0 c21 c22 c23 c24 c25 c26
 obtain ⟨C,hC⟩ : ∃ C,C = cB { y with com := z } := ⟨_,rfl⟩
 rw [← hC] at r7 sz oS c0 c21 c22 c23 c24 c25 c26
 have d22 := ay c22
 clear c0 c21 c23 c24 c25 c26
 replace hC := Lib.hid hC
 have e0 := m.out.kp.at_
 unfold bkC at e0
 try dsimp only at e0
 go_wp2_with fail
 (with_reducible refine (HMi.out _ _ m.out.kp).mono ?_); rintro e w4 ⟨rfl,h4⟩
 replace r7 := m.out.row h4 (.inr rfl) r7
 obtain ⟨T4,m4⟩ := m.out.next h4
 clear h4 m
 have m := Lib.hid m4
 clear m4
 go_upto_region 11 with fail
 have f5 := (Fr.refl (fun k => False ∨ k = g7) w4).setCell (p := ⟨g7,22,none⟩) (fun _ => .inr rfl) (.int .u64 (z2 : Int))
 have r8 : VX (w4.setCell ⟨g7,22,none⟩ (.int .u64 (z2 : Int))) g7 { y with com := z,iss := z2 } := VX.agj (show VX w4 g7 { y with com := z } by unfold VX; rw [← hC.out]; exact r7) z2
 replace m := Lib.hid (m.out.box f5)
 clear f5 r7
 obtain ⟨w4,hW5⟩ : ∃ X,X = w4.setCell ⟨g7,22,none⟩ (.int .u64 (z2 : Int)) := ⟨_,rfl⟩
 rw [← hW5] at r8 m ⊢
 clear hW5
 have r7 := r8
 clear r8
 unfold VX at r7
 obtain ⟨sz,oS,c0,c21,c22,c23,c24,c25,c26⟩ := cBf { y with com := z,iss := z2 }
 try dsimp only at c0 c21 c22 c23 c24 c25 c26
 obtain ⟨C,hC⟩ : ∃ C,C = cB { y with com := z,iss := z2 } := ⟨_,rfl⟩
 rw [← hC] at r7 sz oS c0 c21 c22 c23 c24 c25 c26
 clear c0 c21 c22 c23 c24 c25 c26
 replace hC := Lib.hid hC
 have HP2 := HPu.out
 rw [← hC.out] at HP2
 replace HP2 := Lib.hid HP2
 go_wp2_with fail
 (with_reducible refine (HP2.out _ _ m.out.kp).mono ?_); rintro e w6 ⟨rfl,h6⟩
 replace m := Lib.hid (m.out.last h6)
 clear h6 r7
 go_wp2_with fail
 go_ret
 exact ⟨rfl,m.out⟩
theorem aur (h : KP S w p tp q fp vb M) (hM : M.Ok) {x v a : Nat} (hv : v < 256) (hx : x < 256) (ha : a < 18446744073709551616) (hb : ¬ badM a) {y : Vlt} (hg : gOf M.vs x = some y) (hy : M.vs[atV M.vs x]? = some y) (hyw : y.who = x) (hf : y.fal = false) (hc : y.iss - y.lea < a) :
  Calls Tryz.prog 25 #[.pointer (some ⟨p,0,none⟩),.int .u8 (x : Int),.int .u8 (v : Int),.int .u64 (a : Int)] w (EP S w p tp q fp vb M (.int .i64 16)) := by
 have hvk := hM.vok y (jh hy)
 have hbu := hvk.bur
 have hxl := hvk.lea
 have hbb : ¬ (a = 0 ∨ 4611686018427387904 < a) := hb
 unfold Vlt.bur at hbu
 have H1 := Lib.hid (iw h hx hb hg)
 have H2 := Lib.hid (gy y hf)
 have HM := Lib.hid (fun (W : World) (f : Fr F0 w W) => zl.start h f)
 simp only [iq] at H1 H2
 obtain ⟨df,hdf⟩ : ∃ z,z = y.iss - y.lea := ⟨_,rfl⟩
 have m0 : IntKind.u64.wrap ((y.iss : Int) - (y.lea : Int)) = (df : Int) := by rw [IntWalk.u64_in _ (by omega)]; omega
 have l1 : (df : Int) < (a : Int) := by omega
 have l1n : df < a := by omega
 obtain ⟨sz,oS,c0,c21,c22,c23,c24,c25,c26⟩ := cBf y
 try dsimp only at c0 c21 c22 c23 c24 c25 c26
 obtain ⟨C,hC⟩ : ∃ C,C = cB y := ⟨_,rfl⟩
 rw [← hC] at H1 H2 sz oS c0 c21 c22 c23 c24 c25 c26
 have d22 := ay c22
 have d25 := ay c25
 clear c0 c21 c23 c24 c26
 replace hC := Lib.hid hC
 clear h hM hx ha hb hg hy hyw hvk hbu hxl hbb hc hdf hv
 unfold EP
 go_enter Tryz.func25,Tryz.ntmps25
 go_wp2_with fail
 (with_reducible refine H1.out.mono ?_); rintro e w1 ⟨rfl,f1⟩
 have F2 := Lib.hid f1
 clear f1 H1
 go_wp2_with fail
 (with_reducible refine (H2.out _).mono ?_); rintro e w2 ⟨rfl,f2⟩
 replace F2 := Lib.hid (F2.out.trans' f2)
 clear f2 H2
 go_upto_region 2 with fail
 refine jc fun w4 N => ?_
 have r7 := N.new
 have m := Lib.hid ((HM.out _ F2.out).add N.fr (Nat.le_refl _) (Array.getElem?_eq_some_iff.1 r7).1)
 clear N F2 HM
 obtain ⟨g7,hg7⟩ : ∃ g,w2.heap.size = g := ⟨_,rfl⟩
 rw [hg7] at r7 m ⊢
 clear hg7
 go_wp2_with fail
 go_ret
 exact ⟨rfl,m.out.qp⟩
theorem ayh (h : KP S w p tp q fp vb M) (hM : M.Ok) {x v a : Nat} (hv : v < 256) (hx : x < 256) (ha : a < 18446744073709551616) (hb : ¬ badM a) {y : Vlt} (hg : gOf M.vs x = some y) (hy : M.vs[atV M.vs x]? = some y) (hyw : y.who = x) (hf : y.fal = false) (hc : ¬ y.iss - y.lea < a) (ho : M.tok v < a) :
  Calls Tryz.prog 25 #[.pointer (some ⟨p,0,none⟩),.int .u8 (x : Int),.int .u8 (v : Int),.int .u64 (a : Int)] w (EP S w p tp q fp vb M (.int .i64 16)) := by
 have hvk := hM.vok y (jh hy)
 have hbu := hvk.bur
 have hxl := hvk.lea
 have hbb : ¬ (a = 0 ∨ 4611686018427387904 < a) := hb
 unfold Vlt.bur at hbu
 have H1 := Lib.hid (iw h hx hb hg)
 have H2 := Lib.hid (gy y hf)
 have HM := Lib.hid (fun (W : World) (f : Fr F0 w W) => zl.start h f)
 simp only [iq] at H1 H2
 obtain ⟨df,hdf⟩ : ∃ z,z = y.iss - y.lea := ⟨_,rfl⟩
 have m0 : IntKind.u64.wrap ((y.iss : Int) - (y.lea : Int)) = (df : Int) := by rw [IntWalk.u64_in _ (by omega)]; omega
 have l1 : ¬ (df : Int) < (a : Int) := by omega
 have l1n : ¬ df < a := by omega
 have hq : zx M.tok (uy M.tok 256) v a = (16,M.tok,uy M.tok 256) := by unfold zx afy; rw [if_neg (by simp; omega)]; exact if_pos ho
 have HBu := Lib.hid (fun (W : World) (T : Nat → Prop) (k : KP T W p tp q fp vb M) => al8 k hM hv ha)
 rw [hq] at HBu
 obtain ⟨sz,oS,c0,c21,c22,c23,c24,c25,c26⟩ := cBf y
 try dsimp only at c0 c21 c22 c23 c24 c25 c26
 obtain ⟨C,hC⟩ : ∃ C,C = cB y := ⟨_,rfl⟩
 rw [← hC] at H1 H2 sz oS c0 c21 c22 c23 c24 c25 c26
 have d22 := ay c22
 have d25 := ay c25
 clear c0 c21 c23 c24 c26
 replace hC := Lib.hid hC
 clear h hM hx ha hb hg hy hyw hvk hbu hxl hbb hc ho hdf hq hv
 unfold EP
 go_enter Tryz.func25,Tryz.ntmps25
 go_wp2_with fail
 (with_reducible refine H1.out.mono ?_); rintro e w1 ⟨rfl,f1⟩
 have F2 := Lib.hid f1
 clear f1 H1
 go_wp2_with fail
 (with_reducible refine (H2.out _).mono ?_); rintro e w2 ⟨rfl,f2⟩
 replace F2 := Lib.hid (F2.out.trans' f2)
 clear f2 H2
 go_upto_region 2 with fail
 refine jc fun w4 N => ?_
 have r7 := N.new
 have m := Lib.hid ((HM.out _ F2.out).add N.fr (Nat.le_refl _) (Array.getElem?_eq_some_iff.1 r7).1)
 clear N F2 HM
 obtain ⟨g7,hg7⟩ : ∃ g,w2.heap.size = g := ⟨_,rfl⟩
 rw [hg7] at r7 m ⊢
 clear hg7
 have e0 := m.out.kp.at_
 unfold bkC at e0
 try dsimp only at e0
 go_wp2_with fail
 (with_reducible refine (HBu.out _ _ m.out.kp).mono ?_); rintro e w4 ⟨rfl,h4⟩
 replace r7 := m.out.row h4 (.inr rfl) r7
 obtain ⟨T4,m4⟩ := m.out.next h4
 clear h4 m
 have m : Hid (zl S T4 w p tp q fp vb M (fun k => False ∨ k = g7) w4) := Lib.hid m4
 clear m4
 go_wp2_with fail
 go_ret
 exact ⟨rfl,m.out.qp⟩
theorem ayg (h : KP S w p tp q fp vb M) (hM : M.Ok) {x v a : Nat} (hv : v < 256) (hx : x < 256) (ha : a < 18446744073709551616) (hb : ¬ badM a) {y : Vlt} (hg : gOf M.vs x = some y) (hy : M.vs[atV M.vs x]? = some y) (hyw : y.who = x) (hf : y.fal = false) (hc : ¬ y.iss - y.lea < a) (ho : ¬ M.tok v < a) :
  Calls Tryz.prog 25 #[.pointer (some ⟨p,0,none⟩),.int .u8 (x : Int),.int .u8 (v : Int),.int .u64 (a : Int)] w (EP S w p tp q fp vb { M with tok := upd M.tok v (M.tok v - a),vs := M.vs.set (atV M.vs x) { y with iss := y.iss - a,goi := y.goi + a } } (.int .i64 0)) := by
 have hvk := hM.vok y (jh hy)
 have hbu := hvk.bur
 have hxl := hvk.lea
 have hbb : ¬ (a = 0 ∨ 4611686018427387904 < a) := hb
 unfold Vlt.bur at hbu
 obtain ⟨z,hz⟩ : ∃ z,z = y.iss - a := ⟨_,rfl⟩
 rw [← hz]
 obtain ⟨z2,hz2⟩ : ∃ z,z = y.goi + a := ⟨_,rfl⟩
 rw [← hz2]
 have H1 := Lib.hid (iw h hx hb hg)
 have H2 := Lib.hid (gy y hf)
 have HM := Lib.hid (fun (W : World) (f : Fr F0 w W) => zl.start h f)
 simp only [iq] at H1 H2
 obtain ⟨df,hdf⟩ : ∃ z,z = y.iss - y.lea := ⟨_,rfl⟩
 have m0 : IntKind.u64.wrap ((y.iss : Int) - (y.lea : Int)) = (df : Int) := by rw [IntWalk.u64_in _ (by omega)]; omega
 have l1 : ¬ (df : Int) < (a : Int) := by omega
 have l1n : ¬ df < a := by omega
 have hq : zx M.tok (uy M.tok 256) v a = (0,upd M.tok v (M.tok v - a),uy M.tok 256 - a) := by unfold zx afy; rw [if_neg (by simp; omega)]; exact if_neg ho
 have HBu := Lib.hid (fun (W : World) (T : Nat → Prop) (k : KP T W p tp q fp vb M) => al8 k hM hv ha)
 rw [hq] at HBu
 have m1 : IntKind.u64.wrap ((y.iss : Int) - (a : Int)) = (z : Int) := by rw [IntWalk.u64_in _ (by omega)]; omega
 have m2 : IntKind.u64.wrap ((y.goi : Int) + (a : Int)) = (z2 : Int) := by rw [IntWalk.u64_in _ (by omega)]; omega
 have HPu := Lib.hid (fun (W : World) (T : Nat → Prop) (k : KP T W p tp q fp vb { M with tok := upd M.tok v (M.tok v - a) }) => ug k (l := M.vs.set (atV M.vs x) { y with iss := z,goi := z2 }) (y := { y with iss := z,goi := z2 }) (by rw [show ({ y with iss := z,goi := z2 } : Vlt).who = y.who from rfl,hyw]; exact hx) (aok hM hy (z := { y with iss := z,goi := z2 }) rfl))
 simp only [iq] at HPu
 obtain ⟨sz,oS,c0,c21,c22,c23,c24,c25,c26⟩ := cBf y
 try dsimp only at c0 c21 c22 c23 c24 c25 c26
 obtain ⟨C,hC⟩ : ∃ C,C = cB y := ⟨_,rfl⟩
 rw [← hC] at H1 H2 sz oS c0 c21 c22 c23 c24 c25 c26
 have d22 := ay c22
 have d25 := ay c25
 clear c0 c21 c23 c24 c26
 replace hC := Lib.hid hC
 clear h hM hx ha hb hg hy hyw hvk hbu hxl hbb hc ho hdf hz hz2 hq hv
 unfold EP
 go_enter Tryz.func25,Tryz.ntmps25
 go_wp2_with fail
 (with_reducible refine H1.out.mono ?_); rintro e w1 ⟨rfl,f1⟩
 have F2 := Lib.hid f1
 clear f1 H1
 go_wp2_with fail
 (with_reducible refine (H2.out _).mono ?_); rintro e w2 ⟨rfl,f2⟩
 replace F2 := Lib.hid (F2.out.trans' f2)
 clear f2 H2
 go_upto_region 2 with fail
 refine jc fun w4 N => ?_
 have r7 := N.new
 have m := Lib.hid ((HM.out _ F2.out).add N.fr (Nat.le_refl _) (Array.getElem?_eq_some_iff.1 r7).1)
 clear N F2 HM
 obtain ⟨g7,hg7⟩ : ∃ g,w2.heap.size = g := ⟨_,rfl⟩
 rw [hg7] at r7 m ⊢
 clear hg7
 have e0 := m.out.kp.at_
 unfold bkC at e0
 try dsimp only at e0
 go_wp2_with fail
 (with_reducible refine (HBu.out _ _ m.out.kp).mono ?_); rintro e w4 ⟨rfl,h4⟩
 replace r7 := m.out.row h4 (.inr rfl) r7
 obtain ⟨T4,m4⟩ := m.out.next h4
 clear h4 m
 have m := Lib.hid m4
 clear m4
 go_upto_region 10 with fail
 have f5 := (Fr.refl (fun k => False ∨ k = g7) w4).setCell (p := ⟨g7,22,none⟩) (fun _ => .inr rfl) (.int .u64 (z : Int))
 have r8 : VX (w4.setCell ⟨g7,22,none⟩ (.int .u64 (z : Int))) g7 { y with iss := z } := VX.agj (show VX w4 g7 y by unfold VX; rw [← hC.out]; exact r7) z
 replace m := Lib.hid (m.out.box f5)
 clear f5 r7
 obtain ⟨w4,hW5⟩ : ∃ X,X = w4.setCell ⟨g7,22,none⟩ (.int .u64 (z : Int)) := ⟨_,rfl⟩
 rw [← hW5] at r8 m ⊢
 clear hW5
 have r7 := r8
 clear r8
 unfold VX at r7
 obtain ⟨sz,oS,c0,c21,c22,c23,c24,c25,c26⟩ := cBf { y with iss := z }
 try dsimp only at c0 c21 c22 c23 c24 c25 c26
 obtain ⟨C,hC⟩ : ∃ C,C = cB { y with iss := z } := ⟨_,rfl⟩
 rw [← hC] at r7 sz oS c0 c21 c22 c23 c24 c25 c26
 have d24 := ay c24
 clear c0 c21 c22 c23 c25 c26
 replace hC := Lib.hid hC
 go_upto_region 11 with fail
 have f5 := (Fr.refl (fun k => False ∨ k = g7) w4).setCell (p := ⟨g7,24,none⟩) (fun _ => .inr rfl) (.int .u64 (z2 : Int))
 have r8 : VX (w4.setCell ⟨g7,24,none⟩ (.int .u64 (z2 : Int))) g7 { y with iss := z,goi := z2 } := VX.ave (show VX w4 g7 { y with iss := z } by unfold VX; rw [← hC.out]; exact r7) z2
 replace m := Lib.hid (m.out.box f5)
 clear f5 r7
 obtain ⟨w4,hW5⟩ : ∃ X,X = w4.setCell ⟨g7,24,none⟩ (.int .u64 (z2 : Int)) := ⟨_,rfl⟩
 rw [← hW5] at r8 m ⊢
 clear hW5
 have r7 := r8
 clear r8
 unfold VX at r7
 obtain ⟨sz,oS,c0,c21,c22,c23,c24,c25,c26⟩ := cBf { y with iss := z,goi := z2 }
 try dsimp only at c0 c21 c22 c23 c24 c25 c26
 obtain ⟨C,hC⟩ : ∃ C,C = cB { y with iss := z,goi := z2 } := ⟨_,rfl⟩
 rw [← hC] at r7 sz oS c0 c21 c22 c23 c24 c25 c26
 clear c0 c21 c22 c23 c24 c25 c26
 replace hC := Lib.hid hC
 have HP2 := HPu.out
 rw [← hC.out] at HP2
 replace HP2 := Lib.hid HP2
 go_wp2_with fail
 (with_reducible refine (HP2.out _ _ m.out.kp).mono ?_); rintro e w6 ⟨rfl,h6⟩
 replace m := Lib.hid (m.out.last h6)
 clear h6 r7
 go_wp2_with fail
 go_ret
 exact ⟨rfl,m.out⟩
end
section
variable {S : Nat → Prop} {w w' W : World} {p tp q fp vb : Nat} {M : Bok}
theorem aqi (h : KP S w p tp q fp vb M) (hM : M.Ok) {x a : Nat} (hx : x < 256) (ha : a < 18446744073709551616) (hb : ¬ badM a) {y : Vlt} (hg : gOf M.vs x = some y) (hy : M.vs[atV M.vs x]? = some y) (hyw : y.who = x) (hf : y.fal = false) (hc : y.iss - y.lea < a) :
  Calls Tryz.prog 52 #[.pointer (some ⟨p,0,none⟩),.int .u8 (x : Int),.int .u64 (a : Int)] w (EP S w p tp q fp vb M (.int .i64 16)) := by
 have hvk := hM.vok y (jh hy)
 have hbu := hvk.bur
 have hxl := hvk.lea
 have hbb : ¬ (a = 0 ∨ 4611686018427387904 < a) := hb
 unfold Vlt.bur at hbu
 have H1 := Lib.hid (iw h hx hb hg)
 have H2 := Lib.hid (gy y hf)
 have HM := Lib.hid (fun (W : World) (f : Fr F0 w W) => zl.start h f)
 simp only [iq] at H1 H2
 obtain ⟨df,hdf⟩ : ∃ z,z = y.iss - y.lea := ⟨_,rfl⟩
 have m0 : IntKind.u64.wrap ((y.iss : Int) - (y.lea : Int)) = (df : Int) := by rw [IntWalk.u64_in _ (by omega)]; omega
 have l1 : (df : Int) < (a : Int) := by omega
 have l1n : df < a := by omega
 obtain ⟨sz,oS,c0,c21,c22,c23,c24,c25,c26⟩ := cBf y
 try dsimp only at c0 c21 c22 c23 c24 c25 c26
 obtain ⟨C,hC⟩ : ∃ C,C = cB y := ⟨_,rfl⟩
 rw [← hC] at H1 H2 sz oS c0 c21 c22 c23 c24 c25 c26
 have d22 := ay c22
 have d25 := ay c25
 clear c0 c21 c23 c24 c26
 replace hC := Lib.hid hC
 clear h hM hx ha hb hg hy hyw hvk hbu hxl hbb hc hdf
 unfold EP
 go_enter Tryz.func52,Tryz.ntmps52
 go_wp2_with fail
 (with_reducible refine H1.out.mono ?_); rintro e w1 ⟨rfl,f1⟩
 have F2 := Lib.hid f1
 clear f1 H1
 go_wp2_with fail
 (with_reducible refine (H2.out _).mono ?_); rintro e w2 ⟨rfl,f2⟩
 replace F2 := Lib.hid (F2.out.trans' f2)
 clear f2 H2
 go_upto_region 2 with fail
 refine jc fun w4 N => ?_
 have r7 := N.new
 have m := Lib.hid ((HM.out _ F2.out).add N.fr (Nat.le_refl _) (Array.getElem?_eq_some_iff.1 r7).1)
 clear N F2 HM
 obtain ⟨g7,hg7⟩ : ∃ g,w2.heap.size = g := ⟨_,rfl⟩
 rw [hg7] at r7 m ⊢
 clear hg7
 go_wp2_with fail
 go_ret
 exact ⟨rfl,m.out.qp⟩
theorem auk (h : KP S w p tp q fp vb M) (hM : M.Ok) {x a : Nat} (hx : x < 256) (ha : a < 18446744073709551616) (hb : ¬ badM a) {y : Vlt} (hg : gOf M.vs x = some y) (hy : M.vs[atV M.vs x]? = some y) (hyw : y.who = x) (hf : y.fal = false) (hc : ¬ y.iss - y.lea < a) :
  Calls Tryz.prog 52 #[.pointer (some ⟨p,0,none⟩),.int .u8 (x : Int),.int .u64 (a : Int)] w (EP S w p tp q fp vb { M with vs := M.vs.set (atV M.vs x) { y with lea := y.lea + a } } (.int .i64 0)) := by
 have hvk := hM.vok y (jh hy)
 have hbu := hvk.bur
 have hxl := hvk.lea
 have hbb : ¬ (a = 0 ∨ 4611686018427387904 < a) := hb
 unfold Vlt.bur at hbu
 obtain ⟨z,hz⟩ : ∃ z,z = y.lea + a := ⟨_,rfl⟩
 rw [← hz]
 have H1 := Lib.hid (iw h hx hb hg)
 have H2 := Lib.hid (gy y hf)
 have HM := Lib.hid (fun (W : World) (f : Fr F0 w W) => zl.start h f)
 simp only [iq] at H1 H2
 obtain ⟨df,hdf⟩ : ∃ z,z = y.iss - y.lea := ⟨_,rfl⟩
 have m0 : IntKind.u64.wrap ((y.iss : Int) - (y.lea : Int)) = (df : Int) := by rw [IntWalk.u64_in _ (by omega)]; omega
 have l1 : ¬ (df : Int) < (a : Int) := by omega
 have l1n : ¬ df < a := by omega
 have m1 : IntKind.u64.wrap ((y.lea : Int) + (a : Int)) = (z : Int) := by rw [IntWalk.u64_in _ (by omega)]; omega
 have HPu := Lib.hid (fun (W : World) (T : Nat → Prop) (k : KP T W p tp q fp vb M) => ug k (l := M.vs.set (atV M.vs x) { y with lea := z }) (y := { y with lea := z }) (by rw [show ({ y with lea := z } : Vlt).who = y.who from rfl,hyw]; exact hx) (aok hM hy (z := { y with lea := z }) rfl))
 simp only [iq] at HPu
 obtain ⟨sz,oS,c0,c21,c22,c23,c24,c25,c26⟩ := cBf y
 try dsimp only at c0 c21 c22 c23 c24 c25 c26
 obtain ⟨C,hC⟩ : ∃ C,C = cB y := ⟨_,rfl⟩
 rw [← hC] at H1 H2 sz oS c0 c21 c22 c23 c24 c25 c26
 have d22 := ay c22
 have d25 := ay c25
 clear c0 c21 c23 c24 c26
 replace hC := Lib.hid hC
 clear h hM hx ha hb hg hy hyw hvk hbu hxl hbb hc hdf hz
 unfold EP
 go_enter Tryz.func52,Tryz.ntmps52
 go_wp2_with fail
 (with_reducible refine H1.out.mono ?_); rintro e w1 ⟨rfl,f1⟩
 have F2 := Lib.hid f1
 clear f1 H1
 go_wp2_with fail
 (with_reducible refine (H2.out _).mono ?_); rintro e w2 ⟨rfl,f2⟩
 replace F2 := Lib.hid (F2.out.trans' f2)
 clear f2 H2
 go_upto_region 2 with fail
 refine jc fun w4 N => ?_
 have r7 := N.new
 have m := Lib.hid ((HM.out _ F2.out).add N.fr (Nat.le_refl _) (Array.getElem?_eq_some_iff.1 r7).1)
 clear N F2 HM
 obtain ⟨g7,hg7⟩ : ∃ g,w2.heap.size = g := ⟨_,rfl⟩
 rw [hg7] at r7 m ⊢
 clear hg7
 go_upto_region 7 with fail
 have f5 := (Fr.refl (fun k => False ∨ k = g7) w4).setCell (p := ⟨g7,25,none⟩) (fun _ => .inr rfl) (.int .u64 (z : Int))
 have r8 : VX (w4.setCell ⟨g7,25,none⟩ (.int .u64 (z : Int))) g7 { y with lea := z } := VX.aqs (show VX w4 g7 y by unfold VX; rw [← hC.out]; exact r7) z
 replace m := Lib.hid (m.out.box f5)
 clear f5 r7
 obtain ⟨w4,hW5⟩ : ∃ X,X = w4.setCell ⟨g7,25,none⟩ (.int .u64 (z : Int)) := ⟨_,rfl⟩
 rw [← hW5] at r8 m ⊢
 clear hW5
 have r7 := r8
 clear r8
 unfold VX at r7
 obtain ⟨sz,oS,c0,c21,c22,c23,c24,c25,c26⟩ := cBf { y with lea := z }
 try dsimp only at c0 c21 c22 c23 c24 c25 c26
 obtain ⟨C,hC⟩ : ∃ C,C = cB { y with lea := z } := ⟨_,rfl⟩
 rw [← hC] at r7 sz oS c0 c21 c22 c23 c24 c25 c26
 clear c0 c21 c22 c23 c24 c25 c26
 replace hC := Lib.hid hC
 have HP2 := HPu.out
 rw [← hC.out] at HP2
 replace HP2 := Lib.hid HP2
 go_wp2_with fail
 (with_reducible refine (HP2.out _ _ m.out.kp).mono ?_); rintro e w6 ⟨rfl,h6⟩
 replace m := Lib.hid (m.out.last h6)
 clear h6 r7
 go_wp2_with fail
 go_ret
 exact ⟨rfl,m.out⟩
theorem aty (h : KP S w p tp q fp vb M) (hM : M.Ok) {x a : Nat} (hx : x < 256) (ha : a < 18446744073709551616) (hb : ¬ badM a) {y : Vlt} (hg : gOf M.vs x = some y) (hy : M.vs[atV M.vs x]? = some y) (hyw : y.who = x) (hf : y.fal = false) (hc : y.lea < a) :
  Calls Tryz.prog 53 #[.pointer (some ⟨p,0,none⟩),.int .u8 (x : Int),.int .u64 (a : Int)] w (EP S w p tp q fp vb M (.int .i64 16)) := by
 have hvk := hM.vok y (jh hy)
 have hbu := hvk.bur
 have hxl := hvk.lea
 have hbb : ¬ (a = 0 ∨ 4611686018427387904 < a) := hb
 unfold Vlt.bur at hbu
 have H1 := Lib.hid (iw h hx hb hg)
 have H2 := Lib.hid (gy y hf)
 have HM := Lib.hid (fun (W : World) (f : Fr F0 w W) => zl.start h f)
 simp only [iq] at H1 H2
 have HA := Lib.hid (fun (W : World) => vw y.lea a (by omega) ha W)
 rw [show sbE y.lea a = 16 by unfold sbE; rw [if_pos (by omega),if_neg (by omega)]] at HA
 generalize sbV y.lea a = z at *
 obtain ⟨sz,oS,c0,c21,c22,c23,c24,c25,c26⟩ := cBf y
 try dsimp only at c0 c21 c22 c23 c24 c25 c26
 obtain ⟨C,hC⟩ : ∃ C,C = cB y := ⟨_,rfl⟩
 rw [← hC] at H1 H2 sz oS c0 c21 c22 c23 c24 c25 c26
 have d25 := ay c25
 clear c0 c21 c22 c23 c24 c26
 replace hC := Lib.hid hC
 clear h hM hx ha hb hg hy hyw hvk hbu hxl hbb hc
 unfold EP
 go_enter Tryz.func53,Tryz.ntmps53
 go_wp2_with fail
 (with_reducible refine H1.out.mono ?_); rintro e w1 ⟨rfl,f1⟩
 have F2 := Lib.hid f1
 clear f1 H1
 go_wp2_with fail
 (with_reducible refine (H2.out _).mono ?_); rintro e w2 ⟨rfl,f2⟩
 replace F2 := Lib.hid (F2.out.trans' f2)
 clear f2 H2
 go_upto_region 2 with fail
 refine jc fun w4 N => ?_
 have r7 := N.new
 have m := Lib.hid ((HM.out _ F2.out).add N.fr (Nat.le_refl _) (Array.getElem?_eq_some_iff.1 r7).1)
 clear N F2 HM
 obtain ⟨g7,hg7⟩ : ∃ g,w2.heap.size = g := ⟨_,rfl⟩
 rw [hg7] at r7 m ⊢
 clear hg7
 go_wp2_with fail
 (with_reducible refine (HA.out _).mono ?_); rintro e w4 ⟨rfl,f4⟩
 replace r7 := dn f4 r7
 replace m := Lib.hid (m.out.fr0 f4)
 clear f4
 go_wp2_with fail
 go_ret
 exact ⟨rfl,(m.out.box ((Fr.refl (fun k => False ∨ k = g7) w4).setCell (p := ⟨g7,25,none⟩) (fun _ => .inr rfl) _)).qp⟩
theorem ax7 (h : KP S w p tp q fp vb M) (hM : M.Ok) {x a : Nat} (hx : x < 256) (ha : a < 18446744073709551616) (hb : ¬ badM a) {y : Vlt} (hg : gOf M.vs x = some y) (hy : M.vs[atV M.vs x]? = some y) (hyw : y.who = x) (hf : y.fal = false) (hc : ¬ y.lea < a) :
  Calls Tryz.prog 53 #[.pointer (some ⟨p,0,none⟩),.int .u8 (x : Int),.int .u64 (a : Int)] w (EP S w p tp q fp vb { M with vs := M.vs.set (atV M.vs x) { y with lea := y.lea - a } } (.int .i64 0)) := by
 have hvk := hM.vok y (jh hy)
 have hbu := hvk.bur
 have hxl := hvk.lea
 have hbb : ¬ (a = 0 ∨ 4611686018427387904 < a) := hb
 unfold Vlt.bur at hbu
 obtain ⟨z,hz⟩ : ∃ z,z = y.lea - a := ⟨_,rfl⟩
 rw [← hz]
 have H1 := Lib.hid (iw h hx hb hg)
 have H2 := Lib.hid (gy y hf)
 have HM := Lib.hid (fun (W : World) (f : Fr F0 w W) => zl.start h f)
 simp only [iq] at H1 H2
 have HA := Lib.hid (fun (W : World) => vw y.lea a (by omega) ha W)
 rw [(sbQ (show a ≤ y.lea by omega) (by omega)).1,(sbQ (show a ≤ y.lea by omega) (by omega)).2,← hz] at HA
 have HPu := Lib.hid (fun (W : World) (T : Nat → Prop) (k : KP T W p tp q fp vb M) => ug k (l := M.vs.set (atV M.vs x) { y with lea := z }) (y := { y with lea := z }) (by rw [show ({ y with lea := z } : Vlt).who = y.who from rfl,hyw]; exact hx) (aok hM hy (z := { y with lea := z }) rfl))
 simp only [iq] at HPu
 obtain ⟨sz,oS,c0,c21,c22,c23,c24,c25,c26⟩ := cBf y
 try dsimp only at c0 c21 c22 c23 c24 c25 c26
 obtain ⟨C,hC⟩ : ∃ C,C = cB y := ⟨_,rfl⟩
 rw [← hC] at H1 H2 sz oS c0 c21 c22 c23 c24 c25 c26
 have d25 := ay c25
 clear c0 c21 c22 c23 c24 c26
 replace hC := Lib.hid hC
 clear h hM hx ha hb hg hy hyw hvk hbu hxl hbb hc hz
 unfold EP
 go_enter Tryz.func53,Tryz.ntmps53
 go_wp2_with fail
 (with_reducible refine H1.out.mono ?_); rintro e w1 ⟨rfl,f1⟩
 have F2 := Lib.hid f1
 clear f1 H1
 go_wp2_with fail
 (with_reducible refine (H2.out _).mono ?_); rintro e w2 ⟨rfl,f2⟩
 replace F2 := Lib.hid (F2.out.trans' f2)
 clear f2 H2
 go_upto_region 2 with fail
 refine jc fun w4 N => ?_
 have r7 := N.new
 have m := Lib.hid ((HM.out _ F2.out).add N.fr (Nat.le_refl _) (Array.getElem?_eq_some_iff.1 r7).1)
 clear N F2 HM
 obtain ⟨g7,hg7⟩ : ∃ g,w2.heap.size = g := ⟨_,rfl⟩
 rw [hg7] at r7 m ⊢
 clear hg7
 go_wp2_with fail
 (with_reducible refine (HA.out _).mono ?_); rintro e w4 ⟨rfl,f4⟩
 replace r7 := dn f4 r7
 replace m := Lib.hid (m.out.fr0 f4)
 clear f4
 go_upto_region 5 with fail
 have f5 := (Fr.refl (fun k => False ∨ k = g7) w4).setCell (p := ⟨g7,25,none⟩) (fun _ => .inr rfl) (.int .u64 (z : Int))
 have r8 : VX (w4.setCell ⟨g7,25,none⟩ (.int .u64 (z : Int))) g7 { y with lea := z } := VX.aqs (show VX w4 g7 y by unfold VX; rw [← hC.out]; exact r7) z
 replace m := Lib.hid (m.out.box f5)
 clear f5 r7
 obtain ⟨w4,hW5⟩ : ∃ X,X = w4.setCell ⟨g7,25,none⟩ (.int .u64 (z : Int)) := ⟨_,rfl⟩
 rw [← hW5] at r8 m ⊢
 clear hW5
 have r7 := r8
 clear r8
 unfold VX at r7
 obtain ⟨sz,oS,c0,c21,c22,c23,c24,c25,c26⟩ := cBf { y with lea := z }
 try dsimp only at c0 c21 c22 c23 c24 c25 c26
 obtain ⟨C,hC⟩ : ∃ C,C = cB { y with lea := z } := ⟨_,rfl⟩
 rw [← hC] at r7 sz oS c0 c21 c22 c23 c24 c25 c26
 clear c0 c21 c22 c23 c24 c25 c26
 replace hC := Lib.hid hC
 have HP2 := HPu.out
 rw [← hC.out] at HP2
 replace HP2 := Lib.hid HP2
 go_wp2_with fail
 (with_reducible refine (HP2.out _ _ m.out.kp).mono ?_); rintro e w6 ⟨rfl,h6⟩
 replace m := Lib.hid (m.out.last h6)
 clear h6 r7
 go_wp2_with fail
 go_ret
 exact ⟨rfl,m.out⟩
theorem ak0 (h : KP S w p tp q fp vb M) (hM : M.Ok) {x a : Nat} (hx : x < 256) (ha : a < 18446744073709551616) (hb : ¬ badM a) {y : Vlt} (hg : gOf M.vs x = some y) (hy : M.vs[atV M.vs x]? = some y) (hyw : y.who = x) (hc : y.com < a) :
  Calls Tryz.prog 48 #[.pointer (some ⟨p,0,none⟩),.int .u8 (x : Int),.int .u64 (a : Int)] w (EP S w p tp q fp vb M (.int .i64 16)) := by
 have hvk := hM.vok y (jh hy)
 have hbu := hvk.bur
 have hxl := hvk.lea
 have hbb : ¬ (a = 0 ∨ 4611686018427387904 < a) := hb
 unfold Vlt.bur at hbu
 have H1 := Lib.hid (iw h hx hb hg)
 have HM := Lib.hid (fun (W : World) (f : Fr F0 w W) => zl.start h f)
 simp only [iq] at H1
 have HA := Lib.hid (fun (W : World) => vw y.com a (by omega) ha W)
 rw [show sbE y.com a = 16 by unfold sbE; rw [if_pos (by omega),if_neg (by omega)]] at HA
 generalize sbV y.com a = z at *
 obtain ⟨sz,oS,c0,c21,c22,c23,c24,c25,c26⟩ := cBf y
 try dsimp only at c0 c21 c22 c23 c24 c25 c26
 obtain ⟨C,hC⟩ : ∃ C,C = cB y := ⟨_,rfl⟩
 rw [← hC] at H1 sz oS c0 c21 c22 c23 c24 c25 c26
 have d23 := ay c23
 clear c0 c21 c22 c24 c25 c26
 replace hC := Lib.hid hC
 clear h hM hx ha hb hg hy hyw hvk hbu hxl hbb hc
 unfold EP
 go_enter Tryz.func48,Tryz.ntmps48
 go_wp2_with fail
 (with_reducible refine H1.out.mono ?_); rintro e w1 ⟨rfl,f1⟩
 have F2 := Lib.hid f1
 clear f1 H1
 go_upto_region 2 with fail
 refine jc fun w4 N => ?_
 have r7 := N.new
 have m := Lib.hid ((HM.out _ F2.out).add N.fr (Nat.le_refl _) (Array.getElem?_eq_some_iff.1 r7).1)
 clear N F2 HM
 obtain ⟨g7,hg7⟩ : ∃ g,w1.heap.size = g := ⟨_,rfl⟩
 rw [hg7] at r7 m ⊢
 clear hg7
 go_wp2_with fail
 (with_reducible refine (HA.out _).mono ?_); rintro e w4 ⟨rfl,f4⟩
 replace r7 := dn f4 r7
 replace m := Lib.hid (m.out.fr0 f4)
 clear f4
 go_wp2_with fail
 go_ret
 exact ⟨rfl,(m.out.box ((Fr.refl (fun k => False ∨ k = g7) w4).setCell (p := ⟨g7,23,none⟩) (fun _ => .inr rfl) _)).qp⟩
theorem an9 (h : KP S w p tp q fp vb M) (hM : M.Ok) {x a : Nat} (hx : x < 256) (ha : a < 18446744073709551616) (hb : ¬ badM a) {y : Vlt} (hg : gOf M.vs x = some y) (hy : M.vs[atV M.vs x]? = some y) (hyw : y.who = x) (hc : ¬ y.com < a) :
  Calls Tryz.prog 48 #[.pointer (some ⟨p,0,none⟩),.int .u8 (x : Int),.int .u64 (a : Int)] w (EP S w p tp q fp vb { M with vs := M.vs.set (atV M.vs x) { y with com := y.com - a } } (.int .i64 0)) := by
 have hvk := hM.vok y (jh hy)
 have hbu := hvk.bur
 have hxl := hvk.lea
 have hbb : ¬ (a = 0 ∨ 4611686018427387904 < a) := hb
 unfold Vlt.bur at hbu
 obtain ⟨z,hz⟩ : ∃ z,z = y.com - a := ⟨_,rfl⟩
 rw [← hz]
 have H1 := Lib.hid (iw h hx hb hg)
 have HM := Lib.hid (fun (W : World) (f : Fr F0 w W) => zl.start h f)
 simp only [iq] at H1
 have HA := Lib.hid (fun (W : World) => vw y.com a (by omega) ha W)
 rw [(sbQ (show a ≤ y.com by omega) (by omega)).1,(sbQ (show a ≤ y.com by omega) (by omega)).2,← hz] at HA
 have HPu := Lib.hid (fun (W : World) (T : Nat → Prop) (k : KP T W p tp q fp vb M) => ug k (l := M.vs.set (atV M.vs x) { y with com := z }) (y := { y with com := z }) (by rw [show ({ y with com := z } : Vlt).who = y.who from rfl,hyw]; exact hx) (aok hM hy (z := { y with com := z }) rfl))
 simp only [iq] at HPu
 obtain ⟨sz,oS,c0,c21,c22,c23,c24,c25,c26⟩ := cBf y
 try dsimp only at c0 c21 c22 c23 c24 c25 c26
 obtain ⟨C,hC⟩ : ∃ C,C = cB y := ⟨_,rfl⟩
 rw [← hC] at H1 sz oS c0 c21 c22 c23 c24 c25 c26
 have d23 := ay c23
 clear c0 c21 c22 c24 c25 c26
 replace hC := Lib.hid hC
 clear h hM hx ha hb hg hy hyw hvk hbu hxl hbb hc hz
 unfold EP
 go_enter Tryz.func48,Tryz.ntmps48
 go_wp2_with fail
 (with_reducible refine H1.out.mono ?_); rintro e w1 ⟨rfl,f1⟩
 have F2 := Lib.hid f1
 clear f1 H1
 go_upto_region 2 with fail
 refine jc fun w4 N => ?_
 have r7 := N.new
 have m := Lib.hid ((HM.out _ F2.out).add N.fr (Nat.le_refl _) (Array.getElem?_eq_some_iff.1 r7).1)
 clear N F2 HM
 obtain ⟨g7,hg7⟩ : ∃ g,w1.heap.size = g := ⟨_,rfl⟩
 rw [hg7] at r7 m ⊢
 clear hg7
 go_wp2_with fail
 (with_reducible refine (HA.out _).mono ?_); rintro e w4 ⟨rfl,f4⟩
 replace r7 := dn f4 r7
 replace m := Lib.hid (m.out.fr0 f4)
 clear f4
 go_upto_region 5 with fail
 have f5 := (Fr.refl (fun k => False ∨ k = g7) w4).setCell (p := ⟨g7,23,none⟩) (fun _ => .inr rfl) (.int .u64 (z : Int))
 have r8 : VX (w4.setCell ⟨g7,23,none⟩ (.int .u64 (z : Int))) g7 { y with com := z } := VX.ail (show VX w4 g7 y by unfold VX; rw [← hC.out]; exact r7) z
 replace m := Lib.hid (m.out.box f5)
 clear f5 r7
 obtain ⟨w4,hW5⟩ : ∃ X,X = w4.setCell ⟨g7,23,none⟩ (.int .u64 (z : Int)) := ⟨_,rfl⟩
 rw [← hW5] at r8 m ⊢
 clear hW5
 have r7 := r8
 clear r8
 unfold VX at r7
 obtain ⟨sz,oS,c0,c21,c22,c23,c24,c25,c26⟩ := cBf { y with com := z }
 try dsimp only at c0 c21 c22 c23 c24 c25 c26
 obtain ⟨C,hC⟩ : ∃ C,C = cB { y with com := z } := ⟨_,rfl⟩
 rw [← hC] at r7 sz oS c0 c21 c22 c23 c24 c25 c26
 clear c0 c21 c22 c23 c24 c25 c26
 replace hC := Lib.hid hC
 have HP2 := HPu.out
 rw [← hC.out] at HP2
 replace HP2 := Lib.hid HP2
 go_wp2_with fail
 (with_reducible refine (HP2.out _ _ m.out.kp).mono ?_); rintro e w6 ⟨rfl,h6⟩
 replace m := Lib.hid (m.out.last h6)
 clear h6 r7
 go_wp2_with fail
 go_ret
 exact ⟨rfl,m.out⟩
end
section
variable {S : Nat → Prop} {w w' W : World} {p tp q fp vb : Nat} {M : Bok}
theorem auc (h : KP S w p tp q fp vb M) (hM : M.Ok) {x a : Nat} (hx : x < 256) (ha : a < 18446744073709551616) (hb : ¬ badM a) {y : Vlt} (hg : gOf M.vs x = some y) (hy : M.vs[atV M.vs x]? = some y) (hyw : y.who = x) (hf : y.fal = false) (hc : M.free x < a) :
  Calls Tryz.prog 46 #[.pointer (some ⟨p,0,none⟩),.int .u8 (x : Int),.int .u64 (a : Int)] w (EP S w p tp q fp vb M (.int .i64 16)) := by
 have hvk := hM.vok y (jh hy)
 have hbu := hvk.bur
 have hxl := hvk.lea
 have hbb : ¬ (a = 0 ∨ 4611686018427387904 < a) := hb
 unfold Vlt.bur at hbu
 have H1 := Lib.hid (iw h hx hb hg)
 have H2 := Lib.hid (gy y hf)
 have HM := Lib.hid (fun (W : World) (f : Fr F0 w W) => zl.start h f)
 simp only [iq] at H1 H2
 have HH := Lib.hid (fun (W : World) (T : Nat → Prop) (k : KP T W p tp q fp vb M) => afk (a := a) (c := y.coll) k hx hc)
 obtain ⟨sz,oS,c0,c21,c22,c23,c24,c25,c26⟩ := cBf y
 try dsimp only at c0 c21 c22 c23 c24 c25 c26
 obtain ⟨C,hC⟩ : ∃ C,C = cB y := ⟨_,rfl⟩
 rw [← hC] at H1 H2 sz oS c0 c21 c22 c23 c24 c25 c26
 have d21 := ay c21
 clear c0 c22 c23 c24 c25 c26
 replace hC := Lib.hid hC
 clear h hM hx ha hb hg hy hyw hvk hbu hxl hbb hc
 unfold EP
 go_enter Tryz.func46,Tryz.ntmps46
 go_wp2_with fail
 (with_reducible refine H1.out.mono ?_); rintro e w1 ⟨rfl,f1⟩
 have F2 := Lib.hid f1
 clear f1 H1
 go_wp2_with fail
 (with_reducible refine (H2.out _).mono ?_); rintro e w2 ⟨rfl,f2⟩
 replace F2 := Lib.hid (F2.out.trans' f2)
 clear f2 H2
 go_upto_region 2 with fail
 refine jc fun w4 N => ?_
 have r7 := N.new
 have m := Lib.hid ((HM.out _ F2.out).add N.fr (Nat.le_refl _) (Array.getElem?_eq_some_iff.1 r7).1)
 clear N F2 HM
 obtain ⟨g7,hg7⟩ : ∃ g,w2.heap.size = g := ⟨_,rfl⟩
 rw [hg7] at r7 m ⊢
 clear hg7
 go_wp2_with fail
 (with_reducible refine (HH.out _ _ m.out.kp).mono ?_); rintro e w5 ⟨rfl,hw⟩; replace hw := hw.symm; subst hw
 go_wp2_with fail
 go_ret
 exact ⟨rfl,(m.out.box ((Fr.refl (fun k => False ∨ k = g7) w4).setCell (p := ⟨g7,21,none⟩) (fun _ => .inr rfl) _)).qp⟩
theorem ax9 (h : KP S w p tp q fp vb M) (hM : M.Ok) {x a : Nat} (hx : x < 256) (ha : a < 18446744073709551616) (hb : ¬ badM a) {y : Vlt} (hg : gOf M.vs x = some y) (hy : M.vs[atV M.vs x]? = some y) (hyw : y.who = x) (hf : y.fal = false) (hc : ¬ M.free x < a) :
  Calls Tryz.prog 46 #[.pointer (some ⟨p,0,none⟩),.int .u8 (x : Int),.int .u64 (a : Int)] w (EP S w p tp q fp vb { M with free := upd M.free x (M.free x - a),held := M.held + a,vs := M.vs.set (atV M.vs x) { y with coll := y.coll + a } } (.int .i64 0)) := by
 have hvk := hM.vok y (jh hy)
 have hbu := hvk.bur
 have hxl := hvk.lea
 have hbb : ¬ (a = 0 ∨ 4611686018427387904 < a) := hb
 unfold Vlt.bur at hbu
 have hcl := hM.uf hy
 have hin := hM.inn
 have hpd := hM.paid
 have hfr := hM.jy hx
 obtain ⟨z,hz⟩ : ∃ z,z = y.coll + a := ⟨_,rfl⟩
 rw [← hz]
 have H1 := Lib.hid (iw h hx hb hg)
 have H2 := Lib.hid (gy y hf)
 have HM := Lib.hid (fun (W : World) (f : Fr F0 w W) => zl.start h f)
 simp only [iq] at H1 H2
 have HH := Lib.hid (fun (W : World) (T : Nat → Prop) (k : KP T W p tp q fp vb M) => ag6 (a := a) (c := y.coll) k hx (by omega) (by omega))
 rw [← hz] at HH
 have HPu := Lib.hid (fun (W : World) (T : Nat → Prop) (k : KP T W p tp q fp vb { M with free := upd M.free x (M.free x - a),held := M.held + a }) => ug k (l := M.vs.set (atV M.vs x) { y with coll := z }) (y := { y with coll := z }) (by rw [show ({ y with coll := z } : Vlt).who = y.who from rfl,hyw]; exact hx) (aok hM hy (z := { y with coll := z }) rfl))
 simp only [iq] at HPu
 obtain ⟨sz,oS,c0,c21,c22,c23,c24,c25,c26⟩ := cBf y
 try dsimp only at c0 c21 c22 c23 c24 c25 c26
 obtain ⟨C,hC⟩ : ∃ C,C = cB y := ⟨_,rfl⟩
 rw [← hC] at H1 H2 sz oS c0 c21 c22 c23 c24 c25 c26
 have d21 := ay c21
 clear c0 c22 c23 c24 c25 c26
 replace hC := Lib.hid hC
 clear h hM hx ha hb hg hy hyw hvk hbu hxl hbb hc hz hcl hin hpd hfr
 unfold EP
 go_enter Tryz.func46,Tryz.ntmps46
 go_wp2_with fail
 (with_reducible refine H1.out.mono ?_); rintro e w1 ⟨rfl,f1⟩
 have F2 := Lib.hid f1
 clear f1 H1
 go_wp2_with fail
 (with_reducible refine (H2.out _).mono ?_); rintro e w2 ⟨rfl,f2⟩
 replace F2 := Lib.hid (F2.out.trans' f2)
 clear f2 H2
 go_upto_region 2 with fail
 refine jc fun w4 N => ?_
 have r7 := N.new
 have m := Lib.hid ((HM.out _ F2.out).add N.fr (Nat.le_refl _) (Array.getElem?_eq_some_iff.1 r7).1)
 clear N F2 HM
 obtain ⟨g7,hg7⟩ : ∃ g,w2.heap.size = g := ⟨_,rfl⟩
 rw [hg7] at r7 m ⊢
 clear hg7
 go_wp2_with fail
 (with_reducible refine (HH.out _ _ m.out.kp).mono ?_); rintro e w4 ⟨rfl,h4⟩
 replace r7 := m.out.row h4 (.inr rfl) r7
 obtain ⟨T4,m4⟩ := m.out.next h4
 clear h4 m
 have m := Lib.hid m4
 clear m4
 go_upto_region 5 with fail
 have f5 := (Fr.refl (fun k => False ∨ k = g7) w4).setCell (p := ⟨g7,21,none⟩) (fun _ => .inr rfl) (.int .u64 (z : Int))
 have r8 : VX (w4.setCell ⟨g7,21,none⟩ (.int .u64 (z : Int))) g7 { y with coll := z } := VX.agr (show VX w4 g7 y by unfold VX; rw [← hC.out]; exact r7) z
 replace m := Lib.hid (m.out.box f5)
 clear f5 r7
 obtain ⟨w4,hW5⟩ : ∃ X,X = w4.setCell ⟨g7,21,none⟩ (.int .u64 (z : Int)) := ⟨_,rfl⟩
 rw [← hW5] at r8 m ⊢
 clear hW5
 have r7 := r8
 clear r8
 unfold VX at r7
 obtain ⟨sz,oS,c0,c21,c22,c23,c24,c25,c26⟩ := cBf { y with coll := z }
 try dsimp only at c0 c21 c22 c23 c24 c25 c26
 obtain ⟨C,hC⟩ : ∃ C,C = cB { y with coll := z } := ⟨_,rfl⟩
 rw [← hC] at r7 sz oS c0 c21 c22 c23 c24 c25 c26
 clear c0 c21 c22 c23 c24 c25 c26
 replace hC := Lib.hid hC
 have HP2 := HPu.out
 rw [← hC.out] at HP2
 replace HP2 := Lib.hid HP2
 go_wp2_with fail
 (with_reducible refine (HP2.out _ _ m.out.kp).mono ?_); rintro e w6 ⟨rfl,h6⟩
 replace m := Lib.hid (m.out.last h6)
 clear h6 r7
 go_wp2_with fail
 go_ret
 exact ⟨rfl,m.out⟩
theorem aui (h : KP S w p tp q fp vb M) (hM : M.Ok) {x a : Nat} (hx : x < 256) (ha : a < 18446744073709551616) (hb : ¬ badM a) {y : Vlt} (hg : gOf M.vs x = some y) (hy : M.vs[atV M.vs x]? = some y) (hyw : y.who = x) (hf : y.fal = false) (hc : y.coll < a) :
  Calls Tryz.prog 47 #[.pointer (some ⟨p,0,none⟩),.int .u8 (x : Int),.int .u64 (a : Int)] w (EP S w p tp q fp vb M (.int .i64 16)) := by
 have hvk := hM.vok y (jh hy)
 have hbu := hvk.bur
 have hxl := hvk.lea
 have hbb : ¬ (a = 0 ∨ 4611686018427387904 < a) := hb
 unfold Vlt.bur at hbu
 have hcl := hM.uf hy
 have hin := hM.inn
 have hpd := hM.paid
 have H1 := Lib.hid (iw h hx hb hg)
 have H2 := Lib.hid (gy y hf)
 have HM := Lib.hid (fun (W : World) (f : Fr F0 w W) => zl.start h f)
 simp only [iq] at H1 H2
 have HA := Lib.hid (fun (W : World) => vw y.coll a (by omega) ha W)
 rw [show sbE y.coll a = 16 by unfold sbE; rw [if_pos (by omega),if_neg (by omega)]] at HA
 generalize sbV y.coll a = z at *
 obtain ⟨sz,oS,c0,c21,c22,c23,c24,c25,c26⟩ := cBf y
 try dsimp only at c0 c21 c22 c23 c24 c25 c26
 obtain ⟨C,hC⟩ : ∃ C,C = cB y := ⟨_,rfl⟩
 rw [← hC] at H1 H2 sz oS c0 c21 c22 c23 c24 c25 c26
 have d21 := ay c21
 clear c0 c22 c23 c24 c25 c26
 replace hC := Lib.hid hC
 clear h hM hx ha hb hg hy hyw hvk hbu hxl hbb hc hcl hin hpd
 unfold EP
 go_enter Tryz.func47,Tryz.ntmps47
 go_wp2_with fail
 (with_reducible refine H1.out.mono ?_); rintro e w1 ⟨rfl,f1⟩
 have F2 := Lib.hid f1
 clear f1 H1
 go_wp2_with fail
 (with_reducible refine (H2.out _).mono ?_); rintro e w2 ⟨rfl,f2⟩
 replace F2 := Lib.hid (F2.out.trans' f2)
 clear f2 H2
 go_upto_region 2 with fail
 refine jc fun w4 N => ?_
 have r7 := N.new
 have m := Lib.hid ((HM.out _ F2.out).add N.fr (Nat.le_refl _) (Array.getElem?_eq_some_iff.1 r7).1)
 clear N F2 HM
 obtain ⟨g7,hg7⟩ : ∃ g,w2.heap.size = g := ⟨_,rfl⟩
 rw [hg7] at r7 m ⊢
 clear hg7
 go_wp2_with fail
 (with_reducible refine (HA.out _).mono ?_); rintro e w4 ⟨rfl,f4⟩
 replace r7 := dn f4 r7
 replace m := Lib.hid (m.out.fr0 f4)
 clear f4
 go_wp2_with fail
 go_ret
 exact ⟨rfl,m.out.qp⟩
theorem aod (h : KP S w p tp q fp vb M) (hM : M.Ok) {x a : Nat} (hx : x < 256) (ha : a < 18446744073709551616) (hb : ¬ badM a) {y : Vlt} (hg : gOf M.vs x = some y) (hy : M.vs[atV M.vs x]? = some y) (hyw : y.who = x) (hf : y.fal = false) (hc : ¬ y.coll < a) (hp : prE 50 M.price M.told M.now ≠ 0) :
  Calls Tryz.prog 47 #[.pointer (some ⟨p,0,none⟩),.int .u8 (x : Int),.int .u64 (a : Int)] w (EP S w p tp q fp vb M (.int .i64 (prE 50 M.price M.told M.now))) := by
 have hvk := hM.vok y (jh hy)
 have hbu := hvk.bur
 have hxl := hvk.lea
 have hbb : ¬ (a = 0 ∨ 4611686018427387904 < a) := hb
 unfold Vlt.bur at hbu
 have hcl := hM.uf hy
 have hin := hM.inn
 have hpd := hM.paid
 obtain ⟨z,hz⟩ : ∃ z,z = y.coll - a := ⟨_,rfl⟩
 have H1 := Lib.hid (iw h hx hb hg)
 have H2 := Lib.hid (gy y hf)
 have HM := Lib.hid (fun (W : World) (f : Fr F0 w W) => zl.start h f)
 simp only [iq] at H1 H2
 have HA := Lib.hid (fun (W : World) => vw y.coll a (by omega) ha W)
 rw [(sbQ (show a ≤ y.coll by omega) (by omega)).1,(sbQ (show a ≤ y.coll by omega) (by omega)).2,← hz] at HA
 have HP := Lib.hid (fun (W : World) (T : Nat → Prop) (k : KP T W p tp q fp vb M) => zu k (by have := hM.now; omega))
 have q0 : (prE 50 M.price M.told M.now != 0) = true := bne_iff_ne.2 hp
 generalize prE 50 M.price M.told M.now = E at *
 generalize prV 50 M.price M.told M.now = V at *
 obtain ⟨sz,oS,c0,c21,c22,c23,c24,c25,c26⟩ := cBf y
 try dsimp only at c0 c21 c22 c23 c24 c25 c26
 obtain ⟨C,hC⟩ : ∃ C,C = cB y := ⟨_,rfl⟩
 rw [← hC] at H1 H2 sz oS c0 c21 c22 c23 c24 c25 c26
 have d21 := ay c21
 clear c0 c22 c23 c24 c25 c26
 replace hC := Lib.hid hC
 clear h hM hx ha hb hg hy hyw hvk hbu hxl hbb hc hcl hin hpd hp hz
 unfold EP
 go_enter Tryz.func47,Tryz.ntmps47
 go_wp2_with fail
 (with_reducible refine H1.out.mono ?_); rintro e w1 ⟨rfl,f1⟩
 have F2 := Lib.hid f1
 clear f1 H1
 go_wp2_with fail
 (with_reducible refine (H2.out _).mono ?_); rintro e w2 ⟨rfl,f2⟩
 replace F2 := Lib.hid (F2.out.trans' f2)
 clear f2 H2
 go_upto_region 2 with fail
 refine jc fun w4 N => ?_
 have r7 := N.new
 have m := Lib.hid ((HM.out _ F2.out).add N.fr (Nat.le_refl _) (Array.getElem?_eq_some_iff.1 r7).1)
 clear N F2 HM
 obtain ⟨g7,hg7⟩ : ∃ g,w2.heap.size = g := ⟨_,rfl⟩
 rw [hg7] at r7 m ⊢
 clear hg7
 go_wp2_with fail
 (with_reducible refine (HA.out _).mono ?_); rintro e w4 ⟨rfl,f4⟩
 replace r7 := dn f4 r7
 replace m := Lib.hid (m.out.fr0 f4)
 clear f4
 go_wp2_with fail
 (with_reducible refine (HP.out _ _ m.out.kp).mono ?_); rintro e w4 ⟨rfl,f4⟩
 replace r7 := dn f4 r7
 replace m := Lib.hid (m.out.fr0 f4)
 clear f4
 go_wp2_with fail
 go_ret
 exact ⟨rfl,m.out.qp⟩
theorem aoe (h : KP S w p tp q fp vb M) (hM : M.Ok) {x a : Nat} (hx : x < 256) (ha : a < 18446744073709551616) (hb : ¬ badM a) {y : Vlt} (hg : gOf M.vs x = some y) (hy : M.vs[atV M.vs x]? = some y) (hyw : y.who = x) (hf : y.fal = false) (hc : ¬ y.coll < a) (hp : prE 50 M.price M.told M.now = 0) (hs : decide (enP (y.coll - a) y.bur (prV 50 M.price M.told M.now) 2000) = false) :
  Calls Tryz.prog 47 #[.pointer (some ⟨p,0,none⟩),.int .u8 (x : Int),.int .u64 (a : Int)] w (EP S w p tp q fp vb M (.int .i64 19)) := by
 have hvk := hM.vok y (jh hy)
 have hbu := hvk.bur
 have hxl := hvk.lea
 have hbb : ¬ (a = 0 ∨ 4611686018427387904 < a) := hb
 unfold Vlt.bur at hbu
 have hcl := hM.uf hy
 have hin := hM.inn
 have hpd := hM.paid
 obtain ⟨z,hz⟩ : ∃ z,z = y.coll - a := ⟨_,rfl⟩
 have H1 := Lib.hid (iw h hx hb hg)
 have H2 := Lib.hid (gy y hf)
 have HM := Lib.hid (fun (W : World) (f : Fr F0 w W) => zl.start h f)
 simp only [iq] at H1 H2
 have HA := Lib.hid (fun (W : World) => vw y.coll a (by omega) ha W)
 rw [(sbQ (show a ≤ y.coll by omega) (by omega)).1,(sbQ (show a ≤ y.coll by omega) (by omega)).2,← hz] at HA
 have HP := Lib.hid (fun (W : World) (T : Nat → Prop) (k : KP T W p tp q fp vb M) => zu k (by have := hM.now; omega))
 have hb2 : y.bur ≤ 4611686018427387904 := hvk.bur
 have HU := Lib.hid (fun (W : World) => aan y hb2 W)
 simp only [iq] at HU
 have HS := Lib.hid (fun (W : World) (T : Nat → Prop) (k : KP T W p tp q fp vb M) => abz k z y.bur (prV 50 M.price M.told M.now) (by omega) (by omega) false (by rw [hz]; exact hs))
 rw [hp] at HP
 generalize prV 50 M.price M.told M.now = V at *
 generalize (y.bur : Int) = B at *
 obtain ⟨sz,oS,c0,c21,c22,c23,c24,c25,c26⟩ := cBf y
 try dsimp only at c0 c21 c22 c23 c24 c25 c26
 obtain ⟨C,hC⟩ : ∃ C,C = cB y := ⟨_,rfl⟩
 rw [← hC] at H1 H2 sz oS c0 c21 c22 c23 c24 c25 c26
 have d21 := ay c21
 clear c0 c22 c23 c24 c25 c26
 rw [← hC] at HU
 replace hC := Lib.hid hC
 clear h hM hx ha hb hg hy hyw hvk hbu hxl hbb hc hcl hin hpd hp hz hs hb2
 unfold EP
 go_enter Tryz.func47,Tryz.ntmps47
 go_wp2_with fail
 (with_reducible refine H1.out.mono ?_); rintro e w1 ⟨rfl,f1⟩
 have F2 := Lib.hid f1
 clear f1 H1
 go_wp2_with fail
 (with_reducible refine (H2.out _).mono ?_); rintro e w2 ⟨rfl,f2⟩
 replace F2 := Lib.hid (F2.out.trans' f2)
 clear f2 H2
 go_upto_region 2 with fail
 refine jc fun w4 N => ?_
 have r7 := N.new
 have m := Lib.hid ((HM.out _ F2.out).add N.fr (Nat.le_refl _) (Array.getElem?_eq_some_iff.1 r7).1)
 clear N F2 HM
 obtain ⟨g7,hg7⟩ : ∃ g,w2.heap.size = g := ⟨_,rfl⟩
 rw [hg7] at r7 m ⊢
 clear hg7
 go_wp2_with fail
 (with_reducible refine (HA.out _).mono ?_); rintro e w4 ⟨rfl,f4⟩
 replace r7 := dn f4 r7
 replace m := Lib.hid (m.out.fr0 f4)
 clear f4
 go_wp2_with fail
 (with_reducible refine (HP.out _ _ m.out.kp).mono ?_); rintro e w4 ⟨rfl,f4⟩
 replace r7 := dn f4 r7
 replace m := Lib.hid (m.out.fr0 f4)
 clear f4
 go_wp2_with fail
 (with_reducible refine (HU.out _).mono ?_); rintro e w4 ⟨rfl,f4⟩
 replace r7 := dn f4 r7
 replace m := Lib.hid (m.out.fr0 f4)
 clear f4
 go_wp2_with fail
 (with_reducible refine (HS.out _ _ m.out.kp).mono ?_); rintro e w4 ⟨rfl,f4⟩
 replace r7 := dn f4 r7
 replace m := Lib.hid (m.out.fr0 f4)
 clear f4
 go_wp2_with fail
 go_ret
 exact ⟨rfl,m.out.qp⟩
theorem ayb (h : KP S w p tp q fp vb M) (hM : M.Ok) {x a : Nat} (hx : x < 256) (ha : a < 18446744073709551616) (hb : ¬ badM a) {y : Vlt} (hg : gOf M.vs x = some y) (hy : M.vs[atV M.vs x]? = some y) (hyw : y.who = x) (hf : y.fal = false) (hc : ¬ y.coll < a) (hp : prE 50 M.price M.told M.now = 0) (hs : decide (enP (y.coll - a) y.bur (prV 50 M.price M.told M.now) 2000) = true) :
  Calls Tryz.prog 47 #[.pointer (some ⟨p,0,none⟩),.int .u8 (x : Int),.int .u64 (a : Int)] w (EP S w p tp q fp vb { M with free := upd M.free x (M.free x + a),held := M.held - a,vs := M.vs.set (atV M.vs x) { y with coll := y.coll - a } } (.int .i64 0)) := by
 have hvk := hM.vok y (jh hy)
 have hbu := hvk.bur
 have hxl := hvk.lea
 have hbb : ¬ (a = 0 ∨ 4611686018427387904 < a) := hb
 unfold Vlt.bur at hbu
 have hcl := hM.uf hy
 have hin := hM.inn
 have hpd := hM.paid
 obtain ⟨z,hz⟩ : ∃ z,z = y.coll - a := ⟨_,rfl⟩
 rw [show ({ y with coll := y.coll - a } : Vlt) = { y with coll := z } by rw [hz]]
 have H1 := Lib.hid (iw h hx hb hg)
 have H2 := Lib.hid (gy y hf)
 have HM := Lib.hid (fun (W : World) (f : Fr F0 w W) => zl.start h f)
 simp only [iq] at H1 H2
 have HA := Lib.hid (fun (W : World) => vw y.coll a (by omega) ha W)
 rw [(sbQ (show a ≤ y.coll by omega) (by omega)).1,(sbQ (show a ≤ y.coll by omega) (by omega)).2,← hz] at HA
 have HP := Lib.hid (fun (W : World) (T : Nat → Prop) (k : KP T W p tp q fp vb M) => zu k (by have := hM.now; omega))
 have hb2 : y.bur ≤ 4611686018427387904 := hvk.bur
 have HU := Lib.hid (fun (W : World) => aan y hb2 W)
 simp only [iq] at HU
 have HS := Lib.hid (fun (W : World) (T : Nat → Prop) (k : KP T W p tp q fp vb M) => abz k z y.bur (prV 50 M.price M.told M.now) (by omega) (by omega) true (by rw [hz]; exact hs))
 rw [hp] at HP
 generalize prV 50 M.price M.told M.now = V at *
 generalize (y.bur : Int) = B at *
 have HF := Lib.hid (fun (W : World) (T : Nat → Prop) (k : KP T W p tp q fp vb M) => akf k hx (show a ≤ M.held by omega))
 have HPu := Lib.hid (fun (W : World) (T : Nat → Prop) (k : KP T W p tp q fp vb { M with free := upd M.free x (M.free x + a),held := M.held - a }) => ug k (l := M.vs.set (atV M.vs x) { y with coll := z }) (y := { y with coll := z }) (by rw [show ({ y with coll := z } : Vlt).who = y.who from rfl,hyw]; exact hx) (aok hM hy (z := { y with coll := z }) rfl))
 simp only [iq] at HPu
 obtain ⟨sz,oS,c0,c21,c22,c23,c24,c25,c26⟩ := cBf y
 try dsimp only at c0 c21 c22 c23 c24 c25 c26
 obtain ⟨C,hC⟩ : ∃ C,C = cB y := ⟨_,rfl⟩
 rw [← hC] at H1 H2 sz oS c0 c21 c22 c23 c24 c25 c26
 have d21 := ay c21
 clear c0 c22 c23 c24 c25 c26
 rw [← hC] at HU
 replace hC := Lib.hid hC
 clear h hM hx ha hb hg hy hyw hvk hbu hxl hbb hc hcl hin hpd hp hz hs hb2
 unfold EP
 go_enter Tryz.func47,Tryz.ntmps47
 go_wp2_with fail
 (with_reducible refine H1.out.mono ?_); rintro e w1 ⟨rfl,f1⟩
 have F2 := Lib.hid f1
 clear f1 H1
 go_wp2_with fail
 (with_reducible refine (H2.out _).mono ?_); rintro e w2 ⟨rfl,f2⟩
 replace F2 := Lib.hid (F2.out.trans' f2)
 clear f2 H2
 go_upto_region 2 with fail
 refine jc fun w4 N => ?_
 have r7 := N.new
 have m := Lib.hid ((HM.out _ F2.out).add N.fr (Nat.le_refl _) (Array.getElem?_eq_some_iff.1 r7).1)
 clear N F2 HM
 obtain ⟨g7,hg7⟩ : ∃ g,w2.heap.size = g := ⟨_,rfl⟩
 rw [hg7] at r7 m ⊢
 clear hg7
 go_wp2_with fail
 (with_reducible refine (HA.out _).mono ?_); rintro e w4 ⟨rfl,f4⟩
 replace r7 := dn f4 r7
 replace m := Lib.hid (m.out.fr0 f4)
 clear f4
 go_wp2_with fail
 (with_reducible refine (HP.out _ _ m.out.kp).mono ?_); rintro e w4 ⟨rfl,f4⟩
 replace r7 := dn f4 r7
 replace m := Lib.hid (m.out.fr0 f4)
 clear f4
 go_wp2_with fail
 (with_reducible refine (HU.out _).mono ?_); rintro e w4 ⟨rfl,f4⟩
 replace r7 := dn f4 r7
 replace m := Lib.hid (m.out.fr0 f4)
 clear f4
 go_wp2_with fail
 (with_reducible refine (HS.out _ _ m.out.kp).mono ?_); rintro e w4 ⟨rfl,f4⟩
 replace r7 := dn f4 r7
 replace m := Lib.hid (m.out.fr0 f4)
 clear f4
 have e0 := m.out.kp.at_
 unfold bkC at e0
 try dsimp only at e0
 go_wp2_with fail
 (with_reducible refine (HF.out _ _ m.out.kp).mono ?_); rintro e w4 ⟨rfl,h4⟩
 replace r7 := m.out.row h4 (.inr rfl) r7
 obtain ⟨T4,m4⟩ := m.out.next h4
 clear h4 m
 have m := Lib.hid m4
 clear m4
 go_upto_region 16 with fail
 have f5 := (Fr.refl (fun k => False ∨ k = g7) w4).setCell (p := ⟨g7,21,none⟩) (fun _ => .inr rfl) (.int .u64 (z : Int))
 have r8 : VX (w4.setCell ⟨g7,21,none⟩ (.int .u64 (z : Int))) g7 { y with coll := z } := VX.agr (show VX w4 g7 y by unfold VX; rw [← hC.out]; exact r7) z
 replace m := Lib.hid (m.out.box f5)
 clear f5 r7
 obtain ⟨w4,hW5⟩ : ∃ X,X = w4.setCell ⟨g7,21,none⟩ (.int .u64 (z : Int)) := ⟨_,rfl⟩
 rw [← hW5] at r8 m ⊢
 clear hW5
 have r7 := r8
 clear r8
 unfold VX at r7
 obtain ⟨sz,oS,c0,c21,c22,c23,c24,c25,c26⟩ := cBf { y with coll := z }
 try dsimp only at c0 c21 c22 c23 c24 c25 c26
 obtain ⟨C,hC⟩ : ∃ C,C = cB { y with coll := z } := ⟨_,rfl⟩
 rw [← hC] at r7 sz oS c0 c21 c22 c23 c24 c25 c26
 clear c0 c21 c22 c23 c24 c25 c26
 replace hC := Lib.hid hC
 have HP2 := HPu.out
 rw [← hC.out] at HP2
 replace HP2 := Lib.hid HP2
 go_wp2_with fail
 (with_reducible refine (HP2.out _ _ m.out.kp).mono ?_); rintro e w6 ⟨rfl,h6⟩
 replace m := Lib.hid (m.out.last h6)
 clear h6 r7
 go_wp2_with fail
 go_ret
 exact ⟨rfl,m.out⟩
theorem at7 (h : KP S w p tp q fp vb M) (hM : M.Ok) {x v a : Nat} (hv : v < 256) (hx : x < 256) (ha : a < 18446744073709551616) (hb : ¬ badM a) {y : Vlt} (hg : gOf M.vs x = some y) (hy : M.vs[atV M.vs x]? = some y) (hyw : y.who = x) :
  Calls Tryz.prog 51 #[.pointer (some ⟨p,0,none⟩),.int .u8 (x : Int),.int .u8 (v : Int),.int .u64 (a : Int)] w (EP S w p tp q fp vb { M with free := upd M.free v (M.free v + min a y.coll),held := M.held - min a y.coll,vs := M.vs.set (atV M.vs x) { y with coll := y.coll - min a y.coll } } (.tuple #[.int .u64 ((min a y.coll : Nat) : Int),.int .i64 0])) := by
 have hvk := hM.vok y (jh hy)
 have hbu := hvk.bur
 have hxl := hvk.lea
 have hbb : ¬ (a = 0 ∨ 4611686018427387904 < a) := hb
 unfold Vlt.bur at hbu
 have hcl := hM.uf hy
 have hin := hM.inn
 have hpd := hM.paid
 obtain ⟨z2,hz2⟩ : ∃ z,z = min a y.coll := ⟨_,rfl⟩
 rw [← hz2]
 obtain ⟨z,hz⟩ : ∃ z,z = y.coll - z2 := ⟨_,rfl⟩
 rw [← hz]
 have H1 := Lib.hid (iw h hx hb hg)
 have HM := Lib.hid (fun (W : World) (f : Fr F0 w W) => zl.start h f)
 simp only [iq] at H1
 have hmin := fun (ts : Array TypeId) (t : TypeId) (W : World) => aeh ts t a y.coll z2 hz2.symm W
 have HF := Lib.hid (fun (W : World) (T : Nat → Prop) (k : KP T W p tp q fp vb M) => amj (a := z2) (c := y.coll) k hv (by omega) (by omega) (by omega))
 rw [← hz] at HF
 have HPu := Lib.hid (fun (W : World) (T : Nat → Prop) (k : KP T W p tp q fp vb { M with free := upd M.free v (M.free v + z2),held := M.held - z2 }) => ug k (l := M.vs.set (atV M.vs x) { y with coll := z }) (y := { y with coll := z }) (by rw [show ({ y with coll := z } : Vlt).who = y.who from rfl,hyw]; exact hx) (aok hM hy (z := { y with coll := z }) rfl))
 simp only [iq] at HPu
 obtain ⟨sz,oS,c0,c21,c22,c23,c24,c25,c26⟩ := cBf y
 try dsimp only at c0 c21 c22 c23 c24 c25 c26
 obtain ⟨C,hC⟩ : ∃ C,C = cB y := ⟨_,rfl⟩
 rw [← hC] at H1 sz oS c0 c21 c22 c23 c24 c25 c26
 have d21 := ay c21
 clear c0 c22 c23 c24 c25 c26
 replace hC := Lib.hid hC
 clear h hM hx ha hb hg hy hyw hvk hbu hxl hbb hcl hin hpd hz hz2 hv
 unfold EP
 go_enter Tryz.func51,Tryz.ntmps51
 go_wp2_with fail
 (with_reducible refine H1.out.mono ?_); rintro e w1 ⟨rfl,f1⟩
 have F2 := Lib.hid f1
 clear f1 H1
 go_upto_region 2 with fail
 refine jc fun w4 N => ?_
 have r7 := N.new
 have m := Lib.hid ((HM.out _ F2.out).add N.fr (Nat.le_refl _) (Array.getElem?_eq_some_iff.1 r7).1)
 clear N F2 HM
 obtain ⟨g7,hg7⟩ : ∃ g,w1.heap.size = g := ⟨_,rfl⟩
 rw [hg7] at r7 m ⊢
 clear hg7
 go_wp2_with fail
 (with_reducible refine (HF.out _ _ m.out.kp).mono ?_); rintro e w4 ⟨rfl,h4⟩
 replace r7 := m.out.row h4 (.inr rfl) r7
 obtain ⟨T4,m4⟩ := m.out.next h4
 clear h4 m
 have m := Lib.hid m4
 clear m4
 go_upto_region 6 with fail
 have f5 := (Fr.refl (fun k => False ∨ k = g7) w4).setCell (p := ⟨g7,21,none⟩) (fun _ => .inr rfl) (.int .u64 (z : Int))
 have r8 : VX (w4.setCell ⟨g7,21,none⟩ (.int .u64 (z : Int))) g7 { y with coll := z } := VX.agr (show VX w4 g7 y by unfold VX; rw [← hC.out]; exact r7) z
 replace m := Lib.hid (m.out.box f5)
 clear f5 r7
 obtain ⟨w4,hW5⟩ : ∃ X,X = w4.setCell ⟨g7,21,none⟩ (.int .u64 (z : Int)) := ⟨_,rfl⟩
 rw [← hW5] at r8 m ⊢
 clear hW5
 have r7 := r8
 clear r8
 unfold VX at r7
 obtain ⟨sz,oS,c0,c21,c22,c23,c24,c25,c26⟩ := cBf { y with coll := z }
 try dsimp only at c0 c21 c22 c23 c24 c25 c26
 obtain ⟨C,hC⟩ : ∃ C,C = cB { y with coll := z } := ⟨_,rfl⟩
 rw [← hC] at r7 sz oS c0 c21 c22 c23 c24 c25 c26
 clear c0 c21 c22 c23 c24 c25 c26
 replace hC := Lib.hid hC
 have HP2 := HPu.out
 rw [← hC.out] at HP2
 replace HP2 := Lib.hid HP2
 go_wp2_with fail
 (with_reducible refine (HP2.out _ _ m.out.kp).mono ?_); rintro e w6 ⟨rfl,h6⟩
 replace m := Lib.hid (m.out.last h6)
 clear h6 r7
 go_wp2_with fail
 go_ret2
 exact ⟨rfl,m.out⟩
end
def awi (p : Array (Nat × Value)) : Sem Value := Instr.build 76 p
@[go_sem ↓ high] theorem build_P0 (p : Array (Nat × Value)) : Instr.build 76 p = awi p := rfl
theorem ahd (w : World) : (awi #[]).run Tryz.prog w = .ok (.agg #[.int .u64 0,.int .u64 0]) w := run_build w _ _ _ (by kernel_rfl)
theorem tq (a b : Int) : yg #[.int .u64 a,.int .u64 b] := by
 unfold yg
 rw [Array.all_eq_true_iff_forall_mem]
 intro v hv
 simp only [List.mem_toArray,List.mem_cons,List.not_mem_nil,or_false] at hv
 rcases hv with rfl | rfl <;> rfl
theorem agp (w : World) (Z Z2 : Array Value) (t t2 : TypeId) : ((w.alloc (.cells Z t)).alloc (.cells Z2 t2)).heap[w.heap.size]? = some (.cells Z t (0,0)) ∧ ((w.alloc (.cells Z t)).alloc (.cells Z2 t2)).heap[w.heap.size + 1]? = some (.cells Z2 t2 (0,0)) ∧ Fr F0 w ((w.alloc (.cells Z t)).alloc (.cells Z2 t2)) := by
 have h := heap_alloc_new (w.alloc (.cells Z t)) (.cells Z2 t2)
 rw [World.size_alloc] at h
 exact ⟨oh (heap_alloc_new w _),h,((Fr.refl F0 w).alloc _).alloc _⟩
theorem ajq {P : Program} {c : Code} {Q : Exit → Act → World → Prop} {a : Act} {w : World} {Z Z2 : Array Value} {t t2 : TypeId} (k : ∀ W,W.heap[w.heap.size]? = some (.cells Z t (0,0)) → W.heap[w.heap.size + 1]? = some (.cells Z2 t2 (0,0)) → Fr F0 w W → Code.wp P c Q a W) : Code.wp P c Q a ((w.alloc (.cells Z t)).alloc (.cells Z2 t2)) :=
 k _ (agp w Z Z2 t t2).1 (agp w Z Z2 t t2).2.1 (agp w Z Z2 t t2).2.2
theorem ab6 (w : World) (Z Z2 C : Array Value) (t t2 : TypeId) : (((w.alloc (.cells Z t)).alloc (.cells Z2 t2)).setRow w.heap.size C).heap[w.heap.size + 1]? = some (.cells Z2 t2 (0,0)) := aac (by omega) (agp w Z Z2 t t2).2.1
theorem acu {P : Program} {c : Code} {Q : Exit → Act → World → Prop} {a : Act} {w : World} {Z Z2 C C2 : Array Value} {t t2 : TypeId} (k : ∀ W,W.heap[w.heap.size]? = some (.cells C t (0,0)) → W.heap[w.heap.size + 1]? = some (.cells C2 t2 (0,0)) → Fr F0 w W → Code.wp P c Q a W) :
  Code.wp P c Q a ((((w.alloc (.cells Z t)).alloc (.cells Z2 t2)).setRow w.heap.size C).setRow (w.heap.size + 1) C2) := by
 obtain ⟨h1,h2,h3⟩ := agp w Z Z2 t t2
 refine k _ ?_ ?_ ((h3.setRow (fun h => by omega) _).setRow (fun h => by omega) _)
 ·rw [dh _ _ _ _ (by omega),bf,h1]; rfl
 ·rw [bf,ab6]; rfl
theorem ae2 {pv : Option Addr} {w : World} {x a : Nat} {E : Int} (H1 : ∀ W,Fr F0 w W → Calls Tryz.prog 83 #[.pointer pv,.int .u8 (x : Int),.int .u64 (a : Int)] W fun e w' => e = .returned (.tuple #[vBv v0,.int .i64 E]) ∧ Fr F0 W w') (hE : E ≠ 0) : Calls Tryz.prog 111 #[.pointer pv,.int .u8 (x : Int),.int .u64 (a : Int)] w fun e w' => e = .returned (.tuple #[vBv v0,.agg #[.int .u64 0,.int .u64 0],.int .i64 E]) ∧ Fr F0 w w' := by
 have hb0 := aav
 have hb2 := ahd
 have oP := tq 0 0
 have sz0 := lu v0
 have oS0 := ru v0
 have q0 : (E != 0) = true := bne_iff_ne.2 hE
 simp only [iq] at H1 ⊢
 generalize cB v0 = C0 at *
 have HH := Lib.hid H1
 clear hE H1
 go_enter Tryz.func111,Tryz.ntmps111
 go_upto_region 1 with fail
 refine ajq fun W1 r6 r7 f1 => ?_
 have F1 := Lib.hid f1
 clear f1
 obtain ⟨g6,hg6⟩ : ∃ g,w.heap.size = g := ⟨_,rfl⟩
 obtain ⟨g7,hg7⟩ : ∃ g,w.heap.size + 1 = g := ⟨_,rfl⟩
 rw [hg6] at r6
 rw [hg7] at r7
 rw [hg7,hg6]
 have n67 : g6 ≠ g7 := by omega
 have n76 : g7 ≠ g6 := by omega
 have HG := Lib.hid (And.intro hg6 hg7)
 clear hg6 hg7
 go_wp2_with fail
 (with_reducible refine (HH.out _ F1.out).mono ?_); rintro e w2 ⟨rfl,f2⟩
 replace r6 := dn f2 r6
 replace r7 := dn f2 r7
 replace F1 := Lib.hid (F1.out.trans' f2)
 clear f2
 go_upto_region 2 with fail
 refine jc fun W3 N => ?_
 replace r6 := N.old r6
 replace r7 := N.old r7
 have F3 := Lib.hid (F1.out.trans' N.fr)
 clear N F1
 have r7' : (W3.setRow g6 C0).heap[g7]? = _ := aac n76 r7
 go_wp2_with fail
 refine bodyPost_ret (aae rfl _ _ g6 g7 _ _ _ _ _ _ _ _ rfl rfl (by rw [dh _ _ _ _ n67,bf,r6]; rfl) (by rw [bf,r7']; rfl) Tryz.underlying72 rfl (by rw [Tryz.szBVault,sz0]) Tryz.underlying76 rfl (by rw [Tryz.szPool]; rfl)) rfl ?_
 exact ⟨rfl,(F3.out.setRow (fun h => by have := HG.out; omega) _).setRow (fun h => by have := HG.out; omega) _⟩
theorem ajh {pv : Option Addr} {w : World} {x a : Nat} {u : Vlt} {E1 E : Int} (H1 : Calls Tryz.prog 111 #[.pointer pv,.int .u8 (x : Int),.int .u64 (a : Int)] w fun e w' => e = .returned (.tuple #[vBv v0,.agg #[.int .u64 0,.int .u64 0],.int .i64 E]) ∧ Fr F0 w w')  (hE : E ≠ 0) : Calls Tryz.prog 49 #[.pointer pv,.int .u8 (x : Int),.int .u64 (a : Int)] w fun e w' => e = .returned (.int .i64 E) ∧ Fr F0 w w' := by
 have sz0 := lu v0
 have oS0 := ru v0
 have q0 : (E != 0) = true := bne_iff_ne.2 hE
 simp only [iq] at H1
 generalize cB v0 = C0 at *
 replace H1 := Lib.hid H1
 clear hE
 go_enter Tryz.func49,Tryz.ntmps49
 go_wp2_with fail
 (with_reducible refine H1.out.mono ?_); rintro e w1 ⟨rfl,f1⟩
 have F2 := Lib.hid f1
 clear f1 H1
 have tb := ab6 w1
 have oP := tq 0 0
 go_upto_region 2 with fail
 refine acu fun W3 _ _ f3 => ?_
 have F3 := Lib.hid (F2.out.trans' f3)
 clear F2
 go_wp2_with fail
 go_ret
 exact ⟨rfl,F3.out⟩
theorem afx {pv : Option Addr} {w : World} {x v a : Nat} {u : Vlt} {E1 E : Int} (H1 : Calls Tryz.prog 111 #[.pointer pv,.int .u8 (x : Int),.int .u64 (a : Int)] w fun e w' => e = .returned (.tuple #[vBv v0,.agg #[.int .u64 0,.int .u64 0],.int .i64 E]) ∧ Fr F0 w w')  (hE : E ≠ 0) : Calls Tryz.prog 50 #[.pointer pv,.int .u8 (x : Int),.int .u8 (v : Int),.int .u64 (a : Int)] w fun e w' => e = .returned (.int .i64 E) ∧ Fr F0 w w' := by
 have sz0 := lu v0
 have oS0 := ru v0
 have q0 : (E != 0) = true := bne_iff_ne.2 hE
 simp only [iq] at H1
 generalize cB v0 = C0 at *
 replace H1 := Lib.hid H1
 clear hE
 go_enter Tryz.func50,Tryz.ntmps50
 go_wp2_with fail
 (with_reducible refine H1.out.mono ?_); rintro e w1 ⟨rfl,f1⟩
 have F2 := Lib.hid f1
 clear f1 H1
 have tb := ab6 w1
 have oP := tq 0 0
 go_upto_region 2 with fail
 refine acu fun W3 _ _ f3 => ?_
 have F3 := Lib.hid (F2.out.trans' f3)
 clear F2
 go_wp2_with fail
 go_ret
 exact ⟨rfl,F3.out⟩
section
variable {S : Nat → Prop} {w w' W : World} {p tp q fp vb : Nat} {M : Bok}
theorem KP.alm (h : KP S w p tp q fp vb M) : (gu 76 (.pointer (some ⟨p,15,none⟩))).run Tryz.prog w = .ok (.agg #[.int .u64 (M.pc : Int),.int .u64 (M.pn : Int)]) w := by
 refine run_loadAt_mid (P := Tryz.prog) w p 15 76 [.int .u64 (M.pc : Int),.int .u64 (M.pn : Int)] _ (fun j u hj => ?_) Tryz.underlying76 rfl (by rw [Tryz.szPool]; rfl)
 have hj' : j = 0 ∨ j = 1 := by have := (List.getElem?_eq_some_iff.1 hj).1; simp at this; omega
 rw [gq,h.at_,jg]
 rcases hj' with rfl | rfl <;> exact hj
theorem KP.aqr (h : KP S w p tp q fp vb M) (c i : Nat) : ∃ w',(jd 76 (.pointer (some ⟨p,15,none⟩)) (.agg #[.int .u64 (c : Int),.int .u64 (i : Int)])).run Tryz.prog w = .ok () w' ∧ QP S w p tp q fp vb { M with pc := c,pn := i } w' := by
 have e := amw (P := Tryz.prog) w 76 p 15 2 19 #[.int .u64 (c : Int),.int .u64 (i : Int)] (by decide) (by decide) Tryz.szPool
 rw [h.at_,ad7 (n := 2) (aBg ..) (by rfl) (tq _ _)] at e
 refine ⟨_,e,h.own (now := M.now) (dep := M.dep) ?_ (Fr.setRow (S := fun k => k = p) (Fr.refl _ _) (fun _ => rfl) _)⟩
 rw [ady h.at_]
 rfl
theorem adg (h : KP S w p tp q fp vb M) : Calls Tryz.prog 28 #[.pointer (some ⟨p,0,none⟩)] w fun e w' => e = .returned (.agg #[.int .u64 (M.pc : Int),.int .u64 (M.pn : Int)]) ∧ Fr F0 w w' := by
 have HK := Lib.hid (fun (W : World) (f : Fr F0 w W) => (h.fr0 f).alm)
 have oS := tq M.pc M.pn
 generalize (M.pc : Int) = c at *
 generalize (M.pn : Int) = i at *
 clear h
 go_enter Tryz.func28,Tryz.ntmps28
 go_upto_region 1 with fail
 refine eu fun W1 N => ?_
 have r2 := N.new
 have F1 := Lib.hid N.fr
 have hl := HK.out W1 N.fr
 clear N
 obtain ⟨g2,hg2⟩ : ∃ g,w.heap.size = g := ⟨_,rfl⟩
 rw [hg2] at r2 ⊢
 replace hg2 := Lib.hid hg2
 go_wp2_with fail
 refine bodyPost_ret (results_cell_row rfl _ _ g2 _ _ _ _ rfl (by rw [bf,r2]; rfl) Tryz.underlying76 rfl (by rw [Tryz.szPool]; rfl)) rfl ?_
 exact ⟨rfl,F1.out.setRow (fun h => by have := hg2.out; omega) _⟩
theorem aAz (h : KP S w p tp q fp vb M) {x y : Nat} (h1 : M.pc + x ≤ 4611686018427387904) (h2 : M.pn + y ≤ 4611686018427387904) :
  Calls Tryz.prog 89 #[.pointer (some ⟨p,15,none⟩),.int .u64 (x : Int),.int .u64 (y : Int)] w (EP S w p tp q fp vb { M with pc := M.pc + x,pn := M.pn + y } (.int .i64 0)) := by
 have H1 := Lib.hid (iy x true (decide_eq_true (by omega)))
 have H2 := Lib.hid (iy y true (decide_eq_true (by omega)))
 have HA := Lib.hid (fun w => aak M.pc x (by omega) (by omega) w)
 have HB := Lib.hid (fun w => aak M.pn y (by omega) (by omega) w)
 rw [(adQ h1).1,(adQ h1).2] at HA
 rw [(adQ h2).1,(adQ h2).2] at HB
 have HK := Lib.hid (fun (W : World) (f : Fr F0 w W) => h.fr0 f)
 have HE := Lib.hid (fun (W : World) (f : Fr F0 w W) => (h.fr0 f).at_)
 have HX := Lib.hid (fun (W : World) (f : Fr F0 w W) => QP.then (h.fr0 f |>.aom (M.pc + x)) (fun T k => k.ale (M.pn + y)))
 have HY := Lib.hid (fun (W : World) (f : Fr F0 w W) => QP.then (h.fr0 f |>.ale (M.pn + y)) (fun T k => k.aom (M.pc + x)))
 unfold bkC at HE
 unfold EP
 generalize M.pc + x = c' at *
 generalize M.pn + y = i' at *
 generalize (M.now : Int) = now at *
 generalize (M.pc : Int) = pc at *
 generalize (M.pn : Int) = pn at *
 generalize (M.dep : Int) = dep at *
 clear h h1 h2
 have e0 := HE.out w (Fr.refl _ _)
 go_enter Tryz.func89,Tryz.ntmps89
 go_wp2_with fail
 (with_reducible refine (H1.out _).mono ?_); rintro e w1 ⟨rfl,hw⟩; replace hw := hw.symm; subst hw
 go_wp2_with fail
 (with_reducible refine (H2.out _).mono ?_); rintro e w1 ⟨rfl,hw⟩; replace hw := hw.symm; subst hw
 go_wp2_with fail
 (with_reducible refine (HA.out _).mono ?_); rintro e w1 ⟨rfl,f1⟩
 have e1 := HE.out w1 f1
 have F1 := Lib.hid f1
 clear f1 e0
 go_wp2_with fail
 (with_reducible refine (HB.out _).mono ?_); rintro e w2 ⟨rfl,f2⟩
 have F2 := Lib.hid (F1.out.trans' f2)
 have e2 := HE.out w2 F2.out
 clear f2 e1
 go_wp2_with fail
 all_goals
  go_ret
  first
   |exact ⟨rfl,QP.ahead F2.out (HX.out w2 F2.out)⟩
   |exact ⟨rfl,QP.ahead F2.out (HY.out w2 F2.out)⟩
end
theorem pa_kp {x : Vlt} (h : x.coll ≤ 4611686018427387904) : paV x.coll x.goi (x.iss + x.goi) true = kpN x := by
 have hk := aqy x
 unfold paV ptA
 by_cases hg : 0 < x.goi
 ·have e : ptQ x.coll x.goi (x.iss + x.goi) true = kpN x := by
   unfold ptQ kpN upP
   rw [if_pos hg]
   by_cases h1 : x.coll * x.goi % (x.iss + x.goi) = 0
   ·rw [if_neg (by simp [h1]),if_pos h1]
   ·rw [if_pos ⟨rfl,h1⟩,if_neg h1]
  rw [e,if_pos ⟨h,by omega⟩,if_pos (by omega)]
 ·have hg0 : x.goi = 0 := by omega
  have e : kpN x = 0 := by unfold kpN; rw [if_neg hg]
  have e2 : ptQ x.coll x.goi (x.iss + x.goi) true = 0 := by unfold ptQ; rw [hg0]; simp
  rw [e,e2]
  split <;> rfl
theorem VX.aDp {w : World} {g : Nat} {x : Vlt} (h : VX w g x) : VX (w.setCell ⟨g,22,none⟩ (.int .u64 0)) g { x with iss := 0 } := h.agj 0
theorem VX.aDo {w : World} {g : Nat} {x : Vlt} (h : VX w g x) : VX (w.setCell ⟨g,25,none⟩ (.int .u64 0)) g { x with lea := 0 } := h.aqs 0
section
variable {S : Nat → Prop} {w w' W : World} {p tp q fp vb : Nat} {M : Bok}
theorem atg (h : KP S w p tp q fp vb M) {x : Nat} {y : Vlt} (hx : x < 256) (hy : gOf M.vs x = some y) : Calls Tryz.prog 88 #[.pointer (some ⟨p,0,none⟩),.int .u8 (x : Int)] w fun e w' => e = .returned (.tuple #[vBv y,.int .i64 0]) ∧ Fr F0 w w' := by
 have := afg h hx
 rw [hy] at this
 exact this
theorem ayf (h : KP S w p tp q fp vb M) (hM : M.Ok) {x : Nat} (hx : x < 256) {y : Vlt} (hg : gOf M.vs x = some y) (hy : M.vs[atV M.vs x]? = some y) (hyw : y.who = x) (hf : y.fal = false) :
  Calls Tryz.prog 26 #[.pointer (some ⟨p,0,none⟩),.int .u8 (x : Int)] w (EP S w p tp q fp vb { M with pc := M.pc + (y.coll - kpN y),pn := M.pn + y.iss,vs := M.vs.set (atV M.vs x) { y with coll := kpN y,iss := 0,lea := 0,fal := true } } (.int .i64 0)) := by
 have hvk := hM.vok y (jh hy)
 have hbu := hvk.bur
 have hxl := hvk.lea
 unfold Vlt.bur at hbu
 have hcl := hM.uf hy
 have hin := hM.inn
 have hpd := hM.paid
 have htk := hM.tok
 have hms := hM.most
 have hiss := qx Vlt.iss M.vs y (jh hy)
 have hcs := qx Vlt.coll M.vs y (jh hy)
 have hhe := hM.held
 have hkl := aqy y
 have hpk := pa_kp (x := y) (by omega)
 obtain ⟨k,hk⟩ : ∃ k,k = kpN y := ⟨_,rfl⟩
 rw [← hk] at hpk hkl ⊢
 obtain ⟨dd,hdd⟩ : ∃ k',k' = y.coll - k := ⟨_,rfl⟩
 rw [← hdd]
 obtain ⟨b,hb⟩ : ∃ b,b = y.iss + y.goi := ⟨_,rfl⟩
 rw [← hb] at hpk
 have H1 := Lib.hid (atg h hx hg)
 have H2 := Lib.hid (gy y hf)
 have HM := Lib.hid (fun (W : World) (f : Fr F0 w W) => zl.start h f)
 simp only [iq] at H1 H2
 have m0 : IntKind.u64.wrap ((y.iss : Int) + (y.goi : Int)) = (b : Int) := by rw [IntWalk.u64_in _ (by omega)]; omega
 have m1 : IntKind.u64.wrap ((y.coll : Int) - (k : Int)) = (dd : Int) := by rw [IntWalk.u64_in _ (by omega)]; omega
 have HA := Lib.hid (fun (W : World) => ae1 y.coll y.goi b true (by omega) (by omega) W)
 rw [hpk] at HA
 generalize paE y.coll y.goi b true = E at *
 have HT := Lib.hid (fun (W : World) (T : Nat → Prop) (kp0 : KP T W p tp q fp vb M) => aAz (x := dd) (y := y.iss) kp0 (by omega) (by omega))
 have HPu := Lib.hid (fun (W : World) (T : Nat → Prop) (kp0 : KP T W p tp q fp vb { M with pc := M.pc + dd,pn := M.pn + y.iss }) => ug kp0 (l := M.vs.set (atV M.vs x) { y with coll := k,iss := 0,lea := 0,fal := true }) (y := { y with coll := k,iss := 0,lea := 0,fal := true }) (by rw [show ({ y with coll := k,iss := 0,lea := 0,fal := true } : Vlt).who = y.who from rfl,hyw]; exact hx) (aok hM hy (z := { y with coll := k,iss := 0,lea := 0,fal := true }) rfl))
 simp only [iq] at HPu
 obtain ⟨sz,oS,c0,c21,c22,c23,c24,c25,c26⟩ := cBf y
 try dsimp only at c0 c21 c22 c23 c24 c25 c26
 obtain ⟨C,hC⟩ : ∃ C,C = cB y := ⟨_,rfl⟩
 rw [← hC] at H1 H2 sz oS c0 c21 c22 c23 c24 c25 c26
 have d21 := ay c21
 have d22 := ay c22
 have d24 := ay c24
 clear c0 c23 c25 c26
 replace hC := Lib.hid hC
 clear h hM hx hg hy hyw hvk hbu hxl hcl hin hpd htk hms hiss hcs hhe hkl hpk hk hdd hb
 unfold EP
 go_enter Tryz.func26,Tryz.ntmps26
 go_wp2_with fail
 (with_reducible refine H1.out.mono ?_); rintro e w1 ⟨rfl,f1⟩
 have F2 := Lib.hid f1
 clear f1 H1
 go_wp2_with fail
 (with_reducible refine (H2.out _).mono ?_); rintro e w2 ⟨rfl,f2⟩
 replace F2 := Lib.hid (F2.out.trans' f2)
 clear f2 H2
 go_upto_region 2 with fail
 refine jc fun w4 N => ?_
 have r7 := N.new
 have m := Lib.hid ((HM.out _ F2.out).add N.fr (Nat.le_refl _) (Array.getElem?_eq_some_iff.1 r7).1)
 clear N F2 HM
 obtain ⟨g7,hg7⟩ : ∃ g,w2.heap.size = g := ⟨_,rfl⟩
 rw [hg7] at r7 m ⊢
 clear hg7
 go_wp2_with fail
 (with_reducible refine (HA.out _).mono ?_); rintro e w4 ⟨rfl,f4⟩
 replace r7 := dn f4 r7
 replace m := Lib.hid (m.out.fr0 f4)
 clear f4
 go_upto_region 5 with fail
 have md := Lib.hid (m.out.fr0 (Fr.refl F0 w4).drew)
 clear m
 refine zn (S := (fun w' => w'.heap[g7]? = some (.cells C 72 (0,0)))) ?_ fun aj => ?_
 ·exact(by ((try dsimp only) <;> (exact r7)))
 refine au 0 ?_
 refine au 1 ?_
 refine au 2 ?_
 refine au 3 ?_
 refine au 4 ?_
 refine au 5 ?_
 refine au 6 ?_
 refine au 7 ?_
 refine au 8 ?_
 refine zi 9 fun K hK => ?_
 go_simp
 ((with_reducible refine (HT.out _ _ md.out.kp).mono ?_); rintro e w5 ⟨rfl,h5⟩; have r8 := md.out.row h5 (.inr rfl) r7; obtain ⟨T4,m4⟩ := md.out.next h5; have m := Lib.hid m4; clear h5 m4)
 refine rpu hK (by ((try dsimp only) <;> (first | exact aj | exact r8))) fun aj => ?_
 clear hK K
 refine au 10 ?_
 refine aap ?_
 go_upto_region 9 with fail
 have x4 := (((VX.agr (show VX w5 g7 y by unfold VX; rw [← hC.out]; exact r8) k).aDp).aDo).aJf true
 have f5 := ((((Fr.refl (fun k => False ∨ k = g7) w5).setCell (p := ⟨g7,21,none⟩) (fun _ => .inr rfl) (.int .u64 (k : Int))).setCell (p := ⟨g7,22,none⟩) (fun _ => .inr rfl) (.int .u64 0)).setCell (p := ⟨g7,25,none⟩) (fun _ => .inr rfl) (.int .u64 0)).setCell (p := ⟨g7,26,none⟩) (fun _ => .inr rfl) (.bool true)
 replace m := Lib.hid (m.out.box f5)
 clear f5 r7 r8
 obtain ⟨w4,hW5⟩ : ∃ X,X = (((w5.setCell ⟨g7,21,none⟩ (.int .u64 (k : Int))).setCell ⟨g7,22,none⟩ (.int .u64 0)).setCell ⟨g7,25,none⟩ (.int .u64 0)).setCell ⟨g7,26,none⟩ (.bool true) := ⟨_,rfl⟩
 rw [← hW5] at x4 m ⊢
 clear hW5
 have r7 := x4
 clear x4
 unfold VX at r7
 obtain ⟨sz,oS,c0,c21,c22,c23,c24,c25,c26⟩ := cBf { y with coll := k,iss := 0,lea := 0,fal := true }
 try dsimp only at c0 c21 c22 c23 c24 c25 c26
 obtain ⟨C,hC⟩ : ∃ C,C = cB { y with coll := k,iss := 0,lea := 0,fal := true } := ⟨_,rfl⟩
 rw [← hC] at r7 sz oS c0 c21 c22 c23 c24 c25 c26
 clear c0 c21 c22 c23 c24 c25 c26
 replace hC := Lib.hid hC
 have HP2 := HPu.out
 rw [← hC.out] at HP2
 replace HP2 := Lib.hid HP2
 go_wp2_with fail
 (with_reducible refine (HP2.out _ _ m.out.kp).mono ?_); rintro e w6 ⟨rfl,h6⟩
 replace m := Lib.hid (m.out.last h6)
 clear h6 r7
 go_wp2_with fail
 go_ret
 exact ⟨rfl,m.out⟩
end
section
variable {S : Nat → Prop} {w w' W : World} {p tp q fp vb : Nat} {M : Bok}
theorem ae3 (h : KP S w p tp q fp vb M) (hM : M.Ok) {x a : Nat} (hx : x < 256) (ha : a < 18446744073709551616) (hb : ¬ badM a) {y : Vlt} (hg : gOf M.vs x = some y) (hy : M.vs[atV M.vs x]? = some y) (hc : y.goi < a) :
  Calls Tryz.prog 111 #[.pointer (some ⟨p,0,none⟩),.int .u8 (x : Int),.int .u64 (a : Int)] w fun e w' => e = .returned (.tuple #[vBv v0,.agg #[.int .u64 0,.int .u64 0],.int .i64 16]) ∧ Fr F0 w w' := by
 have hvk := hM.vok y (jh hy)
 have hbu := hvk.bur
 have hbb : ¬ (a = 0 ∨ 4611686018427387904 < a) := hb
 unfold Vlt.bur at hbu
 have HH := Lib.hid (fun (W : World) (f : Fr F0 w W) => iw (h.fr0 f) hx hb hg)
 have HK := Lib.hid (fun (W : World) (f : Fr F0 w W) => h.fr0 f)
 simp only [iq] at HH ⊢
 have hb0 := aav
 have hb2 := ahd
 have oP := tq 0 0
 have sz0 := lu v0
 have oS0 := ru v0
 generalize cB v0 = C0 at *
 have HA := Lib.hid (fun (W : World) => vw y.goi a (by omega) ha W)
 rw [show sbE y.goi a = 16 by unfold sbE; rw [if_pos (by omega),if_neg (by omega)]] at HA
 generalize sbV y.goi a = z at *
 obtain ⟨sz,oS,c0,c21,c22,c23,c24,c25,c26⟩ := cBf y
 obtain ⟨C,hC⟩ : ∃ C,C = cB y := ⟨_,rfl⟩
 rw [← hC] at HH sz oS c0 c21 c22 c23 c24 c25 c26
 have d24 := ay c24
 replace hC := Lib.hid hC
 clear h hM hx ha hb hg hy hvk hbu hbb hc HK
 go_enter Tryz.func111,Tryz.ntmps111
 go_upto_region 1 with fail
 refine ajq fun W1 r6 r7 f1 => ?_
 have F1 := Lib.hid f1
 clear f1
 obtain ⟨g6,hg6⟩ : ∃ g,w.heap.size = g := ⟨_,rfl⟩
 obtain ⟨g7,hg7⟩ : ∃ g,w.heap.size + 1 = g := ⟨_,rfl⟩
 rw [hg6] at r6
 rw [hg7] at r7
 rw [hg7,hg6]
 have n67 : g6 ≠ g7 := by omega
 have n76 : g7 ≠ g6 := by omega
 have HG := Lib.hid (And.intro hg6 hg7)
 have l7 : g7 < W1.heap.size := (Array.getElem?_eq_some_iff.1 r7).1
 clear hg6 hg7
 go_wp2_with fail
 (with_reducible refine (HH.out _ F1.out).mono ?_); rintro e w2 ⟨rfl,f2⟩
 replace r6 := dn f2 r6
 replace r7 := dn f2 r7
 replace F1 := Lib.hid (F1.out.trans' f2)
 have l2 := f2.size
 clear f2 HH
 go_upto_region 2 with fail
 refine jc fun w4 N => ?_
 replace r6 := N.old r6
 replace r7 := N.old r7
 have r9 := N.new
 have F := Lib.hid (F1.out.trans' N.fr)
 have l9 : w2.heap.size < w4.heap.size := (Array.getElem?_eq_some_iff.1 r9).1
 clear N F1
 obtain ⟨g9,hg9⟩ : ∃ g,w2.heap.size = g := ⟨_,rfl⟩
 rw [hg9] at r9 ⊢
 have n69 : g6 ≠ g9 := by have := HG.out; omega
 have n79 : g7 ≠ g9 := by have := HG.out; omega
 have HG9 := Lib.hid (And.intro hg9 (And.intro l2 l7))
 clear hg9 l2 l7
 go_wp2_with fail
 (with_reducible refine (HA.out _).mono ?_); rintro e w4 ⟨rfl,f4⟩
 replace r6 := dn f4 r6
 replace r7 := dn f4 r7
 replace r9 := dn f4 r9
 replace F := Lib.hid (F.out.trans' f4)
 clear f4
 have r7' : (w4.setRow g6 C0).heap[g7]? = _ := aac n76 r7
 go_wp2_with fail
 refine bodyPost_ret (aae rfl _ _ g6 g7 _ _ _ _ _ _ _ _ rfl rfl (by rw [dh _ _ _ _ n67,bf,r6]; rfl) (by rw [bf,r7']; rfl) Tryz.underlying72 rfl (by rw [Tryz.szBVault,sz0]) Tryz.underlying76 rfl (by rw [Tryz.szPool]; rfl)) rfl ?_
 exact ⟨rfl,(F.out.setRow (fun h => by have := HG.out; omega) _).setRow (fun h => by have := HG.out; omega) _⟩
theorem aci (h : KP S w p tp q fp vb M) (hM : M.Ok) {x a : Nat} (hx : x < 256) (ha : a < 18446744073709551616) (hb : ¬ badM a) {y : Vlt} (hg : gOf M.vs x = some y) (hy : M.vs[atV M.vs x]? = some y) (hf : y.fal = false) (hc : ¬ y.goi < a) :
  Calls Tryz.prog 111 #[.pointer (some ⟨p,0,none⟩),.int .u8 (x : Int),.int .u64 (a : Int)] w fun e w' => e = .returned (.tuple #[vBv { y with goi := y.goi - a },.agg #[.int .u64 (M.pc : Int),.int .u64 (M.pn : Int)],.int .i64 0]) ∧ Fr F0 w w' := by
 obtain ⟨z,hz⟩ : ∃ z,z = y.goi - a := ⟨_,rfl⟩
 rw [← hz]
 have oP := tq M.pc M.pn
 have hvk := hM.vok y (jh hy)
 have hbu := hvk.bur
 have hbb : ¬ (a = 0 ∨ 4611686018427387904 < a) := hb
 unfold Vlt.bur at hbu
 have HH := Lib.hid (fun (W : World) (f : Fr F0 w W) => iw (h.fr0 f) hx hb hg)
 have HK := Lib.hid (fun (W : World) (f : Fr F0 w W) => h.fr0 f)
 simp only [iq] at HH ⊢
 have HA := Lib.hid (fun (W : World) => vw y.goi a (by omega) ha W)
 rw [(sbQ (show a ≤ y.goi by omega) (by omega)).1,(sbQ (show a ≤ y.goi by omega) (by omega)).2,← hz] at HA
 obtain ⟨sz,oS,c0,c21,c22,c23,c24,c25,c26⟩ := cBf y
 obtain ⟨C,hC⟩ : ∃ C,C = cB y := ⟨_,rfl⟩
 rw [← hC] at HH sz oS c0 c21 c22 c23 c24 c25 c26
 have d24 := ay c24
 rw [hf] at c26
 have d26 := ay c26
 replace hC := Lib.hid hC
 clear h hM hx ha hb hg hy hvk hbu hbb hc hz
 go_enter Tryz.func111,Tryz.ntmps111
 go_upto_region 1 with fail
 refine ajq fun W1 r6 r7 f1 => ?_
 have F1 := Lib.hid f1
 clear f1
 obtain ⟨g6,hg6⟩ : ∃ g,w.heap.size = g := ⟨_,rfl⟩
 obtain ⟨g7,hg7⟩ : ∃ g,w.heap.size + 1 = g := ⟨_,rfl⟩
 rw [hg6] at r6
 rw [hg7] at r7
 rw [hg7,hg6]
 have n67 : g6 ≠ g7 := by omega
 have n76 : g7 ≠ g6 := by omega
 have HG := Lib.hid (And.intro hg6 hg7)
 have l7 : g7 < W1.heap.size := (Array.getElem?_eq_some_iff.1 r7).1
 clear hg6 hg7
 go_wp2_with fail
 (with_reducible refine (HH.out _ F1.out).mono ?_); rintro e w2 ⟨rfl,f2⟩
 replace r6 := dn f2 r6
 replace r7 := dn f2 r7
 replace F1 := Lib.hid (F1.out.trans' f2)
 have l2 := f2.size
 clear f2 HH
 go_upto_region 2 with fail
 refine jc fun w4 N => ?_
 replace r6 := N.old r6
 replace r7 := N.old r7
 have r9 := N.new
 have F := Lib.hid (F1.out.trans' N.fr)
 have l9 : w2.heap.size < w4.heap.size := (Array.getElem?_eq_some_iff.1 r9).1
 clear N F1
 obtain ⟨g9,hg9⟩ : ∃ g,w2.heap.size = g := ⟨_,rfl⟩
 rw [hg9] at r9 ⊢
 have n69 : g6 ≠ g9 := by have := HG.out; omega
 have n79 : g7 ≠ g9 := by have := HG.out; omega
 have HG9 := Lib.hid (And.intro hg9 (And.intro l2 l7))
 clear hg9 l2 l7
 go_wp2_with fail
 (with_reducible refine (HA.out _).mono ?_); rintro e w4 ⟨rfl,f4⟩
 replace r6 := dn f4 r6
 replace r7 := dn f4 r7
 replace r9 := dn f4 r9
 replace F := Lib.hid (F.out.trans' f4)
 clear f4
 have e0 := (HK.out _ F.out).at_
 unfold bkC at e0
 have hl := (HK.out _ F.out).alm
 go_upto_region 8 with fail
 have l6 : g6 < w4.heap.size ∧ g7 < w4.heap.size ∧ g9 < w4.heap.size := ⟨(Array.getElem?_eq_some_iff.1 r6).1,(Array.getElem?_eq_some_iff.1 r7).1,(Array.getElem?_eq_some_iff.1 r9).1⟩
 refine jc fun w5 N => ?_
 have r12 := N.new
 replace r6 := N.old r6
 replace r7 := N.old r7
 replace r9 := N.old r9
 have l12 : w4.heap.size < w5.heap.size := (Array.getElem?_eq_some_iff.1 r12).1
 replace F := Lib.hid (F.out.trans' N.fr)
 clear N e0 hl HK
 obtain ⟨g12,aIu⟩ : ∃ g,w4.heap.size = g := ⟨_,rfl⟩
 rw [aIu] at r12 l6 ⊢
 have n6 : g6 ≠ g12 ∧ g7 ≠ g12 ∧ g9 ≠ g12 := ⟨by omega,by omega,by omega⟩
 have HG12 := Lib.hid (show w.heap.size ≤ g12 by have := HG.out; omega)
 clear aIu l12 l6
 go_upto_region 15 with fail
 have x9 : VX (w5.setCell ⟨g9,24,none⟩ (.int .u64 (z : Int))) g9 { y with goi := z } := VX.ave (show VX w5 g9 y by unfold VX; rw [← hC.out]; exact r9) z
 have f5 := (Fr.refl (fun k => k = g9) w5).setCell (p := ⟨g9,24,none⟩) (fun _ => rfl) (.int .u64 (z : Int))
 have x6 := f5.keeps n69 r6
 have x7 := f5.keeps n79 r7
 have x12 := f5.keeps n6.2.2.symm r12
 clear f5
 replace F := Lib.hid (F.out.setCell (p := ⟨g9,24,none⟩) (fun h => by have := HG.out; have := HG9.out; have h' : g9 < w.heap.size := h; omega) (.int .u64 (z : Int)))
 clear r6 r7 r9 r12
 obtain ⟨w5,hW5⟩ : ∃ X,X = w5.setCell ⟨g9,24,none⟩ (.int .u64 (z : Int)) := ⟨_,rfl⟩
 rw [← hW5] at x6 x7 x9 x12 F ⊢
 clear hW5
 have r6 := x6
 have r7 := x7
 have r9 := x9
 have r12 := x12
 clear x6 x7 x9 x12
 unfold VX at r9
 obtain ⟨sz,oS,c0,c21,c22,c23,c24,c25,c26⟩ := cBf { y with goi := z }
 try dsimp only at c0 c21 c22 c23 c24 c25 c26
 obtain ⟨C,hC⟩ : ∃ C,C = cB { y with goi := z } := ⟨_,rfl⟩
 rw [← hC] at r9 sz oS c0 c21 c22 c23 c24 c25 c26
 have d21 := ay c21
 replace hC := Lib.hid hC
 have FD := Lib.hid F.out.drew
 have s7 := aac (w := w5.drew) (c := C) n76 r7
 have s12 := aac (w := w5.drew) (c := C) n6.1.symm r12
 go_region
 go_wp2_with fail
 refine bodyPost_ret (aae rfl _ _ g6 g7 _ _ C _ _ _ _ _ rfl rfl (by rw [dh _ _ _ _ n67,bf]; show (w5.heap[g6]?).map _ = _; rw [r6]; rfl) (by rw [bf,s7]; rfl) Tryz.underlying72 rfl (by rw [Tryz.szBVault,sz]) Tryz.underlying76 rfl (by rw [Tryz.szPool]; rfl)) rfl ?_
 exact ⟨by rw [← hC.out]; rfl,(FD.out.setRow (fun h => by have := HG.out; omega) _).setRow (fun h => by have := HG.out; omega) _⟩
theorem abb (h : KP S w p tp q fp vb M) (hM : M.Ok) {x a : Nat} (hx : x < 256) (ha : a < 18446744073709551616) (hb : ¬ badM a) {y : Vlt} (hg : gOf M.vs x = some y) (hy : M.vs[atV M.vs x]? = some y) (hf : y.fal = true) (hc : ¬ y.goi < a) :
  Calls Tryz.prog 111 #[.pointer (some ⟨p,0,none⟩),.int .u8 (x : Int),.int .u64 (a : Int)] w fun e w' => e = .returned (.tuple #[vBv { y with coll := y.coll - y.coll * a / y.goi,goi := y.goi - a },.agg #[.int .u64 ((M.pc + y.coll * a / y.goi : Nat) : Int),.int .u64 (M.pn : Int)],.int .i64 0]) ∧ Fr F0 w w' := by
 have hbb0 : ¬ (a = 0 ∨ 4611686018427387904 < a) := hb
 have hcl := hM.uf hy
 have hin := hM.inn
 have hpd := hM.paid
 have hcs := qx Vlt.coll M.vs y (jh hy)
 have hhe := hM.held
 have htk := hM.tok
 have hms := hM.most
 have hpl : y.coll * a / y.goi ≤ y.coll := aeg (by omega)
 obtain ⟨hs1,hs2⟩ := al2 (c := y.coll) (i := y.goi) (a := a) (by omega) (by omega) (by omega)
 obtain ⟨z,hz⟩ : ∃ z,z = y.goi - a := ⟨_,rfl⟩
 obtain ⟨pt,hpt⟩ : ∃ z,z = y.coll * a / y.goi := ⟨_,rfl⟩
 rw [← hpt] at hpl hs1 ⊢
 obtain ⟨z2,hz2⟩ : ∃ z,z = y.coll - pt := ⟨_,rfl⟩
 obtain ⟨c2,hc2⟩ : ∃ z,z = M.pc + pt := ⟨_,rfl⟩
 rw [← hz,← hz2,← hc2]
 have oP := tq M.pc M.pn
 have oP2 := tq c2 M.pn
 have m1 : IntKind.u64.wrap ((y.coll : Int) - (pt : Int)) = (z2 : Int) := by rw [IntWalk.u64_in _ (by omega)]; omega
 have HP := Lib.hid (fun (W : World) => ae1 y.coll a y.goi false ha (by have := (hM.vok y (jh hy)).bur; unfold Vlt.bur at this; omega) W)
 rw [hs1,hs2] at HP
 have HT := Lib.hid (fun (W : World) (g : Nat) (r : W.heap[g]? = some (.cells #[.int .u64 (M.pc : Int),.int .u64 (M.pn : Int)] 76 (0,0))) => aeu (w := W) (p := g) (c := M.pc) (i := M.pn) ⟨r,by omega,by omega⟩ pt 0 (by omega) (by omega))
 obtain ⟨t1,t2⟩ := aqp (c := M.pc) (i := M.pn) (x := pt) (y := 0) ⟨by omega,by omega⟩ ⟨by omega,by omega⟩
 rw [t1,t2,t2,Nat.add_zero,← hc2,show ((0 : Nat) : Int) = 0 from rfl] at HT
 have hvk := hM.vok y (jh hy)
 have hbu := hvk.bur
 have hbb : ¬ (a = 0 ∨ 4611686018427387904 < a) := hb
 unfold Vlt.bur at hbu
 have HH := Lib.hid (fun (W : World) (f : Fr F0 w W) => iw (h.fr0 f) hx hb hg)
 have HK := Lib.hid (fun (W : World) (f : Fr F0 w W) => h.fr0 f)
 simp only [iq] at HH ⊢
 have HA := Lib.hid (fun (W : World) => vw y.goi a (by omega) ha W)
 rw [(sbQ (show a ≤ y.goi by omega) (by omega)).1,(sbQ (show a ≤ y.goi by omega) (by omega)).2,← hz] at HA
 obtain ⟨sz,oS,c0,c21,c22,c23,c24,c25,c26⟩ := cBf y
 obtain ⟨C,hC⟩ : ∃ C,C = cB y := ⟨_,rfl⟩
 rw [← hC] at HH sz oS c0 c21 c22 c23 c24 c25 c26
 have d21 := ay c21
 have d24 := ay c24
 rw [hf] at c26
 have d26 := ay c26
 replace hC := Lib.hid hC
 clear h hM hx ha hb hg hy hvk hbu hbb hc hz hbb0 hcl hin hpd hcs hhe htk hms hpl hs1 hs2 hpt hz2 hc2 t1 t2
 go_enter Tryz.func111,Tryz.ntmps111
 go_upto_region 1 with fail
 refine ajq fun W1 r6 r7 f1 => ?_
 have F1 := Lib.hid f1
 clear f1
 obtain ⟨g6,hg6⟩ : ∃ g,w.heap.size = g := ⟨_,rfl⟩
 obtain ⟨g7,hg7⟩ : ∃ g,w.heap.size + 1 = g := ⟨_,rfl⟩
 rw [hg6] at r6
 rw [hg7] at r7
 rw [hg7,hg6]
 have n67 : g6 ≠ g7 := by omega
 have n76 : g7 ≠ g6 := by omega
 have HG := Lib.hid (And.intro hg6 hg7)
 have l7 : g7 < W1.heap.size := (Array.getElem?_eq_some_iff.1 r7).1
 clear hg6 hg7
 go_wp2_with fail
 (with_reducible refine (HH.out _ F1.out).mono ?_); rintro e w2 ⟨rfl,f2⟩
 replace r6 := dn f2 r6
 replace r7 := dn f2 r7
 replace F1 := Lib.hid (F1.out.trans' f2)
 have l2 := f2.size
 clear f2 HH
 go_upto_region 2 with fail
 refine jc fun w4 N => ?_
 replace r6 := N.old r6
 replace r7 := N.old r7
 have r9 := N.new
 have F := Lib.hid (F1.out.trans' N.fr)
 have l9 : w2.heap.size < w4.heap.size := (Array.getElem?_eq_some_iff.1 r9).1
 clear N F1
 obtain ⟨g9,hg9⟩ : ∃ g,w2.heap.size = g := ⟨_,rfl⟩
 rw [hg9] at r9 ⊢
 have n69 : g6 ≠ g9 := by have := HG.out; omega
 have n79 : g7 ≠ g9 := by have := HG.out; omega
 have HG9 := Lib.hid (And.intro hg9 (And.intro l2 l7))
 clear hg9 l2 l7
 go_wp2_with fail
 (with_reducible refine (HA.out _).mono ?_); rintro e w4 ⟨rfl,f4⟩
 replace r6 := dn f4 r6
 replace r7 := dn f4 r7
 replace r9 := dn f4 r9
 replace F := Lib.hid (F.out.trans' f4)
 clear f4
 have e0 := (HK.out _ F.out).at_
 unfold bkC at e0
 have hl := (HK.out _ F.out).alm
 go_upto_region 8 with fail
 have l6 : g6 < w4.heap.size ∧ g7 < w4.heap.size ∧ g9 < w4.heap.size := ⟨(Array.getElem?_eq_some_iff.1 r6).1,(Array.getElem?_eq_some_iff.1 r7).1,(Array.getElem?_eq_some_iff.1 r9).1⟩
 refine jc fun w5 N => ?_
 have r12 := N.new
 replace r6 := N.old r6
 replace r7 := N.old r7
 replace r9 := N.old r9
 have l12 : w4.heap.size < w5.heap.size := (Array.getElem?_eq_some_iff.1 r12).1
 replace F := Lib.hid (F.out.trans' N.fr)
 clear N e0 hl HK
 obtain ⟨g12,aIu⟩ : ∃ g,w4.heap.size = g := ⟨_,rfl⟩
 rw [aIu] at r12 l6 ⊢
 have n6 : g6 ≠ g12 ∧ g7 ≠ g12 ∧ g9 ≠ g12 := ⟨by omega,by omega,by omega⟩
 have HG12 := Lib.hid (show w.heap.size ≤ g12 by have := HG.out; omega)
 clear aIu l12 l6
 go_wp2_with fail
 (with_reducible refine (HP.out _).mono ?_); rintro e w5 ⟨rfl,f4⟩
 replace r6 := dn f4 r6
 replace r7 := dn f4 r7
 replace r9 := dn f4 r9
 replace r12 := dn f4 r12
 replace F := Lib.hid (F.out.trans' f4)
 clear f4
 go_wp2_with fail
 (with_reducible refine (HT.out _ _ r12).mono ?_); rintro e w5 ⟨rfl,d12,f12⟩
 have x6 := f12.keeps n6.1 r6
 have x7 := f12.keeps n6.2.1 r7
 have x9 := f12.keeps n6.2.2 r9
 replace F := Lib.hid (F.out.trans f12 fun i hi e => by have h1 : i = g12 := e; have h2 := HG12.out; omega)
 clear r6 r7 r9 r12 f12
 have r6 := x6
 have r7 := x7
 have r9 := x9
 have r12 := d12.at_
 clear x6 x7 x9 d12 HT
 go_upto_region 14 with fail
 have x9 : VX (w5.setCell ⟨g9,21,none⟩ (.int .u64 (z2 : Int))) g9 { y with coll := z2 } := VX.agr (show VX w5 g9 y by unfold VX; rw [← hC.out]; exact r9) z2
 have f5 := (Fr.refl (fun k => k = g9) w5).setCell (p := ⟨g9,21,none⟩) (fun _ => rfl) (.int .u64 (z2 : Int))
 have x6 := f5.keeps n69 r6
 have x7 := f5.keeps n79 r7
 have x12 := f5.keeps n6.2.2.symm r12
 clear f5
 replace F := Lib.hid (F.out.setCell (p := ⟨g9,21,none⟩) (fun h => by have := HG.out; have := HG9.out; have h' : g9 < w.heap.size := h; omega) (.int .u64 (z2 : Int)))
 clear r6 r7 r9 r12
 obtain ⟨w5,hW5⟩ : ∃ X,X = w5.setCell ⟨g9,21,none⟩ (.int .u64 (z2 : Int)) := ⟨_,rfl⟩
 rw [← hW5] at x6 x7 x9 x12 F ⊢
 clear hW5
 have r6 := x6
 have r7 := x7
 have r9 := x9
 have r12 := x12
 clear x6 x7 x9 x12
 unfold VX at r9
 obtain ⟨sz,oS,c0,c21,c22,c23,c24,c25,c26⟩ := cBf { y with coll := z2 }
 try dsimp only at c0 c21 c22 c23 c24 c25 c26
 obtain ⟨C,hC⟩ : ∃ C,C = cB { y with coll := z2 } := ⟨_,rfl⟩
 rw [← hC] at r9 sz oS c0 c21 c22 c23 c24 c25 c26
 have d24 := ay c24
 replace hC := Lib.hid hC
 go_upto_region 15 with fail
 have x9 : VX (w5.setCell ⟨g9,24,none⟩ (.int .u64 (z : Int))) g9 { y with coll := z2,goi := z } := VX.ave (show VX w5 g9 { y with coll := z2 } by unfold VX; rw [← hC.out]; exact r9) z
 have f5 := (Fr.refl (fun k => k = g9) w5).setCell (p := ⟨g9,24,none⟩) (fun _ => rfl) (.int .u64 (z : Int))
 have x6 := f5.keeps n69 r6
 have x7 := f5.keeps n79 r7
 have x12 := f5.keeps n6.2.2.symm r12
 clear f5
 replace F := Lib.hid (F.out.setCell (p := ⟨g9,24,none⟩) (fun h => by have := HG.out; have := HG9.out; have h' : g9 < w.heap.size := h; omega) (.int .u64 (z : Int)))
 clear r6 r7 r9 r12
 obtain ⟨w5,hW5⟩ : ∃ X,X = w5.setCell ⟨g9,24,none⟩ (.int .u64 (z : Int)) := ⟨_,rfl⟩
 rw [← hW5] at x6 x7 x9 x12 F ⊢
 clear hW5
 have r6 := x6
 have r7 := x7
 have r9 := x9
 have r12 := x12
 clear x6 x7 x9 x12
 unfold VX at r9
 obtain ⟨sz,oS,c0,c21,c22,c23,c24,c25,c26⟩ := cBf { y with coll := z2,goi := z }
 try dsimp only at c0 c21 c22 c23 c24 c25 c26
 obtain ⟨C,hC⟩ : ∃ C,C = cB { y with coll := z2,goi := z } := ⟨_,rfl⟩
 rw [← hC] at r9 sz oS c0 c21 c22 c23 c24 c25 c26
 have d21 := ay c21
 replace hC := Lib.hid hC
 have FD := Lib.hid F.out.drew
 have s7 := aac (w := w5.drew) (c := C) n76 r7
 have s12 := aac (w := w5.drew) (c := C) n6.1.symm r12
 go_region
 go_wp2_with fail
 refine bodyPost_ret (aae rfl _ _ g6 g7 _ _ C _ _ _ _ _ rfl rfl (by rw [dh _ _ _ _ n67,bf]; show (w5.heap[g6]?).map _ = _; rw [r6]; rfl) (by rw [bf,s7]; rfl) Tryz.underlying72 rfl (by rw [Tryz.szBVault,sz]) Tryz.underlying76 rfl (by rw [Tryz.szPool]; rfl)) rfl ?_
 exact ⟨by rw [← hC.out]; rfl,(FD.out.setRow (fun h => by have := HG.out; omega) _).setRow (fun h => by have := HG.out; omega) _⟩
end
section
variable {S T : Nat → Prop} {w w' W : World} {p tp q fp vb : Nat} {M : Bok}
theorem zl.add2 {G : Nat → Prop} {W' : World} (m : zl S T w p tp q fp vb M G W) (f : Fr F0 W W') {g g2 : Nat} (hg : W.heap.size ≤ g) (hg2 : g < W'.heap.size) (hh : W.heap.size ≤ g2) (hh2 : g2 < W'.heap.size) : zl S T w p tp q fp vb M (fun k => (G k ∨ k = g) ∨ k = g2) W' := by
 have m' := m.fr0 f
 refine ⟨m'.kp,m'.blk,m'.fr,fun k hk => ?_⟩
 have hw : w.heap.size ≤ W.heap.size := m.fr.size
 rcases hk with (hk | rfl) | rfl
 ·exact m'.own k hk
 ·exact ⟨fun e => absurd (m.kp.lt e) (Nat.not_lt.2 hg),Nat.le_trans hw hg,hg2⟩
 ·exact ⟨fun e => absurd (m.kp.lt e) (Nat.not_lt.2 hh),Nat.le_trans hw hh,hh2⟩
theorem ahn (h : KP S w p tp q fp vb M) (hM : M.Ok) {x a : Nat} (hx : x < 256) (ha : a < 18446744073709551616) {z : Vlt} {c i : Nat} {l : List Vlt} (HS : Calls Tryz.prog 111 #[.pointer (some ⟨p,0,none⟩),.int .u8 (x : Int),.int .u64 (a : Int)] w fun e w' => e = .returned (.tuple #[vBv z,.agg #[.int .u64 (c : Int),.int .u64 (i : Int)],.int .i64 0]) ∧ Fr F0 w w') (hzw : z.who < 256) (hl : ∀ k,gOf l k = auy (gOf M.vs) z.who z k) :
  Calls Tryz.prog 49 #[.pointer (some ⟨p,0,none⟩),.int .u8 (x : Int),.int .u64 (a : Int)] w (EP S w p tp q fp vb { M with pc := c,pn := i,vs := l } (.int .i64 0)) := by
 have HM := Lib.hid (fun (W : World) (f : Fr F0 w W) => zl.start h f)
 have oP := tq c i
 simp only [iq] at HS
 obtain ⟨sz,oS,c0,c21,c22,c23,c24,c25,c26⟩ := cBf z
 have HPu := Lib.hid (fun (W : World) (T : Nat → Prop) (kp0 : KP T W p tp q fp vb { M with pc := c,pn := i }) => ug kp0 (l := l) (y := z) hzw (hl))
 simp only [iq] at HPu
 obtain ⟨C,hC⟩ : ∃ C,C = cB z := ⟨_,rfl⟩
 rw [← hC] at HS sz oS c0 c21 c22 c23 c24 c25 c26
 replace hC := Lib.hid hC
 replace HS := Lib.hid HS
 unfold EP
 clear h hM hx ha hzw hl
 go_enter Tryz.func49,Tryz.ntmps49
 go_wp2_with fail
 (with_reducible refine HS.out.mono ?_); rintro e w1 ⟨rfl,f1⟩
 have F2 := Lib.hid f1
 clear f1 HS
 have tb := ab6 w1
 go_upto_region 2 with fail
 refine acu fun w4 r7 r8 f3 => ?_
 have l7 : w1.heap.size < w4.heap.size := (Array.getElem?_eq_some_iff.1 r7).1
 have l8 : w1.heap.size + 1 < w4.heap.size := (Array.getElem?_eq_some_iff.1 r8).1
 have m := Lib.hid ((HM.out _ F2.out).add2 (g2 := w1.heap.size + 1) f3 (Nat.le_refl _) l7 (by omega) l8)
 clear f3 F2 HM tb l7 l8
 obtain ⟨g8,hg8⟩ : ∃ g,w1.heap.size + 1 = g := ⟨_,rfl⟩
 rw [hg8] at r8 m ⊢
 obtain ⟨g7,hg7⟩ : ∃ g,w1.heap.size = g := ⟨_,rfl⟩
 rw [hg7] at r7 m ⊢
 have n78 : g7 ≠ g8 := by omega
 have n87 : g8 ≠ g7 := by omega
 clear hg7 hg8
 obtain ⟨wp,hst,hqp⟩ := m.out.kp.aqr c i
 have r7' := m.out.row hqp (.inl (.inr rfl)) r7
 obtain ⟨T4,m4⟩ := m.out.next hqp
 have m4' := Lib.hid m4
 have e0 := m.out.kp.at_
 unfold bkC at e0
 try dsimp only at e0
 clear m4 hqp
 go_upto_region 5 with fail
 clear e0 hst r7 r8 m
 have r7 := r7'
 have m := m4'
 clear r7' m4'
 have HP2 := HPu.out
 rw [← hC.out] at HP2
 replace HP2 := Lib.hid HP2
 go_wp2_with fail
 (with_reducible refine (HP2.out _ _ m.out.kp).mono ?_); rintro e w6 ⟨rfl,h6⟩
 replace m := Lib.hid (m.out.last h6)
 clear h6 r7
 go_wp2_with fail
 go_ret
 exact ⟨rfl,m.out⟩
theorem akv (h : KP S w p tp q fp vb M) (hM : M.Ok) {x v a : Nat} (hx : x < 256) (ha : a < 18446744073709551616) {z : Vlt} {c i : Nat} {l : List Vlt} (HS : Calls Tryz.prog 111 #[.pointer (some ⟨p,0,none⟩),.int .u8 (x : Int),.int .u64 (a : Int)] w fun e w' => e = .returned (.tuple #[vBv z,.agg #[.int .u64 (c : Int),.int .u64 (i : Int)],.int .i64 0]) ∧ Fr F0 w w') (hzw : z.who < 256) (hv : v < 256) (hb : ¬ badM a) (hf : z.fal = false) (hi : z.iss + a < 18446744073709551616) (ho : 4611686018427387904 < uy M.tok 256 + a) :
  Calls Tryz.prog 50 #[.pointer (some ⟨p,0,none⟩),.int .u8 (x : Int),.int .u8 (v : Int),.int .u64 (a : Int)] w (EP S w p tp q fp vb M (.int .i64 4)) := by
 have hbb : ¬ (a = 0 ∨ 4611686018427387904 < a) := hb
 obtain ⟨z2,hz2⟩ : ∃ n,n = z.iss + a := ⟨_,rfl⟩
 have HM := Lib.hid (fun (W : World) (f : Fr F0 w W) => zl.start h f)
 have oP := tq c i
 simp only [iq] at HS
 obtain ⟨sz,oS,c0,c21,c22,c23,c24,c25,c26⟩ := cBf z
 rw [hf] at c26
 have hq : abo M.tok (uy M.tok 256) v a = (4,M.tok,uy M.tok 256) := by unfold abo afy; rw [if_neg (by simp; omega)]; exact if_pos (by omega)
 have HMi := Lib.hid (fun (W : World) (T : Nat → Prop) (k : KP T W p tp q fp vb M) => ab4 k hM hv ha)
 rw [hq] at HMi
 have m1 : IntKind.u64.wrap ((z.iss : Int) + (a : Int)) = (z2 : Int) := by rw [IntWalk.u64_in _ (by omega)]; omega
 obtain ⟨C,hC⟩ : ∃ C,C = cB z := ⟨_,rfl⟩
 rw [← hC] at HS sz oS c0 c21 c22 c23 c24 c25 c26
 have d22 := ay c22
 have d26 := ay c26
 replace hC := Lib.hid hC
 replace HS := Lib.hid HS
 unfold EP
 clear h hM hx ha hzw hv hb hbb hi hz2 ho hq
 go_enter Tryz.func50,Tryz.ntmps50
 go_wp2_with fail
 (with_reducible refine HS.out.mono ?_); rintro e w1 ⟨rfl,f1⟩
 have F2 := Lib.hid f1
 clear f1 HS
 have tb := ab6 w1
 go_upto_region 2 with fail
 refine acu fun w4 r7 r8 f3 => ?_
 have l7 : w1.heap.size < w4.heap.size := (Array.getElem?_eq_some_iff.1 r7).1
 have l8 : w1.heap.size + 1 < w4.heap.size := (Array.getElem?_eq_some_iff.1 r8).1
 have m := Lib.hid ((HM.out _ F2.out).add2 (g2 := w1.heap.size + 1) f3 (Nat.le_refl _) l7 (by omega) l8)
 clear f3 F2 HM tb l7 l8
 obtain ⟨g8,hg8⟩ : ∃ g,w1.heap.size + 1 = g := ⟨_,rfl⟩
 rw [hg8] at r8 m ⊢
 obtain ⟨g7,hg7⟩ : ∃ g,w1.heap.size = g := ⟨_,rfl⟩
 rw [hg7] at r7 m ⊢
 have n78 : g7 ≠ g8 := by omega
 have n87 : g8 ≠ g7 := by omega
 clear hg7 hg8
 go_upto_region 9 with fail
 have f5 := (Fr.refl (fun k => k = g7) w4).setCell (p := ⟨g7,22,none⟩) (fun _ => rfl) (.int .u64 (z2 : Int))
 have x7 : VX (w4.setCell ⟨g7,22,none⟩ (.int .u64 (z2 : Int))) g7 { z with iss := z2 } := VX.agj (show VX w4 g7 z by unfold VX; rw [← hC.out]; exact r7) z2
 have x8 := f5.keeps n87 r8
 replace m := Lib.hid (m.out.box (f5.mono fun k _ e => .inl (.inr e)))
 clear f5 r7 r8
 obtain ⟨w4,hW5⟩ : ∃ X,X = w4.setCell ⟨g7,22,none⟩ (.int .u64 (z2 : Int)) := ⟨_,rfl⟩
 rw [← hW5] at x7 x8 m ⊢
 clear hW5
 have r7 := x7
 have r8 := x8
 clear x7 x8
 unfold VX at r7
 obtain ⟨sz,oS,c0,c21,c22,c23,c24,c25,c26⟩ := cBf { z with iss := z2 }
 try dsimp only at c0 c21 c22 c23 c24 c25 c26
 obtain ⟨C,hC⟩ : ∃ C,C = cB { z with iss := z2 } := ⟨_,rfl⟩
 rw [← hC] at r7 sz oS c0 c21 c22 c23 c24 c25 c26
 replace hC := Lib.hid hC
 have e0 := m.out.kp.at_
 unfold bkC at e0
 try dsimp only at e0
 go_wp2_with fail
 (with_reducible refine (HMi.out _ _ m.out.kp).mono ?_); rintro e w4 ⟨rfl,h4⟩
 replace r7 := m.out.row h4 (.inl (.inr rfl)) r7
 replace r8 := m.out.row h4 (.inr rfl) r8
 obtain ⟨T4,m4⟩ := m.out.next h4
 clear h4 m e0
 have m : Hid (zl S T4 w p tp q fp vb M (fun k => (False ∨ k = g7) ∨ k = g8) w4) := Lib.hid m4
 clear m4
 go_wp2_with fail
 go_ret
 exact ⟨rfl,m.out.qp⟩
theorem aky (h : KP S w p tp q fp vb M) (hM : M.Ok) {x v a : Nat} (hx : x < 256) (ha : a < 18446744073709551616) {z : Vlt} {c i : Nat} {l : List Vlt} (HS : Calls Tryz.prog 111 #[.pointer (some ⟨p,0,none⟩),.int .u8 (x : Int),.int .u64 (a : Int)] w fun e w' => e = .returned (.tuple #[vBv z,.agg #[.int .u64 (c : Int),.int .u64 (i : Int)],.int .i64 0]) ∧ Fr F0 w w') (hzw : z.who < 256) (hv : v < 256) (hb : ¬ badM a) (hf : z.fal = false) (hi : z.iss + a < 18446744073709551616) (ho : ¬ 4611686018427387904 < uy M.tok 256 + a) (hl : ∀ k,gOf l k = auy (gOf M.vs) z.who { z with iss := z.iss + a } k) :
  Calls Tryz.prog 50 #[.pointer (some ⟨p,0,none⟩),.int .u8 (x : Int),.int .u8 (v : Int),.int .u64 (a : Int)] w (EP S w p tp q fp vb { M with tok := upd M.tok v (M.tok v + a),pc := c,pn := i,vs := l } (.int .i64 0)) := by
 have hbb : ¬ (a = 0 ∨ 4611686018427387904 < a) := hb
 obtain ⟨z2,hz2⟩ : ∃ n,n = z.iss + a := ⟨_,rfl⟩
 rw [← hz2] at hl
 have HM := Lib.hid (fun (W : World) (f : Fr F0 w W) => zl.start h f)
 have oP := tq c i
 simp only [iq] at HS
 obtain ⟨sz,oS,c0,c21,c22,c23,c24,c25,c26⟩ := cBf z
 rw [hf] at c26
 have hq : abo M.tok (uy M.tok 256) v a = (0,upd M.tok v (M.tok v + a),uy M.tok 256 + a) := by unfold abo afy; rw [if_neg (by simp; omega)]; exact if_neg (by omega)
 have HMi := Lib.hid (fun (W : World) (T : Nat → Prop) (k : KP T W p tp q fp vb M) => ab4 k hM hv ha)
 rw [hq] at HMi
 have m1 : IntKind.u64.wrap ((z.iss : Int) + (a : Int)) = (z2 : Int) := by rw [IntWalk.u64_in _ (by omega)]; omega
 have HPu := Lib.hid (fun (W : World) (T : Nat → Prop) (kp0 : KP T W p tp q fp vb { M with tok := upd M.tok v (M.tok v + a),pc := c,pn := i }) => ug kp0 (l := l) (y := { z with iss := z2 }) hzw (hl))
 simp only [iq] at HPu
 obtain ⟨C,hC⟩ : ∃ C,C = cB z := ⟨_,rfl⟩
 rw [← hC] at HS sz oS c0 c21 c22 c23 c24 c25 c26
 have d22 := ay c22
 have d26 := ay c26
 replace hC := Lib.hid hC
 replace HS := Lib.hid HS
 unfold EP
 clear h hM hx ha hzw hv hb hbb hi hz2 ho hq hl
 go_enter Tryz.func50,Tryz.ntmps50
 go_wp2_with fail
 (with_reducible refine HS.out.mono ?_); rintro e w1 ⟨rfl,f1⟩
 have F2 := Lib.hid f1
 clear f1 HS
 have tb := ab6 w1
 go_upto_region 2 with fail
 refine acu fun w4 r7 r8 f3 => ?_
 have l7 : w1.heap.size < w4.heap.size := (Array.getElem?_eq_some_iff.1 r7).1
 have l8 : w1.heap.size + 1 < w4.heap.size := (Array.getElem?_eq_some_iff.1 r8).1
 have m := Lib.hid ((HM.out _ F2.out).add2 (g2 := w1.heap.size + 1) f3 (Nat.le_refl _) l7 (by omega) l8)
 clear f3 F2 HM tb l7 l8
 obtain ⟨g8,hg8⟩ : ∃ g,w1.heap.size + 1 = g := ⟨_,rfl⟩
 rw [hg8] at r8 m ⊢
 obtain ⟨g7,hg7⟩ : ∃ g,w1.heap.size = g := ⟨_,rfl⟩
 rw [hg7] at r7 m ⊢
 have n78 : g7 ≠ g8 := by omega
 have n87 : g8 ≠ g7 := by omega
 clear hg7 hg8
 go_upto_region 9 with fail
 have f5 := (Fr.refl (fun k => k = g7) w4).setCell (p := ⟨g7,22,none⟩) (fun _ => rfl) (.int .u64 (z2 : Int))
 have x7 : VX (w4.setCell ⟨g7,22,none⟩ (.int .u64 (z2 : Int))) g7 { z with iss := z2 } := VX.agj (show VX w4 g7 z by unfold VX; rw [← hC.out]; exact r7) z2
 have x8 := f5.keeps n87 r8
 replace m := Lib.hid (m.out.box (f5.mono fun k _ e => .inl (.inr e)))
 clear f5 r7 r8
 obtain ⟨w4,hW5⟩ : ∃ X,X = w4.setCell ⟨g7,22,none⟩ (.int .u64 (z2 : Int)) := ⟨_,rfl⟩
 rw [← hW5] at x7 x8 m ⊢
 clear hW5
 have r7 := x7
 have r8 := x8
 clear x7 x8
 unfold VX at r7
 obtain ⟨sz,oS,c0,c21,c22,c23,c24,c25,c26⟩ := cBf { z with iss := z2 }
 try dsimp only at c0 c21 c22 c23 c24 c25 c26
 obtain ⟨C,hC⟩ : ∃ C,C = cB { z with iss := z2 } := ⟨_,rfl⟩
 rw [← hC] at r7 sz oS c0 c21 c22 c23 c24 c25 c26
 replace hC := Lib.hid hC
 have e0 := m.out.kp.at_
 unfold bkC at e0
 try dsimp only at e0
 go_wp2_with fail
 (with_reducible refine (HMi.out _ _ m.out.kp).mono ?_); rintro e w4 ⟨rfl,h4⟩
 replace r7 := m.out.row h4 (.inl (.inr rfl)) r7
 replace r8 := m.out.row h4 (.inr rfl) r8
 obtain ⟨T4,m4⟩ := m.out.next h4
 clear h4 m e0
 have m := Lib.hid m4
 clear m4
 obtain ⟨wp,hst,hqp⟩ := m.out.kp.aqr c i
 have r7' := m.out.row hqp (.inl (.inr rfl)) r7
 obtain ⟨T4,m4⟩ := m.out.next hqp
 have m4' := Lib.hid m4
 have e0 := m.out.kp.at_
 unfold bkC at e0
 try dsimp only at e0
 clear m4 hqp
 go_upto_region 13 with fail
 clear e0 hst r7 r8 m
 have r7 := r7'
 have m := m4'
 clear r7' m4'
 have HP2 := HPu.out
 rw [← hC.out] at HP2
 replace HP2 := Lib.hid HP2
 go_wp2_with fail
 (with_reducible refine (HP2.out _ _ m.out.kp).mono ?_); rintro e w6 ⟨rfl,h6⟩
 replace m := Lib.hid (m.out.last h6)
 clear h6 r7
 go_wp2_with fail
 go_ret
 exact ⟨rfl,m.out⟩
theorem akw (h : KP S w p tp q fp vb M) (hM : M.Ok) {x v a : Nat} (hx : x < 256) (ha : a < 18446744073709551616) {z : Vlt} {c i : Nat} {l : List Vlt} (HS : Calls Tryz.prog 111 #[.pointer (some ⟨p,0,none⟩),.int .u8 (x : Int),.int .u64 (a : Int)] w fun e w' => e = .returned (.tuple #[vBv z,.agg #[.int .u64 (c : Int),.int .u64 (i : Int)],.int .i64 0]) ∧ Fr F0 w w') (hzw : z.who < 256) (hv : v < 256) (hb : ¬ badM a) (hf : z.fal = true) (hc9 : c ≤ 4611686018427387904) (hi9 : i ≤ 4611686018427387904) (ho : 4611686018427387904 < i + a) :
  Calls Tryz.prog 50 #[.pointer (some ⟨p,0,none⟩),.int .u8 (x : Int),.int .u8 (v : Int),.int .u64 (a : Int)] w (EP S w p tp q fp vb M (.int .i64 4)) := by
 have hbb : ¬ (a = 0 ∨ 4611686018427387904 < a) := hb
 have HT := Lib.hid (fun (W : World) (g : Nat) (r : W.heap[g]? = some (.cells #[.int .u64 (c : Int),.int .u64 (i : Int)] 76 (0,0))) => aeu (w := W) (p := g) (c := c) (i := i) ⟨r,hc9,hi9⟩ 0 a (by omega) ha)
 obtain ⟨t1,t2⟩ := aj6 (c := c) (i := i) (x := 0) (y := a) ⟨by omega,by omega⟩ (fun e => by omega)
 rw [t1,t2,t2,show ((0 : Nat) : Int) = 0 from rfl] at HT
 have HM := Lib.hid (fun (W : World) (f : Fr F0 w W) => zl.start h f)
 have oP := tq c i
 simp only [iq] at HS
 obtain ⟨sz,oS,c0,c21,c22,c23,c24,c25,c26⟩ := cBf z
 rw [hf] at c26
 obtain ⟨C,hC⟩ : ∃ C,C = cB z := ⟨_,rfl⟩
 rw [← hC] at HS sz oS c0 c21 c22 c23 c24 c25 c26
 have d22 := ay c22
 have d26 := ay c26
 replace hC := Lib.hid hC
 replace HS := Lib.hid HS
 unfold EP
 clear h hM hx ha hzw hv hb hbb ho hc9 hi9 t1 t2
 go_enter Tryz.func50,Tryz.ntmps50
 go_wp2_with fail
 (with_reducible refine HS.out.mono ?_); rintro e w1 ⟨rfl,f1⟩
 have F2 := Lib.hid f1
 clear f1 HS
 have tb := ab6 w1
 go_upto_region 2 with fail
 refine acu fun w4 r7 r8 f3 => ?_
 have l7 : w1.heap.size < w4.heap.size := (Array.getElem?_eq_some_iff.1 r7).1
 have l8 : w1.heap.size + 1 < w4.heap.size := (Array.getElem?_eq_some_iff.1 r8).1
 have m := Lib.hid ((HM.out _ F2.out).add2 (g2 := w1.heap.size + 1) f3 (Nat.le_refl _) l7 (by omega) l8)
 clear f3 F2 HM tb l7 l8
 obtain ⟨g8,hg8⟩ : ∃ g,w1.heap.size + 1 = g := ⟨_,rfl⟩
 rw [hg8] at r8 m ⊢
 obtain ⟨g7,hg7⟩ : ∃ g,w1.heap.size = g := ⟨_,rfl⟩
 rw [hg7] at r7 m ⊢
 have n78 : g7 ≠ g8 := by omega
 have n87 : g8 ≠ g7 := by omega
 clear hg7 hg8
 go_wp2_with fail
 (with_reducible refine (HT.out _ _ r8).mono ?_); rintro e w5 ⟨rfl,d12,f12⟩
 have x7 := f12.keeps n78 r7
 replace m := Lib.hid (m.out.box (f12.mono fun k _ e => .inr e))
 clear r7 r8 f12 HT
 have r7 := x7
 have r8 := d12.at_
 clear x7 d12
 go_wp2_with fail
 go_ret
 exact ⟨rfl,m.out.qp⟩
theorem aic (h : KP S w p tp q fp vb M) (hM : M.Ok) {x v a : Nat} (hx : x < 256) (ha : a < 18446744073709551616) {z : Vlt} {c i : Nat} {l : List Vlt} (HS : Calls Tryz.prog 111 #[.pointer (some ⟨p,0,none⟩),.int .u8 (x : Int),.int .u64 (a : Int)] w fun e w' => e = .returned (.tuple #[vBv z,.agg #[.int .u64 (c : Int),.int .u64 (i : Int)],.int .i64 0]) ∧ Fr F0 w w') (hzw : z.who < 256) (hv : v < 256) (hb : ¬ badM a) (hf : z.fal = true) (hc9 : c ≤ 4611686018427387904) (hi9 : i ≤ 4611686018427387904) (hf2 : i + a ≤ 4611686018427387904) (ho : 4611686018427387904 < uy M.tok 256 + a) :
  Calls Tryz.prog 50 #[.pointer (some ⟨p,0,none⟩),.int .u8 (x : Int),.int .u8 (v : Int),.int .u64 (a : Int)] w (EP S w p tp q fp vb M (.int .i64 4)) := by
 have hbb : ¬ (a = 0 ∨ 4611686018427387904 < a) := hb
 have HT := Lib.hid (fun (W : World) (g : Nat) (r : W.heap[g]? = some (.cells #[.int .u64 (c : Int),.int .u64 (i : Int)] 76 (0,0))) => aeu (w := W) (p := g) (c := c) (i := i) ⟨r,hc9,hi9⟩ 0 a (by omega) ha)
 obtain ⟨t1,t2⟩ := aqp (c := c) (i := i) (x := 0) (y := a) ⟨by omega,by omega⟩ ⟨by omega,by omega⟩
 obtain ⟨i2,hi2⟩ : ∃ n,n = i + a := ⟨_,rfl⟩
 rw [t1,t2,t2,Nat.add_zero,← hi2,show ((0 : Nat) : Int) = 0 from rfl] at HT
 have oP2 := tq c i2
 have HM := Lib.hid (fun (W : World) (f : Fr F0 w W) => zl.start h f)
 have oP := tq c i
 simp only [iq] at HS
 obtain ⟨sz,oS,c0,c21,c22,c23,c24,c25,c26⟩ := cBf z
 rw [hf] at c26
 have hq : abo M.tok (uy M.tok 256) v a = (4,M.tok,uy M.tok 256) := by unfold abo afy; rw [if_neg (by simp; omega)]; exact if_pos (by omega)
 have HMi := Lib.hid (fun (W : World) (T : Nat → Prop) (k : KP T W p tp q fp vb M) => ab4 k hM hv ha)
 rw [hq] at HMi
 obtain ⟨C,hC⟩ : ∃ C,C = cB z := ⟨_,rfl⟩
 rw [← hC] at HS sz oS c0 c21 c22 c23 c24 c25 c26
 have d22 := ay c22
 have d26 := ay c26
 replace hC := Lib.hid hC
 replace HS := Lib.hid HS
 unfold EP
 clear h hM hx ha hzw hv hb hbb ho hc9 hi9 t1 t2 hi2 hf2 hq
 go_enter Tryz.func50,Tryz.ntmps50
 go_wp2_with fail
 (with_reducible refine HS.out.mono ?_); rintro e w1 ⟨rfl,f1⟩
 have F2 := Lib.hid f1
 clear f1 HS
 have tb := ab6 w1
 go_upto_region 2 with fail
 refine acu fun w4 r7 r8 f3 => ?_
 have l7 : w1.heap.size < w4.heap.size := (Array.getElem?_eq_some_iff.1 r7).1
 have l8 : w1.heap.size + 1 < w4.heap.size := (Array.getElem?_eq_some_iff.1 r8).1
 have m := Lib.hid ((HM.out _ F2.out).add2 (g2 := w1.heap.size + 1) f3 (Nat.le_refl _) l7 (by omega) l8)
 clear f3 F2 HM tb l7 l8
 obtain ⟨g8,hg8⟩ : ∃ g,w1.heap.size + 1 = g := ⟨_,rfl⟩
 rw [hg8] at r8 m ⊢
 obtain ⟨g7,hg7⟩ : ∃ g,w1.heap.size = g := ⟨_,rfl⟩
 rw [hg7] at r7 m ⊢
 have n78 : g7 ≠ g8 := by omega
 have n87 : g8 ≠ g7 := by omega
 clear hg7 hg8
 go_wp2_with fail
 (with_reducible refine (HT.out _ _ r8).mono ?_); rintro e w4 ⟨rfl,d12,f12⟩
 have x7 := f12.keeps n78 r7
 replace m := Lib.hid (m.out.box (f12.mono fun k _ e => .inr e))
 clear r7 r8 f12 HT
 have r7 := x7
 have r8 := d12.at_
 clear x7 d12
 have e0 := m.out.kp.at_
 unfold bkC at e0
 try dsimp only at e0
 go_wp2_with fail
 (with_reducible refine (HMi.out _ _ m.out.kp).mono ?_); rintro e w4 ⟨rfl,h4⟩
 replace r7 := m.out.row h4 (.inl (.inr rfl)) r7
 replace r8 := m.out.row h4 (.inr rfl) r8
 obtain ⟨T4,m4⟩ := m.out.next h4
 clear h4 m e0
 have m : Hid (zl S T4 w p tp q fp vb M (fun k => (False ∨ k = g7) ∨ k = g8) w4) := Lib.hid m4
 clear m4
 go_wp2_with fail
 go_ret
 exact ⟨rfl,m.out.qp⟩
theorem akx (h : KP S w p tp q fp vb M) (hM : M.Ok) {x v a : Nat} (hx : x < 256) (ha : a < 18446744073709551616) {z : Vlt} {c i : Nat} {l : List Vlt} (HS : Calls Tryz.prog 111 #[.pointer (some ⟨p,0,none⟩),.int .u8 (x : Int),.int .u64 (a : Int)] w fun e w' => e = .returned (.tuple #[vBv z,.agg #[.int .u64 (c : Int),.int .u64 (i : Int)],.int .i64 0]) ∧ Fr F0 w w') (hzw : z.who < 256) (hv : v < 256) (hb : ¬ badM a) (hf : z.fal = true) (hc9 : c ≤ 4611686018427387904) (hi9 : i ≤ 4611686018427387904) (hf2 : i + a ≤ 4611686018427387904) (ho : ¬ 4611686018427387904 < uy M.tok 256 + a) (hl : ∀ k,gOf l k = auy (gOf M.vs) z.who z k) :
  Calls Tryz.prog 50 #[.pointer (some ⟨p,0,none⟩),.int .u8 (x : Int),.int .u8 (v : Int),.int .u64 (a : Int)] w (EP S w p tp q fp vb { M with tok := upd M.tok v (M.tok v + a),pc := c,pn := i + a,vs := l } (.int .i64 0)) := by
 have hbb : ¬ (a = 0 ∨ 4611686018427387904 < a) := hb
 have HT := Lib.hid (fun (W : World) (g : Nat) (r : W.heap[g]? = some (.cells #[.int .u64 (c : Int),.int .u64 (i : Int)] 76 (0,0))) => aeu (w := W) (p := g) (c := c) (i := i) ⟨r,hc9,hi9⟩ 0 a (by omega) ha)
 obtain ⟨t1,t2⟩ := aqp (c := c) (i := i) (x := 0) (y := a) ⟨by omega,by omega⟩ ⟨by omega,by omega⟩
 obtain ⟨i2,hi2⟩ : ∃ n,n = i + a := ⟨_,rfl⟩
 rw [t1,t2,t2,Nat.add_zero,← hi2,show ((0 : Nat) : Int) = 0 from rfl] at HT
 have oP2 := tq c i2
 rw [← hi2]
 have HM := Lib.hid (fun (W : World) (f : Fr F0 w W) => zl.start h f)
 have oP := tq c i
 simp only [iq] at HS
 obtain ⟨sz,oS,c0,c21,c22,c23,c24,c25,c26⟩ := cBf z
 rw [hf] at c26
 have hq : abo M.tok (uy M.tok 256) v a = (0,upd M.tok v (M.tok v + a),uy M.tok 256 + a) := by unfold abo afy; rw [if_neg (by simp; omega)]; exact if_neg (by omega)
 have HMi := Lib.hid (fun (W : World) (T : Nat → Prop) (k : KP T W p tp q fp vb M) => ab4 k hM hv ha)
 rw [hq] at HMi
 have HPu := Lib.hid (fun (W : World) (T : Nat → Prop) (kp0 : KP T W p tp q fp vb { M with tok := upd M.tok v (M.tok v + a),pc := c,pn := i2 }) => ug kp0 (l := l) (y := z) hzw (hl))
 simp only [iq] at HPu
 obtain ⟨C,hC⟩ : ∃ C,C = cB z := ⟨_,rfl⟩
 rw [← hC] at HS sz oS c0 c21 c22 c23 c24 c25 c26
 have d22 := ay c22
 have d26 := ay c26
 replace hC := Lib.hid hC
 replace HS := Lib.hid HS
 unfold EP
 clear h hM hx ha hzw hv hb hbb ho hc9 hi9 t1 t2 hi2 hf2 hq hl
 go_enter Tryz.func50,Tryz.ntmps50
 go_wp2_with fail
 (with_reducible refine HS.out.mono ?_); rintro e w1 ⟨rfl,f1⟩
 have F2 := Lib.hid f1
 clear f1 HS
 have tb := ab6 w1
 go_upto_region 2 with fail
 refine acu fun w4 r7 r8 f3 => ?_
 have l7 : w1.heap.size < w4.heap.size := (Array.getElem?_eq_some_iff.1 r7).1
 have l8 : w1.heap.size + 1 < w4.heap.size := (Array.getElem?_eq_some_iff.1 r8).1
 have m := Lib.hid ((HM.out _ F2.out).add2 (g2 := w1.heap.size + 1) f3 (Nat.le_refl _) l7 (by omega) l8)
 clear f3 F2 HM tb l7 l8
 obtain ⟨g8,hg8⟩ : ∃ g,w1.heap.size + 1 = g := ⟨_,rfl⟩
 rw [hg8] at r8 m ⊢
 obtain ⟨g7,hg7⟩ : ∃ g,w1.heap.size = g := ⟨_,rfl⟩
 rw [hg7] at r7 m ⊢
 have n78 : g7 ≠ g8 := by omega
 have n87 : g8 ≠ g7 := by omega
 clear hg7 hg8
 go_wp2_with fail
 (with_reducible refine (HT.out _ _ r8).mono ?_); rintro e w4 ⟨rfl,d12,f12⟩
 have x7 := f12.keeps n78 r7
 replace m := Lib.hid (m.out.box (f12.mono fun k _ e => .inr e))
 clear r7 r8 f12 HT
 have r7 := x7
 have r8 := d12.at_
 clear x7 d12
 have e0 := m.out.kp.at_
 unfold bkC at e0
 try dsimp only at e0
 go_wp2_with fail
 (with_reducible refine (HMi.out _ _ m.out.kp).mono ?_); rintro e w4 ⟨rfl,h4⟩
 replace r7 := m.out.row h4 (.inl (.inr rfl)) r7
 replace r8 := m.out.row h4 (.inr rfl) r8
 obtain ⟨T4,m4⟩ := m.out.next h4
 clear h4 m e0
 have m := Lib.hid m4
 clear m4
 obtain ⟨wp,hst,hqp⟩ := m.out.kp.aqr c i2
 have r7' := m.out.row hqp (.inl (.inr rfl)) r7
 obtain ⟨T4,m4⟩ := m.out.next hqp
 have m4' := Lib.hid m4
 have e0 := m.out.kp.at_
 unfold bkC at e0
 try dsimp only at e0
 clear m4 hqp
 go_upto_region 13 with fail
 clear e0 hst r7 r8 m
 have r7 := r7'
 have m := m4'
 clear r7' m4'
 have HP2 := HPu.out
 rw [← hC.out] at HP2
 replace HP2 := Lib.hid HP2
 go_wp2_with fail
 (with_reducible refine (HP2.out _ _ m.out.kp).mono ?_); rintro e w6 ⟨rfl,h6⟩
 replace m := Lib.hid (m.out.last h6)
 clear h6 r7
 go_wp2_with fail
 go_ret
 exact ⟨rfl,m.out⟩
end
section
variable {S : Nat → Prop} {w w' W : World} {p tp q fp vb : Nat} {M : Bok}
theorem ap8 (h : KP S w p tp q fp vb M) (hM : M.Ok) {a : Nat} (ho : 1099511627776 < M.now + a) : Calls Tryz.prog 43 #[.pointer (some ⟨p,0,none⟩),.int .u64 (a : Int)] w (EP S w p tp q fp vb M (.int .i64 4)) := by
 have hn := hM.now
 have HQ := Lib.hid (QP.same h (Fr.refl F0 w))
 have e0 := h.at_
 obtain ⟨d,hd⟩ : ∃ d,d = 1099511627776 - M.now := ⟨_,rfl⟩
 have m1 : IntKind.u64.wrap (1099511627776 - (M.now : Int)) = (d : Int) := by rw [IntWalk.u64_in _ (by omega)]; omega
 have l1 : (d : Int) < (a : Int) := by omega
 have l1n : d < a := by omega
 unfold bkC at e0
 unfold EP
 clear h hM ho hn hd
 go_enter Tryz.func43,Tryz.ntmps43
 go_wp2_with fail
 go_ret
 exact ⟨rfl,HQ.out⟩
theorem ax6 (h : KP S w p tp q fp vb M) (hM : M.Ok) {a : Nat} (ho : ¬ 1099511627776 < M.now + a) : Calls Tryz.prog 43 #[.pointer (some ⟨p,0,none⟩),.int .u64 (a : Int)] w (EP S w p tp q fp vb { M with now := M.now + a } (.int .i64 0)) := by
 have hn := hM.now
 have HQ := Lib.hid (h.avd (M.now + a))
 have e0 := h.at_
 obtain ⟨d,hd⟩ : ∃ d,d = 1099511627776 - M.now := ⟨_,rfl⟩
 obtain ⟨z,hz⟩ : ∃ d,d = M.now + a := ⟨_,rfl⟩
 rw [← hz] at HQ ⊢
 have m1 : IntKind.u64.wrap (1099511627776 - (M.now : Int)) = (d : Int) := by rw [IntWalk.u64_in _ (by omega)]; omega
 have m2 : IntKind.u64.wrap ((M.now : Int) + (a : Int)) = (z : Int) := by rw [IntWalk.u64_in _ (by omega)]; omega
 have l1 : ¬ (d : Int) < (a : Int) := by omega
 have l1n : ¬ d < a := by omega
 unfold bkC at e0
 unfold EP
 clear h hM ho hn hd hz
 go_enter Tryz.func43,Tryz.ntmps43
 go_wp2_with fail
 go_ret
 exact ⟨rfl,HQ.out⟩
theorem ak6 {x a : Nat} (h : badM a) (w : World) (p : Nat) : Calls Tryz.prog 56 #[.pointer (some ⟨p,0,none⟩),.int .u8 (x : Int),.int .u64 (a : Int)] w fun e w' => e = .returned (.int .i64 1) ∧ w' = w := by
 have H := Lib.hid (ae0 a h)
 clear h
 go_enter Tryz.func56,Tryz.ntmps56
 go_wp2_with fail
 (with_reducible refine (H.out _).mono ?_); rintro e w1 ⟨rfl,hw⟩; replace hw := hw.symm; subst hw
 go_wp2_with fail
 go_ret
 exact ⟨rfl,rfl⟩
theorem an4 {x a : Nat} (h : badM a) (w : World) (p : Nat) : Calls Tryz.prog 57 #[.pointer (some ⟨p,0,none⟩),.int .u8 (x : Int),.int .u64 (a : Int)] w fun e w' => e = .returned (.int .i64 1) ∧ w' = w := by
 have H := Lib.hid (ae0 a h)
 clear h
 go_enter Tryz.func57,Tryz.ntmps57
 go_wp2_with fail
 (with_reducible refine (H.out _).mono ?_); rintro e w1 ⟨rfl,hw⟩; replace hw := hw.symm; subst hw
 go_wp2_with fail
 go_ret
 exact ⟨rfl,rfl⟩
theorem aob {x a : Nat} (h : badM a) (w : World) (p : Nat) : Calls Tryz.prog 55 #[.pointer (some ⟨p,0,none⟩),.int .u8 (x : Int),.int .u64 (a : Int)] w fun e w' => e = .returned (.tuple #[.int .u64 0,.int .i64 1]) ∧ w' = w := by
 have H := Lib.hid (ae0 a h)
 clear h
 go_enter Tryz.func55,Tryz.ntmps55
 go_wp2_with fail
 (with_reducible refine (H.out _).mono ?_); rintro e w1 ⟨rfl,hw⟩; replace hw := hw.symm; subst hw
 go_wp2_with fail
 go_ret2
 exact ⟨rfl,rfl⟩
theorem ak5 (h : KP S w p tp q fp vb M) {x a : Nat} (hx : x < 256) (hb : ¬ badM a) (hc : M.free x < a) : Calls Tryz.prog 56 #[.pointer (some ⟨p,0,none⟩),.int .u8 (x : Int),.int .u64 (a : Int)] w (EP S w p tp q fp vb M (.int .i64 16)) := by
 have H := Lib.hid (aad a hb)
 have HH := Lib.hid (afk (c := M.dep) h hx hc)
 have HQ := Lib.hid (QP.same h (Fr.refl F0 w))
 have e0 := h.at_
 unfold bkC at e0
 unfold EP
 clear h hb hc
 go_enter Tryz.func56,Tryz.ntmps56
 go_wp2_with fail
 (with_reducible refine (H.out _).mono ?_); rintro e w1 ⟨rfl,hw⟩; replace hw := hw.symm; subst hw
 go_wp2_with fail
 (with_reducible refine HH.out.mono ?_); rintro e w1 ⟨rfl,hw⟩; replace hw := hw.symm; subst hw
 go_wp2_with fail
 go_ret
 exact ⟨rfl,HQ.out⟩
theorem aof (h : KP S w p tp q fp vb M) (hM : M.Ok) {x a : Nat} (hx : x < 256) (hb : ¬ badM a) (hc : ¬ M.free x < a) : Calls Tryz.prog 56 #[.pointer (some ⟨p,0,none⟩),.int .u8 (x : Int),.int .u64 (a : Int)] w
  (EP S w p tp q fp vb { M with free := upd M.free x (M.free x - a),held := M.held + a,dep := M.dep + a } (.int .i64 0)) := by
 have hfr := hM.jy hx
 have hhe := hM.held
 have H := Lib.hid (aad a hb)
 have HH := Lib.hid (ag6 (c := M.dep) (a := a) h hx (by omega) (by omega))
 have e0 := h.at_
 obtain ⟨z,hz⟩ : ∃ z,z = M.dep + a := ⟨_,rfl⟩
 rw [← hz] at HH ⊢
 have m := Lib.hid (zl.start h (Fr.refl F0 w))
 unfold bkC at e0
 unfold EP at HH ⊢
 clear h hM hb hc hfr hhe hz
 go_enter Tryz.func56,Tryz.ntmps56
 go_wp2_with fail
 (with_reducible refine (H.out _).mono ?_); rintro e w1 ⟨rfl,hw⟩; replace hw := hw.symm; subst hw
 go_wp2_with fail
 (with_reducible refine HH.out.mono ?_); rintro e w4 ⟨rfl,h4⟩
 obtain ⟨T4,m4⟩ := m.out.next h4
 have HF := Lib.hid (m4.last (m4.kp.ali z))
 have e4 := m4.kp.at_
 unfold bkC at e4
 try dsimp only at e4
 clear m4 h4 e0 HH m
 go_wp2_with fail
 go_ret
 exact ⟨rfl,HF.out⟩
theorem an3 (h : KP S w p tp q fp vb M) {x a : Nat} (hx : x < 256) (hb : ¬ badM a) (hc : M.dep < a) : Calls Tryz.prog 57 #[.pointer (some ⟨p,0,none⟩),.int .u8 (x : Int),.int .u64 (a : Int)] w (EP S w p tp q fp vb M (.int .i64 16)) := by
 have hbb : ¬ (a = 0 ∨ 4611686018427387904 < a) := hb
 have H := Lib.hid (aad a hb)
 have HH := Lib.hid (atu (p := p) (x := x) hc (by omega) w)
 have HQ := Lib.hid (fun (W : World) (f : Fr F0 w W) => QP.same h f)
 have e0 := h.at_
 unfold bkC at e0
 unfold EP
 clear h hb hc hbb
 go_enter Tryz.func57,Tryz.ntmps57
 go_wp2_with fail
 (with_reducible refine (H.out _).mono ?_); rintro e w1 ⟨rfl,hw⟩; replace hw := hw.symm; subst hw
 go_wp2_with fail
 (with_reducible refine HH.out.mono ?_); rintro e w4 ⟨rfl,f4⟩
 have HF := Lib.hid (HQ.out _ f4)
 clear f4 e0 HH
 go_wp2_with fail
 go_ret
 exact ⟨rfl,HF.out⟩
theorem aqc (h : KP S w p tp q fp vb M) (hM : M.Ok) {x a : Nat} (hx : x < 256) (hb : ¬ badM a) (hc : ¬ M.dep < a) : Calls Tryz.prog 57 #[.pointer (some ⟨p,0,none⟩),.int .u8 (x : Int),.int .u64 (a : Int)] w
  (EP S w p tp q fp vb { M with dep := M.dep - a,held := M.held - a,free := upd M.free x (M.free x + a) } (.int .i64 0)) := by
 have hfr := hM.jy hx
 have hhe := hM.held
 have H := Lib.hid (aad a hb)
 have HH := Lib.hid (amj (c := M.dep) (a := a) h hx (by omega) (by omega) (by omega))
 have e0 := h.at_
 obtain ⟨z,hz⟩ : ∃ z,z = M.dep - a := ⟨_,rfl⟩
 rw [← hz] at HH ⊢
 have m := Lib.hid (zl.start h (Fr.refl F0 w))
 unfold bkC at e0
 unfold EP at HH ⊢
 clear h hM hb hc hfr hhe hz
 go_enter Tryz.func57,Tryz.ntmps57
 go_wp2_with fail
 (with_reducible refine (H.out _).mono ?_); rintro e w1 ⟨rfl,hw⟩; replace hw := hw.symm; subst hw
 go_wp2_with fail
 (with_reducible refine HH.out.mono ?_); rintro e w4 ⟨rfl,h4⟩
 obtain ⟨T4,m4⟩ := m.out.next h4
 have HF := Lib.hid (m4.last (m4.kp.ali z))
 have e4 := m4.kp.at_
 unfold bkC at e4
 try dsimp only at e4
 clear m4 h4 e0 HH m
 go_wp2_with fail
 go_ret
 exact ⟨rfl,HF.out⟩
theorem aJ1 (h : KP S w p tp q fp vb M) (hl : uy M.tok 256 ≤ 4611686018427387904) {a x : Nat} (ha : a < 256) (hx : x < 18446744073709551616) :
  Calls Tryz.prog 87 #[.pointer (some ⟨tp,0,none⟩),.int .u8 (a : Int),.int .u64 (x : Int)] w (EP S w p tp q fp vb { M with tok := (zx M.tok (uy M.tok 256) a x).2.1 } (.int .i64 (zx M.tok (uy M.tok 256) a x).1)) := by
 obtain ⟨tob,qp,qob,b,e⟩ := h
 exact (ada b.led ⟨rfl,hl⟩ afo ha hx).mono fun en w' hq => azd b e hq
theorem aoa (h : KP S w p tp q fp vb M) {x a : Nat} (hx : x < 256) (hb : ¬ badM a) (hc : M.tok x < a) : Calls Tryz.prog 55 #[.pointer (some ⟨p,0,none⟩),.int .u8 (x : Int),.int .u64 (a : Int)] w (EP S w p tp q fp vb M (.tuple #[.int .u64 0,.int .i64 16])) := by
 have H := Lib.hid (aad a hb)
 have HO := Lib.hid (adf h hx)
 have HQ := Lib.hid (QP.same h (Fr.refl F0 w))
 have l1 : (M.tok x : Int) < (a : Int) := by omega
 have e0 := h.at_
 unfold bkC at e0
 unfold EP
 generalize M.tok x = t at *
 clear h hb
 go_enter Tryz.func55,Tryz.ntmps55
 go_wp2_with fail
 (with_reducible refine (H.out _).mono ?_); rintro e w1 ⟨rfl,hw⟩; replace hw := hw.symm; subst hw
 go_wp2_with fail
 (with_reducible refine HO.out.mono ?_); rintro e w1 ⟨rfl,hw⟩; replace hw := hw.symm; subst hw
 go_wp2_with fail
 go_ret2
 exact ⟨rfl,HQ.out⟩
theorem ak3 (h : KP S w p tp q fp vb M) (hM : M.Ok) {x a : Nat} (hx : x < 256) (hb : ¬ badM a) (hc : ¬ M.tok x < a) (ho : M.pn < a) : Calls Tryz.prog 55 #[.pointer (some ⟨p,0,none⟩),.int .u8 (x : Int),.int .u64 (a : Int)] w (EP S w p tp q fp vb M (.tuple #[.int .u64 0,.int .i64 16])) := by
 have hbb : ¬ (a = 0 ∨ 4611686018427387904 < a) := hb
 have htk := hM.tok
 have hms := hM.most
 have hhe := hM.held
 have hin := hM.inn
 have hpd := hM.paid
 have H := Lib.hid (aad a hb)
 have HO := Lib.hid (adf h hx)
 have HM := Lib.hid (fun (W : World) (f : Fr F0 w W) => zl.start h f)
 have HB := Lib.hid (fun (W : World) (g : Nat) (r : W.heap[g]? = some (.cells #[.int .u64 (M.pc : Int),.int .u64 (M.pn : Int)] 76 (0,0))) => al3 (w := W) (p := g) (c := M.pc) (i := M.pn) ⟨r,by omega,by omega⟩ a (by omega))
 obtain ⟨s1,s2⟩ := aor (i := M.pn) (a := a) (by omega) (by omega) (by omega)
 rw [s1,s2] at HB
 have l1 : ¬ (M.tok x : Int) < (a : Int) := by omega
 have e0 := h.at_
 have hl := h.alm
 have oP := tq M.pc M.pn
 unfold bkC at e0
 unfold EP
 generalize M.tok x = t at *
 clear h hb hbb htk hms hhe hin hpd s1 s2 ho hM
 go_enter Tryz.func55,Tryz.ntmps55
 go_wp2_with fail
 (with_reducible refine (H.out _).mono ?_); rintro e w1 ⟨rfl,hw⟩; replace hw := hw.symm; subst hw
 go_wp2_with fail
 (with_reducible refine HO.out.mono ?_); rintro e w1 ⟨rfl,hw⟩; replace hw := hw.symm; subst hw
 go_upto_region 6 with fail
 refine jc fun w4 N => ?_
 have r8 := N.new
 have m := Lib.hid ((HM.out _ (Fr.refl F0 w)).add N.fr (Nat.le_refl _) (Array.getElem?_eq_some_iff.1 r8).1)
 clear N e0 hl
 obtain ⟨g8,hg8⟩ : ∃ g,w.heap.size = g := ⟨_,rfl⟩
 rw [hg8] at r8 m ⊢
 clear hg8
 go_wp2_with fail
 (with_reducible refine (HB.out _ _ r8).mono ?_); rintro e w5 ⟨rfl,-,f5⟩
 replace m := Lib.hid (m.out.box (f5.mono fun k _ e => .inr e))
 clear f5 r8
 go_wp2_with fail
 go_ret2
 exact ⟨rfl,m.out.qp⟩
theorem aqd (h : KP S w p tp q fp vb M) (hM : M.Ok) {x a : Nat} (hx : x < 256) (hb : ¬ badM a) (hc : ¬ M.tok x < a) (ho : ¬ M.pn < a) : Calls Tryz.prog 55 #[.pointer (some ⟨p,0,none⟩),.int .u8 (x : Int),.int .u64 (a : Int)] w
  (EP S w p tp q fp vb { M with tok := upd M.tok x (M.tok x - a),pn := M.pn - a,pc := M.pc - M.pc * a / M.pn,held := M.held - M.pc * a / M.pn,free := upd M.free x (M.free x + M.pc * a / M.pn) } (.tuple #[.int .u64 ((M.pc * a / M.pn : Nat) : Int),.int .i64 0])) := by
 have hbb : ¬ (a = 0 ∨ 4611686018427387904 < a) := hb
 have htk := hM.tok
 have hms := hM.most
 have hhe := hM.held
 have hin := hM.inn
 have hpd := hM.paid
 have H := Lib.hid (aad a hb)
 have HO := Lib.hid (adf h hx)
 have HM := Lib.hid (fun (W : World) (f : Fr F0 w W) => zl.start h f)
 have hsl : M.pc * a / M.pn ≤ M.pc := aeg (by omega)
 have HB := Lib.hid (fun (W : World) (g : Nat) (r : W.heap[g]? = some (.cells #[.int .u64 (M.pc : Int),.int .u64 (M.pn : Int)] 76 (0,0))) => al3 (w := W) (p := g) (c := M.pc) (i := M.pn) ⟨r,by omega,by omega⟩ a (by omega))
 rw [avc (by omega) (by omega) (by omega),aBy (by omega) (by omega),show gnN M.pn a = a from if_pos ⟨by omega,by omega⟩] at HB
 obtain ⟨s,hs⟩ : ∃ s,s = M.pc * a / M.pn := ⟨_,rfl⟩
 rw [← hs] at HB hsl ⊢
 obtain ⟨c2,hc2⟩ : ∃ s',s' = M.pc - s := ⟨_,rfl⟩
 obtain ⟨i2,hi2⟩ : ∃ s',s' = M.pn - a := ⟨_,rfl⟩
 rw [← hc2,← hi2] at HB ⊢
 have HF := Lib.hid (fun (W : World) (T : Nat → Prop) (kp0 : KP T W p tp q fp vb M) => akf kp0 hx (show s ≤ M.held by omega))
 have hq : zx M.tok (uy M.tok 256) x a = (0,upd M.tok x (M.tok x - a),uy M.tok 256 - a) := by unfold zx afy; rw [if_neg (by simp; omega)]; exact if_neg hc
 have HBu := Lib.hid (fun (W : World) (T : Nat → Prop) (kp0 : KP T W p tp q fp vb { M with free := upd M.free x (M.free x + s),held := M.held - s }) => aJ1 kp0 hms hx (show a < 18446744073709551616 by omega))
 dsimp only at HBu
 rw [hq] at HBu
 have l1 : ¬ (M.tok x : Int) < (a : Int) := by omega
 have e0 := h.at_
 have hl := h.alm
 have oP := tq M.pc M.pn
 have oP2 := tq c2 i2
 unfold bkC at e0
 unfold EP
 clear h hb hbb htk hms hhe hin hpd ho hM hsl hs hc2 hi2 hq
 go_enter Tryz.func55,Tryz.ntmps55
 go_wp2_with fail
 (with_reducible refine (H.out _).mono ?_); rintro e w1 ⟨rfl,hw⟩; replace hw := hw.symm; subst hw
 go_wp2_with fail
 (with_reducible refine HO.out.mono ?_); rintro e w1 ⟨rfl,hw⟩; replace hw := hw.symm; subst hw
 go_upto_region 6 with fail
 refine jc fun w4 N => ?_
 have r8 := N.new
 have m := Lib.hid ((HM.out _ (Fr.refl F0 w)).add N.fr (Nat.le_refl _) (Array.getElem?_eq_some_iff.1 r8).1)
 clear N e0 hl
 obtain ⟨g8,hg8⟩ : ∃ g,w.heap.size = g := ⟨_,rfl⟩
 rw [hg8] at r8 m ⊢
 clear hg8
 go_wp2_with fail
 (with_reducible refine (HB.out _ _ r8).mono ?_); rintro e w5 ⟨rfl,d8,f5⟩
 replace m := Lib.hid (m.out.box (f5.mono fun k _ e => .inr e))
 clear f5 r8
 have r8 := d8.at_
 clear d8
 have e0 := m.out.kp.at_
 unfold bkC at e0
 go_wp2_with fail
 (with_reducible refine (HF.out _ _ m.out.kp).mono ?_); rintro e w6 ⟨rfl,h6⟩
 replace r8 := m.out.row h6 (.inr rfl) r8
 obtain ⟨T6,m6⟩ := m.out.next h6
 clear h6 m e0
 have m := Lib.hid m6
 clear m6
 have e0 := m.out.kp.at_
 unfold bkC at e0
 try dsimp only at e0
 go_wp2_with fail
 (with_reducible refine (HBu.out _ _ m.out.kp).mono ?_); rintro e w7 ⟨rfl,h7⟩
 replace r8 := m.out.row h7 (.inr rfl) r8
 obtain ⟨T7,m7⟩ := m.out.next h7
 clear h7 m e0
 have m := Lib.hid m7
 clear m7
 obtain ⟨wp,hst,hqp⟩ := m.out.kp.aqr c2 i2
 have HFi := Lib.hid (m.out.last hqp)
 have e0 := m.out.kp.at_
 unfold bkC at e0
 try dsimp only at e0
 clear m hqp
 go_wp2_with fail
 go_ret2
 exact ⟨rfl,HFi.out⟩
end
section
variable {S : Nat → Prop} {w w' W : World} {p tp q fp vb : Nat} {M : Bok}
theorem ath (h : KP S w p tp q fp vb M) {x a : Nat} (hx : x < 256) (hE : opE M x a false ≠ 0) : ∃ u E1,
  (∀ W,Fr F0 w W → Calls Tryz.prog 83 #[.pointer (some ⟨p,0,none⟩),.int .u8 (x : Int),.int .u64 (a : Int)] W fun e w' => e = .returned (.tuple #[vBv u,.int .i64 E1]) ∧ Fr F0 W w') ∧
  ∀ W,Calls Tryz.prog 82 #[vBv u,.int .i64 E1] W fun e w' => e = .returned (.tuple #[vBv v0,.int .i64 (opE M x a false)]) ∧ Fr F0 W w' := by
 rcases aej M x a with ⟨h1,h2⟩ | ⟨h1,h2,h3,h4⟩ | ⟨y,h1,h2,h3,h4,h5,h6⟩
 ·exact ⟨v0,1,fun W f => ad8 a x p h1 W,fun W => by rw [h2]; exact aau v0 1 (by decide) W⟩
 ·refine ⟨v0,12,fun W f => ?_,fun W => by rw [h4]; exact aau v0 12 (by decide) W⟩
  have := ab5 (h.fr0 f) hx (show opE M x a true ≠ 0 by rw [h4]; decide)
  rw [h4] at this
  exact this
 ·have hf : y.fal = true := by
   cases hf : y.fal with
   |true => rfl
   |false => rw [h6,hf] at hE; exact absurd rfl hE
  exact ⟨y,0,fun W f => iw (h.fr0 f) hx h1 h2,fun W => by rw [h6,hf]; exact aay y hf W⟩
theorem ayd (h : KP S w p tp q fp vb M) (hM : M.Ok) {x v a : Nat} (hv : v < 256) (hx : x < 256) (ha : a < 18446744073709551616) (hb : ¬ badM a) {y : Vlt} (hg : gOf M.vs x = some y) (hy : M.vs[atV M.vs x]? = some y) (hyw : y.who = x) (hf : y.fal = false) (hE : opE M v a false ≠ 0) :
  Calls Tryz.prog 54 #[.pointer (some ⟨p,0,none⟩),.int .u8 (x : Int),.int .u8 (v : Int),.int .u64 (a : Int)] w (EP S w p tp q fp vb M (.int .i64 (opE M v a false))) := by
 have hvk := hM.vok y (jh hy)
 have hbu := hvk.bur
 have hxl := hvk.lea
 have hbb : ¬ (a = 0 ∨ 4611686018427387904 < a) := hb
 unfold Vlt.bur at hbu
 obtain ⟨u,E1,H3,H4⟩ := ath h hv hE
 have sz0 := lu v0
 have oS0 := ru v0
 have q0 : (opE M v a false != 0) = true := bne_iff_ne.2 hE
 generalize opE M v a false = E at *
 simp only [iq] at H3 H4
 replace H3 := Lib.hid H3
 replace H4 := Lib.hid H4
 generalize cB v0 = C0 at *
 generalize cB u = U at *
 have H1 := Lib.hid (iw h hx hb hg)
 have H2 := Lib.hid (gy y hf)
 have HM := Lib.hid (fun (W : World) (f : Fr F0 w W) => zl.start h f)
 simp only [iq] at H1 H2
 obtain ⟨sz,oS,c0,c21,c22,c23,c24,c25,c26⟩ := cBf y
 try dsimp only at c0 c21 c22 c23 c24 c25 c26
 obtain ⟨C,hC⟩ : ∃ C,C = cB y := ⟨_,rfl⟩
 rw [← hC] at H1 H2 sz oS c0 c21 c22 c23 c24 c25 c26
 clear c0 c21 c22 c23 c24 c25 c26
 replace hC := Lib.hid hC
 clear h hM hx ha hb hg hy hyw hvk hbu hxl hbb hv hE
 unfold EP
 go_enter Tryz.func54,Tryz.ntmps54
 go_wp2_with fail
 (with_reducible refine H1.out.mono ?_); rintro e w1 ⟨rfl,f1⟩
 have F2 := Lib.hid f1
 clear f1 H1
 go_wp2_with fail
 (with_reducible refine (H2.out _).mono ?_); rintro e w2 ⟨rfl,f2⟩
 replace F2 := Lib.hid (F2.out.trans' f2)
 clear f2 H2
 go_upto_region 2 with fail
 refine jc fun w4 N => ?_
 have r7 := N.new
 have FW := Lib.hid (F2.out.trans' N.fr)
 have m := Lib.hid ((HM.out _ F2.out).add N.fr (Nat.le_refl _) (Array.getElem?_eq_some_iff.1 r7).1)
 clear N F2 HM
 obtain ⟨g7,hg7⟩ : ∃ g,w2.heap.size = g := ⟨_,rfl⟩
 rw [hg7] at r7 m ⊢
 clear hg7
 go_wp2_with fail
 (with_reducible refine (H3.out _ FW.out).mono ?_); rintro e w5 ⟨rfl,f5⟩
 replace m := Lib.hid (m.out.fr0 f5)
 clear f5 r7
 go_wp2_with fail
 (with_reducible refine (H4.out _).mono ?_); rintro e w6 ⟨rfl,f6⟩
 replace m := Lib.hid (m.out.fr0 f6)
 clear f6
 go_upto_region 5 with fail
 refine jc fun w7 N => ?_
 replace m := Lib.hid (m.out.fr0 N.fr)
 clear N
 go_wp2_with fail
 go_ret
 exact ⟨rfl,m.out.qp⟩
theorem aqk (h : KP S w p tp q fp vb M) (hM : M.Ok) {x v a : Nat} (hv : v < 256) (hx : x < 256) (ha : a < 18446744073709551616) (hb : ¬ badM a) {y : Vlt} (hg : gOf M.vs x = some y) (hy : M.vs[atV M.vs x]? = some y) (hyw : y.who = x) (hf : y.fal = false) {u : Vlt} (hgu : gOf M.vs v = some u) (hu : M.vs[atV M.vs v]? = some u) (hfu : u.fal = false) (he : v = x) :
  Calls Tryz.prog 54 #[.pointer (some ⟨p,0,none⟩),.int .u8 (x : Int),.int .u8 (v : Int),.int .u64 (a : Int)] w (EP S w p tp q fp vb M (.int .i64 9)) := by
 have hvk := hM.vok y (jh hy)
 have hbu := hvk.bur
 have hxl := hvk.lea
 have hbb : ¬ (a = 0 ∨ 4611686018427387904 < a) := hb
 unfold Vlt.bur at hbu
 have H3 := Lib.hid (fun (W : World) (f : Fr F0 w W) => iw (h.fr0 f) hv hb hgu)
 have H4 := Lib.hid (gy u hfu)
 simp only [iq] at H3 H4
 obtain ⟨szu,oSu,k0,k21,k22,k23,k24,k25,k26⟩ := cBf u
 obtain ⟨D,hD⟩ : ∃ C,C = cB u := ⟨_,rfl⟩
 rw [← hD] at H3 H4 szu oSu k0 k21 k22 k23 k24 k25 k26
 have i22 := ay k22
 have i23 := ay k23
 clear k0 k21 k24 k25 k26
 replace hD := Lib.hid hD
 have H1 := Lib.hid (iw h hx hb hg)
 have H2 := Lib.hid (gy y hf)
 have HM := Lib.hid (fun (W : World) (f : Fr F0 w W) => zl.start h f)
 simp only [iq] at H1 H2
 have qe : ((x : Int) == (v : Int)) = true := by rw [he]; simp
 obtain ⟨sz,oS,c0,c21,c22,c23,c24,c25,c26⟩ := cBf y
 try dsimp only at c0 c21 c22 c23 c24 c25 c26
 obtain ⟨C,hC⟩ : ∃ C,C = cB y := ⟨_,rfl⟩
 rw [← hC] at H1 H2 sz oS c0 c21 c22 c23 c24 c25 c26
 have d22 := ay c22
 have d25 := ay c25
 clear c0 c21 c23 c24 c26
 replace hC := Lib.hid hC
 clear h hM hx ha hb hg hy hyw hvk hbu hxl hbb hv hgu hu hfu he
 unfold EP
 go_enter Tryz.func54,Tryz.ntmps54
 go_wp2_with fail
 (with_reducible refine H1.out.mono ?_); rintro e w1 ⟨rfl,f1⟩
 have F2 := Lib.hid f1
 clear f1 H1
 go_wp2_with fail
 (with_reducible refine (H2.out _).mono ?_); rintro e w2 ⟨rfl,f2⟩
 replace F2 := Lib.hid (F2.out.trans' f2)
 clear f2 H2
 go_upto_region 2 with fail
 refine jc fun w4 N => ?_
 have r7 := N.new
 have FW := Lib.hid (F2.out.trans' N.fr)
 have m := Lib.hid ((HM.out _ F2.out).add N.fr (Nat.le_refl _) (Array.getElem?_eq_some_iff.1 r7).1)
 clear N F2 HM
 obtain ⟨g7,hg7⟩ : ∃ g,w2.heap.size = g := ⟨_,rfl⟩
 rw [hg7] at r7 m ⊢
 clear hg7
 go_wp2_with fail
 (with_reducible refine (H3.out _ FW.out).mono ?_); rintro e w4 ⟨rfl,f5⟩
 replace r7 := dn f5 r7
 replace m := Lib.hid (m.out.fr0 f5)
 clear f5 H3
 go_wp2_with fail
 (with_reducible refine (H4.out _).mono ?_); rintro e w4 ⟨rfl,f6⟩
 replace r7 := dn f6 r7
 replace m := Lib.hid (m.out.fr0 f6)
 clear f6 H4
 go_upto_region 5 with fail
 have l7 : g7 < w4.heap.size := (Array.getElem?_eq_some_iff.1 r7).1
 refine jc fun w5 N => ?_
 have r8 := N.new
 replace r7 := N.old r7
 replace m := Lib.hid (m.out.add N.fr (Nat.le_refl _) (Array.getElem?_eq_some_iff.1 r8).1)
 clear N
 obtain ⟨g8,hg8⟩ : ∃ g,w4.heap.size = g := ⟨_,rfl⟩
 rw [hg8] at r8 m l7 ⊢
 have n78 : g7 ≠ g8 := by omega
 have n87 : g8 ≠ g7 := by omega
 clear hg8 l7
 go_wp2_with fail
 go_ret
 exact ⟨rfl,m.out.qp⟩
theorem aqm (h : KP S w p tp q fp vb M) (hM : M.Ok) {x v a : Nat} (hv : v < 256) (hx : x < 256) (ha : a < 18446744073709551616) (hb : ¬ badM a) {y : Vlt} (hg : gOf M.vs x = some y) (hy : M.vs[atV M.vs x]? = some y) (hyw : y.who = x) (hf : y.fal = false) {u : Vlt} (hgu : gOf M.vs v = some u) (hu : M.vs[atV M.vs v]? = some u) (hfu : u.fal = false) (he : ¬ v = x) (hc : y.lea < a) :
  Calls Tryz.prog 54 #[.pointer (some ⟨p,0,none⟩),.int .u8 (x : Int),.int .u8 (v : Int),.int .u64 (a : Int)] w (EP S w p tp q fp vb M (.int .i64 16)) := by
 have hvk := hM.vok y (jh hy)
 have hbu := hvk.bur
 have hxl := hvk.lea
 have hbb : ¬ (a = 0 ∨ 4611686018427387904 < a) := hb
 unfold Vlt.bur at hbu
 have H3 := Lib.hid (fun (W : World) (f : Fr F0 w W) => iw (h.fr0 f) hv hb hgu)
 have H4 := Lib.hid (gy u hfu)
 simp only [iq] at H3 H4
 obtain ⟨szu,oSu,k0,k21,k22,k23,k24,k25,k26⟩ := cBf u
 obtain ⟨D,hD⟩ : ∃ C,C = cB u := ⟨_,rfl⟩
 rw [← hD] at H3 H4 szu oSu k0 k21 k22 k23 k24 k25 k26
 have i22 := ay k22
 have i23 := ay k23
 clear k0 k21 k24 k25 k26
 replace hD := Lib.hid hD
 have H1 := Lib.hid (iw h hx hb hg)
 have H2 := Lib.hid (gy y hf)
 have HM := Lib.hid (fun (W : World) (f : Fr F0 w W) => zl.start h f)
 simp only [iq] at H1 H2
 have qe : ((x : Int) == (v : Int)) = false := by simp; omega
 have l1 : (y.lea : Int) < (a : Int) := by omega
 obtain ⟨sz,oS,c0,c21,c22,c23,c24,c25,c26⟩ := cBf y
 try dsimp only at c0 c21 c22 c23 c24 c25 c26
 obtain ⟨C,hC⟩ : ∃ C,C = cB y := ⟨_,rfl⟩
 rw [← hC] at H1 H2 sz oS c0 c21 c22 c23 c24 c25 c26
 have d22 := ay c22
 have d25 := ay c25
 clear c0 c21 c23 c24 c26
 replace hC := Lib.hid hC
 clear h hM hx ha hb hg hy hyw hvk hbu hxl hbb hv hgu hu hfu he
 unfold EP
 go_enter Tryz.func54,Tryz.ntmps54
 go_wp2_with fail
 (with_reducible refine H1.out.mono ?_); rintro e w1 ⟨rfl,f1⟩
 have F2 := Lib.hid f1
 clear f1 H1
 go_wp2_with fail
 (with_reducible refine (H2.out _).mono ?_); rintro e w2 ⟨rfl,f2⟩
 replace F2 := Lib.hid (F2.out.trans' f2)
 clear f2 H2
 go_upto_region 2 with fail
 refine jc fun w4 N => ?_
 have r7 := N.new
 have FW := Lib.hid (F2.out.trans' N.fr)
 have m := Lib.hid ((HM.out _ F2.out).add N.fr (Nat.le_refl _) (Array.getElem?_eq_some_iff.1 r7).1)
 clear N F2 HM
 obtain ⟨g7,hg7⟩ : ∃ g,w2.heap.size = g := ⟨_,rfl⟩
 rw [hg7] at r7 m ⊢
 clear hg7
 go_wp2_with fail
 (with_reducible refine (H3.out _ FW.out).mono ?_); rintro e w4 ⟨rfl,f5⟩
 replace r7 := dn f5 r7
 replace m := Lib.hid (m.out.fr0 f5)
 clear f5 H3
 go_wp2_with fail
 (with_reducible refine (H4.out _).mono ?_); rintro e w4 ⟨rfl,f6⟩
 replace r7 := dn f6 r7
 replace m := Lib.hid (m.out.fr0 f6)
 clear f6 H4
 go_upto_region 5 with fail
 have l7 : g7 < w4.heap.size := (Array.getElem?_eq_some_iff.1 r7).1
 refine jc fun w5 N => ?_
 have r8 := N.new
 replace r7 := N.old r7
 replace m := Lib.hid (m.out.add N.fr (Nat.le_refl _) (Array.getElem?_eq_some_iff.1 r8).1)
 clear N
 obtain ⟨g8,hg8⟩ : ∃ g,w4.heap.size = g := ⟨_,rfl⟩
 rw [hg8] at r8 m l7 ⊢
 have n78 : g7 ≠ g8 := by omega
 have n87 : g8 ≠ g7 := by omega
 clear hg8 l7
 go_wp2_with fail
 go_ret
 exact ⟨rfl,m.out.qp⟩
theorem aql (h : KP S w p tp q fp vb M) (hM : M.Ok) {x v a : Nat} (hv : v < 256) (hx : x < 256) (ha : a < 18446744073709551616) (hb : ¬ badM a) {y : Vlt} (hg : gOf M.vs x = some y) (hy : M.vs[atV M.vs x]? = some y) (hyw : y.who = x) (hf : y.fal = false) {u : Vlt} (hgu : gOf M.vs v = some u) (hu : M.vs[atV M.vs v]? = some u) (hfu : u.fal = false) (he : ¬ v = x) (hc : ¬ y.lea < a) (hc2 : u.com < a) :
  Calls Tryz.prog 54 #[.pointer (some ⟨p,0,none⟩),.int .u8 (x : Int),.int .u8 (v : Int),.int .u64 (a : Int)] w (EP S w p tp q fp vb M (.int .i64 16)) := by
 have hvk := hM.vok y (jh hy)
 have hbu := hvk.bur
 have hxl := hvk.lea
 have hbb : ¬ (a = 0 ∨ 4611686018427387904 < a) := hb
 unfold Vlt.bur at hbu
 have H3 := Lib.hid (fun (W : World) (f : Fr F0 w W) => iw (h.fr0 f) hv hb hgu)
 have H4 := Lib.hid (gy u hfu)
 simp only [iq] at H3 H4
 obtain ⟨szu,oSu,k0,k21,k22,k23,k24,k25,k26⟩ := cBf u
 obtain ⟨D,hD⟩ : ∃ C,C = cB u := ⟨_,rfl⟩
 rw [← hD] at H3 H4 szu oSu k0 k21 k22 k23 k24 k25 k26
 have i22 := ay k22
 have i23 := ay k23
 clear k0 k21 k24 k25 k26
 replace hD := Lib.hid hD
 have H1 := Lib.hid (iw h hx hb hg)
 have H2 := Lib.hid (gy y hf)
 have HM := Lib.hid (fun (W : World) (f : Fr F0 w W) => zl.start h f)
 simp only [iq] at H1 H2
 have qe : ((x : Int) == (v : Int)) = false := by simp; omega
 have l1 : ¬ (y.lea : Int) < (a : Int) := by omega
 have l2 : (u.com : Int) < (a : Int) := by omega
 obtain ⟨sz,oS,c0,c21,c22,c23,c24,c25,c26⟩ := cBf y
 try dsimp only at c0 c21 c22 c23 c24 c25 c26
 obtain ⟨C,hC⟩ : ∃ C,C = cB y := ⟨_,rfl⟩
 rw [← hC] at H1 H2 sz oS c0 c21 c22 c23 c24 c25 c26
 have d22 := ay c22
 have d25 := ay c25
 clear c0 c21 c23 c24 c26
 replace hC := Lib.hid hC
 clear h hM hx ha hb hg hy hyw hvk hbu hxl hbb hv hgu hu hfu he
 unfold EP
 go_enter Tryz.func54,Tryz.ntmps54
 go_wp2_with fail
 (with_reducible refine H1.out.mono ?_); rintro e w1 ⟨rfl,f1⟩
 have F2 := Lib.hid f1
 clear f1 H1
 go_wp2_with fail
 (with_reducible refine (H2.out _).mono ?_); rintro e w2 ⟨rfl,f2⟩
 replace F2 := Lib.hid (F2.out.trans' f2)
 clear f2 H2
 go_upto_region 2 with fail
 refine jc fun w4 N => ?_
 have r7 := N.new
 have FW := Lib.hid (F2.out.trans' N.fr)
 have m := Lib.hid ((HM.out _ F2.out).add N.fr (Nat.le_refl _) (Array.getElem?_eq_some_iff.1 r7).1)
 clear N F2 HM
 obtain ⟨g7,hg7⟩ : ∃ g,w2.heap.size = g := ⟨_,rfl⟩
 rw [hg7] at r7 m ⊢
 clear hg7
 go_wp2_with fail
 (with_reducible refine (H3.out _ FW.out).mono ?_); rintro e w4 ⟨rfl,f5⟩
 replace r7 := dn f5 r7
 replace m := Lib.hid (m.out.fr0 f5)
 clear f5 H3
 go_wp2_with fail
 (with_reducible refine (H4.out _).mono ?_); rintro e w4 ⟨rfl,f6⟩
 replace r7 := dn f6 r7
 replace m := Lib.hid (m.out.fr0 f6)
 clear f6 H4
 go_upto_region 5 with fail
 have l7 : g7 < w4.heap.size := (Array.getElem?_eq_some_iff.1 r7).1
 refine jc fun w5 N => ?_
 have r8 := N.new
 replace r7 := N.old r7
 replace m := Lib.hid (m.out.add N.fr (Nat.le_refl _) (Array.getElem?_eq_some_iff.1 r8).1)
 clear N
 obtain ⟨g8,hg8⟩ : ∃ g,w4.heap.size = g := ⟨_,rfl⟩
 rw [hg8] at r8 m l7 ⊢
 have n78 : g7 ≠ g8 := by omega
 have n87 : g8 ≠ g7 := by omega
 clear hg8 l7
 go_wp2_with fail
 go_ret
 exact ⟨rfl,m.out.qp⟩
theorem aye (h : KP S w p tp q fp vb M) (hM : M.Ok) {x v a : Nat} (hv : v < 256) (hx : x < 256) (ha : a < 18446744073709551616) (hb : ¬ badM a) {y : Vlt} (hg : gOf M.vs x = some y) (hy : M.vs[atV M.vs x]? = some y) (hyw : y.who = x) (hf : y.fal = false) {u : Vlt} (hgu : gOf M.vs v = some u) (hu : M.vs[atV M.vs v]? = some u) (hfu : u.fal = false) (he : ¬ v = x) (hc : ¬ y.lea < a) (hc2 : ¬ u.com < a) (huw : u.who = v) :
  Calls Tryz.prog 54 #[.pointer (some ⟨p,0,none⟩),.int .u8 (x : Int),.int .u8 (v : Int),.int .u64 (a : Int)] w (EP S w p tp q fp vb { M with vs := (M.vs.set (atV M.vs x) { y with lea := y.lea - a,iss := y.iss - a }).set (atV M.vs v) { u with com := u.com - a,iss := u.iss + a } } (.int .i64 0)) := by
 have hvk := hM.vok y (jh hy)
 have hbu := hvk.bur
 have hxl := hvk.lea
 have hbb : ¬ (a = 0 ∨ 4611686018427387904 < a) := hb
 unfold Vlt.bur at hbu
 have hvu := hM.vok u (jh hu)
 have hbu2 := hvu.bur
 unfold Vlt.bur at hbu2
 obtain ⟨z1,hz1⟩ : ∃ z,z = y.lea - a := ⟨_,rfl⟩
 rw [← hz1]
 obtain ⟨z2,hz2⟩ : ∃ z,z = y.iss - a := ⟨_,rfl⟩
 rw [← hz2]
 obtain ⟨z3,hz3⟩ : ∃ z,z = u.com - a := ⟨_,rfl⟩
 rw [← hz3]
 obtain ⟨z4,hz4⟩ : ∃ z,z = u.iss + a := ⟨_,rfl⟩
 rw [← hz4]
 have H3 := Lib.hid (fun (W : World) (f : Fr F0 w W) => iw (h.fr0 f) hv hb hgu)
 have H4 := Lib.hid (gy u hfu)
 simp only [iq] at H3 H4
 obtain ⟨szu,oSu,k0,k21,k22,k23,k24,k25,k26⟩ := cBf u
 obtain ⟨D,hD⟩ : ∃ C,C = cB u := ⟨_,rfl⟩
 rw [← hD] at H3 H4 szu oSu k0 k21 k22 k23 k24 k25 k26
 have i22 := ay k22
 have i23 := ay k23
 clear k0 k21 k24 k25 k26
 replace hD := Lib.hid hD
 have H1 := Lib.hid (iw h hx hb hg)
 have H2 := Lib.hid (gy y hf)
 have HM := Lib.hid (fun (W : World) (f : Fr F0 w W) => zl.start h f)
 simp only [iq] at H1 H2
 have qe : ((x : Int) == (v : Int)) = false := by simp; omega
 have m1 : IntKind.u64.wrap ((y.lea : Int) - (a : Int)) = (z1 : Int) := by rw [IntWalk.u64_in _ (by omega)]; omega
 have m2 : IntKind.u64.wrap ((y.iss : Int) - (a : Int)) = (z2 : Int) := by rw [IntWalk.u64_in _ (by omega)]; omega
 have m3 : IntKind.u64.wrap ((u.com : Int) - (a : Int)) = (z3 : Int) := by rw [IntWalk.u64_in _ (by omega)]; omega
 have m4 : IntKind.u64.wrap ((u.iss : Int) + (a : Int)) = (z4 : Int) := by rw [IntWalk.u64_in _ (by omega)]; omega
 have l1 : ¬ (y.lea : Int) < (a : Int) := by omega
 have l2 : ¬ (u.com : Int) < (a : Int) := by omega
 have hu1 : (M.vs.set (atV M.vs x) { y with lea := z1,iss := z2 })[atV M.vs v]? = some u := by
  rw [List.getElem?_set_ne]
  ·exact hu
  ·intro e
   rw [e,hu] at hy
   have := congrArg Vlt.who (Option.some.inj hy)
   omega
 have HPu := Lib.hid (fun (W : World) (T : Nat → Prop) (kp0 : KP T W p tp q fp vb M) => ug kp0 (l := M.vs.set (atV M.vs x) { y with lea := z1,iss := z2 }) (y := { y with lea := z1,iss := z2 }) (by rw [show ({ y with lea := z1,iss := z2 } : Vlt).who = y.who from rfl,hyw]; exact hx) (aok hM hy (z := { y with lea := z1,iss := z2 }) rfl))
 have HPv := Lib.hid (fun (W : World) (T : Nat → Prop) (kp0 : KP T W p tp q fp vb { M with vs := M.vs.set (atV M.vs x) { y with lea := z1,iss := z2 } }) => ug kp0 (l := (M.vs.set (atV M.vs x) { y with lea := z1,iss := z2 }).set (atV M.vs v) { u with com := z3,iss := z4 }) (y := { u with com := z3,iss := z4 }) (by rw [show ({ u with com := z3,iss := z4 } : Vlt).who = u.who from rfl,huw]; exact hv) (fun k => by rw [awc (ajt hM.asc hy (y := { y with lea := z1,iss := z2 }) rfl) hu1 (y := { u with com := z3,iss := z4 }) rfl]))
 simp only [iq] at HPu HPv
 obtain ⟨sz,oS,c0,c21,c22,c23,c24,c25,c26⟩ := cBf y
 try dsimp only at c0 c21 c22 c23 c24 c25 c26
 obtain ⟨C,hC⟩ : ∃ C,C = cB y := ⟨_,rfl⟩
 rw [← hC] at H1 H2 sz oS c0 c21 c22 c23 c24 c25 c26
 have d22 := ay c22
 have d25 := ay c25
 clear c0 c21 c23 c24 c26
 replace hC := Lib.hid hC
 clear h hM hx ha hb hg hy hyw hvk hbu hxl hbb hv hgu hu hfu he hc hc2 huw hvu hbu2 hz1 hz2 hz3 hz4 hu1
 unfold EP
 go_enter Tryz.func54,Tryz.ntmps54
 go_wp2_with fail
 (with_reducible refine H1.out.mono ?_); rintro e w1 ⟨rfl,f1⟩
 have F2 := Lib.hid f1
 clear f1 H1
 go_wp2_with fail
 (with_reducible refine (H2.out _).mono ?_); rintro e w2 ⟨rfl,f2⟩
 replace F2 := Lib.hid (F2.out.trans' f2)
 clear f2 H2
 go_upto_region 2 with fail
 refine jc fun w4 N => ?_
 have r7 := N.new
 have FW := Lib.hid (F2.out.trans' N.fr)
 have m := Lib.hid ((HM.out _ F2.out).add N.fr (Nat.le_refl _) (Array.getElem?_eq_some_iff.1 r7).1)
 clear N F2 HM
 obtain ⟨g7,hg7⟩ : ∃ g,w2.heap.size = g := ⟨_,rfl⟩
 rw [hg7] at r7 m ⊢
 clear hg7
 go_wp2_with fail
 (with_reducible refine (H3.out _ FW.out).mono ?_); rintro e w4 ⟨rfl,f5⟩
 replace r7 := dn f5 r7
 replace m := Lib.hid (m.out.fr0 f5)
 clear f5 H3
 go_wp2_with fail
 (with_reducible refine (H4.out _).mono ?_); rintro e w4 ⟨rfl,f6⟩
 replace r7 := dn f6 r7
 replace m := Lib.hid (m.out.fr0 f6)
 clear f6 H4
 go_upto_region 5 with fail
 have l7 : g7 < w4.heap.size := (Array.getElem?_eq_some_iff.1 r7).1
 refine jc fun w5 N => ?_
 have r8 := N.new
 replace r7 := N.old r7
 replace m := Lib.hid (m.out.add N.fr (Nat.le_refl _) (Array.getElem?_eq_some_iff.1 r8).1)
 clear N
 obtain ⟨g8,hg8⟩ : ∃ g,w4.heap.size = g := ⟨_,rfl⟩
 rw [hg8] at r8 m l7 ⊢
 have n78 : g7 ≠ g8 := by omega
 have n87 : g8 ≠ g7 := by omega
 clear hg8 l7
 go_upto_region 12 with fail
 have f5 := (Fr.refl (fun k => k = g7) w5).setCell (p := ⟨g7,25,none⟩) (fun _ => rfl) (.int .u64 (z1 : Int))
 have xx : VX (w5.setCell ⟨g7,25,none⟩ (.int .u64 (z1 : Int))) g7 { y with lea := z1 } := VX.aqs (show VX w5 g7 y by unfold VX; rw [← hC.out]; exact r7) z1
 have xo := f5.keeps n87 r8
 replace m := Lib.hid (m.out.box (f5.mono fun k _ e => .inl (.inr e)))
 clear f5 r7 r8
 obtain ⟨w5,hW5⟩ : ∃ X,X = w5.setCell ⟨g7,25,none⟩ (.int .u64 (z1 : Int)) := ⟨_,rfl⟩
 rw [← hW5] at xx xo m ⊢
 clear hW5
 have r7 := xx
 have r8 := xo
 clear xx xo
 unfold VX at r7
 obtain ⟨sz,oS,k0,k21,k22,k23,k24,k25,k26⟩ := cBf { y with lea := z1 }
 try dsimp only at k0 k21 k22 k23 k24 k25 k26
 obtain ⟨C,hC⟩ : ∃ C,C = cB { y with lea := z1 } := ⟨_,rfl⟩
 rw [← hC] at r7 sz oS k0 k21 k22 k23 k24 k25 k26
 have i22 := ay k22
 clear k0 k21 k24 k25 k26
 replace hC := Lib.hid hC
 go_upto_region 13 with fail
 have f5 := (Fr.refl (fun k => k = g7) w5).setCell (p := ⟨g7,22,none⟩) (fun _ => rfl) (.int .u64 (z2 : Int))
 have xx : VX (w5.setCell ⟨g7,22,none⟩ (.int .u64 (z2 : Int))) g7 { y with lea := z1,iss := z2 } := VX.agj (show VX w5 g7 { y with lea := z1 } by unfold VX; rw [← hC.out]; exact r7) z2
 have xo := f5.keeps n87 r8
 replace m := Lib.hid (m.out.box (f5.mono fun k _ e => .inl (.inr e)))
 clear f5 r7 r8
 obtain ⟨w5,hW5⟩ : ∃ X,X = w5.setCell ⟨g7,22,none⟩ (.int .u64 (z2 : Int)) := ⟨_,rfl⟩
 rw [← hW5] at xx xo m ⊢
 clear hW5
 have r7 := xx
 have r8 := xo
 clear xx xo
 unfold VX at r7
 obtain ⟨sz,oS,k0,k21,k22,k23,k24,k25,k26⟩ := cBf { y with lea := z1,iss := z2 }
 try dsimp only at k0 k21 k22 k23 k24 k25 k26
 obtain ⟨C,hC⟩ : ∃ C,C = cB { y with lea := z1,iss := z2 } := ⟨_,rfl⟩
 rw [← hC] at r7 sz oS k0 k21 k22 k23 k24 k25 k26
 have i22 := ay k22
 clear k0 k21 k24 k25 k26
 replace hC := Lib.hid hC
 go_upto_region 14 with fail
 have f5 := (Fr.refl (fun k => k = g8) w5).setCell (p := ⟨g8,23,none⟩) (fun _ => rfl) (.int .u64 (z3 : Int))
 have xx : VX (w5.setCell ⟨g8,23,none⟩ (.int .u64 (z3 : Int))) g8 { u with com := z3 } := VX.ail (show VX w5 g8 u by unfold VX; rw [← hD.out]; exact r8) z3
 have xo := f5.keeps n78 r7
 replace m := Lib.hid (m.out.box (f5.mono fun k _ e => .inr e))
 clear f5 r7 r8
 obtain ⟨w5,hW5⟩ : ∃ X,X = w5.setCell ⟨g8,23,none⟩ (.int .u64 (z3 : Int)) := ⟨_,rfl⟩
 rw [← hW5] at xx xo m ⊢
 clear hW5
 have r8 := xx
 have r7 := xo
 clear xx xo
 unfold VX at r8
 obtain ⟨szu,oSu,k0,k21,k22,k23,k24,k25,k26⟩ := cBf { u with com := z3 }
 try dsimp only at k0 k21 k22 k23 k24 k25 k26
 obtain ⟨D,hD⟩ : ∃ C,C = cB { u with com := z3 } := ⟨_,rfl⟩
 rw [← hD] at r8 szu oSu k0 k21 k22 k23 k24 k25 k26
 have i22 := ay k22
 clear k0 k21 k24 k25 k26
 replace hD := Lib.hid hD
 go_upto_region 15 with fail
 have f5 := (Fr.refl (fun k => k = g8) w5).setCell (p := ⟨g8,22,none⟩) (fun _ => rfl) (.int .u64 (z4 : Int))
 have xx : VX (w5.setCell ⟨g8,22,none⟩ (.int .u64 (z4 : Int))) g8 { u with com := z3,iss := z4 } := VX.agj (show VX w5 g8 { u with com := z3 } by unfold VX; rw [← hD.out]; exact r8) z4
 have xo := f5.keeps n78 r7
 replace m := Lib.hid (m.out.box (f5.mono fun k _ e => .inr e))
 clear f5 r7 r8
 obtain ⟨w5,hW5⟩ : ∃ X,X = w5.setCell ⟨g8,22,none⟩ (.int .u64 (z4 : Int)) := ⟨_,rfl⟩
 rw [← hW5] at xx xo m ⊢
 clear hW5
 have r8 := xx
 have r7 := xo
 clear xx xo
 unfold VX at r8
 obtain ⟨szu,oSu,k0,k21,k22,k23,k24,k25,k26⟩ := cBf { u with com := z3,iss := z4 }
 try dsimp only at k0 k21 k22 k23 k24 k25 k26
 obtain ⟨D,hD⟩ : ∃ C,C = cB { u with com := z3,iss := z4 } := ⟨_,rfl⟩
 rw [← hD] at r8 szu oSu k0 k21 k22 k23 k24 k25 k26
 have i22 := ay k22
 clear k0 k21 k24 k25 k26
 replace hD := Lib.hid hD
 have HP2 := HPu.out
 rw [← hC.out] at HP2
 replace HP2 := Lib.hid HP2
 have HP3 := HPv.out
 rw [← hD.out] at HP3
 replace HP3 := Lib.hid HP3
 go_wp2_with fail
 (with_reducible refine (HP2.out _ _ m.out.kp).mono ?_); rintro e w6 ⟨rfl,h6⟩
 replace r8 := m.out.row h6 (.inr rfl) r8
 obtain ⟨T6,m6⟩ := m.out.next h6
 clear h6 m r7
 have m := Lib.hid m6
 clear m6
 go_wp2_with fail
 (with_reducible refine (HP3.out _ _ m.out.kp).mono ?_); rintro e w7 ⟨rfl,h7⟩
 replace m := Lib.hid (m.out.last h7)
 clear h7 r8
 go_wp2_with fail
 go_ret
 exact ⟨rfl,m.out⟩
end
section
variable {S : Nat → Prop} {w w' W : World} {p tp q fp vb : Nat} {M : Bok}
abbrev V3 (p x a : Nat) : Array Value := #[.pointer (some ⟨p,0,none⟩),.int .u8 (x : Int),.int .u64 (a : Int)]
abbrev V4 (p x v a : Nat) : Array Value := #[.pointer (some ⟨p,0,none⟩),.int .u8 (x : Int),.int .u8 (v : Int),.int .u64 (a : Int)]
abbrev ED (S : Nat → Prop) (w : World) (p tp q fp vb : Nat) (r : acp) : Ending → World → Prop := EP S w p tp q fp vb r.1 (.int .i64 r.2.2)
theorem aal {f : FuncId} {args : Array Value} {v : Value} (h : KP S w p tp q fp vb M) (H : Calls Tryz.prog f args w fun e w' => e = .returned v ∧ Fr F0 w w') : Calls Tryz.prog f args w (EP S w p tp q fp vb M v) := H.mono fun _ _ ⟨a,b⟩ => ⟨a,QP.same h b⟩
theorem akg {f : FuncId} {args : Array Value} {v : Value} (h : KP S w p tp q fp vb M) (H : Calls Tryz.prog f args w fun e w' => e = .returned v ∧ w' = w) : Calls Tryz.prog f args w (EP S w p tp q fp vb M v) := H.mono fun _ _ ⟨a,b⟩ => ⟨a,QP.same h (by rw [b]; exact Fr.refl _ _)⟩
theorem aud (h : KP S w p tp q fp vb M) (hM : M.Ok) {x a : Nat} (hx : x < 256) (ha : a < 18446744073709551616) : Calls Tryz.prog 46 (V3 p x a) w (ED S w p tp q fp vb (vD M x a false (afa M x a))) := by
 by_cases hE : opE M x a false = 0
 ·obtain ⟨y,hb,hy,hg,hyw,hf⟩ := yx hE
  replace hf := hf rfl
  rw [abd hE hy]
  unfold afa
  by_cases hc : M.free x < a
  ·rw [if_pos hc]; exact auc h hM hx ha hb hg hy hyw hf hc
  ·rw [if_neg hc]; exact ax9 h hM hx ha hb hg hy hyw hf hc
 ·rw [ae6 hE]
  obtain ⟨u,E1,H1,H2⟩ := aa4 h hx hE
  exact aal h (aub H1 H2 hE)
theorem auj (h : KP S w p tp q fp vb M) (hM : M.Ok) {x a : Nat} (hx : x < 256) (ha : a < 18446744073709551616) : Calls Tryz.prog 47 (V3 p x a) w (ED S w p tp q fp vb (vD M x a false (adv usR M x a))) := by
 by_cases hE : opE M x a false = 0
 ·obtain ⟨y,hb,hy,hg,hyw,hf⟩ := yx hE
  replace hf := hf rfl
  rw [abd hE hy]
  unfold adv
  by_cases hc : y.coll < a
  ·rw [if_pos hc]; exact aui h hM hx ha hb hg hy hyw hf hc
  ·rw [if_neg hc]
   have hbu := (hM.vok y (jh hy)).bur
   rcases aq4 M (y.coll - a) y.bur with ⟨h1,e⟩ | ⟨h1,h2,e⟩ | ⟨h1,h2,h3,e⟩ | ⟨h1,h2,h3,e⟩
   ·rw [e,if_neg h1]; exact aod h hM hx ha hb hg hy hyw hf hc h1
   ·omega
   ·rw [e,if_neg (by decide)]; exact aoe h hM hx ha hb hg hy hyw hf hc h1 h3
   ·rw [e,if_pos rfl]; exact ayb h hM hx ha hb hg hy hyw hf hc h1 h3
 ·rw [ae6 hE]
  obtain ⟨u,E1,H1,H2⟩ := aa4 h hx hE
  exact aal h (auh H1 H2 hE)
theorem ak1 (h : KP S w p tp q fp vb M) (hM : M.Ok) {x a : Nat} (hx : x < 256) (ha : a < 18446744073709551616) : Calls Tryz.prog 48 (V3 p x a) w (ED S w p tp q fp vb (vD M x a true (zy M a))) := by
 by_cases hE : opE M x a true = 0
 ·obtain ⟨y,hb,hy,hg,hyw,hf⟩ := yx hE
  rw [abd hE hy]
  unfold zy
  by_cases hc : y.com < a
  ·rw [if_pos hc]; exact ak0 h hM hx ha hb hg hy hyw hc
  ·rw [if_neg hc]; exact an9 h hM hx ha hb hg hy hyw hc
 ·rw [ae6 hE]
  exact aal h (akz (u := v0) (E1 := 0) (ab5 h hx hE) hE)
theorem aug (h : KP S w p tp q fp vb M) (hM : M.Ok) {x v a : Nat} (hx : x < 256) (hv : v < 256) (ha : a < 18446744073709551616) : Calls Tryz.prog 24 (V4 p x v a) w (ED S w p tp q fp vb (vD M x a false (adt M v a))) := by
 by_cases hE : opE M x a false = 0
 ·obtain ⟨y,hb,hy,hg,hyw,hf⟩ := yx hE
  replace hf := hf rfl
  rw [abd hE hy]
  unfold adt
  by_cases hc : y.com < a
  ·rw [if_pos hc]; exact auf h hM hv hx ha hb hg hy hyw hf hc
  ·rw [if_neg hc]
   by_cases ho : 4611686018427387904 < uy M.tok 256 + a
   ·rw [if_pos ho]; exact aqf h hM hv hx ha hb hg hy hyw hf hc ho
   ·rw [if_neg ho]; exact aya h hM hv hx ha hb hg hy hyw hf hc ho
 ·rw [ae6 hE]
  obtain ⟨u,E1,H1,H2⟩ := aa4 h hx hE
  exact aal h (aue H1 H2 hE)
theorem aus (h : KP S w p tp q fp vb M) (hM : M.Ok) {x v a : Nat} (hx : x < 256) (hv : v < 256) (ha : a < 18446744073709551616) : Calls Tryz.prog 25 (V4 p x v a) w (ED S w p tp q fp vb (vD M x a false (adk M v a))) := by
 by_cases hE : opE M x a false = 0
 ·obtain ⟨y,hb,hy,hg,hyw,hf⟩ := yx hE
  replace hf := hf rfl
  rw [abd hE hy]
  unfold adk
  by_cases hc : y.iss - y.lea < a
  ·rw [if_pos (.inl hc)]; exact aur h hM hv hx ha hb hg hy hyw hf hc
  ·by_cases ho : M.tok v < a
   ·rw [if_pos (.inr ho)]; exact ayh h hM hv hx ha hb hg hy hyw hf hc ho
   ·rw [if_neg (fun e => e.elim hc ho)]; exact ayg h hM hv hx ha hb hg hy hyw hf hc ho
 ·rw [ae6 hE]
  obtain ⟨u,E1,H1,H2⟩ := aa4 h hx hE
  exact aal h (auq H1 H2 hE)
theorem aua (h : KP S w p tp q fp vb M) (hM : M.Ok) {x a : Nat} (hx : x < 256) (ha : a < 18446744073709551616) : Calls Tryz.prog 49 (V3 p x a) w (ED S w p tp q fp vb (vD M x a true (ads M a))) := by
 by_cases hE : opE M x a true = 0
 ·obtain ⟨y,hb,hy,hg,hyw,-⟩ := yx hE
  rw [abd hE hy]
  unfold ads
  by_cases hc : y.goi < a
  ·rw [if_pos hc]; exact aal h (ajh (u := v0) (E1 := 0) (ae3 h hM hx ha hb hg hy hc) (show (16 : Int) ≠ 0 by decide))
  ·rw [if_neg hc]
   cases hf : y.fal with
   |true =>
    rw [if_pos rfl]
    have := ahn h hM hx ha (abb h hM hx ha hb hg hy hf hc) (show y.who < 256 by rw [hyw]; exact hx) (aok hM hy (z := { y with coll := y.coll - y.coll * a / y.goi,goi := y.goi - a }) rfl)
    rw [hf] at this
    exact this
   |false =>
    rw [if_neg (by decide)]
    have := ahn h hM hx ha (aci h hM hx ha hb hg hy hf hc) (show y.who < 256 by rw [hyw]; exact hx) (aok hM hy (z := { y with goi := y.goi - a }) rfl)
    rw [hf] at this
    exact this
 ·rw [ae6 hE]
  exact aal h (ajh (u := v0) (E1 := 0) (ae2 (fun W f => ab5 (h.fr0 f) hx hE) hE) hE)
theorem an8 (h : KP S w p tp q fp vb M) (hM : M.Ok) {x v a : Nat} (hx : x < 256) (hv : v < 256) (ha : a < 18446744073709551616) : Calls Tryz.prog 50 (V4 p x v a) w (ED S w p tp q fp vb (vD M x a true (zo M v a))) := by
 by_cases hE : opE M x a true = 0
 ·obtain ⟨y,hb,hy,hg,hyw,-⟩ := yx hE
  rw [abd hE hy]
  unfold zo
  have hbb : ¬ (a = 0 ∨ 4611686018427387904 < a) := hb
  have hbu := (hM.vok y (jh hy)).bur
  unfold Vlt.bur at hbu
  have htk := hM.tok
  have hms := hM.most
  have hhe := hM.held
  have hin := hM.inn
  have hpd := hM.paid
  have hcs := qx Vlt.coll M.vs y (jh hy)
  by_cases hc : y.goi < a
  ·rw [if_pos hc]; exact aal h (afx (u := v0) (E1 := 0) (ae3 h hM hx ha hb hg hy hc) (show (16 : Int) ≠ 0 by decide))
  ·rw [if_neg hc]
   have hpl : y.coll * a / y.goi ≤ y.coll := aeg (by omega)
   cases hf : y.fal with
   |true =>
    by_cases ho : 4611686018427387904 < uy M.tok 256 + a
    ·rw [if_pos ho]
     by_cases hp : 4611686018427387904 < M.pn + a
     ·exact akw (l := M.vs) h hM hx ha (abb h hM hx ha hb hg hy hf hc) (show y.who < 256 by rw [hyw]; exact hx) hv hb hf (by omega) (by omega) hp
     ·exact aic (l := M.vs) h hM hx ha (abb h hM hx ha hb hg hy hf hc) (show y.who < 256 by rw [hyw]; exact hx) hv hb hf (by omega) (by omega) (by omega) ho
    ·rw [if_neg ho,if_pos rfl]
     have := akx h hM hx ha (abb h hM hx ha hb hg hy hf hc) (show y.who < 256 by rw [hyw]; exact hx) hv hb hf (by omega) (by omega) (by omega) ho (aok hM hy (z := { y with coll := y.coll - y.coll * a / y.goi,goi := y.goi - a }) rfl)
     rw [hf] at this
     exact this
   |false =>
    by_cases ho : 4611686018427387904 < uy M.tok 256 + a
    ·rw [if_pos ho]
     exact akv (l := M.vs) h hM hx ha (aci h hM hx ha hb hg hy hf hc) (show y.who < 256 by rw [hyw]; exact hx) hv hb hf (by dsimp only; omega) ho
    ·rw [if_neg ho,if_neg (by decide)]
     have := aky h hM hx ha (aci h hM hx ha hb hg hy hf hc) (show y.who < 256 by rw [hyw]; exact hx) hv hb hf (by dsimp only; omega) ho (aok hM hy (z := { y with goi := y.goi - a,iss := y.iss + a }) rfl)
     rw [hf] at this
     exact this
 ·rw [ae6 hE]
  exact aal h (afx (u := v0) (E1 := 0) (ae2 (fun W f => ab5 (h.fr0 f) hx hE) hE) hE)
theorem aqa (h : KP S w p tp q fp vb M) (hM : M.Ok) {x v a : Nat} (hx : x < 256) (hv : v < 256) (ha : a < 18446744073709551616) : Calls Tryz.prog 51 (V4 p x v a) w (EP S w p tp q fp vb (vD M x a true (acn M v a)).1 (.tuple #[.int .u64 ((vD M x a true (acn M v a)).2.1 : Nat),.int .i64 (vD M x a true (acn M v a)).2.2])) := by
 by_cases hE : opE M x a true = 0
 ·obtain ⟨y,hb,hy,hg,hyw,-⟩ := yx hE
  rw [abd hE hy]
  exact at7 h hM hv hx ha hb hg hy hyw
 ·rw [ae6 hE]
  exact aal h (ap9 (u := v0) (E1 := 0) (ab5 h hx hE) hE)
theorem aqj (h : KP S w p tp q fp vb M) (hM : M.Ok) {x a : Nat} (hx : x < 256) (ha : a < 18446744073709551616) : Calls Tryz.prog 52 (V3 p x a) w (ED S w p tp q fp vb (vD M x a false (leaveD M a))) := by
 by_cases hE : opE M x a false = 0
 ·obtain ⟨y,hb,hy,hg,hyw,hf⟩ := yx hE
  replace hf := hf rfl
  rw [abd hE hy]
  unfold leaveD
  by_cases hc : y.iss - y.lea < a
  ·rw [if_pos hc]; exact aqi h hM hx ha hb hg hy hyw hf hc
  ·rw [if_neg hc]; exact auk h hM hx ha hb hg hy hyw hf hc
 ·rw [ae6 hE]
  obtain ⟨u,E1,H1,H2⟩ := aa4 h hx hE
  exact aal h (aqh H1 H2 hE)
theorem atz (h : KP S w p tp q fp vb M) (hM : M.Ok) {x a : Nat} (hx : x < 256) (ha : a < 18446744073709551616) : Calls Tryz.prog 53 (V3 p x a) w (ED S w p tp q fp vb (vD M x a false (ae8 M a))) := by
 by_cases hE : opE M x a false = 0
 ·obtain ⟨y,hb,hy,hg,hyw,hf⟩ := yx hE
  replace hf := hf rfl
  rw [abd hE hy]
  unfold ae8
  by_cases hc : y.lea < a
  ·rw [if_pos hc]; exact aty h hM hx ha hb hg hy hyw hf hc
  ·rw [if_neg hc]; exact ax7 h hM hx ha hb hg hy hyw hf hc
 ·rw [ae6 hE]
  obtain ⟨u,E1,H1,H2⟩ := aa4 h hx hE
  exact aal h (atx H1 H2 hE)
theorem aum (h : KP S w p tp q fp vb M) (hM : M.Ok) {x v a : Nat} (hx : x < 256) (hv : v < 256) (ha : a < 18446744073709551616) : Calls Tryz.prog 54 (V4 p x v a) w (ED S w p tp q fp vb (vD M x a false (adw M x v a))) := by
 by_cases hE : opE M x a false = 0
 ·obtain ⟨y,hb,hy,hg,hyw,hf⟩ := yx hE
  replace hf := hf rfl
  rw [abd hE hy]
  unfold adw
  by_cases hE2 : opE M v a false = 0
  ·rw [if_pos hE2]
   obtain ⟨u,-,hu,hgu,huw,hfu⟩ := yx hE2
   replace hfu := hfu rfl
   by_cases he : v = x
   ·rw [if_pos he]; exact aqk h hM hv hx ha hb hg hy hyw hf hgu hu hfu he
   ·rw [if_neg he,hu]
    dsimp only
    by_cases hc : y.lea < a
    ·rw [if_pos (.inl hc)]; exact aqm h hM hv hx ha hb hg hy hyw hf hgu hu hfu he hc
    ·by_cases hc2 : u.com < a
     ·rw [if_pos (.inr hc2)]; exact aql h hM hv hx ha hb hg hy hyw hf hgu hu hfu he hc hc2
     ·rw [if_neg (fun e => e.elim hc hc2)]; exact aye h hM hv hx ha hb hg hy hyw hf hgu hu hfu he hc hc2 huw
  ·rw [if_neg hE2]; exact ayd h hM hv hx ha hb hg hy hyw hf hE2
 ·rw [ae6 hE]
  obtain ⟨u,E1,H1,H2⟩ := aa4 h hx hE
  exact aal h (aul H1 H2 hE)
theorem aun (h : KP S w p tp q fp vb M) (hM : M.Ok) {x : Nat} (hx : x < 256) : Calls Tryz.prog 26 #[.pointer (some ⟨p,0,none⟩),.int .u8 (x : Int)] w (ED S w p tp q fp vb (vD M x 1 false (ah0 M))) := by
 by_cases hE : opE M x 1 false = 0
 ·obtain ⟨y,hb,hy,hg,hyw,hf⟩ := yx hE
  replace hf := hf rfl
  rw [abd hE hy]
  exact ayf h hM hx hg hy hyw hf
 ·rw [ae6 hE]
  have hv := afg h hx
  rcases aej M x 1 with ⟨h1,h2⟩ | ⟨h1,h2,h3,h4⟩ | ⟨y,h1,h2,h3,h4,h5,h6⟩
  ·exact absurd h1 (by decide)
  ·rw [h2] at hv
   rw [h4]
   exact aal h (ajj hv (fun W => aau v0 12 (by decide) W) (show (12 : Int) ≠ 0 by decide))
  ·rw [h2] at hv
   have hf : y.fal = true := by
    cases hf : y.fal with
    |true => rfl
    |false => rw [h6,hf] at hE; exact absurd rfl hE
   rw [h6,hf,if_pos rfl]
   exact aal h (ajj hv (fun W => aay y hf W) (show (20 : Int) ≠ 0 by decide))
theorem atw (h : KP S w p tp q fp vb M) (hM : M.Ok) (a : Nat) : Calls Tryz.prog 43 #[.pointer (some ⟨p,0,none⟩),.int .u64 (a : Int)] w (ED S w p tp q fp vb (aeb M a)) := by
 unfold aeb
 by_cases ho : 1099511627776 < M.now + a
 ·rw [if_pos ho]; exact ap8 h hM ho
 ·rw [if_neg ho]; exact ax6 h hM ho
theorem ak7 (h : KP S w p tp q fp vb M) (hM : M.Ok) {x a : Nat} (hx : x < 256) : Calls Tryz.prog 56 (V3 p x a) w (ED S w p tp q fp vb (qj M x a)) := by
 unfold qj
 by_cases hb : badM a
 ·have hb' : a = 0 ∨ 4611686018427387904 < a := hb
  rw [if_pos hb']; exact akg h (ak6 hb w p)
 ·have hb' : ¬ (a = 0 ∨ 4611686018427387904 < a) := hb
  rw [if_neg hb']
  by_cases hc : M.free x < a
  ·rw [if_pos hc]; exact ak5 h hx hb hc
  ·rw [if_neg hc]; exact aof h hM hx hb hc
theorem an5 (h : KP S w p tp q fp vb M) (hM : M.Ok) {x a : Nat} (hx : x < 256) : Calls Tryz.prog 57 (V3 p x a) w (ED S w p tp q fp vb (uz M x a)) := by
 unfold uz
 by_cases hb : badM a
 ·have hb' : a = 0 ∨ 4611686018427387904 < a := hb
  rw [if_pos hb']; exact akg h (an4 hb w p)
 ·have hb' : ¬ (a = 0 ∨ 4611686018427387904 < a) := hb
  rw [if_neg hb']
  by_cases hc : M.dep < a
  ·rw [if_pos hc]; exact an3 h hx hb hc
  ·rw [if_neg hc]; exact aqc h hM hx hb hc
theorem aoc (h : KP S w p tp q fp vb M) (hM : M.Ok) {x a : Nat} (hx : x < 256) : Calls Tryz.prog 55 (V3 p x a) w (EP S w p tp q fp vb (su M x a).1 (.tuple #[.int .u64 ((su M x a).2.1 : Nat),.int .i64 (su M x a).2.2])) := by
 unfold su
 by_cases hb : badM a
 ·have hb' : a = 0 ∨ 4611686018427387904 < a := hb
  rw [if_pos hb']; exact akg h (aob hb w p)
 ·have hb' : ¬ (a = 0 ∨ 4611686018427387904 < a) := hb
  rw [if_neg hb']
  by_cases hc : M.tok x < a
  ·rw [if_pos (.inl hc)]; exact aoa h hx hb hc
  ·by_cases ho : M.pn < a
   ·rw [if_pos (.inr ho)]; exact ak3 h hM hx hb hc ho
   ·rw [if_neg (fun e => e.elim hc ho)]; exact aqd h hM hx hb hc ho
theorem aEn (h : KP S w p tp q fp vb M) (hM : M.Ok) {x a : Nat} (hx : x < 256) (ha : a < 18446744073709551616) : Calls Tryz.prog 21 #[.pointer (some ⟨q,0,none⟩),.int .u8 (x : Int),.int .u64 (a : Int)] w (ED S w p tp q fp vb (inD M x a)) := by
 have hin := hM.inn
 have hpd := hM.paid
 unfold inD
 by_cases h1 : 4611686018427387904 < a
 ·rw [if_pos h1]
  have := aB6 h hx (show 4611686018427387904 < M.inn + a by omega) ha
  rw [show ahy a = 1 from if_pos h1] at this
  exact this
 ·rw [if_neg h1]
  by_cases h2 : 4611686018427387904 < M.inn + a
  ·rw [if_pos (.inl h2)]
   have := aB6 h hx h2 ha
   rw [show ahy a = 4 from if_neg h1] at this
   exact this
  ·rw [if_neg (fun e => by omega)]; exact aB5 h hx (by omega)
theorem aA0 (h : KP S w p tp q fp vb M) (hM : M.Ok) {x a : Nat} (hx : x < 256) (ha : a < 18446744073709551616) : Calls Tryz.prog 44 #[.pointer (some ⟨q,0,none⟩),.int .u8 (x : Int),.int .u64 (a : Int)] w (ED S w p tp q fp vb (agi M x a)) := by
 have hfr := hM.jy hx
 unfold agi
 by_cases h1 : 4611686018427387904 < a
 ·rw [if_pos h1]
  have := av8 h hx (show M.free x < a by omega) ha
  rw [show ay4 a = 1 from if_pos h1] at this
  exact this
 ·rw [if_neg h1]
  by_cases h2 : M.free x < a
  ·rw [if_pos h2]
   have := av8 h hx h2 ha
   rw [show ay4 a = 16 from if_neg h1] at this
   exact this
  ·rw [if_neg h2,if_neg (by omega)]; exact aEm h hx (by omega)
theorem atj (h : KP S w p tp q fp vb M) (hM : M.Ok) {x v a : Nat} (hx : x < 256) (hv : v < 256) (ha : a < 18446744073709551616) : Calls Tryz.prog 45 #[.pointer (some ⟨tp,0,none⟩),.int .u8 (x : Int),.int .u8 (v : Int),.int .u64 (a : Int)] w (ED S w p tp q fp vb (aa8 M x v a)) := by
 have H := axx h hM hx hv ha
 unfold aa8
 unfold alf afy at H
 by_cases h1 : a = 0 ∨ 4611686018427387904 < a
 ·rw [if_pos h1]
  rw [if_pos (by simpa using h1)] at H
  exact H
 ·rw [if_neg h1]
  rw [if_neg (by simpa using h1)] at H
  by_cases h2 : M.tok x < a
  ·rw [if_pos h2] at H ⊢; exact H
  ·rw [if_neg h2] at H ⊢; exact H
theorem ap1 (h : KP S w p tp q fp vb M) (hM : M.Ok) (a : Nat) : Calls Tryz.prog 18 #[.pointer (some ⟨fp,0,none⟩),.int .u64 (a : Int),.int .u64 (M.now : Int)] w (ED S w p tp q fp vb (yh usR M a)) := by
 have H := aro h a M.now
 unfold yh
 rw [show usR 3 = 100 from rfl]
 by_cases h1 : seE 100 M.price M.told a M.now = 0
 ·rw [if_pos h1]
  rw [if_pos h1,h1] at H
  exact H
 ·rw [if_neg h1]
  rw [if_neg h1] at H
  exact H
theorem kact (h : KP S w p tp q fp vb M) (hM : M.Ok) (d : Dd) (hk : d.kind ≤ 21) (hw : d.w < 256) (hv : d.v < 256) (ha : d.a < 18446744073709551616) (hA : d.addr.length = 20) :
  Calls Tryz.prog 13 #[.pointer (some ⟨p,0,none⟩),.agg (dC d)] w (EP S w p tp q fp vb (jf usR M d).1 (.tuple #[.int .u64 ((jf usR M d).2.1 : Nat),.int .i64 (jf usR M d).2.2])) := by
 have go : ∀ {f : FuncId} {args : Array Value} {W : World} {v : Value} {M' : Bok},Fr F0 w W → Calls Tryz.prog f args W (EP S W p tp q fp vb M' v) → Calls Tryz.prog f args W fun e w' => e = .returned v ∧ QP S w p tp q fp vb M' w' := fun F H => H.mono fun _ _ ⟨a,b⟩ => ⟨a,QP.ahead F b⟩
 have hc : d.kind = 0 ∨ d.kind = 1 ∨ d.kind = 2 ∨ d.kind = 3 ∨ d.kind = 4 ∨ d.kind = 5 ∨ d.kind = 6 ∨ d.kind = 7 ∨ d.kind = 8 ∨ d.kind = 9 ∨ d.kind = 10 ∨ d.kind = 11 ∨ d.kind = 12 ∨ d.kind = 13 ∨ d.kind = 14 ∨ d.kind = 15 ∨ d.kind = 16 ∨ d.kind = 17 ∨ d.kind = 18 ∨ d.kind = 19 ∨ d.kind = 20 ∨ d.kind = 21 := by omega
 have hn : ∀ r : acp,jf usR M d = r → r.2.1 = 0 → Calls Tryz.prog 13 #[.pointer (some ⟨p,0,none⟩),.agg (dC d)] w (EP S w p tp q fp vb r.1 (.tuple #[.int .u64 0,.int .i64 r.2.2])) → Calls Tryz.prog 13 #[.pointer (some ⟨p,0,none⟩),.agg (dC d)] w (EP S w p tp q fp vb (jf usR M d).1 (.tuple #[.int .u64 ((jf usR M d).2.1 : Nat),.int .i64 (jf usR M d).2.2])) := fun r e h0 H => by
  rw [e,h0]; exact H
 have hV : ∀ (fo : Bool) (am : Nat) (f : Nat → Vlt → acp),(∀ j y,(f j y).2.1 = 0) → (vD M d.w am fo f).2.1 = 0 := fun fo am f hf => by
  unfold vD
  split
  ·split
   ·rfl
   ·exact hf _ _
  ·rfl
 have hstep : ∀ k,d.kind = k → (k = 6 ∨ k = 7 ∨ k = 8 ∨ k = 9 ∨ k = 10 ∨ k = 11 ∨ k = 12 ∨ k = 13 ∨ k = 14 ∨ k = 15 ∨ k = 16 ∨ k = 17 ∨ k = 18) → jf usR M d = vD M d.w (ar2 d) (ac9 d.kind) (aam usR M d) := fun k e h => by
  rw [← azr]
  unfold jf
  rw [e]
  rcases h with rfl | rfl | rfl | rfl | rfl | rfl | rfl | rfl | rfl | rfl | rfl | rfl | rfl <;> rfl
 have hvd : ∀ k,d.kind = k → k ≠ 18 → ar2 d = d.a := fun k e h => if_neg (by omega)
 rcases hc with h0 | h0 | h0 | h0 | h0 | h0 | h0 | h0 | h0 | h0 | h0 | h0 | h0 | h0 | h0 | h0 | h0 | h0 | h0 | h0 | h0 | h0
 ·exact hn (aeb M d.a) (by unfold jf; rw [h0]; rfl) (by unfold aeb; split <;> rfl) (aKf h0 hw hv fun W F => go F (atw (h.fr0 F) hM d.a))
 ·exact hn (yh usR M d.a) (by unfold jf; rw [h0]; rfl) (by unfold yh; split <;> rfl) (aKe h0 hw hv (fun W F => avk (h.fr0 F)) (fun W F => aI3 (h.fr0 F)) fun W F => go F (ap1 (h.fr0 F) hM d.a))
 ·exact hn (inD M d.w d.a) (by unfold jf; rw [h0]; rfl) (by unfold inD; (repeat' split) <;> rfl) (aKd h0 hw hv (fun W F => ad1 (h.fr0 F)) fun W F => go F (aEn (h.fr0 F) hM hw ha))
 ·exact hn (agi M d.w d.a) (by unfold jf; rw [h0]; rfl) (by unfold agi; (repeat' split) <;> rfl) (aKc h0 hw hv (fun W F => ad1 (h.fr0 F)) fun W F => go F (aA0 (h.fr0 F) hM hw ha))
 ·exact hn (aa8 M d.w d.v d.a) (by unfold jf; rw [h0]; rfl) (by unfold aa8; (repeat' split) <;> rfl) (aKb h0 hw hv (fun W F => agc (h.fr0 F)) fun W F => go F (atj (h.fr0 F) hM hw hv ha))
 ·exact hn (ji M d.w d.a d.addr) (by unfold jf; rw [h0]; rfl) (by unfold ji; (repeat' split) <;> rfl) (aKa h0 hw hv fun W F => go F (by rw [agn hA]; exact adr (h.fr0 F) hM hw ha hA))
 ·exact hn (vD M d.w d.a false (afa M d.w d.a)) (by rw [hstep 6 h0 (by omega),hvd 6 h0 (by omega)]; unfold aam; rw [h0]; rfl) (hV _ _ _ fun j y => by unfold afa; (repeat' split) <;> rfl) (aJ9 h0 hw hv fun W F => go F (aud (h.fr0 F) hM hw ha))
 ·exact hn (vD M d.w d.a false (adv usR M d.w d.a)) (by rw [hstep 7 h0 (by omega),hvd 7 h0 (by omega)]; unfold aam; rw [h0]; rfl) (hV _ _ _ fun j y => by unfold adv; (repeat' split) <;> rfl) (aJ8 h0 hw hv fun W F => go F (auj (h.fr0 F) hM hw ha))
 ·exact hn (vD M d.w d.a false (uo usR M d.a)) (by rw [hstep 8 h0 (by omega),hvd 8 h0 (by omega)]; unfold aam; rw [h0]; rfl) (hV _ _ _ fun j y => by unfold uo; (repeat' split) <;> rfl) (aJ7 h0 hw hv fun W F => go F (acj (h.fr0 F) hM hw ha))
 ·exact hn (vD M d.w d.a true (zy M d.a)) (by rw [hstep 9 h0 (by omega),hvd 9 h0 (by omega)]; unfold aam; rw [h0]; rfl) (hV _ _ _ fun j y => by unfold zy; (repeat' split) <;> rfl) (aJ6 h0 hw hv fun W F => go F (ak1 (h.fr0 F) hM hw ha))
 ·exact hn (vD M d.w d.a false (adt M d.v d.a)) (by rw [hstep 10 h0 (by omega),hvd 10 h0 (by omega)]; unfold aam; rw [h0]; rfl) (hV _ _ _ fun j y => by unfold adt; (repeat' split) <;> rfl) (aE7 h0 hw hv fun W F => go F (aug (h.fr0 F) hM hw hv ha))
 ·exact hn (vD M d.w d.a false (adk M d.v d.a)) (by rw [hstep 11 h0 (by omega),hvd 11 h0 (by omega)]; unfold aam; rw [h0]; rfl) (hV _ _ _ fun j y => by unfold adk; (repeat' split) <;> rfl) (aE6 h0 hw hv fun W F => go F (aus (h.fr0 F) hM hw hv ha))
 ·exact hn (vD M d.w d.a true (ads M d.a)) (by rw [hstep 12 h0 (by omega),hvd 12 h0 (by omega)]; unfold aam; rw [h0]; rfl) (hV _ _ _ fun j y => by unfold ads; (repeat' split) <;> rfl) (aE5 h0 hw hv fun W F => go F (aua (h.fr0 F) hM hw ha))
 ·exact hn (vD M d.w d.a true (zo M d.v d.a)) (by rw [hstep 13 h0 (by omega),hvd 13 h0 (by omega)]; unfold aam; rw [h0]; rfl) (hV _ _ _ fun j y => by unfold zo; (repeat' split) <;> rfl) (aE4 h0 hw hv fun W F => go F (an8 (h.fr0 F) hM hw hv ha))
 ·have e : jf usR M d = vD M d.w d.a true (acn M d.v d.a) := by rw [hstep 14 h0 (by omega),hvd 14 h0 (by omega)]; unfold aam; rw [h0]; rfl
  rw [e]
  exact aE3 h0 hw hv fun W F => go F (aqa (h.fr0 F) hM hw hv ha)
 ·exact hn (vD M d.w d.a false (leaveD M d.a)) (by rw [hstep 15 h0 (by omega),hvd 15 h0 (by omega)]; unfold aam; rw [h0]; rfl) (hV _ _ _ fun j y => by unfold leaveD; (repeat' split) <;> rfl) (aE2 h0 hw hv fun W F => go F (aqj (h.fr0 F) hM hw ha))
 ·exact hn (vD M d.w d.a false (ae8 M d.a)) (by rw [hstep 16 h0 (by omega),hvd 16 h0 (by omega)]; unfold aam; rw [h0]; rfl) (hV _ _ _ fun j y => by unfold ae8; (repeat' split) <;> rfl) (aE1 h0 hw hv fun W F => go F (atz (h.fr0 F) hM hw ha))
 ·exact hn (vD M d.w d.a false (adw M d.w d.v d.a)) (by rw [hstep 17 h0 (by omega),hvd 17 h0 (by omega)]; unfold aam; rw [h0]; rfl) (hV _ _ _ fun j y => by unfold adw; (repeat' split) <;> rfl) (aE0 h0 hw hv fun W F => go F (aum (h.fr0 F) hM hw hv ha))
 ·exact hn (vD M d.w 1 false (ah0 M)) (by rw [hstep 18 h0 (by omega),show ar2 d = 1 from if_pos h0]; unfold aam; rw [h0]; rfl) (hV _ _ _ fun j y => rfl) (aEz h0 hw hv fun W F => go F (aun (h.fr0 F) hM hw))
 ·have e : jf usR M d = su M d.w d.a := by unfold jf; rw [h0]; rfl
  rw [e]
  exact aEy h0 hw hv fun W F => go F (aoc (h.fr0 F) hM hw)
 ·exact hn (qj M d.w d.a) (by unfold jf; rw [h0]; rfl) (by unfold qj; (repeat' split) <;> rfl) (aEx h0 hw hv fun W F => go F (ak7 (h.fr0 F) hM hw))
 ·exact hn (uz M d.w d.a) (by unfold jf; rw [h0]; rfl) (by unfold uz; (repeat' split) <;> rfl) (aEw h0 hw hv fun W F => go F (an5 (h.fr0 F) hM hw))
end
end Go.Proofs.YtohckefafbhooaaGreat
namespace Go.Proofs.YtohckefafbhooaaGreat
set_option linter.unusedVariables false
set_option linter.unusedSimpArgs false
open Go.RowKit Go.Maps
theorem aog {w : World} {B n : Nat} {g : Nat → Option Vlt} (h : MV w B n g) : Calls Tryz.prog 70 #[.map (some B)] w fun e w' => e = .returned (.map (some w.heap.size)) ∧ MV w' w.heap.size n g ∧ Fr F0 w w' ∧ w'.heap.size = w.heap.size + 1 := by
 obtain ⟨D,⟨es,clock,hb,F,hs,hD⟩,h2⟩ := h
 have hq := fun w => run_eql_map_nil_sl (P := Tryz.prog) w 95 _ _ (some B) Tryz.underlying95
 have hc := run_callFunc_extern Tryz.func119 (by kernel_rfl) (by kernel_rfl) (by kernel_rfl) (e := Extern.MapsClone.clone) (by kernel_rfl) (P := Tryz.prog)
 have HM := Lib.hid (And.intro F (And.intro hs (And.intro hD h2)))
 clear F hs hD h2
 go_enter Tryz.func70,Tryz.ntmps70
 go_wp2
 rw [run_maps_clone_sl w 95 hb]
 simp only [Result.andThen]
 rw [Oper.upon_value]
 go_wp2
 rw [run_typeAssert_map_sl _ 95 _ _ _ _ Tryz.underlying95]
 simp only [Result.andThen]
 rw [Oper.upon_value]
 go_wp2
 go_ret
 exact ⟨rfl,⟨D,⟨es,clock,(MapKept.heap_alloc w _).1,HM.out.1,HM.out.2.1,HM.out.2.2.1⟩,HM.out.2.2.2⟩,(Fr.refl F0 w).alloc _,by simp⟩
theorem ajz {w : World} {c i : Nat} {cs : Array Value} {t : TypeId} {v : Value} (h : w.heap[c]? = some (.cells cs t (0,0))) : (w.setCell ⟨c,i,none⟩ v).heap[c]? = some (.cells (cs.setIfInBounds i v) t (0,0)) := by rw [cu,h]; rfl
theorem aki {w : World} {c i g : Nat} {v : Value} {o : Obj} (hn : g ≠ c) (h : w.heap[g]? = some o) : (w.setCell ⟨c,i,none⟩ v).heap[g]? = some o :=
 (Fr.setCell (S := fun k => k = c) (Fr.refl _ w) (p := ⟨c,i,none⟩) (fun _ => rfl) v).keeps hn h
theorem aFc {w W0 w5 w6 w7 w9 : World} {c tp q qp fp vb : Nat} {tob qob : Option Nat} {M : Bok} (hc : w.heap.size = c) (hW : c < W0.heap.size) (F9 : Fr F0 w w9)
  (L : LG w5 tp tob 256 M.tok) (htp : W0.heap.size ≤ tp) (aF6 : ∀ B,tob = some B → W0.heap.size ≤ B)
  (P : PG w6 q qp qob 256 M.free (uy M.free 256) M.held M.inn M.out) (hq : w5.heap.size ≤ q) (hqp : w5.heap.size ≤ qp) (aF7 : ∀ B,qob = some B → w5.heap.size ≤ B) (f6 : Fr F0 w5 w6)
  (D : FD w7 fp 100 50 M.price M.told) (hfp : w6.heap.size ≤ fp) (f7 : Fr F0 w6 w7) (V : MV w9 vb 256 (gOf M.vs)) (hvb : w7.heap.size ≤ vb) (f9 : Fr (fun k => k = c) w7 w9)
  (h : w9.heap[c]? = some (.cells (bkC tp q fp vb M.now M.pc M.pn M.dep) 97 (0,0))) : ∃ T,KP T w9 c tp q fp vb M ∧ (∀ k,T k → w.heap.size ≤ k ∧ k < w9.heap.size) ∧ Fr F0 w w9 := by
 have z6 := f6.size
 have z7 := f7.size
 have hl5 := L.lt
 have hl6 := P.lt
 have hlD := D.lt
 have hL : ∀ k,LS tp tob k → W0.heap.size ≤ k ∧ k < w5.heap.size := fun k hk => ⟨hk.elim (fun e => by omega) (fun e => aF6 k e),L.lts hk⟩
 have hP : ∀ k,PS q qp qob k → w5.heap.size ≤ k ∧ k < w6.heap.size := fun k hk => ⟨by
  rcases hk with e | e | e
  ·omega
  ·omega
  ·exact aF7 k e,P.lts hk⟩
 have hcL : ∀ k,LS tp tob k → ¬ k = c := fun k hk e => by have := hL k hk; omega
 have hcP : ∀ k,PS q qp qob k → ¬ k = c := fun k hk e => by have := hP k hk; have := hL tp (.inl rfl); omega
 have l5 := hL tp (.inl rfl)
 have b : BK w9 c tp tob q qp qob fp vb M :=
  ⟨h,(L.fr0 (f6.trans' f7)).fr f9 (hcL _ (.inl rfl)) fun B e => hcL _ (.inr e),(P.fr0 f7).fr f9 (hcP _ (.inl rfl)) (hcP _ (.inr (.inl rfl))) fun B e => hcP _ (.inr (.inr e)),D.fr f9 (by omega),V,
   fun e => hcL _ e rfl,fun e => hcP _ e rfl,by omega,by omega,fun k e1 e2 => by have := hL _ e1; have := hP _ e2; omega,fun e => by have := hL _ e; omega,fun e => by have := hL _ e; omega,fun e => by have := hP _ e; omega,fun e => by have := hP _ e; omega,by omega⟩
 refine ⟨_,⟨tob,qp,qob,b,fun k => Iff.rfl⟩,fun k hk => ⟨?_,b.lts hk⟩,F9⟩
 rcases hk with e | e | e | e | e
 ·omega
 ·have := hL _ e; omega
 ·have := hP _ e; omega
 ·omega
 ·omega
theorem auo {S : Nat → Prop} {w : World} {p tp q fp vb : Nat} {M : Bok} (h : KP S w p tp q fp vb M) : Calls Tryz.prog 16 #[.pointer (some ⟨p,0,none⟩)] w fun e w' => ∃ c tp' q' fp' vb' T,e = .returned (.pointer (some ⟨c,0,none⟩)) ∧ KP T w' c tp' q' fp' vb' M ∧ (∀ k,T k → w.heap.size ≤ k ∧ k < w'.heap.size) ∧ Fr F0 w w' := by
 have e0 := h.at_
 have HPp := Lib.hid (show p < w.heap.size from (Array.getElem?_eq_some_iff.1 e0).1)
 obtain ⟨tob,qp,qob,b,-⟩ := h
 have HT := Lib.hid (fun (W : World) (F : Fr F0 w W) => aiv (b.fr0 F).led)
 have HP := Lib.hid (fun (W : World) (F : Fr F0 w W) => as9 (b.fr0 F).pur)
 have HF := Lib.hid (fun (W : World) (F : Fr F0 w W) => axn (b.fr0 F).feed)
 have HV := Lib.hid (fun (W : World) (F : Fr F0 w W) => aog (b.fr0 F).vm)
 clear b
 have oS := aFp tp q fp vb M.now M.pc M.pn M.dep
 obtain ⟨tx,htx⟩ : ∃ v,v = Value.pointer (some ⟨tp,0,none⟩) := ⟨_,rfl⟩
 unfold bkC at e0 oS
 go_enter Tryz.func16,Tryz.ntmps16
 clear htx tx
 go_upto_region 4 with fail
 refine jc fun W N => ?_
 have rc := N.new
 have F0' := N.fr
 clear N
 obtain ⟨c,hc⟩ : ∃ g,w.heap.size = g := ⟨_,rfl⟩
 rw [hc] at rc ⊢
 have e1 := dn F0' e0
 have hpc : p ≠ c := by have := HPp.out; omega
 have HQ := Lib.hid (And.intro hc (And.intro HPp.out hpc))
 have hcW : c < W.heap.size := (Array.getElem?_eq_some_iff.1 rc).1
 have HW := Lib.hid hcW
 have F9 := Lib.hid F0'
 clear hc HPp hpc hcW F0' e0
 refine zn (S := (fun w' => w'.heap[p]? = some (.cells #[.int .u64 2000,.int .u64 1500,.int .u64 1200,.int .u64 100,.int .u64 50,.int .u64 10,.int .u64 10,.int .u64 10,.int .u64 50,.int .u64 100,.int .u64 10,.int .u64 (M.now : Int),.pointer (some ⟨tp,0,none⟩),.pointer (some ⟨q,0,none⟩),.pointer (some ⟨fp,0,none⟩),.int .u64 (M.pc : Int),.int .u64 (M.pn : Int),.map (some vb),.int .u64 (M.dep : Int)] 97 (0,0)) ∧ Fr F0 w w')) ?_ fun aj => ?_
 ·exact(by ((try dsimp only) <;> (exact ⟨e1,F9.out.drew⟩)))
 refine au 0 ?_
 refine au 1 ?_
 refine au 2 ?_
 refine au 3 ?_
 refine au 5 ?_
 refine au 6 ?_
 refine au 7 ?_
 refine au 8 ?_
 refine au 10 ?_
 refine au 11 ?_
 refine au 12 ?_
 refine au 13 ?_
 refine zi 4 fun K hK => ?_
 go_simp
 (refine (HT.out _ aj.2).mono ?_; rintro e w5 ⟨tp',ayu,rfl,L5,f5,htp,aF6⟩; replace rc := dn f5 rc; have HL := Lib.hid (And.intro L5 (And.intro htp (And.intro aF6 f5))); clear L5 htp aF6)
 refine rpu hK (by ((try dsimp only) <;> (first | exact aj | exact ⟨dn f5 aj.1,aj.2.trans' f5⟩ | exact ⟨dn f6 aj.1,aj.2.trans' f6⟩ | exact ⟨dn f7 aj.1,aj.2.trans' f7⟩))) fun aj => ?_
 clear hK K
 refine zi 9 fun K hK => ?_
 go_simp
 (refine (HP.out _ aj.2).mono ?_; rintro e w6 ⟨q',qp',ay3,rfl,P6,f6,hq,hqp,aF7⟩; replace rc := dn f6 rc; have HPu := Lib.hid (And.intro P6 (And.intro hq (And.intro hqp (And.intro aF7 f6)))); clear P6 hq hqp aF7)
 refine rpu hK (by ((try dsimp only) <;> (first | exact aj | exact ⟨dn f5 aj.1,aj.2.trans' f5⟩ | exact ⟨dn f6 aj.1,aj.2.trans' f6⟩ | exact ⟨dn f7 aj.1,aj.2.trans' f7⟩))) fun aj => ?_
 clear hK K
 refine zi 14 fun K hK => ?_
 go_simp
 (refine (HF.out _ aj.2).mono ?_; rintro e w7 ⟨fp',rfl,D7,f7,hfp⟩; replace rc := dn f7 rc; have HFd := Lib.hid (And.intro D7 (And.intro hfp f7)); clear D7 hfp)
 refine rpu hK (by ((try dsimp only) <;> (first | exact aj | exact ⟨dn f5 aj.1,aj.2.trans' f5⟩ | exact ⟨dn f6 aj.1,aj.2.trans' f6⟩ | exact ⟨dn f7 aj.1,aj.2.trans' f7⟩))) fun aj => ?_
 clear hK K
 refine au 15 ?_
 refine zi 16 fun K hK => ?_
 go_simp
 refine rpu hK (by ((try dsimp only) <;> (first | exact aj | exact ⟨aki HQ.out.2.2 aj.1,aj.2.setCell (fun h => absurd h (by have := HQ.out.1; exact Nat.not_lt.2 (Nat.le_of_eq this))) _⟩))) fun aj => ?_
 clear hK K
 refine au 17 ?_
 refine zi 18 fun K hK => ?_
 go_simp
 refine rpu hK (by ((try dsimp only) <;> (first | exact aj | exact ⟨aki HQ.out.2.2 aj.1,aj.2.setCell (fun h => absurd h (by have := HQ.out.1; exact Nat.not_lt.2 (Nat.le_of_eq this))) _⟩))) fun aj => ?_
 clear hK K
 refine au 19 ?_
 refine zi 20 fun K hK => ?_
 go_simp
 refine rpu hK (by ((try dsimp only) <;> (first | exact aj | exact ⟨aki HQ.out.2.2 aj.1,aj.2.setCell (fun h => absurd h (by have := HQ.out.1; exact Nat.not_lt.2 (Nat.le_of_eq this))) _⟩))) fun aj => ?_
 clear hK K
 refine aap ?_
 all_goals
  obtain ⟨e4,F4⟩ := aj
  have r4 : (((w7.setCell ⟨c,12,none⟩ (.pointer (some ⟨tp',0,none⟩))).setCell ⟨c,13,none⟩ (.pointer (some ⟨q',0,none⟩))).setCell ⟨c,14,none⟩ (.pointer (some ⟨fp',0,none⟩))).heap[c]? = some (.cells #[.int .u64 2000,.int .u64 1500,.int .u64 1200,.int .u64 100,.int .u64 50,.int .u64 10,.int .u64 10,.int .u64 10,.int .u64 50,.int .u64 100,.int .u64 10,.int .u64 (M.now : Int),.pointer (some ⟨tp',0,none⟩),.pointer (some ⟨q',0,none⟩),.pointer (some ⟨fp',0,none⟩),.int .u64 (M.pc : Int),.int .u64 (M.pn : Int),.map (some vb),.int .u64 (M.dep : Int)] 97 (0,0)) := ajz (ajz (ajz rc))
  have f4 : Fr (fun k => k = c) w7 (((w7.setCell ⟨c,12,none⟩ (.pointer (some ⟨tp',0,none⟩))).setCell ⟨c,13,none⟩ (.pointer (some ⟨q',0,none⟩))).setCell ⟨c,14,none⟩ (.pointer (some ⟨fp',0,none⟩))) := (((Fr.refl (fun k => k = c) w7).setCell (p := ⟨c,12,none⟩) (fun _ => rfl) _).setCell (p := ⟨c,13,none⟩) (fun _ => rfl) _).setCell (p := ⟨c,14,none⟩) (fun _ => rfl) _
  clear rc e1
  generalize (((w7.setCell ⟨c,12,none⟩ (.pointer (some ⟨tp',0,none⟩))).setCell ⟨c,13,none⟩ (.pointer (some ⟨q',0,none⟩))).setCell ⟨c,14,none⟩ (.pointer (some ⟨fp',0,none⟩))) = w4 at r4 f4 e4 F4 ⊢
  have H4 := Lib.hid (And.intro f4 F4)
  clear f4 F4
  go_wp2_with fail
  (with_reducible refine (HV.out _ H4.out.2).mono ?_); rintro e w8 ⟨rfl,V8,f8,s8⟩
  replace r4 := dn f8 r4
  obtain ⟨vb',hvb⟩ : ∃ g,w4.heap.size = g := ⟨_,rfl⟩
  rw [hvb] at V8 ⊢
  have H8 := Lib.hid (And.intro V8 (And.intro f8 hvb))
  clear V8 f8 s8 hvb HT HP HF HV e4
  go_wp2_with fail
  go_ret
  obtain ⟨f4,F4⟩ := H4.out
  obtain ⟨V8,f8,hvb⟩ := H8.out
  obtain ⟨L5,htp,aF6,f5⟩ := HL.out
  obtain ⟨P6,hq,hqp,aF7,f6⟩ := HPu.out
  obtain ⟨D7,hfp,f7⟩ := HFd.out
  have hcc := HQ.out.1
  have hcW := HW.out
  have hdz : W.drew.heap.size = W.heap.size := rfl
  have z5 := f5.size
  have z6 := f6.size
  have z7 := f7.size
  have z4 := f4.size
  have f10 : Fr (fun k => k = c) w8 (w8.setCell ⟨c,17,none⟩ (.map (some vb'))) := (Fr.refl (fun k => k = c) w8).setCell (p := ⟨c,17,none⟩) (fun _ => rfl) _
  obtain ⟨T,k1,k2,k3⟩ := aFc (w := w) (W0 := W.drew) (M := M) hcc (by omega) ((F4.trans' f8).trans f10 fun i hi e => by omega) L5 htp aF6 P6 hq hqp aF7 f6 D7 hfp f7 (V8.fr f10 (by omega)) (by omega) ((f4.trans' f8.of0).trans' f10) (by rw [ajz r4]; rfl)
  exact ⟨c,tp',q',fp',vb',T,rfl,k1,k2,k3⟩
end Go.Proofs.YtohckefafbhooaaGreat
namespace Go.Proofs.YtohckefafbhooaaGreat
set_option linter.unusedVariables false
set_option linter.unusedSimpArgs false
open Go.RowKit
theorem atv {pv : Option Addr} {w : World} {x : Nat} {u : Vlt} {E : Int} {o : Bool} (ho : (E == 0) = o) (H : ∀ W,Fr F0 w W → Calls Tryz.prog 88 #[.pointer pv,.int .u8 (x : Int)] W fun e w' => e = .returned (.tuple #[vBv u,.int .i64 E]) ∧ Fr F0 W w') :
  Calls Tryz.prog 27 #[.pointer pv,.int .u8 (x : Int)] w fun e w' => e = .returned (.tuple #[vBv u,.bool o]) ∧ Fr F0 w w' := by
 have sz := lu u
 have oS := ru u
 simp only [iq] at H ⊢
 generalize cB u = C at *
 replace H := Lib.hid H
 go_enter Tryz.func27,Tryz.ntmps27
 go_upto_region 1 with fail
 refine eu fun W1 N => ?_
 have r4 := N.new
 have F1 := Lib.hid N.fr
 clear N
 obtain ⟨g4,hg4⟩ : ∃ g,w.heap.size = g := ⟨_,rfl⟩
 rw [hg4] at r4 ⊢
 replace hg4 := Lib.hid hg4
 go_wp2_with fail
 (with_reducible refine (H.out _ F1.out).mono ?_); rintro e w2 ⟨rfl,f2⟩
 replace r4 := dn f2 r4
 replace F1 := Lib.hid (F1.out.trans' f2)
 clear f2 H
 go_upto_region 2 with fail
 refine jc fun W3 N => ?_
 have r6 := N.new
 replace r4 := N.old r4
 have F3 := Lib.hid (F1.out.trans' N.fr)
 clear N F1
 go_wp2_with fail
 refine bodyPost_ret (jw rfl _ _ g4 _ _ _ _ rfl (by rw [bf,r4]; rfl) Tryz.underlying72 rfl (by rw [Tryz.szBVault,sz])) rfl ?_
 exact ⟨rfl,F3.out.setRow (fun h => by have := hg4.out; omega) _⟩
end Go.Proofs.YtohckefafbhooaaGreat
