import Derived.Test.YtohckefafbhooaaGreatN40
import Derived.Test.YtohckefafbhooaaGreatN39
import Derived.Test.YtohckefafbhooaaGreatN42
import Derived.Test.YtohckefafbhooaaGreatN38
import Derived.Test.YtohckefafbhooaaGreatN41
set_option maxRecDepth 100000
set_option maxHeartbeats 64000000
namespace Go.Proofs.YtohckefafbhooaaGreat
set_option maxRecDepth 100000
set_option linter.unusedVariables false
set_option linter.unusedSimpArgs false
open Go.RowKit
theorem sec_ways (M : Bok) (c q : Nat) : (prE 50 M.price M.told M.now ≠ 0 ∧ secE usR M c q = prE 50 M.price M.told M.now) ∨ (prE 50 M.price M.told M.now = 0 ∧ 4611686018427387904 < q ∧ secE usR M c q = 4) ∨
  (prE 50 M.price M.told M.now = 0 ∧ q ≤ 4611686018427387904 ∧ decide (enP c q (prV 50 M.price M.told M.now) 2000) = false ∧ secE usR M c q = 19) ∨ (prE 50 M.price M.told M.now = 0 ∧ q ≤ 4611686018427387904 ∧ decide (enP c q (prV 50 M.price M.told M.now) 2000) = true ∧ secE usR M c q = 0) := by
 unfold secE
 rw [show usR 4 = 50 from rfl,show usR 0 = 2000 from rfl]
 by_cases h : prE 50 M.price M.told M.now = 0
 ·have hv : prV 50 M.price M.told M.now = M.price := if_pos h
  rw [if_pos h,hv]
  by_cases h2 : 4611686018427387904 < q
  ·exact .inr (.inl ⟨h,h2,if_pos h2⟩)
  ·rw [if_neg h2]
   by_cases h3 : enP c q M.price 2000
   ·exact .inr (.inr (.inr ⟨h,by omega,decide_eq_true h3,if_pos h3⟩))
   ·exact .inr (.inr (.inl ⟨h,by omega,decide_eq_false h3,if_neg h3⟩))
 ·rw [if_neg h]; exact .inl ⟨h,rfl⟩
section
variable {S : Nat → Prop} {w w' W : World} {p tp q fp vb : Nat} {M : Bok}
theorem vok_coll (hM : M.Ok) {y : Vlt} {j : Nat} (hy : M.vs[j]? = some y) : y.coll ≤ 4611686018427387904 := by
 have h1 := hM.coll_le hy
 have h2 := hM.inn
 have h3 := hM.paid
 omega
theorem bkReserve_any (h : KP S w p tp q fp vb M) (hM : M.Ok) {x a : Nat} (hx : x < 256) (ha : a < 18446744073709551616) :
  Calls Tryz.prog 23 #[.pointer (some ⟨p,0,none⟩),.int .u8 (x : Int),.int .u64 (a : Int)] w (EP S w p tp q fp vb (vD M x a false (reserveD usR M a)).1 (.int .i64 (vD M x a false (reserveD usR M a)).2.2)) := by
 by_cases hE : opE M x a false = 0
 ·obtain ⟨y,hb,hy,hg,hyw,hf⟩ := opE_good hE
  replace hf := hf rfl
  rw [vD_yes hE hy]
  unfold reserveD
  have hc := vok_coll hM hy
  rcases sec_ways M y.coll (y.bur + a) with ⟨h1,e⟩ | ⟨h1,h2,e⟩ | ⟨h1,h2,h3,e⟩ | ⟨h1,h2,h3,e⟩
  ·rw [e,if_neg h1]; exact bkReserve_price h hM hx ha hb hg hy hyw hf h1
  ·rw [e,if_neg (by decide)]; exact bkReserve_over h hM hx ha hb hg hy hyw hf h1 h2
  ·rw [e,if_neg (by decide)]; exact bkReserve_insec h hM hx ha hb hg hy hyw hf h1 h2 (by omega) h3
  ·rw [e,if_pos rfl]; exact bkReserve_ok h hM hx ha hb hg hy hyw hf h1 h2 (by omega) h3
 ·rw [vD_no hE]
  exact bkReserve_no h hx hE
theorem kFeedP (h : KP S w p tp q fp vb M) : Calls Tryz.prog 17 #[.pointer (some ⟨p,0,none⟩)] w fun e w' => e = .returned (.pointer (some ⟨fp,0,none⟩)) ∧ w' = w := by
 obtain ⟨tob,qp,qob,b,e⟩ := h
 exact bkFeed_any b
theorem kPurseP (h : KP S w p tp q fp vb M) : Calls Tryz.prog 20 #[.pointer (some ⟨p,0,none⟩)] w fun e w' => e = .returned (.pointer (some ⟨q,0,none⟩)) ∧ w' = w := by
 obtain ⟨tob,qp,qob,b,e⟩ := h
 exact bkPurse_any b
end
def A1 : List UInt8 := 1 :: List.replicate 19 0
theorem built_A1 (w : World) : (buildAd #[(0,.int .u8 1)]).run Tryz.prog w = .ok (.agg (A1.map B8).toArray) w := run_build w _ _ _ (by kernel_rfl)
def lv1 : Bok := { bok0 with price := 100,told := 0 }
def lv2 : Bok := { lv1 with inn := 200,free := upd lv1.free 1 200 }
def lvV : Vlt := ⟨1,A1,200,0,0,0,0,false⟩
def lv3 : Bok := { lv2 with free := upd lv2.free 1 0,held := 200,vs := [lvV] }
def lv4 : Bok := { lv3 with vs := [{ lvV with com := 100000000 }] }
theorem A1_len : A1.length = 20 := rfl
theorem lv1_is : (step20 usR bok0 ⟨1,0,0,100,A1⟩).1 = lv1 := by
 show (priceD usR bok0 100).1 = lv1
 unfold priceD
 rw [if_pos (by decide)]
 rfl
theorem lv1_ok : lv1.Ok := by rw [← lv1_is]; exact step_ok bok0_ok (by decide) (by decide) rfl
theorem lv2_is : inD lv1 1 200 = (lv2,0,0) := by
 unfold inD
 rw [if_neg (by decide),if_neg (by decide)]
 rfl
theorem lv2_ok : lv2.Ok := by
 have := step_ok (R := usR) (d := ⟨2,1,0,200,A1⟩) lv1_ok (by decide) (by decide) rfl
 rw [show (step20 usR lv1 ⟨2,1,0,200,A1⟩).1 = lv2 from congrArg Prod.fst lv2_is] at this
 exact this
theorem lv3_is : registerD lv2 1 200 A1 = (lv3,0,0) := by
 unfold registerD
 rw [if_neg (by decide),if_neg (by simp [lv2,lv1,bok0]),if_neg (by decide),if_neg (by decide)]
 rfl
theorem lv3_ok : lv3.Ok := by
 have := step_ok (R := usR) (d := ⟨5,1,0,200,A1⟩) lv2_ok (by decide) (by decide) rfl
 rw [show (step20 usR lv2 ⟨5,1,0,200,A1⟩).1 = lv3 from congrArg Prod.fst lv3_is] at this
 exact this
theorem lv4_is : vD lv3 1 100000000 false (reserveD usR lv3 100000000) = (lv4,0,0) := by
 rw [vD_yes (y := lvV) (by decide) rfl]
 unfold reserveD
 rw [if_pos (by decide)]
 rfl
theorem lv4_ok : lv4.Ok := by
 have := step_ok (R := usR) (d := ⟨8,1,0,100000000,A1⟩) lv3_ok (by decide) (by decide) rfl
 rw [show (step20 usR lv3 ⟨8,1,0,100000000,A1⟩).1 = lv4 from congrArg Prod.fst lv4_is] at this
 exact this
theorem lv5_is : (vD lv4 1 1 false (reserveD usR lv4 1)) = (lv4,0,19) := by
 rw [vD_yes (y := { lvV with com := 100000000 }) (by decide) rfl]
 unfold reserveD
 have e : secE usR lv4 200 100000001 = 19 := by decide
 show (if secE usR lv4 200 100000001 = 0 then _ else lv4.no (secE usR lv4 200 100000001)) = _
 rw [e]
 rfl
theorem lives20_any (w : World) : Calls Tryz.prog 7 #[] w fun e w' => e = .returned (.bool true) ∧ Fr F0 w w' := by
 have HU := Lib.hid usual20_any
 have HN := Lib.hid bkNew_us
 have hb := built_A1
 go_enter Tryz.func7,Tryz.ntmps7
 go_wp2_with fail
 (with_reducible refine (HU.out _).mono ?_); rintro e w1 ⟨rfl,f1⟩
 have F1 := Lib.hid f1
 clear f1
 go_wp2_with fail
 refine (HN.out _).mono ?_; rintro e w2 ⟨p,tp,q,fp,vb,S,rfl,k2,hS,f2⟩
 have HS := Lib.hid (And.intro hS (F1.out.trans' f2))
 have HFd := Lib.hid (kFeedP k2)
 have HSt := Lib.hid (kSet_any k2 100 0)
 rw [if_pos (by decide),show seE 100 bok0.price bok0.told 100 0 = 0 by decide,show ((100 : Nat) : Int) = 100 from rfl,show ((0 : Nat) : Int) = 0 from rfl] at HSt
 have m2 := Lib.hid (MidT.start k2 (Fr.refl F0 w2))
 clear hS f2 k2
 go_wp2_with fail
 (with_reducible refine HFd.out.mono ?_); rintro e w3 ⟨rfl,hw⟩; replace hw := hw.symm; subst hw
 go_wp2_with fail
 (with_reducible refine HSt.out.mono ?_); rintro e w3 ⟨rfl,h3⟩
 obtain ⟨T3,m3⟩ := m2.out.next h3
 have HPu := Lib.hid (kPurseP m3.kp)
 have HIn := Lib.hid (kIn_ok (M := lv1) (a := 1) (x := 200) m3.kp (by decide) (by decide))
 rw [show ((1 : Nat) : Int) = 1 from rfl,show ((200 : Nat) : Int) = 200 from rfl] at HIn
 replace m3 : Hid (MidT S T3 w2 p tp q fp vb lv1 (fun _ => False) w3) := Lib.hid m3
 clear h3 HSt HFd m2
 go_wp2_with fail
 (with_reducible refine HPu.out.mono ?_); rintro e w4 ⟨rfl,hw⟩; replace hw := hw.symm; subst hw
 go_wp2_with fail
 (with_reducible refine HIn.out.mono ?_); rintro e w4 ⟨rfl,h4⟩
 obtain ⟨T4,m4⟩ := m3.out.next h4
 have HRe := Lib.hid (bkRegister_any (M := lv2) (x := 1) (a := 200) (A := A1) m4.kp lv2_ok (by decide) (by decide) A1_len)
 rw [lv3_is] at HRe
 unfold argsR at HRe
 rw [show ((1 : Nat) : Int) = 1 from rfl,show ((200 : Nat) : Int) = 200 from rfl] at HRe
 replace m4 : Hid (MidT S T4 w2 p tp q fp vb lv2 (fun _ => False) w4) := Lib.hid m4
 clear h4 HPu HIn m3
 obtain ⟨X,hX⟩ : ∃ X,X = (A1.map B8).toArray := ⟨_,rfl⟩
 rw [← hX] at HRe hb
 clear hX
 go_wp2_with fail
 (with_reducible refine HRe.out.mono ?_); rintro e w5 ⟨rfl,h5⟩
 obtain ⟨T5,m5⟩ := m4.out.next h5
 have HR1 := Lib.hid (bkReserve_any (M := lv3) (x := 1) (a := 100000000) m5.kp lv3_ok (by decide) (by decide))
 rw [lv4_is,show ((1 : Nat) : Int) = 1 from rfl,show ((100000000 : Nat) : Int) = 100000000 from rfl] at HR1
 replace m5 : Hid (MidT S T5 w2 p tp q fp vb lv3 (fun _ => False) w5) := Lib.hid m5
 clear h5 HRe m4
 go_wp2_with fail
 (with_reducible refine HR1.out.mono ?_); rintro e w6 ⟨rfl,h6⟩
 obtain ⟨T6,m6⟩ := m5.out.next h6
 have HR2 := Lib.hid (bkReserve_any (M := lv4) (x := 1) (a := 1) m6.kp lv4_ok (by decide) (by decide))
 rw [lv5_is,show ((1 : Nat) : Int) = 1 from rfl] at HR2
 replace m6 : Hid (MidT S T6 w2 p tp q fp vb lv4 (fun _ => False) w6) := Lib.hid m6
 clear h6 HR1 m5
 go_wp2_with fail
 (with_reducible refine HR2.out.mono ?_); rintro e w7 ⟨rfl,h7⟩
 obtain ⟨T7,m7⟩ := m6.out.next h7
 have HF := Lib.hid (HS.out.2.trans m7.fr fun i hi e => absurd hi (Nat.not_lt.2 (Nat.le_trans F1.out.size (HS.out.1 i e).1)))
 clear h7 m7 m6 HR2
 go_wp2_with fail
 go_ret
 exact ⟨rfl,HF.out⟩
end Go.Proofs.YtohckefafbhooaaGreat
namespace Go.Proofs.YtohckefafbhooaaGreat
set_option maxRecDepth 100000
set_option linter.unusedVariables false
set_option linter.unusedSimpArgs false
open Go.RowKit
theorem results_cell2_tmp {P : Program} {fn : Func} {p p2 u : Tmp} {ty ty2 : TypeId} (h : fn.results = #[.cell p ty,.cell p2 ty2,.tmp u]) (tmps : Array Value) (w : World) (g g2 : Nat) (t t2 : TypeId) (cs cs2 : Array Value) (fr fr2 : Nat × Nat) (d d2 : TypeDesc)
  (hp : tmps.getD p undef = .pointer (some ⟨g,0,none⟩)) (hp2 : tmps.getD p2 undef = .pointer (some ⟨g2,0,none⟩)) (hg : w.heap[g]? = some (.cells cs t fr)) (hg2 : w.heap[g2]? = some (.cells cs2 t2 fr2))
  (hu : P.underlying ty = some d) (hd : (match d with | .struct _ | .array _ _ => true | _ => false) = true) (hi : (P.info? ty).map (·.size) = some cs.size)
  (hu2 : P.underlying ty2 = some d2) (hd2 : (match d2 with | .struct _ | .array _ _ => true | _ => false) = true) (hi2 : (P.info? ty2).map (·.size) = some cs2.size) :
  (results fn tmps).run P w = .ok (.tuple #[.agg cs,.agg cs2,tmps.getD u undef]) w := by
 have h1 := run_loadVar_row w g t ty cs fr d hg hu hd hi
 have h2 := run_loadVar_row w g2 t2 ty2 cs2 fr2 d2 hg2 hu2 hd2 hi2
 have hp' : tmps[p]?.getD undef = .pointer (some ⟨g,0,none⟩) := by simpa using hp
 have hp2' : tmps[p2]?.getD undef = .pointer (some ⟨g2,0,none⟩) := by simpa using hp2
 simp [results,h,hp',hp2',asAddr,h1,h2,Sem.run_bind]
theorem bkasked_badP (pv : Option Addr) (a x : Nat) (h : badM a) (w : World) : Calls Tryz.prog 83 #[.pointer pv,.int .u8 (x : Int),.int .u64 (a : Int)] w fun e w' => e = .returned (.tuple #[vBv v0,.int .i64 1]) ∧ Fr F0 w w' := by
 have H := Lib.hid (bksome_no a h)
 have hb0 := run_build0
 have sz0 := cB_size v0
 have oS0 := cB_one v0
 rw [vBv_is]
 generalize cB v0 = C0 at *
 clear h
 go_enter Tryz.func83,Tryz.ntmps83
 go_upto_region 1 with fail
 refine wp_new fun W1 N => ?_
 have r4 := N.new
 have F1 := Lib.hid N.fr
 clear N
 obtain ⟨g4,hg4⟩ : ∃ g,w.heap.size = g := ⟨_,rfl⟩
 rw [hg4] at r4 ⊢
 replace hg4 := Lib.hid hg4
 go_wp2_with fail
 (with_reducible refine (H.out _).mono ?_); rintro e w1 ⟨rfl,hw⟩; replace hw := hw.symm; subst hw
 go_wp2_with fail
 refine bodyPost_ret (results_cell_row_tmp rfl _ _ g4 _ _ _ _ rfl (by rw [heap_setRow_at,r4]; rfl) Tryz.underlying72 rfl (by rw [Tryz.szBVault,sz0])) rfl ?_
 exact ⟨rfl,F1.out.setRow (fun h => by have := hg4.out; omega) _⟩
theorem bkvault_nil (x : Nat) (w : World) : Calls Tryz.prog 88 #[.pointer none,.int .u8 (x : Int)] w fun e w' => e = .returned (.tuple #[vBv v0,.int .i64 1]) ∧ Fr F0 w w' := by
 have hb0 := run_build0
 have sz0 := cB_size v0
 have oS0 := cB_one v0
 rw [vBv_is]
 generalize cB v0 = C0 at *
 go_enter Tryz.func88,Tryz.ntmps88
 go_upto_region 1 with fail
 refine wp_new fun W1 N => ?_
 have r4 := N.new
 have F1 := Lib.hid N.fr
 clear N
 obtain ⟨g4,hg4⟩ : ∃ g,w.heap.size = g := ⟨_,rfl⟩
 rw [hg4] at r4 ⊢
 replace hg4 := Lib.hid hg4
 go_wp2_with fail
 refine bodyPost_ret (results_cell_row_tmp rfl _ _ g4 _ _ _ _ rfl (by rw [heap_setRow_at,r4]; rfl) Tryz.underlying72 rfl (by rw [Tryz.szBVault,sz0])) rfl ?_
 exact ⟨rfl,F1.out.setRow (fun h => by have := hg4.out; omega) _⟩
theorem bkasked_nil (a x : Nat) (w : World) : Calls Tryz.prog 83 #[.pointer none,.int .u8 (x : Int),.int .u64 (a : Int)] w fun e w' => e = .returned (.tuple #[vBv v0,.int .i64 1]) ∧ Fr F0 w w' := by
 by_cases h : badM a
 ·exact bkasked_badP _ a x h w
 ·have H := Lib.hid (bksome_yes a h)
  have HV := Lib.hid (bkvault_nil x)
  have sz0 := cB_size v0
  have oS0 := cB_one v0
  simp only [vBv_is] at HV ⊢
  generalize cB v0 = C0 at *
  clear h
  go_enter Tryz.func83,Tryz.ntmps83
  go_upto_region 1 with fail
  refine wp_new fun W1 N => ?_
  have r4 := N.new
  have F1 := Lib.hid N.fr
  clear N
  obtain ⟨g4,hg4⟩ : ∃ g,w.heap.size = g := ⟨_,rfl⟩
  rw [hg4] at r4 ⊢
  replace hg4 := Lib.hid hg4
  go_wp2_with fail
  (with_reducible refine (H.out _).mono ?_); rintro e w1 ⟨rfl,hw⟩; replace hw := hw.symm; subst hw
  go_wp2_with fail
  (with_reducible refine (HV.out _).mono ?_); rintro e w2 ⟨rfl,f2⟩
  replace r4 := keep_fr f2 r4
  have F2 := Lib.hid (F1.out.trans' f2)
  clear f2 HV
  go_wp2_with fail
  refine bodyPost_ret (results_cell_row_tmp rfl _ _ g4 _ _ _ _ rfl (by rw [heap_setRow_at,r4]; rfl) Tryz.underlying72 rfl (by rw [Tryz.szBVault,sz0])) rfl ?_
  exact ⟨rfl,F2.out.setRow (fun h => by have := hg4.out; omega) _⟩
theorem bkReserve_ref {pv : Option Addr} {w : World} {x a : Nat} {u : Vlt} {E1 E : Int} (H1 : Calls Tryz.prog 83 #[.pointer pv,.int .u8 (x : Int),.int .u64 (a : Int)] w fun e w' => e = .returned (.tuple #[vBv u,.int .i64 E1]) ∧ Fr F0 w w') (H2 : ∀ W,Calls Tryz.prog 82 #[vBv u,.int .i64 E1] W fun e w' => e = .returned (.tuple #[vBv v0,.int .i64 E]) ∧ Fr F0 W w') (hE : E ≠ 0) : Calls Tryz.prog 23 #[.pointer pv,.int .u8 (x : Int),.int .u64 (a : Int)] w fun e w' => e = .returned (.int .i64 E) ∧ Fr F0 w w' := by
 have sz0 := cB_size v0
 have oS0 := cB_one v0
 have q0 : (E != 0) = true := bne_iff_ne.2 hE
 simp only [vBv_is] at H1 H2
 generalize cB v0 = C0 at *
 generalize cB u = U at *
 replace H2 := Lib.hid H2
 replace H1 := Lib.hid H1
 clear hE
 go_enter Tryz.func23,Tryz.ntmps23
 go_wp2_with fail
 (with_reducible refine H1.out.mono ?_); rintro e w1 ⟨rfl,f1⟩
 have F2 := Lib.hid f1
 clear f1 H1
 go_wp2_with fail
 (with_reducible refine (H2.out _).mono ?_); rintro e w2 ⟨rfl,f2⟩
 replace F2 := Lib.hid (F2.out.trans' f2)
 clear f2 H2
 go_upto_region 2 with fail
 refine wp_put fun W3 N => ?_
 have F3 := Lib.hid (F2.out.trans' N.fr)
 clear N F2
 go_wp2_with fail
 go_ret
 exact ⟨rfl,F3.out⟩
theorem bkMore_ref {pv : Option Addr} {w : World} {x a : Nat} {u : Vlt} {E1 E : Int} (H1 : Calls Tryz.prog 83 #[.pointer pv,.int .u8 (x : Int),.int .u64 (a : Int)] w fun e w' => e = .returned (.tuple #[vBv u,.int .i64 E1]) ∧ Fr F0 w w') (H2 : ∀ W,Calls Tryz.prog 82 #[vBv u,.int .i64 E1] W fun e w' => e = .returned (.tuple #[vBv v0,.int .i64 E]) ∧ Fr F0 W w') (hE : E ≠ 0) : Calls Tryz.prog 46 #[.pointer pv,.int .u8 (x : Int),.int .u64 (a : Int)] w fun e w' => e = .returned (.int .i64 E) ∧ Fr F0 w w' := by
 have sz0 := cB_size v0
 have oS0 := cB_one v0
 have q0 : (E != 0) = true := bne_iff_ne.2 hE
 simp only [vBv_is] at H1 H2
 generalize cB v0 = C0 at *
 generalize cB u = U at *
 replace H2 := Lib.hid H2
 replace H1 := Lib.hid H1
 clear hE
 go_enter Tryz.func46,Tryz.ntmps46
 go_wp2_with fail
 (with_reducible refine H1.out.mono ?_); rintro e w1 ⟨rfl,f1⟩
 have F2 := Lib.hid f1
 clear f1 H1
 go_wp2_with fail
 (with_reducible refine (H2.out _).mono ?_); rintro e w2 ⟨rfl,f2⟩
 replace F2 := Lib.hid (F2.out.trans' f2)
 clear f2 H2
 go_upto_region 2 with fail
 refine wp_put fun W3 N => ?_
 have F3 := Lib.hid (F2.out.trans' N.fr)
 clear N F2
 go_wp2_with fail
 go_ret
 exact ⟨rfl,F3.out⟩
theorem bkLess_ref {pv : Option Addr} {w : World} {x a : Nat} {u : Vlt} {E1 E : Int} (H1 : Calls Tryz.prog 83 #[.pointer pv,.int .u8 (x : Int),.int .u64 (a : Int)] w fun e w' => e = .returned (.tuple #[vBv u,.int .i64 E1]) ∧ Fr F0 w w') (H2 : ∀ W,Calls Tryz.prog 82 #[vBv u,.int .i64 E1] W fun e w' => e = .returned (.tuple #[vBv v0,.int .i64 E]) ∧ Fr F0 W w') (hE : E ≠ 0) : Calls Tryz.prog 47 #[.pointer pv,.int .u8 (x : Int),.int .u64 (a : Int)] w fun e w' => e = .returned (.int .i64 E) ∧ Fr F0 w w' := by
 have sz0 := cB_size v0
 have oS0 := cB_one v0
 have q0 : (E != 0) = true := bne_iff_ne.2 hE
 simp only [vBv_is] at H1 H2
 generalize cB v0 = C0 at *
 generalize cB u = U at *
 replace H2 := Lib.hid H2
 replace H1 := Lib.hid H1
 clear hE
 go_enter Tryz.func47,Tryz.ntmps47
 go_wp2_with fail
 (with_reducible refine H1.out.mono ?_); rintro e w1 ⟨rfl,f1⟩
 have F2 := Lib.hid f1
 clear f1 H1
 go_wp2_with fail
 (with_reducible refine (H2.out _).mono ?_); rintro e w2 ⟨rfl,f2⟩
 replace F2 := Lib.hid (F2.out.trans' f2)
 clear f2 H2
 go_upto_region 2 with fail
 refine wp_put fun W3 N => ?_
 have F3 := Lib.hid (F2.out.trans' N.fr)
 clear N F2
 go_wp2_with fail
 go_ret
 exact ⟨rfl,F3.out⟩
theorem bkLeave_ref {pv : Option Addr} {w : World} {x a : Nat} {u : Vlt} {E1 E : Int} (H1 : Calls Tryz.prog 83 #[.pointer pv,.int .u8 (x : Int),.int .u64 (a : Int)] w fun e w' => e = .returned (.tuple #[vBv u,.int .i64 E1]) ∧ Fr F0 w w') (H2 : ∀ W,Calls Tryz.prog 82 #[vBv u,.int .i64 E1] W fun e w' => e = .returned (.tuple #[vBv v0,.int .i64 E]) ∧ Fr F0 W w') (hE : E ≠ 0) : Calls Tryz.prog 52 #[.pointer pv,.int .u8 (x : Int),.int .u64 (a : Int)] w fun e w' => e = .returned (.int .i64 E) ∧ Fr F0 w w' := by
 have sz0 := cB_size v0
 have oS0 := cB_one v0
 have q0 : (E != 0) = true := bne_iff_ne.2 hE
 simp only [vBv_is] at H1 H2
 generalize cB v0 = C0 at *
 generalize cB u = U at *
 replace H2 := Lib.hid H2
 replace H1 := Lib.hid H1
 clear hE
 go_enter Tryz.func52,Tryz.ntmps52
 go_wp2_with fail
 (with_reducible refine H1.out.mono ?_); rintro e w1 ⟨rfl,f1⟩
 have F2 := Lib.hid f1
 clear f1 H1
 go_wp2_with fail
 (with_reducible refine (H2.out _).mono ?_); rintro e w2 ⟨rfl,f2⟩
 replace F2 := Lib.hid (F2.out.trans' f2)
 clear f2 H2
 go_upto_region 2 with fail
 refine wp_put fun W3 N => ?_
 have F3 := Lib.hid (F2.out.trans' N.fr)
 clear N F2
 go_wp2_with fail
 go_ret
 exact ⟨rfl,F3.out⟩
theorem bkStay_ref {pv : Option Addr} {w : World} {x a : Nat} {u : Vlt} {E1 E : Int} (H1 : Calls Tryz.prog 83 #[.pointer pv,.int .u8 (x : Int),.int .u64 (a : Int)] w fun e w' => e = .returned (.tuple #[vBv u,.int .i64 E1]) ∧ Fr F0 w w') (H2 : ∀ W,Calls Tryz.prog 82 #[vBv u,.int .i64 E1] W fun e w' => e = .returned (.tuple #[vBv v0,.int .i64 E]) ∧ Fr F0 W w') (hE : E ≠ 0) : Calls Tryz.prog 53 #[.pointer pv,.int .u8 (x : Int),.int .u64 (a : Int)] w fun e w' => e = .returned (.int .i64 E) ∧ Fr F0 w w' := by
 have sz0 := cB_size v0
 have oS0 := cB_one v0
 have q0 : (E != 0) = true := bne_iff_ne.2 hE
 simp only [vBv_is] at H1 H2
 generalize cB v0 = C0 at *
 generalize cB u = U at *
 replace H2 := Lib.hid H2
 replace H1 := Lib.hid H1
 clear hE
 go_enter Tryz.func53,Tryz.ntmps53
 go_wp2_with fail
 (with_reducible refine H1.out.mono ?_); rintro e w1 ⟨rfl,f1⟩
 have F2 := Lib.hid f1
 clear f1 H1
 go_wp2_with fail
 (with_reducible refine (H2.out _).mono ?_); rintro e w2 ⟨rfl,f2⟩
 replace F2 := Lib.hid (F2.out.trans' f2)
 clear f2 H2
 go_upto_region 2 with fail
 refine wp_put fun W3 N => ?_
 have F3 := Lib.hid (F2.out.trans' N.fr)
 clear N F2
 go_wp2_with fail
 go_ret
 exact ⟨rfl,F3.out⟩
theorem bkMint_ref {pv : Option Addr} {w : World} {x v a : Nat} {u : Vlt} {E1 E : Int} (H1 : Calls Tryz.prog 83 #[.pointer pv,.int .u8 (x : Int),.int .u64 (a : Int)] w fun e w' => e = .returned (.tuple #[vBv u,.int .i64 E1]) ∧ Fr F0 w w') (H2 : ∀ W,Calls Tryz.prog 82 #[vBv u,.int .i64 E1] W fun e w' => e = .returned (.tuple #[vBv v0,.int .i64 E]) ∧ Fr F0 W w') (hE : E ≠ 0) : Calls Tryz.prog 24 #[.pointer pv,.int .u8 (x : Int),.int .u8 (v : Int),.int .u64 (a : Int)] w fun e w' => e = .returned (.int .i64 E) ∧ Fr F0 w w' := by
 have sz0 := cB_size v0
 have oS0 := cB_one v0
 have q0 : (E != 0) = true := bne_iff_ne.2 hE
 simp only [vBv_is] at H1 H2
 generalize cB v0 = C0 at *
 generalize cB u = U at *
 replace H2 := Lib.hid H2
 replace H1 := Lib.hid H1
 clear hE
 go_enter Tryz.func24,Tryz.ntmps24
 go_wp2_with fail
 (with_reducible refine H1.out.mono ?_); rintro e w1 ⟨rfl,f1⟩
 have F2 := Lib.hid f1
 clear f1 H1
 go_wp2_with fail
 (with_reducible refine (H2.out _).mono ?_); rintro e w2 ⟨rfl,f2⟩
 replace F2 := Lib.hid (F2.out.trans' f2)
 clear f2 H2
 go_upto_region 2 with fail
 refine wp_put fun W3 N => ?_
 have F3 := Lib.hid (F2.out.trans' N.fr)
 clear N F2
 go_wp2_with fail
 go_ret
 exact ⟨rfl,F3.out⟩
theorem bkBurn_ref {pv : Option Addr} {w : World} {x v a : Nat} {u : Vlt} {E1 E : Int} (H1 : Calls Tryz.prog 83 #[.pointer pv,.int .u8 (x : Int),.int .u64 (a : Int)] w fun e w' => e = .returned (.tuple #[vBv u,.int .i64 E1]) ∧ Fr F0 w w') (H2 : ∀ W,Calls Tryz.prog 82 #[vBv u,.int .i64 E1] W fun e w' => e = .returned (.tuple #[vBv v0,.int .i64 E]) ∧ Fr F0 W w') (hE : E ≠ 0) : Calls Tryz.prog 25 #[.pointer pv,.int .u8 (x : Int),.int .u8 (v : Int),.int .u64 (a : Int)] w fun e w' => e = .returned (.int .i64 E) ∧ Fr F0 w w' := by
 have sz0 := cB_size v0
 have oS0 := cB_one v0
 have q0 : (E != 0) = true := bne_iff_ne.2 hE
 simp only [vBv_is] at H1 H2
 generalize cB v0 = C0 at *
 generalize cB u = U at *
 replace H2 := Lib.hid H2
 replace H1 := Lib.hid H1
 clear hE
 go_enter Tryz.func25,Tryz.ntmps25
 go_wp2_with fail
 (with_reducible refine H1.out.mono ?_); rintro e w1 ⟨rfl,f1⟩
 have F2 := Lib.hid f1
 clear f1 H1
 go_wp2_with fail
 (with_reducible refine (H2.out _).mono ?_); rintro e w2 ⟨rfl,f2⟩
 replace F2 := Lib.hid (F2.out.trans' f2)
 clear f2 H2
 go_upto_region 2 with fail
 refine wp_put fun W3 N => ?_
 have F3 := Lib.hid (F2.out.trans' N.fr)
 clear N F2
 go_wp2_with fail
 go_ret
 exact ⟨rfl,F3.out⟩
theorem bkHand_ref {pv : Option Addr} {w : World} {x v a : Nat} {u : Vlt} {E1 E : Int} (H1 : Calls Tryz.prog 83 #[.pointer pv,.int .u8 (x : Int),.int .u64 (a : Int)] w fun e w' => e = .returned (.tuple #[vBv u,.int .i64 E1]) ∧ Fr F0 w w') (H2 : ∀ W,Calls Tryz.prog 82 #[vBv u,.int .i64 E1] W fun e w' => e = .returned (.tuple #[vBv v0,.int .i64 E]) ∧ Fr F0 W w') (hE : E ≠ 0) : Calls Tryz.prog 54 #[.pointer pv,.int .u8 (x : Int),.int .u8 (v : Int),.int .u64 (a : Int)] w fun e w' => e = .returned (.int .i64 E) ∧ Fr F0 w w' := by
 have sz0 := cB_size v0
 have oS0 := cB_one v0
 have q0 : (E != 0) = true := bne_iff_ne.2 hE
 simp only [vBv_is] at H1 H2
 generalize cB v0 = C0 at *
 generalize cB u = U at *
 replace H2 := Lib.hid H2
 replace H1 := Lib.hid H1
 clear hE
 go_enter Tryz.func54,Tryz.ntmps54
 go_wp2_with fail
 (with_reducible refine H1.out.mono ?_); rintro e w1 ⟨rfl,f1⟩
 have F2 := Lib.hid f1
 clear f1 H1
 go_wp2_with fail
 (with_reducible refine (H2.out _).mono ?_); rintro e w2 ⟨rfl,f2⟩
 replace F2 := Lib.hid (F2.out.trans' f2)
 clear f2 H2
 go_upto_region 2 with fail
 refine wp_put fun W3 N => ?_
 have F3 := Lib.hid (F2.out.trans' N.fr)
 clear N F2
 go_wp2_with fail
 go_ret
 exact ⟨rfl,F3.out⟩
theorem bkRelease_ref {pv : Option Addr} {w : World} {x a : Nat} {u : Vlt} {E1 E : Int} (H1 : Calls Tryz.prog 83 #[.pointer pv,.int .u8 (x : Int),.int .u64 (a : Int)] w fun e w' => e = .returned (.tuple #[vBv v0,.int .i64 E]) ∧ Fr F0 w w')  (hE : E ≠ 0) : Calls Tryz.prog 48 #[.pointer pv,.int .u8 (x : Int),.int .u64 (a : Int)] w fun e w' => e = .returned (.int .i64 E) ∧ Fr F0 w w' := by
 have sz0 := cB_size v0
 have oS0 := cB_one v0
 have q0 : (E != 0) = true := bne_iff_ne.2 hE
 simp only [vBv_is] at H1
 generalize cB v0 = C0 at *
 replace H1 := Lib.hid H1
 clear hE
 go_enter Tryz.func48,Tryz.ntmps48
 go_wp2_with fail
 (with_reducible refine H1.out.mono ?_); rintro e w1 ⟨rfl,f1⟩
 have F2 := Lib.hid f1
 clear f1 H1
 go_upto_region 2 with fail
 refine wp_put fun W3 N => ?_
 have F3 := Lib.hid (F2.out.trans' N.fr)
 clear N F2
 go_wp2_with fail
 go_ret
 exact ⟨rfl,F3.out⟩
theorem bkSlash_ref {pv : Option Addr} {w : World} {x v a : Nat} {u : Vlt} {E1 E : Int} (H1 : Calls Tryz.prog 83 #[.pointer pv,.int .u8 (x : Int),.int .u64 (a : Int)] w fun e w' => e = .returned (.tuple #[vBv v0,.int .i64 E]) ∧ Fr F0 w w')  (hE : E ≠ 0) : Calls Tryz.prog 51 #[.pointer pv,.int .u8 (x : Int),.int .u8 (v : Int),.int .u64 (a : Int)] w fun e w' => e = .returned (.tuple #[.int .u64 0,.int .i64 E]) ∧ Fr F0 w w' := by
 have sz0 := cB_size v0
 have oS0 := cB_one v0
 have q0 : (E != 0) = true := bne_iff_ne.2 hE
 simp only [vBv_is] at H1
 generalize cB v0 = C0 at *
 replace H1 := Lib.hid H1
 clear hE
 go_enter Tryz.func51,Tryz.ntmps51
 go_wp2_with fail
 (with_reducible refine H1.out.mono ?_); rintro e w1 ⟨rfl,f1⟩
 have F2 := Lib.hid f1
 clear f1 H1
 go_upto_region 2 with fail
 refine wp_put fun W3 N => ?_
 have F3 := Lib.hid (F2.out.trans' N.fr)
 clear N F2
 go_wp2_with fail
 go_ret2
 exact ⟨rfl,F3.out⟩
theorem bkFall_ref {pv : Option Addr} {w : World} {x : Nat} {u : Vlt} {E1 E : Int} (H1 : Calls Tryz.prog 88 #[.pointer pv,.int .u8 (x : Int)] w fun e w' => e = .returned (.tuple #[vBv u,.int .i64 E1]) ∧ Fr F0 w w') (H2 : ∀ W,Calls Tryz.prog 82 #[vBv u,.int .i64 E1] W fun e w' => e = .returned (.tuple #[vBv v0,.int .i64 E]) ∧ Fr F0 W w') (hE : E ≠ 0) : Calls Tryz.prog 26 #[.pointer pv,.int .u8 (x : Int)] w fun e w' => e = .returned (.int .i64 E) ∧ Fr F0 w w' := by
 have sz0 := cB_size v0
 have oS0 := cB_one v0
 have q0 : (E != 0) = true := bne_iff_ne.2 hE
 simp only [vBv_is] at H1 H2
 generalize cB v0 = C0 at *
 generalize cB u = U at *
 replace H2 := Lib.hid H2
 replace H1 := Lib.hid H1
 clear hE
 go_enter Tryz.func26,Tryz.ntmps26
 go_wp2_with fail
 (with_reducible refine H1.out.mono ?_); rintro e w1 ⟨rfl,f1⟩
 have F2 := Lib.hid f1
 clear f1 H1
 go_wp2_with fail
 (with_reducible refine (H2.out _).mono ?_); rintro e w2 ⟨rfl,f2⟩
 replace F2 := Lib.hid (F2.out.trans' f2)
 clear f2 H2
 go_upto_region 2 with fail
 refine wp_put fun W3 N => ?_
 have F3 := Lib.hid (F2.out.trans' N.fr)
 clear N F2
 go_wp2_with fail
 go_ret
 exact ⟨rfl,F3.out⟩
end Go.Proofs.YtohckefafbhooaaGreat
namespace Go.Proofs.YtohckefafbhooaaGreat
set_option maxRecDepth 100000
set_option linter.unusedVariables false
set_option linter.unusedSimpArgs false
open Go.RowKit
def buildP0 (p : Array (Nat × Value)) : Sem Value := Instr.build 76 p
@[go_sem ↓ high] theorem build_P0 (p : Array (Nat × Value)) : Instr.build 76 p = buildP0 p := rfl
theorem run_buildP0 (w : World) : (buildP0 #[]).run Tryz.prog w = .ok (.agg #[.int .u64 0,.int .u64 0]) w := run_build w _ _ _ (by kernel_rfl)
theorem pool_one (a b : Int) : rowOne #[.int .u64 a,.int .u64 b] := by
 unfold rowOne
 rw [Array.all_eq_true_iff_forall_mem]
 intro v hv
 simp only [List.mem_toArray,List.mem_cons,List.not_mem_nil,or_false] at hv
 rcases hv with rfl | rfl <;> rfl
theorem two_new (w : World) (Z Z2 : Array Value) (t t2 : TypeId) : ((w.alloc (.cells Z t)).alloc (.cells Z2 t2)).heap[w.heap.size]? = some (.cells Z t (0,0)) ∧ ((w.alloc (.cells Z t)).alloc (.cells Z2 t2)).heap[w.heap.size + 1]? = some (.cells Z2 t2 (0,0)) ∧ Fr F0 w ((w.alloc (.cells Z t)).alloc (.cells Z2 t2)) := by
 have h := heap_alloc_new (w.alloc (.cells Z t)) (.cells Z2 t2)
 rw [World.size_alloc] at h
 exact ⟨keep_alloc (heap_alloc_new w _),h,((Fr.refl F0 w).alloc _).alloc _⟩
theorem wp_new2 {P : Program} {c : Code} {Q : Exit → Act → World → Prop} {a : Act} {w : World} {Z Z2 : Array Value} {t t2 : TypeId} (k : ∀ W,W.heap[w.heap.size]? = some (.cells Z t (0,0)) → W.heap[w.heap.size + 1]? = some (.cells Z2 t2 (0,0)) → Fr F0 w W → Code.wp P c Q a W) : Code.wp P c Q a ((w.alloc (.cells Z t)).alloc (.cells Z2 t2)) :=
 k _ (two_new w Z Z2 t t2).1 (two_new w Z Z2 t t2).2.1 (two_new w Z Z2 t t2).2.2
theorem two_box (w : World) (Z Z2 C : Array Value) (t t2 : TypeId) : (((w.alloc (.cells Z t)).alloc (.cells Z2 t2)).setRow w.heap.size C).heap[w.heap.size + 1]? = some (.cells Z2 t2 (0,0)) := keep_row (by omega) (two_new w Z Z2 t t2).2.1
theorem wp_put2 {P : Program} {c : Code} {Q : Exit → Act → World → Prop} {a : Act} {w : World} {Z Z2 C C2 : Array Value} {t t2 : TypeId} (k : ∀ W,W.heap[w.heap.size]? = some (.cells C t (0,0)) → W.heap[w.heap.size + 1]? = some (.cells C2 t2 (0,0)) → Fr F0 w W → Code.wp P c Q a W) :
  Code.wp P c Q a ((((w.alloc (.cells Z t)).alloc (.cells Z2 t2)).setRow w.heap.size C).setRow (w.heap.size + 1) C2) := by
 obtain ⟨h1,h2,h3⟩ := two_new w Z Z2 t t2
 refine k _ ?_ ?_ ((h3.setRow (fun h => by omega) _).setRow (fun h => by omega) _)
 ·rw [heap_setRow_ne _ _ _ _ (by omega),heap_setRow_at,h1]; rfl
 ·rw [heap_setRow_at,two_box]; rfl
theorem bksettled_ref {pv : Option Addr} {w : World} {x a : Nat} {E : Int} (H1 : ∀ W,Fr F0 w W → Calls Tryz.prog 83 #[.pointer pv,.int .u8 (x : Int),.int .u64 (a : Int)] W fun e w' => e = .returned (.tuple #[vBv v0,.int .i64 E]) ∧ Fr F0 W w') (hE : E ≠ 0) : Calls Tryz.prog 111 #[.pointer pv,.int .u8 (x : Int),.int .u64 (a : Int)] w fun e w' => e = .returned (.tuple #[vBv v0,.agg #[.int .u64 0,.int .u64 0],.int .i64 E]) ∧ Fr F0 w w' := by
 have hb0 := run_build0
 have hb2 := run_buildP0
 have oP := pool_one 0 0
 have sz0 := cB_size v0
 have oS0 := cB_one v0
 have q0 : (E != 0) = true := bne_iff_ne.2 hE
 simp only [vBv_is] at H1 ⊢
 generalize cB v0 = C0 at *
 have HH := Lib.hid H1
 clear hE H1
 go_enter Tryz.func111,Tryz.ntmps111
 go_upto_region 1 with fail
 refine wp_new2 fun W1 r6 r7 f1 => ?_
 have F1 := Lib.hid f1
 clear f1
 obtain ⟨g6,hg6⟩ : ∃ g,w.heap.size = g := ⟨_,rfl⟩
 obtain ⟨g7,hg7⟩ : ∃ g,w.heap.size + 1 = g := ⟨_,rfl⟩
 rw [hg6] at r6
 rw [hg7] at r7
 rw [hg7,hg6]
 have n67 : g6 ≠ g7 := by omega
 have n76 : g7 ≠ g6 := by omega
 have HG := Lib.hid (And.intro hg6 hg7)
 clear hg6 hg7
 go_wp2_with fail
 (with_reducible refine (HH.out _ F1.out).mono ?_); rintro e w2 ⟨rfl,f2⟩
 replace r6 := keep_fr f2 r6
 replace r7 := keep_fr f2 r7
 replace F1 := Lib.hid (F1.out.trans' f2)
 clear f2
 go_upto_region 2 with fail
 refine wp_put fun W3 N => ?_
 replace r6 := N.old r6
 replace r7 := N.old r7
 have F3 := Lib.hid (F1.out.trans' N.fr)
 clear N F1
 have r7' : (W3.setRow g6 C0).heap[g7]? = _ := keep_row n76 r7
 go_wp2_with fail
 refine bodyPost_ret (results_cell2_tmp rfl _ _ g6 g7 _ _ _ _ _ _ _ _ rfl rfl (by rw [heap_setRow_ne _ _ _ _ n67,heap_setRow_at,r6]; rfl) (by rw [heap_setRow_at,r7']; rfl) Tryz.underlying72 rfl (by rw [Tryz.szBVault,sz0]) Tryz.underlying76 rfl (by rw [Tryz.szPool]; rfl)) rfl ?_
 exact ⟨rfl,(F3.out.setRow (fun h => by have := HG.out; omega) _).setRow (fun h => by have := HG.out; omega) _⟩
theorem bkPaid_ref {pv : Option Addr} {w : World} {x a : Nat} {u : Vlt} {E1 E : Int} (H1 : Calls Tryz.prog 111 #[.pointer pv,.int .u8 (x : Int),.int .u64 (a : Int)] w fun e w' => e = .returned (.tuple #[vBv v0,.agg #[.int .u64 0,.int .u64 0],.int .i64 E]) ∧ Fr F0 w w')  (hE : E ≠ 0) : Calls Tryz.prog 49 #[.pointer pv,.int .u8 (x : Int),.int .u64 (a : Int)] w fun e w' => e = .returned (.int .i64 E) ∧ Fr F0 w w' := by
 have sz0 := cB_size v0
 have oS0 := cB_one v0
 have q0 : (E != 0) = true := bne_iff_ne.2 hE
 simp only [vBv_is] at H1
 generalize cB v0 = C0 at *
 replace H1 := Lib.hid H1
 clear hE
 go_enter Tryz.func49,Tryz.ntmps49
 go_wp2_with fail
 (with_reducible refine H1.out.mono ?_); rintro e w1 ⟨rfl,f1⟩
 have F2 := Lib.hid f1
 clear f1 H1
 have tb := two_box w1
 have oP := pool_one 0 0
 go_upto_region 2 with fail
 refine wp_put2 fun W3 _ _ f3 => ?_
 have F3 := Lib.hid (F2.out.trans' f3)
 clear F2
 go_wp2_with fail
 go_ret
 exact ⟨rfl,F3.out⟩
theorem bkRemint_ref {pv : Option Addr} {w : World} {x v a : Nat} {u : Vlt} {E1 E : Int} (H1 : Calls Tryz.prog 111 #[.pointer pv,.int .u8 (x : Int),.int .u64 (a : Int)] w fun e w' => e = .returned (.tuple #[vBv v0,.agg #[.int .u64 0,.int .u64 0],.int .i64 E]) ∧ Fr F0 w w')  (hE : E ≠ 0) : Calls Tryz.prog 50 #[.pointer pv,.int .u8 (x : Int),.int .u8 (v : Int),.int .u64 (a : Int)] w fun e w' => e = .returned (.int .i64 E) ∧ Fr F0 w w' := by
 have sz0 := cB_size v0
 have oS0 := cB_one v0
 have q0 : (E != 0) = true := bne_iff_ne.2 hE
 simp only [vBv_is] at H1
 generalize cB v0 = C0 at *
 replace H1 := Lib.hid H1
 clear hE
 go_enter Tryz.func50,Tryz.ntmps50
 go_wp2_with fail
 (with_reducible refine H1.out.mono ?_); rintro e w1 ⟨rfl,f1⟩
 have F2 := Lib.hid f1
 clear f1 H1
 have tb := two_box w1
 have oP := pool_one 0 0
 go_upto_region 2 with fail
 refine wp_put2 fun W3 _ _ f3 => ?_
 have F3 := Lib.hid (F2.out.trans' f3)
 clear F2
 go_wp2_with fail
 go_ret
 exact ⟨rfl,F3.out⟩
end Go.Proofs.YtohckefafbhooaaGreat
namespace Go.Proofs.YtohckefafbhooaaGreat
set_option maxRecDepth 100000
set_option linter.unusedVariables false
set_option linter.unusedSimpArgs false
open Go.RowKit
theorem bkNow_nil (w : World) : Calls Tryz.prog 31 #[.pointer none] w fun e w' => e = .returned (.int .u64 0) ∧ w' = w := by
 go_enter Tryz.func31,Tryz.ntmps31
 go_wp2_with fail
 go_ret
 exact ⟨rfl,rfl⟩
theorem bkDeposits_nil (w : World) : Calls Tryz.prog 32 #[.pointer none] w fun e w' => e = .returned (.int .u64 0) ∧ w' = w := by
 go_enter Tryz.func32,Tryz.ntmps32
 go_wp2_with fail
 go_ret
 exact ⟨rfl,rfl⟩
theorem bkTokens_nil (w : World) : Calls Tryz.prog 35 #[.pointer none] w fun e w' => e = .returned (.pointer none) ∧ w' = w := by
 go_enter Tryz.func35,Tryz.ntmps35
 go_wp2_with fail
 go_ret
 exact ⟨rfl,rfl⟩
theorem bkPurse_nil (w : World) : Calls Tryz.prog 20 #[.pointer none] w fun e w' => e = .returned (.pointer none) ∧ w' = w := by
 go_enter Tryz.func20,Tryz.ntmps20
 go_wp2_with fail
 go_ret
 exact ⟨rfl,rfl⟩
theorem bkFeed_nil (w : World) : Calls Tryz.prog 17 #[.pointer none] w fun e w' => e = .returned (.pointer none) ∧ w' = w := by
 go_enter Tryz.func17,Tryz.ntmps17
 go_wp2_with fail
 go_ret
 exact ⟨rfl,rfl⟩
theorem bkCopy_nil (w : World) : Calls Tryz.prog 16 #[.pointer none] w fun e w' => e = .returned (.pointer none) ∧ w' = w := by
 go_enter Tryz.func16,Tryz.ntmps16
 go_wp2_with fail
 go_ret
 exact ⟨rfl,rfl⟩
theorem bkTick_nil (a : Nat) (w : World) : Calls Tryz.prog 43 #[.pointer none,.int .u64 (a : Int)] w fun e w' => e = .returned (.int .i64 1) ∧ w' = w := by
 go_enter Tryz.func43,Tryz.ntmps43
 go_wp2_with fail
 go_ret
 exact ⟨rfl,rfl⟩
theorem bkRegister_nil (x a : Nat) (X : Array Value) (w : World) : Calls Tryz.prog 22 #[.pointer none,.int .u8 (x : Int),.agg X,.int .u64 (a : Int)] w fun e w' => e = .returned (.int .i64 1) ∧ Fr F0 w w' := by
 go_enter Tryz.func22,Tryz.ntmps22
 go_wp2_with fail
 go_ret
 exact ⟨rfl,(Fr.refl F0 w).alloc _⟩
theorem bkDeposit_nil (x a : Nat) (w : World) : Calls Tryz.prog 56 #[.pointer none,.int .u8 (x : Int),.int .u64 (a : Int)] w fun e w' => e = .returned (.int .i64 1) ∧ w' = w := by
 go_enter Tryz.func56,Tryz.ntmps56
 go_wp2_with fail
 go_ret
 exact ⟨rfl,rfl⟩
theorem bkReturn_nil (x a : Nat) (w : World) : Calls Tryz.prog 57 #[.pointer none,.int .u8 (x : Int),.int .u64 (a : Int)] w fun e w' => e = .returned (.int .i64 1) ∧ w' = w := by
 go_enter Tryz.func57,Tryz.ntmps57
 go_wp2_with fail
 go_ret
 exact ⟨rfl,rfl⟩
theorem bkRedeem_nil (x a : Nat) (w : World) : Calls Tryz.prog 55 #[.pointer none,.int .u8 (x : Int),.int .u64 (a : Int)] w fun e w' => e = .returned (.tuple #[.int .u64 0,.int .i64 1]) ∧ w' = w := by
 go_enter Tryz.func55,Tryz.ntmps55
 go_wp2_with fail
 go_ret2
 exact ⟨rfl,rfl⟩
theorem bkPrice_nil (w : World) : Calls Tryz.prog 30 #[.pointer none] w fun e w' => e = .returned (.tuple #[.int .u64 0,.int .i64 1]) ∧ Fr F0 w w' := by
 have H1 := Lib.hid (bkFeed_nil w)
 have H2 := Lib.hid (bkNow_nil w)
 have H3 := Lib.hid (oPrice_nil 0 w)
 rw [show ((0 : Nat) : Int) = 0 from rfl] at H3
 go_enter Tryz.func30,Tryz.ntmps30
 go_wp2_with fail
 (with_reducible refine H1.out.mono ?_); rintro e w1 ⟨rfl,hw⟩; replace hw := hw.symm; subst hw
 go_wp2_with fail
 (with_reducible refine H2.out.mono ?_); rintro e w1 ⟨rfl,hw⟩; replace hw := hw.symm; subst hw
 go_wp2_with fail
 (with_reducible refine H3.out.mono ?_); rintro e w1 ⟨rfl,hw⟩; replace hw := hw.symm; subst hw
 go_wp2_with fail
 go_ret2
 exact ⟨rfl,Fr.refl _ _⟩
theorem bkVault_of {pv : Option Addr} {w : World} {x : Nat} {u : Vlt} {E : Int} {o : Bool} (ho : (E == 0) = o) (H : ∀ W,Fr F0 w W → Calls Tryz.prog 88 #[.pointer pv,.int .u8 (x : Int)] W fun e w' => e = .returned (.tuple #[vBv u,.int .i64 E]) ∧ Fr F0 W w') :
  Calls Tryz.prog 27 #[.pointer pv,.int .u8 (x : Int)] w fun e w' => e = .returned (.tuple #[vBv u,.bool o]) ∧ Fr F0 w w' := by
 have sz := cB_size u
 have oS := cB_one u
 simp only [vBv_is] at H ⊢
 generalize cB u = C at *
 replace H := Lib.hid H
 go_enter Tryz.func27,Tryz.ntmps27
 go_upto_region 1 with fail
 refine wp_new fun W1 N => ?_
 have r4 := N.new
 have F1 := Lib.hid N.fr
 clear N
 obtain ⟨g4,hg4⟩ : ∃ g,w.heap.size = g := ⟨_,rfl⟩
 rw [hg4] at r4 ⊢
 replace hg4 := Lib.hid hg4
 go_wp2_with fail
 (with_reducible refine (H.out _ F1.out).mono ?_); rintro e w2 ⟨rfl,f2⟩
 replace r4 := keep_fr f2 r4
 replace F1 := Lib.hid (F1.out.trans' f2)
 clear f2 H
 go_upto_region 2 with fail
 refine wp_put fun W3 N => ?_
 have r6 := N.new
 replace r4 := N.old r4
 have F3 := Lib.hid (F1.out.trans' N.fr)
 clear N F1
 go_wp2_with fail
 refine bodyPost_ret (results_cell_row_tmp rfl _ _ g4 _ _ _ _ rfl (by rw [heap_setRow_at,r4]; rfl) Tryz.underlying72 rfl (by rw [Tryz.szBVault,sz])) rfl ?_
 exact ⟨rfl,F3.out.setRow (fun h => by have := hg4.out; omega) _⟩
theorem bkVault_nil (x : Nat) (w : World) : Calls Tryz.prog 27 #[.pointer none,.int .u8 (x : Int)] w fun e w' => e = .returned (.tuple #[vBv v0,.bool false]) ∧ Fr F0 w w' := bkVault_of (E := 1) rfl fun W f => bkvault_nil x W
end Go.Proofs.YtohckefafbhooaaGreat
