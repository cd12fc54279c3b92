import Derived.Test.YtohckefafbhooaaGreatF1
import Derived.Test.YtohckefafbhooaaGreatF48
import Derived.Test.YtohckefafbhooaaGreatF49
import Derived.Test.YtohckefafbhooaaGreatF43
import Derived.Test.YtohckefafbhooaaGreatF9
set_option maxRecDepth 100000
set_option maxHeartbeats 64000000
namespace Go.Proofs.YtohckefafbhooaaGreat
set_option maxRecDepth 100000
set_option linter.unusedVariables false
set_option linter.unusedSimpArgs false
open Go.RowKit
attribute [-go_sem] cell_at
theorem kVault_there {S : Nat → Prop} {w : World} {p tp q fp vb : Nat} {M : Bok} (h : KP S w p tp q fp vb M) (hM : M.Ok) {k : Nat} {x : Vlt} (hx : M.vs[k]? = some x) : Calls Tryz.prog 27 #[.pointer (some ⟨p,0,none⟩),.int .u8 (x.who : Int)] w fun e w' => e = .returned (.tuple #[.agg (cB x),.bool true]) ∧ Fr F0 w w' := by
 have hw := (hM.vok x (memAt hx)).who
 have hg : gOf M.vs x.who = some x := by
  rw [gOf_at,atV_found (k := k) (fun i hi y hy => ?_) hx rfl,hx]
  have := List.pairwise_iff_getElem.1 hM.asc i k (List.getElem?_eq_some_iff.1 hy).1 (List.getElem?_eq_some_iff.1 hx).1 hi
  rw [(List.getElem?_eq_some_iff.1 hy).2,(List.getElem?_eq_some_iff.1 hx).2] at this
  omega
 refine bkVault_of (u := x) (E := 0) rfl fun W f => ?_
 have := kVault_any (h.fr0 f) hw
 rw [hg] at this
 exact this
end Go.Proofs.YtohckefafbhooaaGreat
namespace Go.Proofs.YtohckefafbhooaaGreat
set_option maxRecDepth 100000
set_option linter.unusedVariables false
set_option linter.unusedSimpArgs false
open Go.RowKit
attribute [-go_sem] cell_at
def IV (w2 : World) (p tp q fp vb : Nat) (M : Bok) (W : World) : Prop := ∃ T,KP T W p tp q fp vb M ∧ (∀ k,T k → w2.heap.size ≤ k) ∧ Fr F0 w2 W
section
variable {w2 W : World} {p tp q fp vb : Nat} {M M' : Bok} {f : FuncId} {args : Array Value} {v : Value}
theorem IV.fr (h : IV w2 p tp q fp vb M W) : Fr F0 w2 W := by
 obtain ⟨T,k,hB,F⟩ := h
 exact F
theorem IV.fr0 (h : IV w2 p tp q fp vb M W) {W' : World} (f : Fr F0 W W') : IV w2 p tp q fp vb M W' := by
 obtain ⟨T,k,hB,F⟩ := h
 exact ⟨T,k.fr0 f,hB,F.trans' f⟩
theorem IV.step (h : IV w2 p tp q fp vb M W) (H : ∀ T,KP T W p tp q fp vb M → Calls Tryz.prog f args W (EP T W p tp q fp vb M' v)) : Calls Tryz.prog f args W fun e w' => e = .returned v ∧ IV w2 p tp q fp vb M' w' := by
 obtain ⟨T,k,hB,F⟩ := h
 refine (H T k).mono ?_
 rintro e w' ⟨h1,U,k',hU,f⟩
 have hs := F.size
 refine ⟨h1,U,k',fun i hi => ?_,F.trans f fun i hi hT => absurd (hB i hT) (Nat.not_le.2 hi)⟩
 rcases hU i hi with e | e
 ·exact hB i e
 ·omega
theorem IV.read2 (h : IV w2 p tp q fp vb M W) (H : ∀ T,KP T W p tp q fp vb M → Calls Tryz.prog f args W fun e w' => e = .returned v ∧ Fr F0 W w') : Calls Tryz.prog f args W fun e w' => e = .returned v ∧ Fr F0 W w' := by
 obtain ⟨T,k,hB,F⟩ := h
 exact H T k
theorem IV.same (h : IV w2 p tp q fp vb M W) (H : ∀ T,KP T W p tp q fp vb M → Calls Tryz.prog f args W fun e w' => e = .returned v ∧ w' = W) : Calls Tryz.prog f args W fun e w' => e = .returned v ∧ w' = W := by
 obtain ⟨T,k,hB,F⟩ := h
 exact H T k
end
def flY (c i g : Nat) : Vlt := { flV c with coll := flK c i g,goi := g,fal := true }
theorem bookFalls_at (x0 x1 x2 : Nat) (h0 : x0 < 18446744073709551616) (h1 : x1 < 18446744073709551616) (h2 : x2 < 18446744073709551616) (w : World) :
  Calls Tryz.prog 5 #[.int .u64 (x0 : Int),.int .u64 (x1 : Int),.int .u64 (x2 : Int)] w fun e w' => e = .returned (.bool true) ∧ Fr F0 w w' := by
 have HL := Lib.hid lives20_any
 have HU := Lib.hid usual20_any
 have HN := Lib.hid bkNew_us
 go_enter Tryz.func5,Tryz.ntmps5
 go_wp2_with fail
 (with_reducible refine (HL.out _).mono ?_); rintro e w1 ⟨rfl,f1⟩
 have F1 := Lib.hid f1
 clear f1
 go_wp2_with fail
 rw [show (x0 : Int) % 1152921504606846976 = ((x0 % 1152921504606846976 : Nat) : Int) by omega,show 1 + (x1 : Int) % 1073741824 = ((1 + x1 % 1073741824 : Nat) : Int) by omega,show 1 + (x2 : Int) % 1073741824 = ((1 + x2 % 1073741824 : Nat) : Int) by omega]
 have hb1 : x0 % 1152921504606846976 < 1152921504606846976 := Nat.mod_lt _ (by decide)
 have hb2 : 1 + x1 % 1073741824 ≤ 1073741824 := by have := Nat.mod_lt x1 (show 0 < 1073741824 by decide); omega
 have hb3 : 1 + x2 % 1073741824 ≤ 1073741824 := by have := Nat.mod_lt x2 (show 0 < 1073741824 by decide); omega
 have hb4 : 1 ≤ 1 + x1 % 1073741824 := by omega
 have hb5 : 1 ≤ 1 + x2 % 1073741824 := by omega
 obtain ⟨c0,hc0⟩ : ∃ z,x0 % 1152921504606846976 = z := ⟨_,rfl⟩
 obtain ⟨i,hi⟩ : ∃ z,1 + x1 % 1073741824 = z := ⟨_,rfl⟩
 obtain ⟨g,hg⟩ : ∃ z,1 + x2 % 1073741824 = z := ⟨_,rfl⟩
 rw [hc0] at hb1 ⊢
 rw [hi] at hb2 hb4 ⊢
 rw [hg] at hb3 hb5 ⊢
 obtain ⟨N,hN⟩ : ∃ z,vlV (rdQ ((i + g) * (1 * 2000)) 100000000000 true) = z := ⟨_,rfl⟩
 obtain ⟨c,hc⟩ : ∃ z,max c0 N = z := ⟨_,rfl⟩
 have hN2 := fl_small (i + g) (by omega)
 have hcl : c ≤ 4611686018427387904 := by omega
 have he : (i + g) * 2000 ≤ c * 100000000000 := fl_need (by omega) (by omega)
 have HB := Lib.hid (And.intro hcl (And.intro he (And.intro hb2 (And.intro hb3 (And.intro hb4 (And.intro hb5 (show i + g ≤ 4611686018427387904 by omega)))))))
 have kig : IntKind.u64.wrap ((i : Int) + (g : Int)) = ((i + g : Nat) : Int) := by rw [IntWalk.u64_in _ (by omega)]; omega
 have HE := Lib.hid (fun W => eNeeds_yes (i + g) 1 2000 (by omega) (by decide) (by decide) W)
 rw [hN,show ((1 : Nat) : Int) = 1 from rfl,show ((2000 : Nat) : Int) = 2000 from rfl] at HE
 obtain ⟨s,hs⟩ : ∃ z,i + g = z := ⟨_,rfl⟩
 rw [hs] at HE kig
 have HS := Lib.hid hs
 have hmx := fun ts t W => run_omax ts t c0 N c hc W
 have hbA := built_A1
 obtain ⟨X,hX⟩ : ∃ X,X = (A1.map B8).toArray := ⟨_,rfl⟩
 rw [← hX] at hbA
 have HX := Lib.hid hX
 obtain ⟨sz,oS,c00,-⟩ := usF
 have c00 := Lib.hid c00
 generalize usC = C at *
 clear hb1 hb2 hb3 hb4 hb5 hc0 hi hg hN hc hN2 hcl he hs hX h0 h1 h2
 (with_reducible refine (HU.out _).mono ?_); rintro e w2 ⟨rfl,f2⟩
 replace F1 := Lib.hid (F1.out.trans' f2)
 clear f2 HU
 go_upto_region 5 with fail
 refine wp_put fun W3 NW => ?_
 have r7 := NW.new
 replace F1 := Lib.hid (F1.out.trans' NW.fr)
 obtain ⟨b7,hb7⟩ : ∃ z,w2.heap.size = z := ⟨_,rfl⟩
 rw [hb7] at r7 ⊢
 clear NW hb7
 go_wp2_with fail
 (with_reducible refine (HN.out _).mono ?_); rintro e w4 ⟨p,tp,q,fp,vb,S,rfl,k2,hS,f4⟩
 have R7 := Lib.hid r7
 have I0 : RowKit.Hid (IV W3 p tp q fp vb bok0 w4) := Lib.hid ⟨S,k2,fun k hk => (hS k hk).1,f4⟩
 clear r7 sz oS f4 k2 hS HN
 have HFd := Lib.hid (I0.out.same fun T k => kFeedP k)
 have HSt := Lib.hid (IV.step (M' := fl1) (v := .int .i64 0) I0.out fun T k => by
  have := kSet_any k 1 0
  rw [if_pos (by decide),show seE 100 bok0.price bok0.told 1 0 = 0 by decide] at this
  exact this)
 rw [show ((1 : Nat) : Int) = 1 from rfl,show ((0 : Nat) : Int) = 0 from rfl] at HSt
 go_wp2_with fail
 (with_reducible refine HFd.out.mono ?_); rintro e w5 ⟨rfl,hw⟩; replace hw := hw.symm; subst hw
 go_wp2_with fail
 (with_reducible refine HSt.out.mono ?_); rintro e w5 ⟨rfl,h5⟩
 have I1 := Lib.hid h5
 clear h5 I0 HFd HSt
 have cz : w5.cell? ⟨b7,0,none⟩ = some (.int .u64 2000) := by rw [cell_at,keep_fr I1.out.fr R7.out,cellAt_cells]; exact c00.out
 go_wp2_with fail
 (with_reducible refine (HE.out _).mono ?_); rintro e w6 ⟨rfl,f6⟩
 replace I1 := Lib.hid (I1.out.fr0 f6)
 clear f6 cz HE
 have HPu := Lib.hid (I1.out.same fun T k => kPurseP k)
 have HIn := Lib.hid (IV.step (M' := fl2 c) (v := .int .i64 0) I1.out fun T k => by
  have := kIn_any k fl1_ok (x := 1) (a := c) (by decide) (by have := HB.out.1; omega)
  rw [fl2_is HB.out.1] at this
  exact this)
 rw [show ((1 : Nat) : Int) = 1 from rfl] at HIn
 go_wp2_with fail
 (with_reducible refine HPu.out.mono ?_); rintro e w7 ⟨rfl,hw⟩; replace hw := hw.symm; subst hw
 go_wp2_with fail
 (with_reducible refine HIn.out.mono ?_); rintro e w7 ⟨rfl,h7⟩
 have I2 := Lib.hid h7
 clear h7 I1 HPu HIn
 have HRe := Lib.hid (IV.step (M' := fl3 c) (v := .int .i64 0) I2.out fun T k => by
  have := bkRegister_any (M := fl2 c) (x := 1) (a := c) (A := A1) k (fl2_ok HB.out.1) (by decide) (by have := HB.out.1; omega) A1_len
  rw [fl3_is HB.out.1] at this
  exact this)
 unfold argsR at HRe
 rw [show ((1 : Nat) : Int) = 1 from rfl,← HX.out] at HRe
 go_wp2_with fail
 (with_reducible refine HRe.out.mono ?_); rintro e w8 ⟨rfl,h8⟩
 have I3 := Lib.hid h8
 clear h8 I2 HRe hbA
 have HRs := Lib.hid (IV.step (M' := fl4 c (i + g)) (v := .int .i64 0) I3.out fun T k => by
  have := bkReserve_any (M := fl3 c) (x := 1) (a := i + g) k (fl3_ok HB.out.1) (by decide) (by have := HB.out.2.2.2.2.2.2; omega)
  rw [fl4_is HB.out.1 (by have := HB.out.2.2.2.2.1; omega) HB.out.2.2.2.2.2.2 HB.out.2.1] at this
  exact this)
 rw [show ((1 : Nat) : Int) = 1 from rfl,HS.out] at HRs
 go_wp2_with fail
 (with_reducible refine HRs.out.mono ?_); rintro e w9 ⟨rfl,h9⟩
 rw [← HS.out] at h9
 have I4 := Lib.hid h9
 clear h9 I3 HRs
 have HMi := Lib.hid (IV.step (M' := fl5 c (i + g)) (v := .int .i64 0) I4.out fun T k => by
  have := bkMint_any (M := fl4 c (i + g)) (x := 1) (v := 2) (a := i + g) k (fl4_ok HB.out.1 (by have := HB.out.2.2.2.2.1; omega) HB.out.2.2.2.2.2.2 HB.out.2.1) (by decide) (by decide) (by have := HB.out.2.2.2.2.2.2; omega)
  rw [fl5_is (by have := HB.out.2.2.2.2.1; omega) HB.out.2.2.2.2.2.2] at this
  exact this)
 unfold V4 at HMi
 rw [show ((1 : Nat) : Int) = 1 from rfl,show ((2 : Nat) : Int) = 2 from rfl,HS.out] at HMi
 go_wp2_with fail
 (with_reducible refine HMi.out.mono ?_); rintro e w10 ⟨rfl,h10⟩
 rw [← HS.out] at h10
 have I5 := Lib.hid h10
 clear h10 I4 HMi
 have HBu := Lib.hid (IV.step (M' := fl6 c i g) (v := .int .i64 0) I5.out fun T k => by
  have := bkBurn_any (M := fl5 c (i + g)) (x := 1) (v := 2) (a := g) k (fl5_ok HB.out.1 (by have := HB.out.2.2.2.2.1; omega) HB.out.2.2.2.2.2.2 HB.out.2.1) (by decide) (by decide) (by have := HB.out.2.2.2.1; omega)
  rw [fl6_is HB.out.2.2.2.2.2.1 HB.out.2.2.2.2.2.2] at this
  exact this)
 unfold V4 at HBu
 rw [show ((1 : Nat) : Int) = 1 from rfl,show ((2 : Nat) : Int) = 2 from rfl] at HBu
 go_wp2_with fail
 (with_reducible refine HBu.out.mono ?_); rintro e w11 ⟨rfl,h11⟩
 have I6 := Lib.hid h11
 clear h11 I5 HBu
 have HFa := Lib.hid (IV.step (M' := fl7 c i g) (v := .int .i64 0) I6.out fun T k => by
  have := bkFall_any (M := fl6 c i g) (x := 1) k (fl6_ok HB.out.1 HB.out.2.2.2.2.2.1 HB.out.2.2.2.2.2.2 HB.out.2.1) (by decide)
  rw [fl7_is HB.out.2.2.2.2.2.1] at this
  exact this)
 rw [show ((1 : Nat) : Int) = 1 from rfl] at HFa
 go_wp2_with fail
 (with_reducible refine HFa.out.mono ?_); rintro e w12 ⟨rfl,h12⟩
 have I7 := Lib.hid h12
 clear h12 I6 HFa
 have HM := Lib.hid (fl7_ok (c := c) (i := i) (g := g) HB.out.1 HB.out.2.2.2.2.2.1 HB.out.2.2.2.2.2.2 HB.out.2.1)
 have HVa := Lib.hid (I7.out.read2 fun T k => kVault_there k HM.out (k := 0) (x := flY c i g) rfl)
 rw [show (((flY c i g).who : Nat) : Int) = 1 from rfl] at HVa
 obtain ⟨K,hK⟩ : ∃ z,flK c i g = z := ⟨_,rfl⟩
 have hKl : K ≤ c := by rw [← hK]; exact flK_le (by have := HB.out.2.2.2.2.1; omega)
 have hsh := fl_share (c := c) (i := i) (g := g) HB.out.1 HB.out.2.2.2.2.2.1
 rw [hK,HS.out] at hsh
 obtain ⟨y,hy⟩ : ∃ y,flY c i g = y := ⟨_,rfl⟩
 have HY := Lib.hid (show y.coll = K ∧ y.iss = 0 ∧ y.goi = g ∧ y.fal = true by rw [← hy]; exact ⟨hK,rfl,rfl,rfl⟩)
 rw [hy] at HVa
 have HKK := Lib.hid (And.intro hK (And.intro hKl hsh))
 have sz := cB_size y
 have oS := cB_one y
 clear hK hKl hsh hy
 go_wp2_with fail
 (with_reducible refine HVa.out.mono ?_); rintro e w13 ⟨rfl,f13⟩
 replace I7 := Lib.hid (I7.out.fr0 f13)
 clear f13 HVa
 go_upto_region 12 with fail
 refine wp_put fun W8 N8 => ?_
 have hV : VX W8 w13.heap.size y := N8.new
 replace I7 := Lib.hid (I7.out.fr0 N8.fr)
 obtain ⟨b12,hb12⟩ : ∃ z,w13.heap.size = z := ⟨_,rfl⟩
 rw [hb12] at hV ⊢
 replace hV := Lib.hid hV
 have HPo := Lib.hid (I7.out.read2 fun T k => bkPool_any k)
 rw [show ((fl7 c i g).pc : Int) = ((c - flK c i g : Nat) : Int) from rfl,show ((fl7 c i g).pn : Int) = (i : Int) from rfl,HKK.out.1] at HPo
 clear N8 hb12 sz oS
 go_wp2_with fail
 (with_reducible refine HPo.out.mono ?_); rintro e w14 ⟨rfl,f14⟩
 replace I7 := Lib.hid (I7.out.fr0 f14)
 replace hV := Lib.hid (VX.fr hV.out f14 fun x => x)
 obtain ⟨pc,hpc⟩ : ∃ z,c - K = z := ⟨_,rfl⟩
 rw [hpc]
 replace hpc := Lib.hid hpc
 have oS := pool_one pc i
 clear f14 HPo
 go_upto_region 13 with fail
 refine wp_put fun W9 N9 => ?_
 have r14 := N9.new
 replace I7 := Lib.hid (I7.out.fr0 N9.fr)
 replace hV := Lib.hid (VX.fr hV.out N9.fr fun x => x)
 obtain ⟨b14,hb14⟩ : ∃ z,w14.heap.size = z := ⟨_,rfl⟩
 rw [hb14] at r14 ⊢
 replace r14 := Lib.hid r14
 have c21 := hV.out.coll
 rw [HY.out.1] at c21
 have HPa := Lib.hid (fun W => part_is K s g false (by have := HKK.out.2.1; have := HB.out.1; omega) (by have := HS.out; have := HB.out.2.2.2.2.2.2; omega) (by have := HB.out.2.2.2.1; omega) HB.out.2.2.2.2.2.1 W)
 clear N9 hb14 oS
 go_wp2_with fail
 (with_reducible refine (HPa.out _).mono ?_); rintro e w15 ⟨rfl,f15⟩
 replace I7 := Lib.hid (I7.out.fr0 f15)
 have hV' := VX.fr hV.out f15 fun x => x
 have r14' := f15.keeps (fun x => x) r14.out
 have d21 := hV'.coll
 have d22 := hV'.iss
 have d24 := hV'.goi
 have d26 := hV'.fal
 rw [HY.out.1] at d21
 rw [HY.out.2.1] at d22
 rw [HY.out.2.2.1] at d24
 rw [HY.out.2.2.2] at d26
 have p0 : w15.cell? ⟨b14,0,none⟩ = some (.int .u64 (pc : Int)) := by rw [cell_at,r14',cellAt_cells]; rfl
 have p1 : w15.cell? ⟨b14,1,none⟩ = some (.int .u64 (i : Int)) := by rw [cell_at,r14',cellAt_cells]; rfl
 have kc : IntKind.u64.wrap ((pc : Int) + (K : Int)) = (c : Int) := by
  have := hpc.out
  have := HKK.out.2.1
  have := HB.out.1
  rw [IntWalk.u64_in _ (by omega)]; omega
 have HF2 := Lib.hid (IV.step (M' := fl7 c i g) (v := .int .i64 20) I7.out fun T k => by
  have := bkFall_any (M := fl7 c i g) (x := 1) k HM.out (by decide)
  rw [fl8_is] at this
  exact this)
 rw [show ((1 : Nat) : Int) = 1 from rfl] at HF2
 have HW := Lib.hid (show ∀ W,Fr F0 W3 W → Fr F0 w W from fun W f => F1.out.trans' f)
 have hsh := HKK.out.2.2
 obtain ⟨vE,hvE⟩ : ∃ z,vlE (rdQ (K * s) g false) = z := ⟨_,rfl⟩
 obtain ⟨vV,hvV⟩ : ∃ z,vlV (rdQ (K * s) g false) = z := ⟨_,rfl⟩
 rw [hvE,hvV] at hsh
 rw [hvE,hvV]
 clear hvE hvV hV' r14' f15 c21 HPa hV r14
 rcases hsh with rfl | ⟨rfl,hle⟩
 ·go_wp2_with fail
  (with_reducible refine HF2.out.mono ?_); rintro e w16 ⟨rfl,h16⟩
  replace I7 := Lib.hid h16
  have HSu := Lib.hid (I7.out.read2 fun T k => sums20_any k HM.out)
  clear h16 HF2
  go_wp2_with fail
  (with_reducible refine HSu.out.mono ?_); rintro e w17 ⟨rfl,f17⟩
  have HZ := Lib.hid (HW.out _ (I7.out.fr0 f17).fr)
  clear f17
  go_wp2_with fail
  go_ret
  exact ⟨rfl,HZ.out⟩
 ·have hle' : (c : Int) ≤ (vV : Int) := by omega
  go_wp2_with fail
  (with_reducible refine HF2.out.mono ?_); rintro e w16 ⟨rfl,h16⟩
  replace I7 := Lib.hid h16
  have HSu := Lib.hid (I7.out.read2 fun T k => sums20_any k HM.out)
  clear h16 HF2
  go_wp2_with fail
  (with_reducible refine HSu.out.mono ?_); rintro e w17 ⟨rfl,f17⟩
  have HZ := Lib.hid (HW.out _ (I7.out.fr0 f17).fr)
  clear f17
  go_wp2_with fail
  go_ret
  exact ⟨rfl,HZ.out⟩
end Go.Proofs.YtohckefafbhooaaGreat
