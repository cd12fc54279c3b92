import Derived.Test.YtohckefafbhooaaGreatR1
import Derived.Test.YtohckefafbhooaaGreatR48
import Derived.Test.YtohckefafbhooaaGreatR49
set_option maxRecDepth 100000
set_option maxHeartbeats 64000000
namespace Go.Proofs.YtohckefafbhooaaGreat
set_option linter.unusedVariables false
set_option linter.unusedSimpArgs false
open Go.RowKit
attribute [-go_sem] gq
theorem an0 {S : Nat → Prop} {w : World} {p tp q fp vb : Nat} {M : Bok} (h : KP S w p tp q fp vb M) (hM : M.Ok) {k : Nat} {x : Vlt} (hx : M.vs[k]? = some x) : Calls Tryz.prog 27 #[.pointer (some ⟨p,0,none⟩),.int .u8 (x.who : Int)] w fun e w' => e = .returned (.tuple #[.agg (cB x),.bool true]) ∧ Fr F0 w w' := by
 have hw := (hM.vok x (jh hx)).who
 have hg : gOf M.vs x.who = some x := by
  rw [avl,aml (k := k) (fun i hi y hy => ?_) hx rfl,hx]
  have := List.pairwise_iff_getElem.1 hM.asc i k (List.getElem?_eq_some_iff.1 hy).1 (List.getElem?_eq_some_iff.1 hx).1 hi
  rw [(List.getElem?_eq_some_iff.1 hy).2,(List.getElem?_eq_some_iff.1 hx).2] at this
  omega
 refine atv (u := x) (E := 0) rfl fun W f => ?_
 have := afg (h.fr0 f) hw
 rw [hg] at this
 exact this
theorem aA2 {S : Nat → Prop} {w : World} {p tp q fp vb m B : Nat} {M : Bok} {sv : Value} (h : KP S w p tp q fp vb M) (hM : M.Ok) (hd : RB B w m usR M sv) :
  Calls Tryz.prog 15 #[.pointer (some ⟨p,0,none⟩),.pointer (some ⟨m,0,none⟩)] w fun e w' => e = .returned (.bool true) ∧ Fr F0 w w' := by
 obtain ⟨av,cv,rfl,-⟩ := hd.vs.is
 have H := Lib.hid (fun (W : World) (F : Fr F0 w W) => h.fr0 F)
 have HD := Lib.hid (fun (W : World) (F : Fr F0 w W) => hd.fr0 F)
 have HX := Lib.hid (fun (W : World) (F : Fr F0 w W) => And.intro (hd.fr0 F).nine F)
 have HM := Lib.hid hM
 have HT := Lib.hid (fun (W : World) (F : Fr F0 w W) => ai8 (h.fr0 F) hM)
 have HR := Lib.hid (fun (W : World) (F : Fr F0 w W) => ad6 (hd.fr0 F) hM.most)
 have HA := Lib.hid (fun (W : World) (F : Fr F0 w W) => ahf (hd.fr0 F) hM.now)
 rw [show usR 4 = 50 from rfl] at HA
 obtain ⟨tt,htt⟩ : ∃ z,uy M.tok 256 = z := ⟨_,rfl⟩
 rw [htt] at HT HR
 obtain ⟨n,hn⟩ : ∃ n,M.vs.length = n := ⟨_,rfl⟩
 have HN := Lib.hid hn
 rw [hn] at HD
 clear h hM hd htt hn
 go_enter Tryz.func15,Tryz.ntmps15
 go_wp2_with fail
 (with_reducible refine (ad1 (H.out w (Fr.refl _ _))).mono ?_); rintro e w1 ⟨rfl,hw⟩; replace hw := hw.symm; subst hw
 go_wp2_with fail
 (with_reducible refine (axw (H.out w (Fr.refl _ _))).mono ?_); rintro e w1 ⟨rfl,f1⟩
 have F1 := Lib.hid f1
 clear f1
 go_wp2_with fail
 (with_reducible refine (avk (H.out w1 F1.out)).mono ?_); rintro e w2 ⟨rfl,hw⟩; replace hw := hw.symm; subst hw
 go_wp2_with fail
 (with_reducible refine (axy (H.out w1 F1.out)).mono ?_); rintro e w2 ⟨rfl,f1⟩
 replace F1 := Lib.hid (F1.out.trans' f1)
 clear f1
 go_upto_region 3 with fail
 refine sp3 (p := p) (tp := tp) (q := q) (fp := fp) (vb := vb) H HX HT HR F1.out (Lib.hid ?_)
 rename_i w3
 rintro ⟨rfl,f3⟩
 replace F1 := Lib.hid f3
 clear f3
 go_wp2_with fail
 go_loopw [120] (fun iv wr => ∃ k : Nat,k ≤ 256 ∧ iv = .int .i64 (k : Int) ∧ Fr F0 w wr) (fun iv _ => 256 - (intOf iv).toNat)
 case atStart => exact ⟨0,by omega,rfl,F1.out⟩
 case round =>
  obtain ⟨k,hk,rfl,f⟩ := hrel
  by_cases h1 : k < 256
  ·have l1 : (k : Int) < 256 := by omega
   have m0 : IntKind.u8.wrap (k : Int) = (k : Int) := IntWalk.u8_in _ (by omega)
   have k1 : IntKind.i64.wrap ((k : Int) + 1) = ((k + 1 : Nat) : Int) := by rw [IntWalk.i64_in _ (by omega)]; omega
   have HF := Lib.hid f
   have HK := Lib.hid h1
   have HY := Lib.hid (fun (W : World) (F : Fr F0 w W) => And.intro (And.intro ((HD.out W F).tok h1) ((HD.out W F).free h1)) F)
   clear f h1 hk
   go_upto_region 8 with fail
   have Fz := Lib.hid (HY.out _ HF.out.drew)
   refine zn (S := (fun w' => (w'.cell? ⟨m,14 + k,none⟩ = some (.int .u64 (M.tok k : Nat)) ∧ w'.cell? ⟨m,270 + k,none⟩ = some (.int .u64 (M.free k : Nat))) ∧ Fr F0 w w')) ?_ fun aj => ?_
   ·exact(by ((try dsimp only) <;> (exact Fz.out)))
   refine au 0 ?_
   refine au 2 ?_
   refine au 3 ?_
   refine au 5 ?_
   refine au 6 ?_
   refine au 7 ?_
   refine au 8 ?_
   refine au 9 ?_
   refine au 10 ?_
   refine zi 1 fun K hK => ?_
   go_simp
   ((with_reducible refine (agc (H.out _ aj.2)).mono ?_); rintro e w7 ⟨rfl,hw⟩; replace hw := hw.symm; subst hw)
   refine rpu hK (by ((try dsimp only) <;> (first | exact aj | exact HY.out _ (aj.2.trans' f5)))) fun aj => ?_
   clear hK K
   refine zi 4 fun K hK => ?_
   go_simp
   ((with_reducible refine (adf (H.out _ aj.2) HK.out).mono ?_); rintro e w7 ⟨rfl,hw⟩; replace hw := hw.symm; subst hw)
   refine rpu hK (by ((try dsimp only) <;> (first | exact aj | exact HY.out _ (aj.2.trans' f5)))) fun aj => ?_
   clear hK K
   refine au 11 ?_
   refine au 12 ?_
   refine au 13 ?_
   refine au 15 ?_
   refine au 16 ?_
   refine au 18 ?_
   refine au 19 ?_
   refine au 20 ?_
   refine au 21 ?_
   refine au 22 ?_
   refine au 23 ?_
   refine zi 14 fun K hK => ?_
   go_simp
   ((with_reducible refine (ad1 (H.out _ aj.2)).mono ?_); rintro e w7 ⟨rfl,hw⟩; replace hw := hw.symm; subst hw)
   refine rpu hK (by ((try dsimp only) <;> (first | exact aj | exact HY.out _ (aj.2.trans' f5)))) fun aj => ?_
   clear hK K
   refine zi 17 fun K hK => ?_
   go_simp
   ((with_reducible refine (afh (H.out _ aj.2) HK.out).mono ?_); rintro e w7 ⟨rfl,hw⟩; replace hw := hw.symm; subst hw)
   refine rpu hK (by ((try dsimp only) <;> (first | exact aj | exact HY.out _ (aj.2.trans' f5)))) fun aj => ?_
   clear hK K
   refine au 24 ?_
   refine au 25 ?_
   refine aap ?_
   all_goals
    go_wp2_with fail
    go_roundw
    case rel => exact ⟨k + 1,HK.out,rfl,aj.2⟩
    case measure => have := HK.out; simp [intOf]; omega
  ·obtain rfl : k = 256 := by omega
   replace F1 := Lib.hid f
   clear f hk h1
   go_wp2_with fail
   (with_reducible refine (ahj (H.out _ F1.out) HM.out).mono ?_); rintro e w4 ⟨gb,v,rfl,hbx,f4⟩
   replace F1 := Lib.hid (F1.out.trans' f4)
   replace hbx := Lib.hid hbx
   clear f4
   go_wp2_with fail
   (with_reducible refine (ajl hbx.out (by have := HM.out.len; omega)).mono ?_); rintro e w5 ⟨a,c,rfl,ho,f5⟩
   have F := Lib.hid (F1.out.trans' f5)
   rw [HN.out] at ho ⊢
   have HV := Lib.hid ho
   clear f5 ho F1 hbx
   have c31 := (HD.out _ F.out).svc
   go_wp2_with fail
   clear c31
   go_loopw [163] (fun iv wr => ∃ k : Nat,k ≤ n ∧ iv = .int .i64 (k : Int) ∧ Fr F0 w5 wr) (fun iv _ => n - (intOf iv).toNat)
   case atStart => exact ⟨0,by omega,rfl,Fr.refl _ _⟩
   case round =>
    obtain ⟨k,hk,rfl,f⟩ := hrel
    by_cases h1 : k < n
    ·have l1 : (k : Int) < (n : Int) := by omega
     obtain ⟨g,rfl⟩ := uj.agk HV.out h1
     obtain ⟨gm,rfl⟩ := uj.agk (HD.out _ F.out).vs h1
     have hr := List.getElem?_eq_getElem (show k < M.vs.length by have := HN.out; omega)
     obtain ⟨x,hx⟩ : ∃ x,M.vs[k]'(by have := HN.out; omega) = x := ⟨_,rfl⟩
     rw [hx] at hr
     have lds := uj.ar5 zh Tryz.underlying72 rfl Tryz.szBVault (HV.out.fr0 f) k x hr
     have oS : yg (ad9 x).toArray := ru x
     have sz := zh x
     have k1 : IntKind.i64.wrap ((k : Int) + 1) = ((k + 1 : Nat) : Int) := by rw [IntWalk.i64_in _ (by have := HM.out.len; have := HN.out; omega)]; omega
     have hxw := (HM.out.vok x (jh hr)).who
     have m0 : IntKind.u8.wrap (x.who : Int) = (x.who : Int) := IntWalk.u8_in _ (by omega)
     have HR5 := Lib.hid (And.intro hr (And.intro h1 (HM.out.vok x (jh hr))))
     have HF := Lib.hid (And.intro (F.out.trans' f) f)
     clear hr hx f h1 hk hxw
     go_upto_region 17 with fail
     refine jc fun W3 N => ?_
     have v13 : VX W3 wr.heap.size x := N.new
     have F3 := HF.out.1.trans' N.fr
     have c31 := (HD.out _ F3).svc
     have lds2 := uj.ar5 qo Tryz.underlying111 rfl Tryz.szRVault (HD.out _ F3).vs k x HR5.out.1
     replace oS : yg (aao x).toArray := af9 x
     replace sz := qo x
     have G3 := Lib.hid (And.intro F3 (And.intro v13 (HF.out.2.trans' N.fr)))
     obtain ⟨b,hb⟩ : ∃ g,wr.heap.size = g := ⟨_,rfl⟩
     rw [hb] at G3 ⊢
     clear N lds v13 F3 hb
     go_upto_region 18 with fail
     refine jc fun W4 N => ?_
     have v14 : VY W4 W3.heap.size x := N.new
     have c0 := v14.cell0
     have F4 := G3.out.1.trans' N.fr
     have HVb := Lib.hid (fun (W : World) (F : Fr F0 w W) => an0 (H.out _ F) HM.out HR5.out.1)
     have G4 := Lib.hid (And.intro F4 (And.intro (VX.fr G3.out.2.1 N.fr fun x => x) (And.intro v14 (G3.out.2.2.trans' N.fr))))
     obtain ⟨c4,hc4⟩ : ∃ g,W3.heap.size = g := ⟨_,rfl⟩
     rw [hc4] at G4 c0 ⊢
     replace oS := ru x
     replace sz := lu x
     clear N lds2 v14 F4 hc4 c31 G3
     go_wp2_with fail
     (with_reducible refine (HVb.out _ G4.out.1).mono ?_); rintro e w6 ⟨rfl,f6⟩
     have G6 := Lib.hid (And.intro (G4.out.1.trans' f6) (And.intro (VX.fr G4.out.2.1 f6 fun x => x) (And.intro (f6.keeps (fun x => x) G4.out.2.2.1) (G4.out.2.2.2.trans' f6))))
     clear f6 c0 G4
     go_upto_region 19 with fail
     refine jc fun W5 N => ?_
     have v15 : VX W5 w6.heap.size x := N.new
     have G7 := Lib.hid (And.intro (G6.out.1.trans' N.fr) (And.intro (VX.fr G6.out.2.1 N.fr fun x => x) (And.intro (N.fr.keeps (fun x => x) G6.out.2.2.1) (And.intro (G6.out.2.2.2.trans' N.fr) v15))))
     obtain ⟨c5,hc5⟩ : ∃ g,w6.heap.size = g := ⟨_,rfl⟩
     rw [hc5] at G7 ⊢
     clear N v15 hc5 G6 oS sz
     have hv := HR5.out.2.2
     refine sp19 (b := b) (c := c4) (d := c5) (x := x) (Lib.hid fun W F => ⟨vrows (VX.fr G7.out.2.1 F fun x => x) (F.keeps (fun x => x) G7.out.2.2.1) (VX.fr G7.out.2.2.2.2 F fun x => x) hv.addr,F⟩) hv.bur hv.who hv.addr (Lib.hid ?_)
     rename_i w7
     rintro ⟨rfl,f7⟩
     replace f7 := Lib.hid (G7.out.2.2.2.1.trans' f7)
     clear hv G7
     go_wp2_with fail
     go_roundw
     case rel => exact ⟨k + 1,HR5.out.2.1,rfl,f7.out⟩
     case measure => have := HR5.out.2.1; simp [intOf]; omega
    ·obtain rfl : k = n := by omega
     have l1 : ¬ (k : Int) < (k : Int) := by omega
     have F1 := Lib.hid (F.out.trans' f)
     clear f hk h1 HV F
     go_wp2_with fail
     (with_reducible refine (zu (H.out _ F1.out) (by have := HM.out.now; omega)).mono ?_); rintro e w8 ⟨rfl,f8⟩
     replace F1 := Lib.hid (F1.out.trans' f8)
     clear f8
     go_wp2_with fail
     (with_reducible refine (HA.out _ F1.out).mono ?_); rintro e w9 ⟨rfl,f9⟩
     replace F1 := Lib.hid (F1.out.trans' f9)
     clear f9
     go_wp2_with fail
     go_ret
     exact ⟨rfl,F1.out⟩
end Go.Proofs.YtohckefafbhooaaGreat
