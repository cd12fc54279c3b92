/- Layer 8 (lock): the law LockParses, walked. -/
import Derived.Test.YtigjoepoaahidaaRt
import Derived.Test.YtigjoepoaahidaaLkc
namespace Go.Proofs.Ytigjoepoaahidaa
set_option linter.unusedVariables false
set_option linter.unusedSimpArgs false
open Go.RowKit

set_option maxRecDepth 100000 in
set_option maxHeartbeats 16000000 in
theorem lp5 {s1 s2 s3 s6 s7 s8 s9 s10 s11 s12 s13 s14 s15 s16 s17 s18 s19 s20 s21 s22 s23 s24 s25 s26 s27 s28 s29 s30 s31 s32 s33 s34 s35 s36 s37 s38 s39 s40 s41 s42 s43 s44 s45 s46 s47 s48 s49 s50 s51 s52 s53 s54 s55 s56 s57 s58 s59 s60 s61 s62 s63 s64 s65 s66 s67 s68 s69 s70 s71 s72 s73 s74 s75 s76 s77 s78 s79 s80 s81 s82 s83 s84 s85 s86 s87 s88 s89 s90 s91 s92 s93 s94 s95 s96 s97 s98 s99 s100 s101 s102 s103 s104 s105 s106 s107 s108 s109 s110 s111 s112 s113 s114 s115 s116 s117 s118 s119 s120 s121 s122 s123 s124 s125 s126 s127 s128 s129 s130 s131 s132 s133 s134 s135 s136 s137 s138 s139 s140 s141 s142 : Value} {K : Act → World → Prop} {Q : Exit → Act → World → Prop} (w : World) (bs : List UInt8) (p : Option Addr) (n c : Nat) (hn : n = bs.length) (hb : Bs w p c bs) (g : Nat) (r : w.heap[g]? = some (.cells ((opA bs).map B8).toArray 23 (0, 0))) (o : Bool) (ho : o = opO bs)
    (hK : RowKit.Hid (∀ {u21 u22 u23 u24 u25 u26 u27 u28 u29 u30 u31 u32 u33 u34 u35 u36 u37 u38 u39 u40 u41 u42 u43 u44 u45 u46 u47 u48 u49 u50 u51 : Value} {w' : World}, (u51 = .bool false ∧ Fr F0 w w') → K ⟨#[.slice p n c, s1, s2, s3, .pointer (some ⟨g, 0, none⟩), .bool o, s6, s7, s8, s9, s10, s11, s12, s13, s14, s15, s16, s17, s18, s19, s20, u21, u22, u23, u24, u25, u26, u27, u28, u29, u30, u31, u32, u33, u34, u35, u36, u37, u38, u39, u40, u41, u42, u43, u44, u45, u46, u47, u48, u49, u50, u51, s52, s53, s54, s55, s56, s57, s58, s59, s60, s61, s62, s63, s64, s65, s66, s67, s68, s69, s70, s71, s72, s73, s74, s75, s76, s77, s78, s79, s80, s81, s82, s83, s84, s85, s86, s87, s88, s89, s90, s91, s92, s93, s94, s95, s96, s97, s98, s99, s100, s101, s102, s103, s104, s105, s106, s107, s108, s109, s110, s111, s112, s113, s114, s115, s116, s117, s118, s119, s120, s121, s122, s123, s124, s125, s126, s127, s128, s129, s130, s131, s132, s133, s134, s135, s136, s137, s138, s139, s140, s141, s142], []⟩ w')) :
    Code.wp Try.prog ((Try.f5.body.bind (findRegion 5)).getD .skip) (Exit.then K Q) ⟨#[.slice p n c, s1, s2, s3, .pointer (some ⟨g, 0, none⟩), .bool o, s6, s7, s8, s9, s10, s11, s12, s13, s14, s15, s16, s17, s18, s19, s20, s21, s22, s23, s24, s25, s26, s27, s28, s29, s30, s31, s32, s33, s34, s35, s36, s37, s38, s39, s40, s41, s42, s43, s44, s45, s46, s47, s48, s49, s50, s51, s52, s53, s54, s55, s56, s57, s58, s59, s60, s61, s62, s63, s64, s65, s66, s67, s68, s69, s70, s71, s72, s73, s74, s75, s76, s77, s78, s79, s80, s81, s82, s83, s84, s85, s86, s87, s88, s89, s90, s91, s92, s93, s94, s95, s96, s97, s98, s99, s100, s101, s102, s103, s104, s105, s106, s107, s108, s109, s110, s111, s112, s113, s114, s115, s116, s117, s118, s119, s120, s121, s122, s123, s124, s125, s126, s127, s128, s129, s130, s131, s132, s133, s134, s135, s136, s137, s138, s139, s140, s141, s142], []⟩ w := by
  conv => arg 2; whnf
  by_cases h21 : n = 21
  · subst h21
    obtain ⟨b0, off, rfl, hz⟩ := hb.at 0 (by omega)
    clear hz
    have y0 := hb.cell0 0 (by omega)
    rw [Nat.add_zero] at y0
    have hmo := hb.most
    have hro := hb.room
    rw [← hn] at hro
    unfold maxLen at hmo
    have HY := Lib.hid y0
    have l4 : ¬ c = 1 := by omega
    by_cases h20 : bs.getD 0 0 = 20
    · have eo : opO bs = true := decide_eq_true ⟨hn.symm, h20⟩
      have ea : opA bs = bs.drop 1 := by rw [opA, eo]; rfl
      obtain rfl : o = true := ho.trans eo
      rw [ea] at r
      have hd : (bs.drop 1).length = 20 := by rw [List.length_drop, ← hn]
      have hb4 : Bs w (some ⟨g, 0, none⟩) _ (bs.drop 1) := Bs.of_row8 r (by unfold maxLen; omega)
      rw [hd] at hb4
      have HB4 := Lib.hid hb4
      have HB1 := Lib.hid (hb.from 1)
      have HD := Lib.hid hd
      have sx : ((bs.drop 1).map B8).toArray.size = 20 := by simp; omega
      have e0 : ((bs.getD 0 0).toNat : Int) = 20 := by rw [h20]; rfl
      rw [e0] at y0 HY
      clear y0 hb hb4 hn hd ea eo e0 h20 ho
      generalize ((bs.drop 1).map B8).toArray = X at *
      refine wp_region_noPanic ?_
      refine wp_region_held_drew (S := (fun w' => w'.heap[g]? = some (.cells X 23 (0, 0)) ∧ Obj.cellAt off w'.heap[b0]? = some (.int .u8 20) ∧ (convert 24 9 (.slice (some ⟨g, 0, none⟩) 20 20)).run Try.prog w' = .ok (.string (strOf (bs.drop 1))) w' ∧ (convert 24 9 (.slice (some ⟨b0, off + 1, none⟩) 20 (c - 1))).run Try.prog w' = .ok (.string (strOf (bs.drop 1))) w' ∧ Fr F0 w w')) (by kernel_rfl) ?_ (fun hHeld => ?_)
      · ((try dsimp only) <;> (exact ⟨r, HY.out, bs_str7 (Bs.fr7 HB4.out (Fr.refl F0 w).drew) HD.out.symm, bs_str7 (Bs.fr7 HB1.out (Fr.refl F0 w).drew) HD.out.symm, (Fr.refl F0 w).drew⟩))
      refine rtake 0 ?_
      refine rtake 1 ?_
      refine rtake 2 ?_
      refine rtake 3 ?_
      refine rtake 4 ?_
      refine rtake 5 ?_
      refine rtake 6 ?_
      refine rtake 7 ?_
      refine rtake 8 ?_
      refine rtake 9 ?_
      refine rtake 10 ?_
      refine rtake 11 ?_
      refine rtake 12 ?_
      refine rtake 13 ?_
      refine rtake 14 ?_
      refine rtake 15 ?_
      refine rtake 16 ?_
      refine rtake 17 ?_
      refine rtake 18 ?_
      refine rtake 19 ?_
      refine rtake 20 ?_
      refine rtake 21 ?_
      refine rtake 22 ?_
      refine rtake 23 ?_
      refine rtake 24 ?_
      refine rtake 25 ?_
      refine rleave 26 ?_
      refine rleave 27 ?_
      refine rleave 28 ?_
      refine rtake 29 ?_
      refine rtake 30 ?_
      refine wpAnyH_done (by kernel_rfl) ?_ _
      refine NoPanic.normal ?_
      all_goals exact hK.out ⟨by first | rfl | simp, hHeld.2.2.2.2⟩
    · have eo : opO bs = false := decide_eq_false fun h => h20 h.2
      have ea : opA bs = zero20 := by rw [opA, eo]; rfl
      obtain rfl : o = false := ho.trans eo
      rw [ea] at r
      have e0 : (((bs.getD 0 0).toNat : Int) == 20) = false := by
        refine beq_false_of_ne fun e => h20 (UInt8.toNat_inj.1 ?_)
        show _ = 20
        omega
      have ez : ∀ w, (Op.equalIn 10000 23 (.agg (zero20.map B8).toArray) (.agg (zero20.map B8).toArray)).run Try.prog w = .ok true w := fun w => by rw [run_equalIn_address w _ _ rfl rfl]; simp
      have hzb := fun w => run_buildAd w #[] _ built_ad0
      have sx : (zero20.map B8).toArray.size = 20 := rfl
      clear y0 hb hn ea eo h20 ho
      generalize (zero20.map B8).toArray = X at *
      generalize ((bs.getD 0 0).toNat : Int) = x0 at *
      refine wp_region_noPanic ?_
      refine wp_region_held_drew (S := (fun w' => w'.heap[g]? = some (.cells X 23 (0, 0)) ∧ Obj.cellAt off w'.heap[b0]? = some (.int .u8 x0) ∧ Fr F0 w w')) (by kernel_rfl) ?_ (fun hHeld => ?_)
      · ((try dsimp only) <;> (exact ⟨r, HY.out, (Fr.refl F0 w).drew⟩))
      refine rtake 0 ?_
      refine rtake 1 ?_
      refine rtake 2 ?_
      refine rtake 3 ?_
      refine rtake 4 ?_
      refine rtake 5 ?_
      refine rtake 6 ?_
      refine rtake 7 ?_
      refine rtake 8 ?_
      refine rtake 9 ?_
      refine rtake 10 ?_
      refine rtake 11 ?_
      refine rtake 12 ?_
      refine rtake 13 ?_
      refine rleave 14 ?_
      refine rleave 15 ?_
      refine rleave 16 ?_
      refine rleave 17 ?_
      refine rleave 18 ?_
      refine rleave 19 ?_
      refine rtake 20 ?_
      refine rtake 21 ?_
      refine rtake 22 ?_
      refine rtake 23 ?_
      refine rtake 24 ?_
      refine rtake 25 ?_
      refine rtake 26 ?_
      refine rtake 27 ?_
      refine rtake 28 ?_
      refine rtake 29 ?_
      refine rtake 30 ?_
      refine wpAnyH_done (by kernel_rfl) ?_ _
      refine NoPanic.normal ?_
      all_goals exact hK.out ⟨by first | rfl | simp, hHeld.2.2⟩
  · have eo : opO bs = false := decide_eq_false fun h => h21 (by omega)
    have ea : opA bs = zero20 := by rw [opA, eo]; rfl
    obtain rfl : o = false := ho.trans eo
    rw [ea] at r
    have e0 : ((n : Int) == 21) = false := beq_false_of_ne (by omega)
    have ez : ∀ w, (Op.equalIn 10000 23 (.agg (zero20.map B8).toArray) (.agg (zero20.map B8).toArray)).run Try.prog w = .ok true w := fun w => by rw [run_equalIn_address w _ _ rfl rfl]; simp
    have hzb := fun w => run_buildAd w #[] _ built_ad0
    have sx : (zero20.map B8).toArray.size = 20 := rfl
    clear hb hn ea eo h21 ho
    generalize (zero20.map B8).toArray = X at *
    refine wp_region_noPanic ?_
    refine wp_region_held_drew (S := (fun w' => w'.heap[g]? = some (.cells X 23 (0, 0)) ∧ Fr F0 w w')) (by kernel_rfl) ?_ (fun hHeld => ?_)
    · ((try dsimp only) <;> (exact ⟨r, (Fr.refl F0 w).drew⟩))
    refine rtake 0 ?_
    refine rtake 1 ?_
    refine rtake 2 ?_
    refine rtake 3 ?_
    refine rtake 4 ?_
    refine rleave 5 ?_
    refine rleave 6 ?_
    refine rleave 7 ?_
    refine rleave 8 ?_
    refine rtake 9 ?_
    refine rtake 10 ?_
    refine rtake 11 ?_
    refine rtake 12 ?_
    refine rtake 13 ?_
    refine rleave 14 ?_
    refine rleave 15 ?_
    refine rleave 16 ?_
    refine rleave 17 ?_
    refine rleave 18 ?_
    refine rleave 19 ?_
    refine rtake 20 ?_
    refine rtake 21 ?_
    refine rtake 22 ?_
    refine rtake 23 ?_
    refine rtake 24 ?_
    refine rtake 25 ?_
    refine rtake 26 ?_
    refine rtake 27 ?_
    refine rtake 28 ?_
    refine rtake 29 ?_
    refine rtake 30 ?_
    refine wpAnyH_done (by kernel_rfl) ?_ _
    refine NoPanic.normal ?_
    all_goals exact hK.out ⟨by first | rfl | simp, hHeld.2⟩

set_option maxRecDepth 100000 in
set_option maxHeartbeats 16000000 in
theorem lockParses_any (HB : LBytesC) (HP : LParseC) (HO : LOpenerC) (bs : List UInt8) (p : Option Addr) (c : Nat) (w : World) (hb : Bs w p c bs) :
    Calls Try.prog 5 #[.slice p bs.length c] w fun e w' => e = .returned (.bool true) ∧ Fr F0 w w' := by
  have HL := Lib.hid (lives08_any HB)
  have HBb := Lib.hid hb
  obtain ⟨n, hn⟩ : ∃ n, n = bs.length := ⟨_, rfl⟩
  rw [← hn]
  replace hn := Lib.hid hn
  by_cases h100 : n ≤ 100
  · have l1 : ¬ (100 : Int) < (n : Int) := by omega
    have HPs := Lib.hid (fun w hw => HP bs p n c w hw hn.out (by have := hn.out; omega))
    have HOs := Lib.hid (fun w hw => HO bs p n c w hw hn.out (by have := hn.out; omega))
    have szL : ∀ a n c, (lkC (lkP bs).1 (lkP bs).2.1 (.slice a n c)).size = 22 ∧ rowOne (lkC (lkP bs).1 (lkP bs).2.1 (.slice a n c)) := fun a n c => by
      refine ⟨(LkC.of ?_ _).size, lkC_one⟩
      unfold lkP
      split
      · simp; omega
      · split <;> rfl
    have sx : ((opA bs).map B8).toArray.size = 20 := by simp [opA_length]
    have ox : rowOne ((opA bs).map B8).toArray := one_B8s _
    clear HB HP HO hb h100
    go_enter Try.func5, Try.ntmps5
    go_wp2_with fail
    (with_reducible refine (HL.out _).mono ?_); rintro e w1 ⟨rfl, F⟩
    go_wp2_with fail
    (with_reducible refine (HPs.out _ (Bs.fr7 HBb.out F)).mono ?_); rintro e w2 ⟨a', n', c', rfl, hn', hb', f⟩
    replace F := F.trans' f
    clear f
    obtain ⟨sL, oL⟩ := szL a' n' c'
    have hC : lkC (lkP bs).1 (lkP bs).2.1 (.slice a' n' c') = lkC (lkP bs).1 (lkP bs).2.1 (.slice a' n' c') := rfl
    generalize hCC : lkC (lkP bs).1 (lkP bs).2.1 (.slice a' n' c') = C at sL oL ⊢
    clear hC szL
    replace hCC := Lib.hid hCC
    go_upto_region 4 with fail
    refine wp_put fun W3 N3 => ?_
    have r3 := N3.new
    replace F := F.trans' N3.fr
    replace hb' := Bs.fr7 hb' N3.fr
    clear N3
    generalize w2.heap.size = g3 at *
    go_wp2_with fail
    (with_reducible refine (HOs.out _ (Bs.fr7 HBb.out F)).mono ?_); rintro e w4 ⟨rfl, f⟩
    replace F := F.trans' f
    replace hb' := Bs.fr7 hb' f
    replace r3 := keep_fr f r3
    clear f
    have rO : ((opA bs).map B8).toArray = ((opA bs).map B8).toArray := rfl
    generalize hXX : ((opA bs).map B8).toArray = X at sx ox rO ⊢
    clear rO
    generalize hOO : opO bs = o
    go_upto_region 5 with fail
    refine wp_put fun W5 N5 => ?_
    have r5 := N5.new
    have ne := N5.ne r3
    replace r3 := N5.old r3
    replace F := F.trans' N5.fr
    replace hb' := Bs.fr7 hb' N5.fr
    clear N5
    generalize w4.heap.size = g5 at *
    rw [← hXX] at r5
    refine lp5 _ bs p n c hn.out (Bs.fr7 HBb.out F) g5 r5 o hOO.symm (Lib.hid ?_)
    rename_i w6
    rintro ⟨rfl, f⟩
    replace F := F.trans' f
    replace hb' := Bs.fr7 hb' f
    replace r3 := keep_fr f r3
    clear f r5 ne sx ox hXX hOO sL oL
    go_upto_region 7 with fail
    refine lp7 _ bs p n c hn.out (Bs.fr7 HBb.out F) _ rfl (Lib.hid ?_)
    rename_i w7
    rintro ⟨rfl, hw⟩; replace hw := hw.symm; subst hw
    by_cases h1 : bs.length = 25 ∧ bs.take 3 = [118, 169, 20] ∧ bs.drop 23 = [136, 172]
    · have ep : lkP bs = (1, (bs.drop 3).take 20, []) := by rw [lkP, if_pos h1]
      rw [← hCC.out, ep] at r3
      rw [ep] at hn'
      obtain rfl : n' = 0 := hn'
      have ho := decide_eq_true h1
      rw [ho]
      clear hb' ho ep
      go_upto_region 8 with fail
      refine lp8 _ bs p n c hn.out (Bs.fr7 HBb.out F) h1 g3 a' c' r3 (Lib.hid ?_)
      rename_i w8
      rintro ⟨rfl, f⟩
      clear h1
      go_wp2
      go_ret
      exact ⟨rfl, F.trans' f⟩
    · have ho := decide_eq_false h1
      rw [ho]
      clear ho
      go_upto_region 9 with fail
      refine lp9 _ bs p n c hn.out (Bs.fr7 HBb.out F) _ rfl (Lib.hid ?_)
      rename_i w8
      rintro ⟨rfl, hw⟩; replace hw := hw.symm; subst hw
      by_cases h2 : 3 ≤ bs.length ∧ bs.length ≤ 42 ∧ bs.getD 0 0 = 106 ∧ (bs.getD 1 0).toNat + 2 = bs.length
      · have ep : lkP bs = (2, zero20, bs.drop 2) := by rw [lkP, if_neg h1, if_pos h2]
        rw [← hCC.out, ep] at r3
        rw [ep] at hn' hb'
        have ho := decide_eq_true h2
        rw [ho]
        clear ho ep h1
        go_upto_region 10 with fail
        refine lp10 _ bs p n c hn.out (Bs.fr7 HBb.out F) h2.1 g3 a' n' c' hn' hb' r3 (Lib.hid ?_)
        rename_i w9
        rintro ⟨rfl, f⟩
        clear h2
        go_wp2
        go_ret
        exact ⟨rfl, F.trans' f⟩
      · have ep : lkP bs = (0, zero20, []) := by rw [lkP, if_neg h1, if_neg h2]
        rw [← hCC.out, ep] at r3
        rw [ep] at hn'
        obtain rfl : n' = 0 := hn'
        have ho := decide_eq_false h2
        rw [ho]
        clear hb' ho ep h1 h2
        go_upto_region 11 with fail
        refine lp11 _ g3 a' c' r3 (Lib.hid ?_)
        rename_i w9
        rintro ⟨rfl, f⟩
        go_wp2
        go_ret
        exact ⟨rfl, F.trans' f⟩
  · have l1 : (100 : Int) < (n : Int) := by omega
    go_enter Try.func5, Try.ntmps5
    go_wp2_with fail
    (with_reducible refine (HL.out _).mono ?_); rintro e w1 ⟨rfl, F⟩
    go_wp2_with fail
    (with_reducible refine (HL.out _).mono ?_); rintro e w2 ⟨rfl, f⟩
    go_wp2
    go_ret
    exact ⟨rfl, F.trans' f⟩
end Go.Proofs.Ytigjoepoaahidaa
