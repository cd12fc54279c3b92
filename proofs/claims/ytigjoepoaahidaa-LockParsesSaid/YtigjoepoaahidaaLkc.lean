/- Layer 8 (lock): pieces of the law LockParses. -/
import Derived.Test.YtigjoepoaahidaaRt
import Derived.Test.YtigjoepoaahidaaLkb
import Derived.Test.YtigjoepoaahidaaPiece
namespace Go.Proofs.Ytigjoepoaahidaa
set_option linter.unusedVariables false
set_option linter.unusedSimpArgs false
open Go.RowKit

theorem beq_dec (l m : List UInt8) : (l == m) = decide (l = m) := by
  by_cases h : l = m
  · subst h; simp
  · rw [decide_eq_false h]; exact beq_false_of_ne h
theorem Bs.cell0 {w : World} {b off c : Nat} {bs : List UInt8} (h : Bs w (some ⟨b, off, none⟩) c bs) (j : Nat) (hj : j < bs.length) : Obj.cellAt (off + j) w.heap[b]? = some (.int .u8 ((bs.getD j 0).toNat : Int)) := by
  obtain ⟨b', off', e, hc⟩ := h.at j hj
  cases e
  rw [← cell_at, hc]
  simp [List.getD, List.getElem?_eq_getElem hj]
theorem Bs.from {w : World} {b off c : Nat} {bs : List UInt8} (h : Bs w (some ⟨b, off, none⟩) c bs) (k : Nat) : Bs w (some ⟨b, off + k, none⟩) (c - k) (bs.drop k) := by
  refine Sl.mk (by simp) ?_ ?_ (fun e => by cases e) (fun j u hj => ?_)
  · have := h.room
    simp only [List.length_drop]
    omega
  · have := h.most
    omega
  · rw [List.map_drop, List.getElem?_drop] at hj
    obtain ⟨b', off', e, hc⟩ := h.cell (k + j) u hj
    cases e
    exact ⟨b, off + k, rfl, by rw [← hc]; congr 2; omega⟩
theorem Bs.upto {w : World} {a : Option Addr} {c : Nat} {bs : List UInt8} (h : Bs w a c bs) (k : Nat) : Bs w a c (bs.take k) := by
  refine Sl.mk (by simp) ?_ h.most h.nil (fun j u hj => ?_)
  · have := h.room
    simp only [List.length_take]
    omega
  · rw [List.map_take, List.getElem?_take] at hj
    split at hj
    · exact h.cell j u hj
    · cases hj

set_option maxRecDepth 100000 in
set_option maxHeartbeats 8000000 in
theorem lp7 {s1 s2 s3 s4 s5 s6 s7 s8 s9 s10 s11 s12 s13 s14 s15 s16 s17 s18 s19 s20 s21 s22 s23 s24 s25 s26 s27 s28 s29 s30 s31 s32 s33 s34 s35 s36 s37 s38 s39 s40 s41 s42 s43 s44 s45 s46 s47 s48 s49 s50 s51 s52 s53 s54 s55 s56 s57 s58 s59 s60 s61 s62 s63 s64 s65 s66 s67 s68 s69 s70 s71 s72 s73 s74 s75 s76 s77 s78 s79 s80 s81 s82 s83 s84 s85 s86 s87 s88 s89 s90 s91 s92 s93 s94 s95 s96 s97 s98 s99 s100 s101 s102 s103 s104 s105 s106 s107 s108 s109 s110 s111 s112 s113 s114 s115 s116 s117 s118 s119 s120 s121 s122 s123 s124 s125 s126 s127 s128 s129 s130 s131 s132 s133 s134 s135 s136 s137 s138 s139 s140 s141 s142 : Value} {K : Act → World → Prop} {Q : Exit → Act → World → Prop} (w : World) (bs : List UInt8) (p : Option Addr) (n c : Nat) (hn : n = bs.length) (hb : Bs w p c bs) (o1 : Bool) (ho : o1 = decide (bs.length = 25 ∧ bs.take 3 = [118, 169, 20] ∧ bs.drop 23 = [136, 172]))
    (hK : RowKit.Hid (∀ {u52 u53 u54 u55 u56 u57 u58 u59 u60 u61 u62 u63 u64 u65 u66 u67 : Value} {w' : World}, (u52 = .bool o1 ∧ w' = w) → K ⟨#[.slice p n c, s1, s2, s3, s4, s5, s6, s7, s8, s9, s10, s11, s12, s13, s14, s15, s16, s17, s18, s19, s20, s21, s22, s23, s24, s25, s26, s27, s28, s29, s30, s31, s32, s33, s34, s35, s36, s37, s38, s39, s40, s41, s42, s43, s44, s45, s46, s47, s48, s49, s50, s51, u52, u53, u54, u55, u56, u57, u58, u59, u60, u61, u62, u63, u64, u65, u66, u67, s68, s69, s70, s71, s72, s73, s74, s75, s76, s77, s78, s79, s80, s81, s82, s83, s84, s85, s86, s87, s88, s89, s90, s91, s92, s93, s94, s95, s96, s97, s98, s99, s100, s101, s102, s103, s104, s105, s106, s107, s108, s109, s110, s111, s112, s113, s114, s115, s116, s117, s118, s119, s120, s121, s122, s123, s124, s125, s126, s127, s128, s129, s130, s131, s132, s133, s134, s135, s136, s137, s138, s139, s140, s141, s142], []⟩ w')) :
    Code.wp Try.prog ((Try.f5.body.bind (findRegion 7)).getD .skip) (Exit.then K Q) ⟨#[.slice p n c, s1, s2, s3, s4, s5, s6, s7, s8, s9, s10, s11, s12, s13, s14, s15, s16, s17, s18, s19, s20, s21, s22, s23, s24, s25, s26, s27, s28, s29, s30, s31, s32, s33, s34, s35, s36, s37, s38, s39, s40, s41, s42, s43, s44, s45, s46, s47, s48, s49, s50, s51, s52, s53, s54, s55, s56, s57, s58, s59, s60, s61, s62, s63, s64, s65, s66, s67, s68, s69, s70, s71, s72, s73, s74, s75, s76, s77, s78, s79, s80, s81, s82, s83, s84, s85, s86, s87, s88, s89, s90, s91, s92, s93, s94, s95, s96, s97, s98, s99, s100, s101, s102, s103, s104, s105, s106, s107, s108, s109, s110, s111, s112, s113, s114, s115, s116, s117, s118, s119, s120, s121, s122, s123, s124, s125, s126, s127, s128, s129, s130, s131, s132, s133, s134, s135, s136, s137, s138, s139, s140, s141, s142], []⟩ w := by
  conv => arg 2; whnf
  by_cases h25 : n = 25
  · subst h25
    obtain ⟨b0, off, rfl, hz⟩ := hb.at 0 (by omega)
    clear hz
    have x1 := bs_str7 (n := 3) (hb.upto 3) (by simp; omega)
    have x2 := bs_str7 (n := 2) (hb.from 23) (by simp; omega)
    have hmo := hb.most
    have hro := hb.room
    rw [← hn] at hro
    unfold maxLen at hmo
    obtain ⟨q1, hq1⟩ : ∃ q, decide (bs.take 3 = [118, 169, 20]) = q := ⟨_, rfl⟩
    obtain ⟨q2, hq2⟩ : ∃ q, decide (bs.drop 23 = [136, 172]) = q := ⟨_, rfl⟩
    have e1 : ((strOf (bs.take 3)).toList == [118, 169, 20]) = q1 := by rw [strOf_toList, beq_dec, hq1]
    have e2 : ((strOf (bs.drop 23)).toList == [136, 172]) = q2 := by rw [strOf_toList, beq_dec, hq2]
    have eo : o1 = (q1 && q2) := by
      rw [ho, ← hq1, ← hq2, ← hn]
      by_cases h1 : bs.take 3 = [118, 169, 20] <;> by_cases h2 : bs.drop 23 = [136, 172] <;> simp [h1, h2]
    clear ho hb hn hq1 hq2
    generalize strOf (bs.take 3) = S1 at *
    generalize strOf (bs.drop 23) = S2 at *
    cases q1 <;> cases q2
    all_goals
      subst eo
      go_wp2_with fail
      exact hK.out ⟨rfl, rfl⟩
  · have l1 : ¬ (n : Int) = 25 := by omega
    have eo : o1 = false := by rw [ho, ← hn]; simp [h25]
    subst eo
    clear hb hn h25 ho
    go_wp2_with fail
    exact hK.out ⟨rfl, rfl⟩

set_option maxRecDepth 100000 in
set_option maxHeartbeats 8000000 in
theorem lp9 {s1 s2 s3 s4 s5 s6 s7 s8 s9 s10 s11 s12 s13 s14 s15 s16 s17 s18 s19 s20 s21 s22 s23 s24 s25 s26 s27 s28 s29 s30 s31 s32 s33 s34 s35 s36 s37 s38 s39 s40 s41 s42 s43 s44 s45 s46 s47 s48 s49 s50 s51 s52 s53 s54 s55 s56 s57 s58 s59 s60 s61 s62 s63 s64 s65 s66 s67 s68 s69 s70 s71 s72 s73 s74 s75 s76 s77 s78 s79 s80 s81 s82 s83 s84 s85 s86 s87 s88 s89 s90 s91 s92 s93 s94 s95 s96 s97 s98 s99 s100 s101 s102 s103 s104 s105 s106 s107 s108 s109 s110 s111 s112 s113 s114 s115 s116 s117 s118 s119 s120 s121 s122 s123 s124 s125 s126 s127 s128 s129 s130 s131 s132 s133 s134 s135 s136 s137 s138 s139 s140 s141 s142 : Value} {K : Act → World → Prop} {Q : Exit → Act → World → Prop} (w : World) (bs : List UInt8) (p : Option Addr) (n c : Nat) (hn : n = bs.length) (hb : Bs w p c bs) (o2 : Bool) (ho : o2 = decide (3 ≤ bs.length ∧ bs.length ≤ 42 ∧ bs.getD 0 0 = 106 ∧ (bs.getD 1 0).toNat + 2 = bs.length))
    (hK : RowKit.Hid (∀ {u85 u86 u87 u88 u89 u90 u91 u92 u93 u94 u95 u96 u97 u98 u99 u100 u101 u102 u103 u104 u105 u106 u107 u108 u109 : Value} {w' : World}, (u85 = .bool o2 ∧ w' = w) → K ⟨#[.slice p n c, s1, s2, s3, s4, s5, s6, s7, s8, s9, s10, s11, s12, s13, s14, s15, s16, s17, s18, s19, s20, s21, s22, s23, s24, s25, s26, s27, s28, s29, s30, s31, s32, s33, s34, s35, s36, s37, s38, s39, s40, s41, s42, s43, s44, s45, s46, s47, s48, s49, s50, s51, s52, s53, s54, s55, s56, s57, s58, s59, s60, s61, s62, s63, s64, s65, s66, s67, s68, s69, s70, s71, s72, s73, s74, s75, s76, s77, s78, s79, s80, s81, s82, s83, s84, u85, u86, u87, u88, u89, u90, u91, u92, u93, u94, u95, u96, u97, u98, u99, u100, u101, u102, u103, u104, u105, u106, u107, u108, u109, s110, s111, s112, s113, s114, s115, s116, s117, s118, s119, s120, s121, s122, s123, s124, s125, s126, s127, s128, s129, s130, s131, s132, s133, s134, s135, s136, s137, s138, s139, s140, s141, s142], []⟩ w')) :
    Code.wp Try.prog ((Try.f5.body.bind (findRegion 9)).getD .skip) (Exit.then K Q) ⟨#[.slice p n c, s1, s2, s3, s4, s5, s6, s7, s8, s9, s10, s11, s12, s13, s14, s15, s16, s17, s18, s19, s20, s21, s22, s23, s24, s25, s26, s27, s28, s29, s30, s31, s32, s33, s34, s35, s36, s37, s38, s39, s40, s41, s42, s43, s44, s45, s46, s47, s48, s49, s50, s51, s52, s53, s54, s55, s56, s57, s58, s59, s60, s61, s62, s63, s64, s65, s66, s67, s68, s69, s70, s71, s72, s73, s74, s75, s76, s77, s78, s79, s80, s81, s82, s83, s84, s85, s86, s87, s88, s89, s90, s91, s92, s93, s94, s95, s96, s97, s98, s99, s100, s101, s102, s103, s104, s105, s106, s107, s108, s109, s110, s111, s112, s113, s114, s115, s116, s117, s118, s119, s120, s121, s122, s123, s124, s125, s126, s127, s128, s129, s130, s131, s132, s133, s134, s135, s136, s137, s138, s139, s140, s141, s142], []⟩ w := by
  conv => arg 2; whnf
  rw [← hn] at ho
  by_cases h3 : 3 ≤ n
  · by_cases h42 : n ≤ 42
    · have l1 : (3 : Int) ≤ (n : Int) := by omega
      have l2 : (n : Int) ≤ 42 := by omega
      obtain ⟨b0, off, rfl, hz⟩ := hb.at 0 (by omega)
      clear hz
      have y0 := hb.cell0 0 (by omega)
      have y1 := hb.cell0 1 (by omega)
      rw [Nat.add_zero] at y0
      have l3 : (0 : Int) < (n : Int) := by omega
      have l4 : (1 : Int) < (n : Int) := by omega
      have l5 : IntKind.i64.wrap ((n : Int) - 2) = (n : Int) - 2 := IntWalk.i64_in _ (by omega)
      obtain ⟨q1, hq1⟩ : ∃ q, decide (bs.getD 0 0 = 106) = q := ⟨_, rfl⟩
      obtain ⟨q2, hq2⟩ : ∃ q, decide ((bs.getD 1 0).toNat + 2 = n) = q := ⟨_, rfl⟩
      have e1 : (((bs.getD 0 0).toNat : Int) == 106) = q1 := by
        rw [← hq1]
        by_cases h : bs.getD 0 0 = 106
        · rw [h]; rfl
        · rw [decide_eq_false h]
          refine beq_false_of_ne fun e => h (UInt8.toNat_inj.1 ?_)
          show _ = 106
          omega
      have e2 : (((bs.getD 1 0).toNat : Int) == (n : Int) - 2) = q2 := by
        rw [← hq2]
        by_cases h : (bs.getD 1 0).toNat + 2 = n
        · rw [decide_eq_true h]
          rw [show ((bs.getD 1 0).toNat : Int) = (n : Int) - 2 by omega]
          exact beq_self_eq_true _
        · rw [decide_eq_false h]
          exact beq_false_of_ne (by omega)
      have eo : o2 = (q1 && q2) := by
        rw [ho, ← hq1, ← hq2]
        by_cases h1 : bs.getD 0 0 = 106 <;> by_cases h2 : (bs.getD 1 0).toNat + 2 = n <;> simp [h1, h2, h3, h42]
      have z1 : ((bs.getD 1 0).toNat : Int) < 256 := by have := (bs.getD 1 0).toNat_lt; omega
      clear hq1 hq2 ho hb h3 h42 hn
      generalize (bs.getD 0 0).toNat = x0 at *
      generalize (bs.getD 1 0).toNat = x1 at *
      cases q1 <;> cases q2
      all_goals
        subst eo
        go_wp2_with fail
        exact hK.out ⟨rfl, rfl⟩
    · have l1 : (3 : Int) ≤ (n : Int) := by omega
      have l2 : ¬ (n : Int) ≤ 42 := by omega
      have eo : o2 = false := by rw [ho]; exact decide_eq_false fun h => h42 h.2.1
      subst eo
      clear hb hn ho h3 h42
      go_wp2_with fail
      exact hK.out ⟨rfl, rfl⟩
  · have l1 : ¬ (3 : Int) ≤ (n : Int) := by omega
    have eo : o2 = false := by rw [ho]; exact decide_eq_false fun h => h3 h.1
    subst eo
    clear hb hn ho h3
    go_wp2_with fail
    exact hK.out ⟨rfl, rfl⟩

set_option maxRecDepth 100000 in
set_option maxHeartbeats 8000000 in
theorem lp8 {s1 s2 s4 s5 s6 s7 s8 s9 s10 s11 s12 s13 s14 s15 s16 s17 s18 s19 s20 s21 s22 s23 s24 s25 s26 s27 s28 s29 s30 s31 s32 s33 s34 s35 s36 s37 s38 s39 s40 s41 s42 s43 s44 s45 s46 s47 s48 s49 s50 s51 s52 s53 s54 s55 s56 s57 s58 s59 s60 s61 s62 s63 s64 s65 s66 s67 s68 s69 s70 s71 s72 s73 s74 s75 s76 s77 s78 s79 s80 s81 s82 s83 s84 s85 s86 s87 s88 s89 s90 s91 s92 s93 s94 s95 s96 s97 s98 s99 s100 s101 s102 s103 s104 s105 s106 s107 s108 s109 s110 s111 s112 s113 s114 s115 s116 s117 s118 s119 s120 s121 s122 s123 s124 s125 s126 s127 s128 s129 s130 s131 s132 s133 s134 s135 s136 s137 s138 s139 s140 s141 s142 : Value} {K : Act → World → Prop} {Q : Exit → Act → World → Prop} (w : World) (bs : List UInt8) (p : Option Addr) (n c : Nat) (hn : n = bs.length) (hb : Bs w p c bs) (h1 : bs.length = 25 ∧ bs.take 3 = [118, 169, 20] ∧ bs.drop 23 = [136, 172]) (g : Nat) (a' : Option Addr) (c' : Nat) (r : w.heap[g]? = some (.cells (lkC 1 ((bs.drop 3).take 20) (.slice a' 0 c')) 30 (0, 0)))
    (hK : RowKit.Hid (∀ {u2 u68 u69 u70 u71 u72 u73 u74 u75 u76 u77 u78 u79 u80 u81 u82 u83 u84 : Value} {w' : World}, (u2 = .bool true ∧ Fr F0 w w') → K ⟨#[.slice p n c, s1, u2, .pointer (some ⟨g, 0, none⟩), s4, s5, s6, s7, s8, s9, s10, s11, s12, s13, s14, s15, s16, s17, s18, s19, s20, s21, s22, s23, s24, s25, s26, s27, s28, s29, s30, s31, s32, s33, s34, s35, s36, s37, s38, s39, s40, s41, s42, s43, s44, s45, s46, s47, s48, s49, s50, s51, s52, s53, s54, s55, s56, s57, s58, s59, s60, s61, s62, s63, s64, s65, s66, s67, u68, u69, u70, u71, u72, u73, u74, u75, u76, u77, u78, u79, u80, u81, u82, u83, u84, s85, s86, s87, s88, s89, s90, s91, s92, s93, s94, s95, s96, s97, s98, s99, s100, s101, s102, s103, s104, s105, s106, s107, s108, s109, s110, s111, s112, s113, s114, s115, s116, s117, s118, s119, s120, s121, s122, s123, s124, s125, s126, s127, s128, s129, s130, s131, s132, s133, s134, s135, s136, s137, s138, s139, s140, s141, s142], []⟩ w')) :
    Code.wp Try.prog ((Try.f5.body.bind (findRegion 8)).getD .skip) (Exit.then K Q) ⟨#[.slice p n c, s1, s2, .pointer (some ⟨g, 0, none⟩), s4, s5, s6, s7, s8, s9, s10, s11, s12, s13, s14, s15, s16, s17, s18, s19, s20, s21, s22, s23, s24, s25, s26, s27, s28, s29, s30, s31, s32, s33, s34, s35, s36, s37, s38, s39, s40, s41, s42, s43, s44, s45, s46, s47, s48, s49, s50, s51, s52, s53, s54, s55, s56, s57, s58, s59, s60, s61, s62, s63, s64, s65, s66, s67, s68, s69, s70, s71, s72, s73, s74, s75, s76, s77, s78, s79, s80, s81, s82, s83, s84, s85, s86, s87, s88, s89, s90, s91, s92, s93, s94, s95, s96, s97, s98, s99, s100, s101, s102, s103, s104, s105, s106, s107, s108, s109, s110, s111, s112, s113, s114, s115, s116, s117, s118, s119, s120, s121, s122, s123, s124, s125, s126, s127, s128, s129, s130, s131, s132, s133, s134, s135, s136, s137, s138, s139, s140, s141, s142], []⟩ w := by
  conv => arg 2; whnf
  have hA : ((bs.drop 3).take 20).length = 20 := by simp; omega
  have HP := Lib.hid (pay08_any _ hA)
  have ep : payB ((bs.drop 3).take 20) = bs := by
    unfold payB
    have e1 : bs = bs.take 3 ++ ((bs.drop 3).take 20 ++ bs.drop 23) := by
      conv => lhs; rw [← List.take_append_drop 3 bs, ← List.take_append_drop 20 (bs.drop 3), List.drop_drop]
    rw [h1.2.1, h1.2.2] at e1
    conv => rhs; rw [e1]
    simp
  rw [ep] at HP
  obtain ⟨s, k0, k21, x1⟩ := LkC.of hA (k := 1) (.slice a' 0 c')
  generalize (bs.drop 3).take 20 = A at *
  generalize lkC 1 A (.slice a' 0 c') = C at *
  have d0 := cell_is k0 (by omega)
  have d21 := cell_is k21 (by omega)
  have HN := Lib.hid hn
  have HB := Lib.hid hb
  clear hn hb h1 ep hA
  refine wp_region_noPanic ?_
  refine wp_region_held_drew (S := (fun w' => w'.heap[g]? = some (.cells C 30 (0, 0)) ∧ (convert 24 9 (.slice p n c)).run Try.prog w' = .ok (.string (strOf bs)) w' ∧ Fr F0 w w')) (by kernel_rfl) ?_ (fun hHeld => ?_)
  · ((try dsimp only) <;> (first | exact ⟨r, bs_str7 (Bs.fr7 HB.out (Fr.refl F0 w).drew) HN.out, (Fr.refl F0 w).drew⟩ | exact hHeld | exact ⟨keep_fr f5 hHeld.1, bs_str7 (Bs.fr7 HB.out (hHeld.2.2.trans' f5)) HN.out, hHeld.2.2.trans' f5⟩))
  refine rtake 0 ?_
  refine rtake 1 ?_
  refine rtake 2 ?_
  refine rtake 3 ?_
  refine rtake 4 ?_
  refine rtake 5 ?_
  refine rtake 7 ?_
  refine rtake 8 ?_
  refine wpAnyH_ready (rs := [6]) (by kernel_rfl) (by simp) ?_
  refine AllReadyH.cons (o := ⟨_, _, _, _, _, _⟩) rfl (fun K hK => ?_) AllReadyH.nil
  go_simp
  ((with_reducible refine (HP.out _).mono ?_); rintro e w5 ⟨rfl, f5⟩)
  refine hK.out _ _ ?_ (fun hHeld => ?_)
  · ((try dsimp only) <;> (first | exact ⟨r, bs_str7 (Bs.fr7 HB.out (Fr.refl F0 w).drew) HN.out, (Fr.refl F0 w).drew⟩ | exact hHeld | exact ⟨keep_fr f5 hHeld.1, bs_str7 (Bs.fr7 HB.out (hHeld.2.2.trans' f5)) HN.out, hHeld.2.2.trans' f5⟩))
  clear hK K
  try (simp only [Act.put, List.setIfInBounds_toArray]; dsimp only [List.set_cons_zero, List.set_cons_succ])
  refine rtake 9 ?_
  refine rtake 10 ?_
  refine rtake 11 ?_
  refine rtake 12 ?_
  refine rtake 13 ?_
  refine rtake 14 ?_
  refine rtake 15 ?_
  refine rtake 16 ?_
  refine rtake 17 ?_
  refine wpAnyH_done (by kernel_rfl) ?_ _
  refine NoPanic.normal ?_
  all_goals exact hK.out ⟨by first | rfl | simp, hHeld.2.2⟩

set_option maxRecDepth 100000 in
set_option maxHeartbeats 8000000 in
theorem lp10 {s1 s2 s4 s5 s6 s7 s8 s9 s10 s11 s12 s13 s14 s15 s16 s17 s18 s19 s20 s21 s22 s23 s24 s25 s26 s27 s28 s29 s30 s31 s32 s33 s34 s35 s36 s37 s38 s39 s40 s41 s42 s43 s44 s45 s46 s47 s48 s49 s50 s51 s52 s53 s54 s55 s56 s57 s58 s59 s60 s61 s62 s63 s64 s65 s66 s67 s68 s69 s70 s71 s72 s73 s74 s75 s76 s77 s78 s79 s80 s81 s82 s83 s84 s85 s86 s87 s88 s89 s90 s91 s92 s93 s94 s95 s96 s97 s98 s99 s100 s101 s102 s103 s104 s105 s106 s107 s108 s109 s110 s111 s112 s113 s114 s115 s116 s117 s118 s119 s120 s121 s122 s123 s124 s125 s126 s127 s128 s129 s130 s131 s132 s133 s134 s135 s136 s137 s138 s139 s140 s141 s142 : Value} {K : Act → World → Prop} {Q : Exit → Act → World → Prop} (w : World) (bs : List UInt8) (p : Option Addr) (n c : Nat) (hn : n = bs.length) (hb : Bs w p c bs) (h1 : 3 ≤ bs.length) (g : Nat) (a' : Option Addr) (n' c' : Nat) (hn' : n' = (bs.drop 2).length) (hb' : Bs w a' c' (bs.drop 2)) (r : w.heap[g]? = some (.cells (lkC 2 zero20 (.slice a' n' c')) 30 (0, 0)))
    (hK : RowKit.Hid (∀ {u2 u110 u111 u112 u113 u114 u115 u116 u117 u118 u119 u120 u121 u122 u123 u124 u125 u126 u127 : Value} {w' : World}, (u2 = .bool true ∧ Fr F0 w w') → K ⟨#[.slice p n c, s1, u2, .pointer (some ⟨g, 0, none⟩), s4, s5, s6, s7, s8, s9, s10, s11, s12, s13, s14, s15, s16, s17, s18, s19, s20, s21, s22, s23, s24, s25, s26, s27, s28, s29, s30, s31, s32, s33, s34, s35, s36, s37, s38, s39, s40, s41, s42, s43, s44, s45, s46, s47, s48, s49, s50, s51, s52, s53, s54, s55, s56, s57, s58, s59, s60, s61, s62, s63, s64, s65, s66, s67, s68, s69, s70, s71, s72, s73, s74, s75, s76, s77, s78, s79, s80, s81, s82, s83, s84, s85, s86, s87, s88, s89, s90, s91, s92, s93, s94, s95, s96, s97, s98, s99, s100, s101, s102, s103, s104, s105, s106, s107, s108, s109, u110, u111, u112, u113, u114, u115, u116, u117, u118, u119, u120, u121, u122, u123, u124, u125, u126, u127, s128, s129, s130, s131, s132, s133, s134, s135, s136, s137, s138, s139, s140, s141, s142], []⟩ w')) :
    Code.wp Try.prog ((Try.f5.body.bind (findRegion 10)).getD .skip) (Exit.then K Q) ⟨#[.slice p n c, s1, s2, .pointer (some ⟨g, 0, none⟩), s4, s5, s6, s7, s8, s9, s10, s11, s12, s13, s14, s15, s16, s17, s18, s19, s20, s21, s22, s23, s24, s25, s26, s27, s28, s29, s30, s31, s32, s33, s34, s35, s36, s37, s38, s39, s40, s41, s42, s43, s44, s45, s46, s47, s48, s49, s50, s51, s52, s53, s54, s55, s56, s57, s58, s59, s60, s61, s62, s63, s64, s65, s66, s67, s68, s69, s70, s71, s72, s73, s74, s75, s76, s77, s78, s79, s80, s81, s82, s83, s84, s85, s86, s87, s88, s89, s90, s91, s92, s93, s94, s95, s96, s97, s98, s99, s100, s101, s102, s103, s104, s105, s106, s107, s108, s109, s110, s111, s112, s113, s114, s115, s116, s117, s118, s119, s120, s121, s122, s123, s124, s125, s126, s127, s128, s129, s130, s131, s132, s133, s134, s135, s136, s137, s138, s139, s140, s141, s142], []⟩ w := by
  conv => arg 2; whnf
  have hA : zero20.length = 20 := rfl
  have ez : ∀ w, (Op.equalIn 10000 23 (.agg (zero20.map B8).toArray) (.agg (zero20.map B8).toArray)).run Try.prog w = .ok true w := fun w => by rw [run_equalIn_address w _ _ rfl rfl]; simp
  have hzb := fun w => run_buildAd w #[] _ built_ad0
  obtain ⟨s, k0, k21, x1⟩ := LkC.of hA (k := 2) (.slice a' n' c')
  generalize (zero20.map B8).toArray = X at *
  generalize lkC 2 zero20 (.slice a' n' c') = C at *
  have d0 := cell_is k0 (by omega)
  have d21 := cell_is k21 (by omega)
  obtain ⟨b0, off, rfl, hz⟩ := hb.at 0 (by omega)
  clear hz
  have hmo := hb.most
  have hro := hb.room
  unfold maxLen at hmo
  rw [← hn] at h1 hro
  have l1 : (2 : Int) ≤ (n : Int) := by omega
  obtain ⟨m, hm⟩ : ∃ m, n = m + 2 := ⟨n - 2, by omega⟩
  have HB2 := Lib.hid (hb.from 2)
  have HM := Lib.hid (show m = (bs.drop 2).length by rw [List.length_drop, ← hn]; omega)
  have HN := Lib.hid hn'
  have HB' := Lib.hid hb'
  subst hm
  have l2 : ((m + 2 : Nat) : Int) - 2 = (m : Int) := by omega
  have l3 : (2 : Int) ≤ (m : Int) + 2 := by omega
  have l4 : ¬ c = 2 := by omega
  clear l1
  clear hn hb hA hn' hb'
  refine wp_region_noPanic ?_
  refine wp_region_held_drew (S := (fun w' => w'.heap[g]? = some (.cells C 30 (0, 0)) ∧ (convert 24 9 (.slice a' n' c')).run Try.prog w' = .ok (.string (strOf (bs.drop 2))) w' ∧ (convert 24 9 (.slice (some ⟨b0, off + 2, none⟩) m (c - 2))).run Try.prog w' = .ok (.string (strOf (bs.drop 2))) w' ∧ Fr F0 w w')) (by kernel_rfl) ?_ (fun hHeld => ?_)
  · ((try dsimp only) <;> (exact ⟨r, bs_str7 (Bs.fr7 HB'.out (Fr.refl F0 w).drew) HN.out, bs_str7 (Bs.fr7 HB2.out (Fr.refl F0 w).drew) HM.out, (Fr.refl F0 w).drew⟩))
  refine rtake 0 ?_
  refine rtake 1 ?_
  refine rtake 2 ?_
  refine rtake 3 ?_
  refine rtake 4 ?_
  refine rtake 5 ?_
  refine rtake 6 ?_
  refine rtake 7 ?_
  refine rtake 8 ?_
  refine rtake 9 ?_
  refine rtake 10 ?_
  refine rtake 11 ?_
  refine rtake 12 ?_
  refine rtake 13 ?_
  refine rtake 14 ?_
  refine rtake 15 ?_
  refine rtake 16 ?_
  refine rtake 17 ?_
  refine rtake 18 ?_
  refine wpAnyH_done (by kernel_rfl) ?_ _
  refine NoPanic.normal ?_
  all_goals exact hK.out ⟨by first | rfl | simp, hHeld.2.2.2⟩

set_option maxRecDepth 100000 in
set_option maxHeartbeats 8000000 in
theorem lp11 {s0 s1 s2 s4 s5 s6 s7 s8 s9 s10 s11 s12 s13 s14 s15 s16 s17 s18 s19 s20 s21 s22 s23 s24 s25 s26 s27 s28 s29 s30 s31 s32 s33 s34 s35 s36 s37 s38 s39 s40 s41 s42 s43 s44 s45 s46 s47 s48 s49 s50 s51 s52 s53 s54 s55 s56 s57 s58 s59 s60 s61 s62 s63 s64 s65 s66 s67 s68 s69 s70 s71 s72 s73 s74 s75 s76 s77 s78 s79 s80 s81 s82 s83 s84 s85 s86 s87 s88 s89 s90 s91 s92 s93 s94 s95 s96 s97 s98 s99 s100 s101 s102 s103 s104 s105 s106 s107 s108 s109 s110 s111 s112 s113 s114 s115 s116 s117 s118 s119 s120 s121 s122 s123 s124 s125 s126 s127 s128 s129 s130 s131 s132 s133 s134 s135 s136 s137 s138 s139 s140 s141 s142 : Value} {K : Act → World → Prop} {Q : Exit → Act → World → Prop} (w : World) (g : Nat) (a' : Option Addr) (c' : Nat) (r : w.heap[g]? = some (.cells (lkC 0 zero20 (.slice a' 0 c')) 30 (0, 0)))
    (hK : RowKit.Hid (∀ {u2 u128 u129 u130 u131 u132 u133 u134 u135 u136 u137 u138 u139 u140 u141 u142 : Value} {w' : World}, (u2 = .bool true ∧ Fr F0 w w') → K ⟨#[s0, s1, u2, .pointer (some ⟨g, 0, none⟩), s4, s5, s6, s7, s8, s9, s10, s11, s12, s13, s14, s15, s16, s17, s18, s19, s20, s21, s22, s23, s24, s25, s26, s27, s28, s29, s30, s31, s32, s33, s34, s35, s36, s37, s38, s39, s40, s41, s42, s43, s44, s45, s46, s47, s48, s49, s50, s51, s52, s53, s54, s55, s56, s57, s58, s59, s60, s61, s62, s63, s64, s65, s66, s67, s68, s69, s70, s71, s72, s73, s74, s75, s76, s77, s78, s79, s80, s81, s82, s83, s84, s85, s86, s87, s88, s89, s90, s91, s92, s93, s94, s95, s96, s97, s98, s99, s100, s101, s102, s103, s104, s105, s106, s107, s108, s109, s110, s111, s112, s113, s114, s115, s116, s117, s118, s119, s120, s121, s122, s123, s124, s125, s126, s127, u128, u129, u130, u131, u132, u133, u134, u135, u136, u137, u138, u139, u140, u141, u142], []⟩ w')) :
    Code.wp Try.prog ((Try.f5.body.bind (findRegion 11)).getD .skip) (Exit.then K Q) ⟨#[s0, s1, s2, .pointer (some ⟨g, 0, none⟩), s4, s5, s6, s7, s8, s9, s10, s11, s12, s13, s14, s15, s16, s17, s18, s19, s20, s21, s22, s23, s24, s25, s26, s27, s28, s29, s30, s31, s32, s33, s34, s35, s36, s37, s38, s39, s40, s41, s42, s43, s44, s45, s46, s47, s48, s49, s50, s51, s52, s53, s54, s55, s56, s57, s58, s59, s60, s61, s62, s63, s64, s65, s66, s67, s68, s69, s70, s71, s72, s73, s74, s75, s76, s77, s78, s79, s80, s81, s82, s83, s84, s85, s86, s87, s88, s89, s90, s91, s92, s93, s94, s95, s96, s97, s98, s99, s100, s101, s102, s103, s104, s105, s106, s107, s108, s109, s110, s111, s112, s113, s114, s115, s116, s117, s118, s119, s120, s121, s122, s123, s124, s125, s126, s127, s128, s129, s130, s131, s132, s133, s134, s135, s136, s137, s138, s139, s140, s141, s142], []⟩ w := by
  conv => arg 2; whnf
  have hA : zero20.length = 20 := rfl
  have ez : ∀ w, (Op.equalIn 10000 23 (.agg (zero20.map B8).toArray) (.agg (zero20.map B8).toArray)).run Try.prog w = .ok true w := fun w => by rw [run_equalIn_address w _ _ rfl rfl]; simp
  have hzb := fun w => run_buildAd w #[] _ built_ad0
  obtain ⟨s, k0, k21, x1⟩ := LkC.of hA (k := 0) (.slice a' 0 c')
  generalize (zero20.map B8).toArray = X at *
  generalize lkC 0 zero20 (.slice a' 0 c') = C at *
  have d0 := cell_is k0 (by omega)
  have d21 := cell_is k21 (by omega)
  go_wp2_with fail
  exact hK.out ⟨by first | rfl | simp, Fr.refl _ _⟩
end Go.Proofs.Ytigjoepoaahidaa
