/- Layer 3's law WideMoves: the loop that lays the bits. -/
import Derived.Test.YtmebilpmhflahaaMw
import Derived.Test.YtmebilpmhflahaaPb
namespace Go.Proofs.Ytmebilpmhflahaa
set_option linter.unusedVariables false
set_option linter.unusedSimpArgs false
open Go.RowKit

def F3 (gu gd go : Nat) : Nat → Prop := fun k => k = gu ∨ k = gd ∨ k = go

theorem bit_set (z i v : Nat) (hv : v < 2) : (rowN .u64 1 256 z).setIfInBounds i (.int .u64 (v : Int)) = rowN .u64 1 256 (putw 1 z i v) := rowN_set _ _ _ _ _ _ hv

set_option maxRecDepth 100000 in
set_option maxHeartbeats 32000000 in
theorem mvl1 {s0 s1 s3 s4 s5 s6 s7 s12 s13 s14 s15 s16 s17 s18 s19 s20 s21 s22 s23 s24 s25 s26 s27 s28 s29 s30 s31 s32 s33 s34 s35 s36 s37 s38 s39 s40 s41 s42 s43 s44 s45 s46 s47 s48 s49 s50 s51 s52 s53 s54 s55 s58 s59 s60 s61 s62 s63 s64 s65 s66 s67 s68 s69 s70 s71 s72 s73 s74 s75 s76 s77 s78 s79 s80 s81 s82 s83 s84 s85 s86 s87 s88 s89 s90 s91 s92 s93 s94 s95 s96 s97 s98 s99 s100 s101 s102 s103 s104 s105 s106 s107 s108 s109 s110 s111 s112 s113 s114 s115 s116 s117 s118 s119 s120 s121 s122 s123 s124 s125 s126 s127 s128 s129 s130 s131 s132 s133 s134 s135 s136 s137 s138 s139 s140 s141 s142 s143 s144 s145 s146 s147 s148 s149 s150 s151 s152 s153 s154 s155 s156 s157 s158 s159 s160 s161 s162 s163 s164 s165 s166 s167 s168 s169 s170 s171 s172 s173 s174 s175 s176 s177 s178 s179 s180 s181 : Value} {K : Act → World → Prop} {Q : Exit → Act → World → Prop} (w : World) (a U D O gf gu gd go : Nat) (n : Int) (HU : RowKit.Hid (∀ i : Nat, i < 256 → (-256 < n ∧ n < 256 → 0 ≤ (i : Int) - n → (i : Int) - n < 256 → dgt 1 U i = dgt 1 a ((i : Int) - n).toNat) ∧ (-256 < n ∧ n < 256 → ¬ (0 ≤ (i : Int) - n ∧ (i : Int) - n < 256) → dgt 1 U i = 0) ∧ (¬ (-256 < n ∧ n < 256) → U = 0))) (HD : RowKit.Hid (∀ i : Nat, i < 256 → (-256 < n ∧ n < 256 → 0 ≤ (i : Int) + n → (i : Int) + n < 256 → dgt 1 D i = dgt 1 a ((i : Int) + n).toNat) ∧ (-256 < n ∧ n < 256 → ¬ (0 ≤ (i : Int) + n ∧ (i : Int) + n < 256) → dgt 1 D i = 0) ∧ (¬ (-256 < n ∧ n < 256) → D = 0))) (HO : RowKit.Hid (∀ i : Nat, i < 256 → dgt 1 O i = 1 - dgt 1 a i)) (HL : RowKit.Hid (U % 2 ^ 256 = U ∧ D % 2 ^ 256 = D ∧ O % 2 ^ 256 = O)) (nfu : gf ≠ gu) (nfd : gf ≠ gd) (nfo : gf ≠ go) (nud : gu ≠ gd) (ndu : gd ≠ gu) (nuo : gu ≠ go) (nou : go ≠ gu) (ndo : gd ≠ go) (nod : go ≠ gd) (rf : w.heap[gf]? = some (.cells (rowN .u64 1 256 a) 22 (0, 0))) (ru : w.heap[gu]? = some (.cells (rowN .u64 1 256 0) 22 (0, 0))) (rd : w.heap[gd]? = some (.cells (rowN .u64 1 256 0) 22 (0, 0))) (ro : w.heap[go]? = some (.cells (rowN .u64 1 256 0) 22 (0, 0)))
    (hK : RowKit.Hid (∀ {u12 u13 u14 u57 u58 u59 u60 u61 u62 u63 u64 u65 u66 u67 u68 u69 u70 u71 u72 u73 u74 u75 u76 u77 u78 u79 u80 u81 u82 u83 u84 u85 u86 u87 u88 u89 u90 u91 u92 u93 u94 u95 u96 u97 u98 u99 u100 u101 u102 u103 u104 u105 u106 : Value} {w' : World}, ((w'.heap[gf]? = some (.cells (rowN .u64 1 256 a) 22 (0, 0)) ∧ w'.heap[gu]? = some (.cells (rowN .u64 1 256 U) 22 (0, 0)) ∧ w'.heap[gd]? = some (.cells (rowN .u64 1 256 D) 22 (0, 0)) ∧ w'.heap[go]? = some (.cells (rowN .u64 1 256 O) 22 (0, 0))) ∧ Fr (F3 gu gd go) w w') → K ⟨#[s0, s1, .int .i64 n, s3, s4, s5, s6, s7, .slice (some ⟨gf, 0, none⟩) 256 256, .slice (some ⟨gu, 0, none⟩) 256 256, .slice (some ⟨gd, 0, none⟩) 256 256, .slice (some ⟨go, 0, none⟩) 256 256, u12, u13, u14, s15, s16, s17, s18, s19, s20, s21, s22, s23, s24, s25, s26, s27, s28, s29, s30, s31, s32, s33, s34, s35, s36, s37, s38, s39, s40, s41, s42, s43, s44, s45, s46, s47, s48, s49, s50, s51, s52, s53, s54, s55, .int .i64 256, u57, u58, u59, u60, u61, u62, u63, u64, u65, u66, u67, u68, u69, u70, u71, u72, u73, u74, u75, u76, u77, u78, u79, u80, u81, u82, u83, u84, u85, u86, u87, u88, u89, u90, u91, u92, u93, u94, u95, u96, u97, u98, u99, u100, u101, u102, u103, u104, u105, u106, s107, s108, s109, s110, s111, s112, s113, s114, s115, s116, s117, s118, s119, s120, s121, s122, s123, s124, s125, s126, s127, s128, s129, s130, s131, s132, s133, s134, s135, s136, s137, s138, s139, s140, s141, s142, s143, s144, s145, s146, s147, s148, s149, s150, s151, s152, s153, s154, s155, s156, s157, s158, s159, s160, s161, s162, s163, s164, s165, s166, s167, s168, s169, s170, s171, s172, s173, s174, s175, s176, s177, s178, s179, s180, s181], []⟩ w')) :
    Code.wp Try.prog ((Try.f3.body.bind (findBlock 0)).getD .skip) (Exit.then K Q) ⟨#[s0, s1, .int .i64 n, s3, s4, s5, s6, s7, .slice (some ⟨gf, 0, none⟩) 256 256, .slice (some ⟨gu, 0, none⟩) 256 256, .slice (some ⟨gd, 0, none⟩) 256 256, .slice (some ⟨go, 0, none⟩) 256 256, s12, s13, s14, s15, s16, s17, s18, s19, s20, s21, s22, s23, s24, s25, s26, s27, s28, s29, s30, s31, s32, s33, s34, s35, s36, s37, s38, s39, s40, s41, s42, s43, s44, s45, s46, s47, s48, s49, s50, s51, s52, s53, s54, s55, .int .i64 256, .int .i64 0, s58, s59, s60, s61, s62, s63, s64, s65, s66, s67, s68, s69, s70, s71, s72, s73, s74, s75, s76, s77, s78, s79, s80, s81, s82, s83, s84, s85, s86, s87, s88, s89, s90, s91, s92, s93, s94, s95, s96, s97, s98, s99, s100, s101, s102, s103, s104, s105, s106, s107, s108, s109, s110, s111, s112, s113, s114, s115, s116, s117, s118, s119, s120, s121, s122, s123, s124, s125, s126, s127, s128, s129, s130, s131, s132, s133, s134, s135, s136, s137, s138, s139, s140, s141, s142, s143, s144, s145, s146, s147, s148, s149, s150, s151, s152, s153, s154, s155, s156, s157, s158, s159, s160, s161, s162, s163, s164, s165, s166, s167, s168, s169, s170, s171, s172, s173, s174, s175, s176, s177, s178, s179, s180, s181], []⟩ w := by
  conv => arg 2; whnf
  have F := Fr.refl (F3 gu gd go) w
  go_wp2_with fail
  go_loopw [57] (fun iv wr => ∃ i : Nat, i ≤ 256 ∧ iv = .int .i64 i ∧ (wr.heap[gf]? = some (.cells (rowN .u64 1 256 a) 22 (0, 0)) ∧ wr.heap[gu]? = some (.cells (rowN .u64 1 256 (U % 2 ^ i)) 22 (0, 0)) ∧ wr.heap[gd]? = some (.cells (rowN .u64 1 256 (D % 2 ^ i)) 22 (0, 0)) ∧ wr.heap[go]? = some (.cells (rowN .u64 1 256 (O % 2 ^ i)) 22 (0, 0))) ∧ Fr (F3 gu gd go) w wr) (fun iv _ => 256 - (intOf iv).toNat)
  case atStart => exact ⟨0, by omega, rfl, ⟨rf, by simpa [Nat.mod_one] using ru, by simpa [Nat.mod_one] using rd, by simpa [Nat.mod_one] using ro⟩, F⟩
  case round =>
    clear rf ru rd ro F
    obtain ⟨i, hi, rfl, ⟨rf, ru, rd, ro⟩, F⟩ := hrel
    by_cases hi256 : i < 256
    · have li : (i : Int) < 256 := by omega
      have hu := HU.out i hi256
      have hd := HD.out i hi256
      have pu := bit_put U i
      have pd := bit_put D i
      have po := bit_put O i
      rw [HO.out i hi256] at po
      have lu := bit_left U i
      have ld := bit_left D i
      have d2 := bit_two a i
      have hzz : (¬ (-256 < n ∧ n < 256) → U % 2 ^ (i + 1) = U % 2 ^ i ∧ D % 2 ^ (i + 1) = D % 2 ^ i) := fun h => by
        rw [hu.2.2 h, hd.2.2 h]; simp
      have HZ := Lib.hid (show U % 2 ^ (i + 1) = U % 2 ^ (i + 1) ∧ D % 2 ^ (i + 1) = D % 2 ^ (i + 1) ∧ O % 2 ^ (i + 1) = O % 2 ^ (i + 1) from ⟨rfl, rfl, rfl⟩)
      generalize hz1 : U % 2 ^ (i + 1) = zu2 at pu lu hzz HZ
      generalize hz2 : D % 2 ^ (i + 1) = zd2 at pd ld hzz HZ
      generalize hz3 : O % 2 ^ (i + 1) = zo2 at po HZ
      replace HZ := Lib.hid (And.intro hz1 (And.intro hz2 hz3))
      clear hz1 hz2 hz3
      generalize U % 2 ^ i = zu at *
      generalize D % 2 ^ i = zd at *
      generalize O % 2 ^ i = zo at *
      obtain ⟨d, hdd⟩ : ∃ d, d = dgt 1 a i := ⟨_, rfl⟩
      rw [← hdd] at po d2
      have PO := Lib.hid po
      have hwo : IntKind.u64.wrap (1 - (d : Int)) = ((1 - d : Nat) : Int) := by rw [IntWalk.u64_in _ (by omega)]; omega
      have d3 : 1 - d < 2 := by omega
      replace hdd := hdd.symm
      by_cases hn : -256 < n ∧ n < 256
      · have ln1 := hn.1
        have ln2 := hn.2
        have hcu : (∃ p : Nat, IntKind.i64.wrap ((i : Int) - n) = (p : Int) ∧ (p : Int) < 256 ∧ p < 256 ∧ Hid (putw 1 zu i (dgt 1 a p) = zu2)) ∨ (∃ m : Int, IntKind.i64.wrap ((i : Int) - n) = m ∧ ¬ (0 : Int) ≤ m ∧ Hid (zu2 = zu)) ∨ (∃ m : Int, IntKind.i64.wrap ((i : Int) - n) = m ∧ (0 : Int) ≤ m ∧ ¬ m < 256 ∧ Hid (zu2 = zu)) := by
          have ew : IntKind.i64.wrap ((i : Int) - n) = (i : Int) - n := IntWalk.i64_in _ (by omega)
          by_cases c1 : 0 ≤ (i : Int) - n
          · by_cases c2 : (i : Int) - n < 256
            · refine .inl ⟨((i : Int) - n).toNat, by rw [ew]; omega, by omega, by omega, Lib.hid ?_⟩
              rw [← hu.1 hn c1 c2]; exact pu
            · exact .inr (.inr ⟨_, ew, c1, c2, Lib.hid (lu (hu.2.1 hn fun h => c2 h.2))⟩)
          · exact .inr (.inl ⟨_, ew, c1, Lib.hid (lu (hu.2.1 hn fun h => c1 h.1))⟩)
        have hcd : (∃ p : Nat, IntKind.i64.wrap ((i : Int) + n) = (p : Int) ∧ (p : Int) < 256 ∧ p < 256 ∧ Hid (putw 1 zd i (dgt 1 a p) = zd2)) ∨ (∃ m : Int, IntKind.i64.wrap ((i : Int) + n) = m ∧ ¬ (0 : Int) ≤ m ∧ Hid (zd2 = zd)) ∨ (∃ m : Int, IntKind.i64.wrap ((i : Int) + n) = m ∧ (0 : Int) ≤ m ∧ ¬ m < 256 ∧ Hid (zd2 = zd)) := by
          have ew : IntKind.i64.wrap ((i : Int) + n) = (i : Int) + n := IntWalk.i64_in _ (by omega)
          by_cases c1 : 0 ≤ (i : Int) + n
          · by_cases c2 : (i : Int) + n < 256
            · refine .inl ⟨((i : Int) + n).toNat, by rw [ew]; omega, by omega, by omega, Lib.hid ?_⟩
              rw [← hd.1 hn c1 c2]; exact pd
            · exact .inr (.inr ⟨_, ew, c1, c2, Lib.hid (ld (hd.2.1 hn fun h => c2 h.2))⟩)
          · exact .inr (.inl ⟨_, ew, c1, Lib.hid (ld (hd.2.1 hn fun h => c1 h.1))⟩)
        clear hu hd pu pd po lu ld hzz hn
        rcases hcu with ⟨pu, eu, lu1, lu2, PU⟩ | ⟨mu, eu, lu1, PU⟩ | ⟨mu, eu, lu1, lu2, PU⟩ <;> rcases hcd with ⟨pd, ed, ld1, ld2, PD⟩ | ⟨md, ed, ld1, PD⟩ | ⟨md, ed, ld1, ld2, PD⟩
        all_goals
          go_wp2_with fail
          go_roundw
          case rel =>
            refine ⟨i + 1, by omega, by go_num, ⟨?_, ?_, ?_, ?_⟩, ?_⟩
            · repeat rw [heap_setCell_ne' _ _ _ _ _ (by assumption)]
              exact rf
            · rw [HZ.out.1]
              try rw [heap_setCell_ne' _ _ _ _ _ nud]
              first
                | rw [heap_setCell_at, heap_setCell_ne' _ _ _ _ _ nuo, ru, withCell_cells, bit_set _ _ _ (bit_two _ _), PU.out]
                | (rw [heap_setCell_ne' _ _ _ _ _ nuo, PU.out]; exact ru)
            · rw [HZ.out.2.1]
              first
                | (rw [heap_setCell_at]; (try rw [heap_setCell_ne' _ _ _ _ _ ndu]); rw [heap_setCell_ne' _ _ _ _ _ ndo, rd, withCell_cells, bit_set _ _ _ (bit_two _ _), PD.out])
                | ((try rw [heap_setCell_ne' _ _ _ _ _ ndu]); rw [heap_setCell_ne' _ _ _ _ _ ndo, PD.out]; exact rd)
            · rw [HZ.out.2.2]
              try rw [heap_setCell_ne' _ _ _ _ _ nod]
              try rw [heap_setCell_ne' _ _ _ _ _ nou]
              rw [heap_setCell_at, ro, withCell_cells, bit_set _ _ _ d3, PO.out]
            · first
                | exact (((F.setCell (p := ⟨go, i, none⟩) (fun _ => .inr (.inr rfl)) _).setCell (p := ⟨gu, i, none⟩) (fun _ => .inl rfl) _).setCell (p := ⟨gd, i, none⟩) (fun _ => .inr (.inl rfl)) _)
                | exact ((F.setCell (p := ⟨go, i, none⟩) (fun _ => .inr (.inr rfl)) _).setCell (p := ⟨gu, i, none⟩) (fun _ => .inl rfl) _)
                | exact ((F.setCell (p := ⟨go, i, none⟩) (fun _ => .inr (.inr rfl)) _).setCell (p := ⟨gd, i, none⟩) (fun _ => .inr (.inl rfl)) _)
                | exact (F.setCell (p := ⟨go, i, none⟩) (fun _ => .inr (.inr rfl)) _)
          case measure => simp [intOf]; omega
      · have PU := Lib.hid (hzz hn).1
        have PD := Lib.hid (hzz hn).2
        have hcase : ¬ (-256 < n) ∨ (-256 < n ∧ ¬ n < 256) := by omega
        clear hu hd pu pd po lu ld hzz hn
        rcases hcase with ln1 | ⟨ln1, ln2⟩
        all_goals
          go_wp2_with fail
          go_roundw
          case rel =>
            refine ⟨i + 1, by omega, by go_num, ⟨?_, ?_, ?_, ?_⟩, F.setCell (p := ⟨go, i, none⟩) (fun _ => .inr (.inr rfl)) _⟩
            · rw [heap_setCell_ne' _ _ _ _ _ nfo]; exact rf
            · rw [HZ.out.1, heap_setCell_ne' _ _ _ _ _ nuo, PU.out]; exact ru
            · rw [HZ.out.2.1, heap_setCell_ne' _ _ _ _ _ ndo, PD.out]; exact rd
            · rw [HZ.out.2.2, heap_setCell_at, ro, withCell_cells, bit_set _ _ _ d3, PO.out]
          case measure => simp [intOf]; omega
    · obtain rfl : i = 256 := by omega
      rw [HL.out.1] at ru
      rw [HL.out.2.1] at rd
      rw [HL.out.2.2] at ro
      go_wp2_with fail
      exact hK.out ⟨⟨rf, ru, rd, ro⟩, F⟩
end Go.Proofs.Ytmebilpmhflahaa
