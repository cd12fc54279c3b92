import Derived.Test.YtkekdbnmeobgiaaZ6
import Derived.Test.YtkekdbnmeobgiaaZ1
import Derived.Deep.Cut
import Derived.Deep.CutBlock
import Derived.Test.YtkekdbnmeobgiaaZ4
import Derived.ProofKit
import Derived.Deep.Slices
import Derived.Deep.Fields
import Derived.OpenShut
import Derived.Below
/- Layer 18's law DuePlays: one thing more. -/
namespace Go.Proofs.Ytkekdbnmeobgiaa
set_option maxRecDepth 100000
set_option linter.unusedVariables false
set_option linter.unusedSimpArgs false
open Go.RowKit

set_option maxRecDepth 100000 in
set_option maxHeartbeats 16000000 in
theorem dp4a {s1 s2 s3 s4 s6 s9 s12 s13 s15 s16 s17 s18 s19 s20 s21 s22 s23 s24 s25 s26 s27 s28 s29 s30 s31 s32 s33 s34 s35 s36 s37 s38 s39 s40 s41 s42 s43 s44 s45 s46 s47 s48 s49 s50 s51 s52 s53 s54 s55 s56 s57 s58 s59 s60 s61 s62 s63 s64 s65 s66 s67 s68 s70 s71 s72 s73 s74 s75 s76 s77 s78 s79 s80 s81 s82 s83 s84 s85 s86 s87 s88 s89 s90 s91 s92 s93 s94 s95 s96 s97 s98 s99 s100 s101 s102 s103 s104 s105 s106 s107 s108 s109 s110 s111 s112 s113 s114 s115 s116 s117 s118 s119 s120 s121 s122 s123 s124 s125 s126 s127 s128 s129 s130 s131 s132 s133 s134 s135 s136 s137 s138 s139 s140 s141 s142 s143 s144 s145 s146 s147 s148 s149 s150 s151 s152 s153 s154 s155 s156 s157 s158 s159 s160 s161 s162 s163 s164 s165 s166 s167 s168 s169 s170 s171 s172 s173 s174 s175 s176 s177 s178 s179 s180 s181 s182 s183 s184 s185 s186 s187 s188 s189 s190 s191 s192 s193 s194 s195 s196 s197 s198 s199 s200 s201 s202 s203 s204 s205 s206 s207 s208 s209 s210 s211 s212 s213 s214 s215 s216 s217 s218 s219 s220 s221 s222 s223 s224 s225 s226 s227 s228 s229 s230 s231 s232 s233 s234 s235 s236 s237 s238 s239 s240 : Value} {K : Act → World → Prop} {Q : Exit → Act → World → Prop} (B p most last g10 id at_ : Nat) (x : ByteArray) (v : Value) (am : Option Addr) (nm cm : Nat) (L : List Ro) (b : Option Nat) (w : World) (r10 : w.heap[g10]? = some (.cells #[.int .i64 0, .int .u64 (id : Int), .int .u64 (at_ : Int), .string x] 40 (0, 0))) (hP : PSt B w p most last v (.slice am nm cm) L) (hB : B ≤ w.heap.size) (hlast : last < 1000000) (h10 : B ≤ g10 ∧ g10 ≠ p ∧ v.ownBlock ≠ some g10)
    (hK : RowKit.Hid (∀ {u4 u7 u8 u14 u15 u16 u70 u71 u72 u73 u74 u75 u76 u77 u78 u79 u80 u81 u82 u83 u84 u85 u86 u87 u88 u89 u90 u91 u92 u93 u94 u95 u96 u97 u98 u99 u100 u101 u102 u103 u104 u105 u106 u107 u108 u109 u110 u111 u112 u113 u114 u115 u116 u117 u118 u119 u120 u121 u122 u123 u124 u125 u126 u127 u128 u129 u130 u131 u132 u133 u134 u135 u136 u137 u138 u139 u140 u141 u142 u143 u144 u145 u146 u147 u148 u149 u150 u151 u152 u153 u154 u155 u156 u157 u158 u159 u160 u161 u162 u163 u164 u165 u166 u167 u168 u169 u170 u171 u172 u173 u174 u175 u176 u177 u178 u179 u180 u181 u182 u183 u184 u185 u186 u187 u188 u189 u190 u191 u192 u193 u194 u195 u196 u197 u198 u199 u200 u201 : Value} {w' : World}, (∃ last' v' a' n' c' L', u7 = .slice a' n' c' ∧ u8 = .int .u64 ((last' : Nat) : Int) ∧ last' ≤ last + 1 ∧ PSt B w' p most last' v' (.slice a' n' c') L' ∧ Fr (fun k => B ≤ k) w w') → K ⟨#[.int .i64 (most : Int), s1, s2, s3, u4, .pointer (some ⟨p, 0, none⟩), s6, u7, u8, s9, .pointer (some ⟨g10, 0, none⟩), .int .i64 (bz b), s12, s13, u14, u15, u16, s17, s18, s19, s20, s21, s22, s23, s24, s25, s26, s27, s28, s29, s30, s31, s32, s33, s34, s35, s36, s37, s38, s39, s40, s41, s42, s43, s44, s45, s46, s47, s48, s49, s50, s51, s52, s53, s54, s55, s56, s57, s58, s59, s60, s61, s62, s63, s64, s65, s66, s67, s68, .int .i64 0, u70, u71, u72, u73, u74, u75, u76, u77, u78, u79, u80, u81, u82, u83, u84, u85, u86, u87, u88, u89, u90, u91, u92, u93, u94, u95, u96, u97, u98, u99, u100, u101, u102, u103, u104, u105, u106, u107, u108, u109, u110, u111, u112, u113, u114, u115, u116, u117, u118, u119, u120, u121, u122, u123, u124, u125, u126, u127, u128, u129, u130, u131, u132, u133, u134, u135, u136, u137, u138, u139, u140, u141, u142, u143, u144, u145, u146, u147, u148, u149, u150, u151, u152, u153, u154, u155, u156, u157, u158, u159, u160, u161, u162, u163, u164, u165, u166, u167, u168, u169, u170, u171, u172, u173, u174, u175, u176, u177, u178, u179, u180, u181, u182, u183, u184, u185, u186, u187, u188, u189, u190, u191, u192, u193, u194, u195, u196, u197, u198, u199, u200, u201, s202, s203, s204, s205, s206, s207, s208, s209, s210, s211, s212, s213, s214, s215, s216, s217, s218, s219, s220, s221, s222, s223, s224, s225, s226, s227, s228, s229, s230, s231, s232, s233, s234, s235, s236, s237, s238, s239, s240], []⟩ w')) :
    Code.wp Try.prog ((((Try.f4.body.bind (findBlock 4)).getD .skip))) (Exit.then K Q) ⟨#[.int .i64 (most : Int), s1, s2, s3, s4, .pointer (some ⟨p, 0, none⟩), s6, .slice am nm cm, .int .u64 (last : Int), s9, .pointer (some ⟨g10, 0, none⟩), .int .i64 (bz b), s12, s13, .int .i64 0, s15, s16, s17, s18, s19, s20, s21, s22, s23, s24, s25, s26, s27, s28, s29, s30, s31, s32, s33, s34, s35, s36, s37, s38, s39, s40, s41, s42, s43, s44, s45, s46, s47, s48, s49, s50, s51, s52, s53, s54, s55, s56, s57, s58, s59, s60, s61, s62, s63, s64, s65, s66, s67, s68, .int .i64 0, s70, s71, s72, s73, s74, s75, s76, s77, s78, s79, s80, s81, s82, s83, s84, s85, s86, s87, s88, s89, s90, s91, s92, s93, s94, s95, s96, s97, s98, s99, s100, s101, s102, s103, s104, s105, s106, s107, s108, s109, s110, s111, s112, s113, s114, s115, s116, s117, s118, s119, s120, s121, s122, s123, s124, s125, s126, s127, s128, s129, s130, s131, s132, s133, s134, s135, s136, s137, s138, s139, s140, s141, s142, s143, s144, s145, s146, s147, s148, s149, s150, s151, s152, s153, s154, s155, s156, s157, s158, s159, s160, s161, s162, s163, s164, s165, s166, s167, s168, s169, s170, s171, s172, s173, s174, s175, s176, s177, s178, s179, s180, s181, s182, s183, s184, s185, s186, s187, s188, s189, s190, s191, s192, s193, s194, s195, s196, s197, s198, s199, s200, s201, s202, s203, s204, s205, s206, s207, s208, s209, s210, s211, s212, s213, s214, s215, s216, s217, s218, s219, s220, s221, s222, s223, s224, s225, s226, s227, s228, s229, s230, s231, s232, s233, s234, s235, s236, s237, s238, s239, s240], []⟩ w := by
  conv => arg 2; whnf
  have hn := hP.lst.len
  have hll := hP.tab.l256
  have hm := hP.tab.most1
  have HP := Lib.hid hP
  replace hn := Lib.hid hn
  have hz : last = 0 ∨ (((0 : Int) == (last : Int)) = false ∧ (0 == last) = false) := by
    by_cases h : last = 0
    · exact .inl h
    · exact .inr ⟨beq_eq_false_iff_ne.2 (by omega), beq_eq_false_iff_ne.2 (by omega)⟩
  by_cases h1 : 1099511627776 < at_
  · have l1 : (1099511627776 : Int) < (at_ : Int) := by omega
    have HA := Lib.hid (dAdd_arg hP.tab x at_ h1)
    clear hP h1 hm hll h10
    rcases hz with rfl | ⟨z1, z2⟩
    · go_wp2_with fail
      (with_reducible refine HA.out.mono ?_); rintro e w1 ⟨rfl, hw⟩; replace hw := hw.symm; subst hw
      go_wp2_with fail
      exact hK.out ⟨0, v, _, _, _, L, rfl, rfl, by omega, HP.out, Fr.refl _ _⟩
    · go_wp2_with fail
      (with_reducible refine HA.out.mono ?_); rintro e w1 ⟨rfl, hw⟩; replace hw := hw.symm; subst hw
      go_wp2_with fail
      exact hK.out ⟨last, v, _, _, _, L, rfl, rfl, by omega, HP.out, Fr.refl _ _⟩
  · have l1 : ¬ (1099511627776 : Int) < (at_ : Int) := by omega
    by_cases h2 : L.length = most
    · have HA := Lib.hid (dAdd_full hP.tab h2 x at_ (by omega))
      have l2 : (most : Int) ≤ (nm : Int) := by have := hn.out; omega
      clear hP h1 hm hll h10 h2
      rcases hz with rfl | ⟨z1, z2⟩
      · go_wp2_with fail
        (with_reducible refine HA.out.mono ?_); rintro e w1 ⟨rfl, f1⟩
        replace r10 := keep_fr f1 r10
        have F1 := Lib.hid f1
        clear f1 HA
        go_wp2_with fail
        exact hK.out ⟨0, v, _, _, _, L, rfl, rfl, by omega, HP.out.fr0 F1.out, F1.out.of0⟩
      · go_wp2_with fail
        (with_reducible refine HA.out.mono ?_); rintro e w1 ⟨rfl, f1⟩
        replace r10 := keep_fr f1 r10
        have F1 := Lib.hid f1
        clear f1 HA
        go_wp2_with fail
        exact hK.out ⟨last, v, _, _, _, L, rfl, rfl, by omega, HP.out.fr0 F1.out, F1.out.of0⟩
    · have h3 : L.length < most := by have := hP.tab.len; omega
      have HA := Lib.hid (dAdd_ok hP.tab hB h3 hlast x at_ (by omega))
      have l2 : ¬ (most : Int) ≤ (nm : Int) := by have := hn.out; omega
      have hl5 : L.length ≤ 10000 := by omega
      have H10 := Lib.hid (And.intro h10 (And.intro hB hl5))
      clear hP h1 hm hll h10 h2 h3 hl5 hz
      obtain ⟨la, hla⟩ : ∃ la, last + 1 = la := ⟨_, rfl⟩
      rw [hla] at HA
      have k1 : IntKind.u64.wrap ((last : Int) + 1) = (la : Int) := by rw [IntWalk.u64_in _ (by omega)]; omega
      have p1 : (0 : Int) < (la : Int) := by omega
      replace hla := Lib.hid hla
      go_wp2_with fail
      (with_reducible refine HA.out.mono ?_); rintro e w1 ⟨rfl, v1, d1, f1, b1⟩
      replace r10 := f1.keeps (fun e => by
        rcases e with e | e
        · exact H10.out.1.2.1 e
        · exact H10.out.1.2.2 e) r10
      have o1 := HP.out.lst.frS f1 HP.out.off
      obtain ⟨a2, n2, c2, w2, happ, o2, f2⟩ := OwnT.app1 o1 ⟨la, at_, x⟩ (Nat.le_trans H10.out.2.1 f1.size) H10.out.2.2 38
      have nb1 : ∀ k, v1.ownBlock = some k → ¬ (Value.slice am nm cm).ownBlock = some k := fun k hk e => by
        obtain ⟨cur, hc⟩ := o1.kind e
        exact d1.own.other hc (by decide) hk
      have d2 := d1.frS f2 (fun e => by
        obtain ⟨cur, hc⟩ := o1.kind e
        rw [d1.at_] at hc
        simp only [Option.some.injEq, Obj.cells.injEq] at hc
        exact absurd hc.2.1 (by decide)) nb1
      have HZ := Lib.hid (And.intro (show PSt B w2 p most la v1 (.slice a2 n2 c2) (L ++ [⟨la, at_, x⟩]) from ⟨d2, o2⟩) ((frB_tab HP.out f1).trans' (f2.mono fun k _ e => HP.out.lst.blk k e)))
      clear d1 f1 b1 o1 o2 f2 nb1 d2 HA
      go_wp2_with fail
      all_goals exact hK.out ⟨la, v1, _, _, _, _, rfl, rfl, by have := hla.out; omega, HZ.out.1, HZ.out.2⟩
end Go.Proofs.Ytkekdbnmeobgiaa

/- Layer 18's law DuePlays: one goes; another thing has the number. -/
namespace Go.Proofs.Ytkekdbnmeobgiaa
set_option maxRecDepth 100000
set_option linter.unusedVariables false
set_option linter.unusedSimpArgs false
open Go.RowKit

theorem Fnd.no {L : List Ro} {id : Nat} (h : Fnd L id L.length none) : ∀ r ∈ L, r.id ≠ id := fun r hr => by
  obtain ⟨i, hi, e⟩ := List.mem_iff_getElem.1 hr
  exact h i hi r (by rw [List.getElem?_eq_getElem hi, e])
section
variable {B : Nat} {w w' : World} {p most last : Nat} {v vm : Value} {L : List Ro}
/-- A change of the table leaves the list, and a box. -/
theorem PSt.lst_tab (h : PSt B w p most last v vm L) (f : Fr (fun k => k = p ∨ v.ownBlock = some k) w w') : OwnT B w' vm L := h.lst.frS f h.off
theorem keep_tab {g : Nat} {o : Obj} (f : Fr (fun k => k = p ∨ v.ownBlock = some k) w w') (h : g ≠ p ∧ v.ownBlock ≠ some g) (hg : w.heap[g]? = some o) : w'.heap[g]? = some o := f.keeps (fun e => e.elim h.1 h.2) hg
end

set_option maxRecDepth 100000 in
set_option maxHeartbeats 16000000 in
theorem dp4b {s1 s2 s3 s4 s6 s9 s12 s13 s15 s16 s17 s18 s19 s20 s21 s22 s23 s24 s25 s26 s27 s28 s29 s30 s31 s32 s33 s34 s35 s36 s37 s38 s39 s40 s41 s42 s43 s44 s45 s46 s47 s48 s49 s50 s51 s52 s53 s54 s55 s56 s57 s58 s59 s60 s61 s62 s63 s64 s65 s66 s67 s68 s70 s71 s72 s73 s74 s75 s76 s77 s78 s79 s80 s81 s82 s83 s84 s85 s86 s87 s88 s89 s90 s91 s92 s93 s94 s95 s96 s97 s98 s99 s100 s101 s102 s103 s104 s105 s106 s107 s108 s109 s110 s111 s112 s113 s114 s115 s116 s117 s118 s119 s120 s121 s122 s123 s124 s125 s126 s127 s128 s129 s130 s131 s132 s133 s134 s135 s136 s137 s138 s139 s140 s141 s142 s143 s144 s145 s146 s147 s148 s149 s150 s151 s152 s153 s154 s155 s156 s157 s158 s159 s160 s161 s162 s163 s164 s165 s166 s167 s168 s169 s170 s171 s172 s173 s174 s175 s176 s177 s178 s179 s180 s181 s182 s183 s184 s185 s186 s187 s188 s189 s190 s191 s192 s193 s194 s195 s196 s197 s198 s199 s200 s201 s202 s203 s204 s205 s206 s207 s208 s209 s210 s211 s212 s213 s214 s215 s216 s217 s218 s219 s220 s221 s222 s223 s224 s225 s226 s227 s228 s229 s230 s231 s232 s233 s234 s235 s236 s237 s238 s239 s240 : Value} {K : Act → World → Prop} {Q : Exit → Act → World → Prop} (B p most last g10 id at_ : Nat) (x : ByteArray) (v : Value) (am : Option Addr) (nm cm : Nat) (L : List Ro) (b : Option Nat) (w : World) (r10 : w.heap[g10]? = some (.cells #[.int .i64 1, .int .u64 (id : Int), .int .u64 (at_ : Int), .string x] 40 (0, 0))) (hP : PSt B w p most last v (.slice am nm cm) L) (hB : B ≤ w.heap.size) (hb : Fnd L id L.length b) (h10 : B ≤ g10 ∧ g10 ≠ p ∧ v.ownBlock ≠ some g10)
    (hK : RowKit.Hid (∀ {u4 u7 u8 u14 u15 u16 u70 u71 u72 u73 u74 u75 u76 u77 u78 u79 u80 u81 u82 u83 u84 u85 u86 u87 u88 u89 u90 u91 u92 u93 u94 u95 u96 u97 u98 u99 u100 u101 u102 u103 u104 u105 u106 u107 u108 u109 u110 u111 u112 u113 u114 u115 u116 u117 u118 u119 u120 u121 u122 u123 u124 u125 u126 u127 u128 u129 u130 u131 u132 u133 u134 u135 u136 u137 u138 u139 u140 u141 u142 u143 u144 u145 u146 u147 u148 u149 u150 u151 u152 u153 u154 u155 u156 u157 u158 u159 u160 u161 u162 u163 u164 u165 u166 u167 u168 u169 u170 u171 u172 u173 u174 u175 u176 u177 u178 u179 u180 u181 u182 u183 u184 u185 u186 u187 u188 u189 u190 u191 u192 u193 u194 u195 u196 u197 u198 u199 u200 u201 : Value} {w' : World}, (∃ last' v' a' n' c' L', u7 = .slice a' n' c' ∧ u8 = .int .u64 ((last' : Nat) : Int) ∧ last' ≤ last + 1 ∧ PSt B w' p most last' v' (.slice a' n' c') L' ∧ Fr (fun k => B ≤ k) w w') → K ⟨#[.int .i64 (most : Int), s1, s2, s3, u4, .pointer (some ⟨p, 0, none⟩), s6, u7, u8, s9, .pointer (some ⟨g10, 0, none⟩), .int .i64 (bz b), s12, s13, u14, u15, u16, s17, s18, s19, s20, s21, s22, s23, s24, s25, s26, s27, s28, s29, s30, s31, s32, s33, s34, s35, s36, s37, s38, s39, s40, s41, s42, s43, s44, s45, s46, s47, s48, s49, s50, s51, s52, s53, s54, s55, s56, s57, s58, s59, s60, s61, s62, s63, s64, s65, s66, s67, s68, .int .i64 1, u70, u71, u72, u73, u74, u75, u76, u77, u78, u79, u80, u81, u82, u83, u84, u85, u86, u87, u88, u89, u90, u91, u92, u93, u94, u95, u96, u97, u98, u99, u100, u101, u102, u103, u104, u105, u106, u107, u108, u109, u110, u111, u112, u113, u114, u115, u116, u117, u118, u119, u120, u121, u122, u123, u124, u125, u126, u127, u128, u129, u130, u131, u132, u133, u134, u135, u136, u137, u138, u139, u140, u141, u142, u143, u144, u145, u146, u147, u148, u149, u150, u151, u152, u153, u154, u155, u156, u157, u158, u159, u160, u161, u162, u163, u164, u165, u166, u167, u168, u169, u170, u171, u172, u173, u174, u175, u176, u177, u178, u179, u180, u181, u182, u183, u184, u185, u186, u187, u188, u189, u190, u191, u192, u193, u194, u195, u196, u197, u198, u199, u200, u201, s202, s203, s204, s205, s206, s207, s208, s209, s210, s211, s212, s213, s214, s215, s216, s217, s218, s219, s220, s221, s222, s223, s224, s225, s226, s227, s228, s229, s230, s231, s232, s233, s234, s235, s236, s237, s238, s239, s240], []⟩ w')) :
    Code.wp Try.prog ((((Try.f4.body.bind (findBlock 4)).getD .skip))) (Exit.then K Q) ⟨#[.int .i64 (most : Int), s1, s2, s3, s4, .pointer (some ⟨p, 0, none⟩), s6, .slice am nm cm, .int .u64 (last : Int), s9, .pointer (some ⟨g10, 0, none⟩), .int .i64 (bz b), s12, s13, .int .i64 0, s15, s16, s17, s18, s19, s20, s21, s22, s23, s24, s25, s26, s27, s28, s29, s30, s31, s32, s33, s34, s35, s36, s37, s38, s39, s40, s41, s42, s43, s44, s45, s46, s47, s48, s49, s50, s51, s52, s53, s54, s55, s56, s57, s58, s59, s60, s61, s62, s63, s64, s65, s66, s67, s68, .int .i64 1, s70, s71, s72, s73, s74, s75, s76, s77, s78, s79, s80, s81, s82, s83, s84, s85, s86, s87, s88, s89, s90, s91, s92, s93, s94, s95, s96, s97, s98, s99, s100, s101, s102, s103, s104, s105, s106, s107, s108, s109, s110, s111, s112, s113, s114, s115, s116, s117, s118, s119, s120, s121, s122, s123, s124, s125, s126, s127, s128, s129, s130, s131, s132, s133, s134, s135, s136, s137, s138, s139, s140, s141, s142, s143, s144, s145, s146, s147, s148, s149, s150, s151, s152, s153, s154, s155, s156, s157, s158, s159, s160, s161, s162, s163, s164, s165, s166, s167, s168, s169, s170, s171, s172, s173, s174, s175, s176, s177, s178, s179, s180, s181, s182, s183, s184, s185, s186, s187, s188, s189, s190, s191, s192, s193, s194, s195, s196, s197, s198, s199, s200, s201, s202, s203, s204, s205, s206, s207, s208, s209, s210, s211, s212, s213, s214, s215, s216, s217, s218, s219, s220, s221, s222, s223, s224, s225, s226, s227, s228, s229, s230, s231, s232, s233, s234, s235, s236, s237, s238, s239, s240], []⟩ w := by
  conv => arg 2; whnf
  have hn := hP.lst.len
  have hll := hP.tab.l256
  have HP := Lib.hid hP
  cases b with
  | none =>
    have b1 : bz none = -1 := rfl
    rw [b1]
    have HD := Lib.hid (dDrop_no hP.tab hb.no)
    clear hP hn hll hb h10
    go_wp2_with fail
    (with_reducible refine HD.out.mono ?_); rintro e w1 ⟨rfl, f1⟩
    have F1 := Lib.hid f1
    clear f1 HD
    go_wp2_with fail
    exact hK.out ⟨last, v, _, _, _, L, rfl, rfl, by omega, HP.out.fr0 F1.out, F1.out.of0⟩
  | some j =>
    have b1 : bz (some j) = (j : Int) := rfl
    rw [b1]
    obtain ⟨hj, r, hr⟩ := hb
    have hjn : j < nm := by omega
    have HD := Lib.hid (dDrop_yes hP.tab hr)
    obtain ⟨gm, rfl⟩ := OwnE.place1 hP.lst hjn
    have hcm : nm ≤ cm := (Sl.of_own hP.lst.own).2.room
    obtain ⟨j1, hj1⟩ : ∃ j1, j + 1 = j1 := ⟨_, rfl⟩
    obtain ⟨o, ho⟩ : ∃ o, o = if cm = j1 then 0 else j1 * 3 := ⟨_, rfl⟩
    have k1 : IntKind.i64.wrap ((j : Int) + 1) = (j1 : Int) := by rw [IntWalk.i64_in _ (by omega)]; omega
    have g1 : j ≤ cm := by omega
    have g2 : j1 ≤ cm := by omega
    have g3 : j1 ≤ nm := by omega
    have HN := Lib.hid (And.intro hn (And.intro hll (And.intro hj1 hB)))
    have H10 := Lib.hid h10
    clear hP hn hll hj1 h10 hr hB
    go_wp2_with fail
    (with_reducible refine HD.out.mono ?_); rintro e w1 ⟨rfl, v1, d1, f1, b1⟩
    replace r10 := keep_tab f1 H10.out.2 r10
    have o1 := HP.out.lst_tab f1
    obtain ⟨a6, n6, c6, w6, a7, n7, c7, w7, r6, r7, o7, f7⟩ := OwnT.erase (o1.fr0 (Fr.refl F0 w1).drew) HN.out.2.2.1 hjn (by have := HN.out; omega) ho 38 38
    replace r6 : (appTh 38 #[.slice (some ⟨w1.heap.size, 0, none⟩) 0 0, .slice (some ⟨gm, 0, none⟩) j cm]).run Try.prog (w1.alloc (.cells #[] 42)).drew = .ok (.slice a6 n6 c6) w6 := r6
    have F7 : Fr F0 w1 w7 := (Fr.refl F0 w1).drew.trans' f7
    have HZ := Lib.hid (And.intro (show PSt B w7 p most last v1 (.slice a7 n7 c7) (L.eraseIdx j) from ⟨d1.fr0 F7, o7.mono (Nat.le_trans HN.out.2.2.2 f1.size)⟩) ((frB_tab HP.out f1).trans' F7.of0))
    clear d1 f1 b1 o1 o7 f7 F7 HD
    by_cases hc : cm = j1
    · obtain rfl : o = 0 := by rw [ho, if_pos hc]
      clear ho
      subst hc
      rw [Nat.sub_self, show nm - cm = 0 by omega] at r7
      go_upto_region 38 with fail
      refine rbegin (S := (fun _ => True)) ?_ fun hHeld => ?_
      · ((try dsimp only) <;> (trivial))
      refine rtake 1 ?_
      refine rtake 2 ?_
      refine rtake 3 ?_
      refine rtake 5 ?_
      refine rtake 6 ?_
      refine rtake 7 ?_
      refine rtake 8 ?_
      refine rone 0 fun K hK => ?_
      go_simp
      refine hK.out _ _ ?_ (fun hHeld => ?_)
      · ((try dsimp only) <;> (trivial))
      clear hK K
      try (simp only [Act.put, aST]; dsimp only [aS0, aS1])
      refine rone 4 fun K hK => ?_
      go_simp
      refine hK.out _ _ ?_ (fun hHeld => ?_)
      · ((try dsimp only) <;> (trivial))
      clear hK K
      try (simp only [Act.put, aST]; dsimp only [aS0, aS1])
      refine rone 9 fun K hK => ?_
      go_simp
      refine hK.out _ _ ?_ (fun hHeld => ?_)
      · ((try dsimp only) <;> (trivial))
      clear hK K
      try (simp only [Act.put, aST]; dsimp only [aS0, aS1])
      refine rtake 10 ?_
      refine rdone ?_
      go_wp2_with fail
      exact hK.out ⟨last, v1, _, _, _, _, rfl, rfl, by omega, HZ.out.1, HZ.out.2⟩
    · obtain rfl : o = j1 * 3 := by rw [ho, if_neg hc]
      clear ho
      go_upto_region 38 with fail
      refine rbegin (S := (fun _ => True)) ?_ fun hHeld => ?_
      · ((try dsimp only) <;> (trivial))
      refine rtake 1 ?_
      refine rtake 2 ?_
      refine rtake 3 ?_
      refine rtake 5 ?_
      refine rtake 6 ?_
      refine rtake 7 ?_
      refine rtake 8 ?_
      refine rone 0 fun K hK => ?_
      go_simp
      refine hK.out _ _ ?_ (fun hHeld => ?_)
      · ((try dsimp only) <;> (trivial))
      clear hK K
      try (simp only [Act.put, aST]; dsimp only [aS0, aS1])
      refine rone 4 fun K hK => ?_
      go_simp
      refine hK.out _ _ ?_ (fun hHeld => ?_)
      · ((try dsimp only) <;> (trivial))
      clear hK K
      try (simp only [Act.put, aST]; dsimp only [aS0, aS1])
      refine rone 9 fun K hK => ?_
      go_simp
      refine hK.out _ _ ?_ (fun hHeld => ?_)
      · ((try dsimp only) <;> (trivial))
      clear hK K
      try (simp only [Act.put, aST]; dsimp only [aS0, aS1])
      refine rtake 10 ?_
      refine rdone ?_
      go_wp2_with fail
      exact hK.out ⟨last, v1, _, _, _, _, rfl, rfl, by omega, HZ.out.1, HZ.out.2⟩

set_option maxRecDepth 100000 in
set_option maxHeartbeats 16000000 in
theorem dp4c {s1 s2 s3 s4 s6 s9 s12 s13 s15 s16 s17 s18 s19 s20 s21 s22 s23 s24 s25 s26 s27 s28 s29 s30 s31 s32 s33 s34 s35 s36 s37 s38 s39 s40 s41 s42 s43 s44 s45 s46 s47 s48 s49 s50 s51 s52 s53 s54 s55 s56 s57 s58 s59 s60 s61 s62 s63 s64 s65 s66 s67 s68 s70 s71 s72 s73 s74 s75 s76 s77 s78 s79 s80 s81 s82 s83 s84 s85 s86 s87 s88 s89 s90 s91 s92 s93 s94 s95 s96 s97 s98 s99 s100 s101 s102 s103 s104 s105 s106 s107 s108 s109 s110 s111 s112 s113 s114 s115 s116 s117 s118 s119 s120 s121 s122 s123 s124 s125 s126 s127 s128 s129 s130 s131 s132 s133 s134 s135 s136 s137 s138 s139 s140 s141 s142 s143 s144 s145 s146 s147 s148 s149 s150 s151 s152 s153 s154 s155 s156 s157 s158 s159 s160 s161 s162 s163 s164 s165 s166 s167 s168 s169 s170 s171 s172 s173 s174 s175 s176 s177 s178 s179 s180 s181 s182 s183 s184 s185 s186 s187 s188 s189 s190 s191 s192 s193 s194 s195 s196 s197 s198 s199 s200 s201 s202 s203 s204 s205 s206 s207 s208 s209 s210 s211 s212 s213 s214 s215 s216 s217 s218 s219 s220 s221 s222 s223 s224 s225 s226 s227 s228 s229 s230 s231 s232 s233 s234 s235 s236 s237 s238 s239 s240 : Value} {K : Act → World → Prop} {Q : Exit → Act → World → Prop} (B p most last g10 id at_ : Nat) (x : ByteArray) (v : Value) (am : Option Addr) (nm cm : Nat) (L : List Ro) (b : Option Nat) (w : World) (r10 : w.heap[g10]? = some (.cells #[.int .i64 2, .int .u64 (id : Int), .int .u64 (at_ : Int), .string x] 40 (0, 0))) (hP : PSt B w p most last v (.slice am nm cm) L) (hB : B ≤ w.heap.size) (hb : Fnd L id L.length b) (h10 : B ≤ g10 ∧ g10 ≠ p ∧ v.ownBlock ≠ some g10)
    (hK : RowKit.Hid (∀ {u4 u7 u8 u14 u15 u16 u70 u71 u72 u73 u74 u75 u76 u77 u78 u79 u80 u81 u82 u83 u84 u85 u86 u87 u88 u89 u90 u91 u92 u93 u94 u95 u96 u97 u98 u99 u100 u101 u102 u103 u104 u105 u106 u107 u108 u109 u110 u111 u112 u113 u114 u115 u116 u117 u118 u119 u120 u121 u122 u123 u124 u125 u126 u127 u128 u129 u130 u131 u132 u133 u134 u135 u136 u137 u138 u139 u140 u141 u142 u143 u144 u145 u146 u147 u148 u149 u150 u151 u152 u153 u154 u155 u156 u157 u158 u159 u160 u161 u162 u163 u164 u165 u166 u167 u168 u169 u170 u171 u172 u173 u174 u175 u176 u177 u178 u179 u180 u181 u182 u183 u184 u185 u186 u187 u188 u189 u190 u191 u192 u193 u194 u195 u196 u197 u198 u199 u200 u201 : Value} {w' : World}, (∃ last' v' a' n' c' L', u7 = .slice a' n' c' ∧ u8 = .int .u64 ((last' : Nat) : Int) ∧ last' ≤ last + 1 ∧ PSt B w' p most last' v' (.slice a' n' c') L' ∧ Fr (fun k => B ≤ k) w w') → K ⟨#[.int .i64 (most : Int), s1, s2, s3, u4, .pointer (some ⟨p, 0, none⟩), s6, u7, u8, s9, .pointer (some ⟨g10, 0, none⟩), .int .i64 (bz b), s12, s13, u14, u15, u16, s17, s18, s19, s20, s21, s22, s23, s24, s25, s26, s27, s28, s29, s30, s31, s32, s33, s34, s35, s36, s37, s38, s39, s40, s41, s42, s43, s44, s45, s46, s47, s48, s49, s50, s51, s52, s53, s54, s55, s56, s57, s58, s59, s60, s61, s62, s63, s64, s65, s66, s67, s68, .int .i64 2, u70, u71, u72, u73, u74, u75, u76, u77, u78, u79, u80, u81, u82, u83, u84, u85, u86, u87, u88, u89, u90, u91, u92, u93, u94, u95, u96, u97, u98, u99, u100, u101, u102, u103, u104, u105, u106, u107, u108, u109, u110, u111, u112, u113, u114, u115, u116, u117, u118, u119, u120, u121, u122, u123, u124, u125, u126, u127, u128, u129, u130, u131, u132, u133, u134, u135, u136, u137, u138, u139, u140, u141, u142, u143, u144, u145, u146, u147, u148, u149, u150, u151, u152, u153, u154, u155, u156, u157, u158, u159, u160, u161, u162, u163, u164, u165, u166, u167, u168, u169, u170, u171, u172, u173, u174, u175, u176, u177, u178, u179, u180, u181, u182, u183, u184, u185, u186, u187, u188, u189, u190, u191, u192, u193, u194, u195, u196, u197, u198, u199, u200, u201, s202, s203, s204, s205, s206, s207, s208, s209, s210, s211, s212, s213, s214, s215, s216, s217, s218, s219, s220, s221, s222, s223, s224, s225, s226, s227, s228, s229, s230, s231, s232, s233, s234, s235, s236, s237, s238, s239, s240], []⟩ w')) :
    Code.wp Try.prog ((((Try.f4.body.bind (findBlock 4)).getD .skip))) (Exit.then K Q) ⟨#[.int .i64 (most : Int), s1, s2, s3, s4, .pointer (some ⟨p, 0, none⟩), s6, .slice am nm cm, .int .u64 (last : Int), s9, .pointer (some ⟨g10, 0, none⟩), .int .i64 (bz b), s12, s13, .int .i64 0, s15, s16, s17, s18, s19, s20, s21, s22, s23, s24, s25, s26, s27, s28, s29, s30, s31, s32, s33, s34, s35, s36, s37, s38, s39, s40, s41, s42, s43, s44, s45, s46, s47, s48, s49, s50, s51, s52, s53, s54, s55, s56, s57, s58, s59, s60, s61, s62, s63, s64, s65, s66, s67, s68, .int .i64 2, s70, s71, s72, s73, s74, s75, s76, s77, s78, s79, s80, s81, s82, s83, s84, s85, s86, s87, s88, s89, s90, s91, s92, s93, s94, s95, s96, s97, s98, s99, s100, s101, s102, s103, s104, s105, s106, s107, s108, s109, s110, s111, s112, s113, s114, s115, s116, s117, s118, s119, s120, s121, s122, s123, s124, s125, s126, s127, s128, s129, s130, s131, s132, s133, s134, s135, s136, s137, s138, s139, s140, s141, s142, s143, s144, s145, s146, s147, s148, s149, s150, s151, s152, s153, s154, s155, s156, s157, s158, s159, s160, s161, s162, s163, s164, s165, s166, s167, s168, s169, s170, s171, s172, s173, s174, s175, s176, s177, s178, s179, s180, s181, s182, s183, s184, s185, s186, s187, s188, s189, s190, s191, s192, s193, s194, s195, s196, s197, s198, s199, s200, s201, s202, s203, s204, s205, s206, s207, s208, s209, s210, s211, s212, s213, s214, s215, s216, s217, s218, s219, s220, s221, s222, s223, s224, s225, s226, s227, s228, s229, s230, s231, s232, s233, s234, s235, s236, s237, s238, s239, s240], []⟩ w := by
  conv => arg 2; whnf
  have hn := hP.lst.len
  have HP := Lib.hid hP
  cases b with
  | none =>
    have b1 : bz none = -1 := rfl
    rw [b1]
    have HD := Lib.hid (dSet_no hP.tab hb.no x)
    clear hP hn hb h10
    go_wp2_with fail
    (with_reducible refine HD.out.mono ?_); rintro e w1 ⟨rfl, f1⟩
    have F1 := Lib.hid f1
    clear f1 HD
    go_wp2_with fail
    exact hK.out ⟨last, v, _, _, _, L, rfl, rfl, by omega, HP.out.fr0 F1.out, F1.out.of0⟩
  | some j =>
    have b1 : bz (some j) = (j : Int) := rfl
    rw [b1]
    obtain ⟨hj, r, hr⟩ := hb
    have hjn : j < nm := by omega
    have HD := Lib.hid (dSet_yes hP.tab hr x)
    obtain ⟨gm, rfl⟩ := OwnE.place1 hP.lst hjn
    have HN := Lib.hid (And.intro hj hr)
    have H10 := Lib.hid h10
    clear hP hn hj hr h10 hB
    go_wp2_with fail
    (with_reducible refine HD.out.mono ?_); rintro e w1 ⟨rfl, d1, f1⟩
    replace f1 : Fr (fun k => k = p ∨ v.ownBlock = some k) w w1 := f1.mono fun k _ e => .inr e
    replace r10 := keep_tab f1 H10.out.2 r10
    have o1 := HP.out.lst_tab f1
    have c2 : Obj.cellAt (j * 3 + 2) w1.heap[gm]? = some (.string r.x) := OwnT.cell o1 j 2 r _ HN.out.2.1 rfl
    have hz : Obj.frozenAt (j * 3 + 2) w1.heap[gm]? = false := by
      obtain ⟨cur, hc⟩ := o1.kind (k := gm) rfl
      rw [hc]; rfl
    have o2 : OwnT B (w1.setCell ⟨gm, j * 3 + 2, none⟩ (.string x)) (.slice (some ⟨gm, 0, none⟩) nm cm) (putR L j r x) := OwnE.setC encR_len o1 j 2 ⟨r.id, r.due, x⟩ (.string x) HN.out.1 (by decide) (fun y hy => by
      rw [HN.out.2.1] at hy; cases hy; rfl)
    have f2 : Fr (fun k => k = gm) w1 (w1.setCell ⟨gm, j * 3 + 2, none⟩ (.string x)) := (Fr.refl (fun k => k = gm) w1).setCell (p := ⟨gm, j * 3 + 2, none⟩) (fun _ => rfl) _
    have hq : PSt B w1 p most last v (.slice (some ⟨gm, 0, none⟩) nm cm) L → True := fun _ => trivial
    have d2 : DT B (w1.setCell ⟨gm, j * 3 + 2, none⟩ (.string x)) p most last v (putR L j r x) := d1.frS f2 (fun e => HP.out.off gm rfl (.inl e.symm)) (fun k hk e => HP.out.off gm rfl (.inr (by rw [hk]; exact congrArg some e)))
    have HZ := Lib.hid (And.intro (show PSt B _ p most last v (.slice (some ⟨gm, 0, none⟩) nm cm) (putR L j r x) from ⟨d2, o2⟩) ((frB_tab HP.out f1).trans' (f2.mono fun k _ e => by
      have := HP.out.lst.blk gm rfl
      have e2 : k = gm := e
      omega)))
    clear d1 f1 o1 o2 f2 hq d2 HD
    go_wp2_with fail
    exact hK.out ⟨last, v, _, _, _, _, rfl, rfl, by omega, HZ.out.1, HZ.out.2⟩
end Go.Proofs.Ytkekdbnmeobgiaa

/- Layer 18's law DuePlays: who is late. -/
namespace Go.Proofs.Ytkekdbnmeobgiaa
set_option maxRecDepth 100000
set_option linter.unusedVariables false
set_option linter.unusedSimpArgs false
open Go.RowKit

/-- Both ways tell the same. -/
theorem same_late {w : World} {L s t : List Ro} {now : Nat} {B C : Nat} {a b : Option Addr} {n m c d : Nat} (h1 : OvL (lateL L now) s) (h2 : OvL (lateL L now) t) (o1 : OwnN B w (.slice a n c) (s.map Ro.id)) (o2 : OwnN C w (.slice b m d) (t.map Ro.id)) (hl : L.length ≤ 10000) :
    Calls Try.prog 11 #[.slice a n c, .slice b m d] w fun e w' => e = .returned (.bool true) ∧ Fr F0 w w' := by
  obtain rfl := h1.one h2
  obtain ⟨e1, u1⟩ := o1.us
  obtain ⟨e2, u2⟩ := o2.us
  exact same18_any u1 u2 n m e1 e2 true (decide_eq_true rfl) (by rw [e1, List.length_map]; have := h1.short hl; omega)

set_option maxRecDepth 100000 in
set_option maxHeartbeats 16000000 in
theorem dp4d {s1 s2 s3 s4 s6 s9 s12 s13 s15 s16 s17 s18 s19 s20 s21 s22 s23 s24 s25 s26 s27 s28 s29 s30 s31 s32 s33 s34 s35 s36 s37 s38 s39 s40 s41 s42 s43 s44 s45 s46 s47 s48 s49 s50 s51 s52 s53 s54 s55 s56 s57 s58 s59 s60 s61 s62 s63 s64 s65 s66 s67 s68 s70 s71 s72 s73 s74 s75 s76 s77 s78 s79 s80 s81 s82 s83 s84 s85 s86 s87 s88 s89 s90 s91 s92 s93 s94 s95 s96 s97 s98 s99 s100 s101 s102 s103 s104 s105 s106 s107 s108 s109 s110 s111 s112 s113 s114 s115 s116 s117 s118 s119 s120 s121 s122 s123 s124 s125 s126 s127 s128 s129 s130 s131 s132 s133 s134 s135 s136 s137 s138 s139 s140 s141 s142 s143 s144 s145 s146 s147 s148 s149 s150 s151 s152 s153 s154 s155 s156 s157 s158 s159 s160 s161 s162 s163 s164 s165 s166 s167 s168 s169 s170 s171 s172 s173 s174 s175 s176 s177 s178 s179 s180 s181 s182 s183 s184 s185 s186 s187 s188 s189 s190 s191 s192 s193 s194 s195 s196 s197 s198 s199 s200 s201 s202 s203 s204 s205 s206 s207 s208 s209 s210 s211 s212 s213 s214 s215 s216 s217 s218 s219 s220 s221 s222 s223 s224 s225 s226 s227 s228 s229 s230 s231 s232 s233 s234 s235 s236 s237 s238 s239 s240 : Value} {K : Act → World → Prop} {Q : Exit → Act → World → Prop} (B p most last g10 id at_ : Nat) (kd : Int) (x : ByteArray) (v : Value) (am : Option Addr) (nm cm : Nat) (L : List Ro) (b : Option Nat) (w : World) (k0 : (kd == 0) = false) (k1 : (kd == 1) = false) (k2 : (kd == 2) = false) (r10 : w.heap[g10]? = some (.cells #[.int .i64 kd, .int .u64 (id : Int), .int .u64 (at_ : Int), .string x] 40 (0, 0))) (hP : PSt B w p most last v (.slice am nm cm) L) (hb : Fnd L id L.length b)
    (hK : RowKit.Hid (∀ {u4 u7 u8 u14 u15 u16 u70 u71 u72 u73 u74 u75 u76 u77 u78 u79 u80 u81 u82 u83 u84 u85 u86 u87 u88 u89 u90 u91 u92 u93 u94 u95 u96 u97 u98 u99 u100 u101 u102 u103 u104 u105 u106 u107 u108 u109 u110 u111 u112 u113 u114 u115 u116 u117 u118 u119 u120 u121 u122 u123 u124 u125 u126 u127 u128 u129 u130 u131 u132 u133 u134 u135 u136 u137 u138 u139 u140 u141 u142 u143 u144 u145 u146 u147 u148 u149 u150 u151 u152 u153 u154 u155 u156 u157 u158 u159 u160 u161 u162 u163 u164 u165 u166 u167 u168 u169 u170 u171 u172 u173 u174 u175 u176 u177 u178 u179 u180 u181 u182 u183 u184 u185 u186 u187 u188 u189 u190 u191 u192 u193 u194 u195 u196 u197 u198 u199 u200 u201 : Value} {w' : World}, (∃ last' v' a' n' c' L', u7 = .slice a' n' c' ∧ u8 = .int .u64 ((last' : Nat) : Int) ∧ last' ≤ last + 1 ∧ PSt B w' p most last' v' (.slice a' n' c') L' ∧ Fr (fun k => B ≤ k) w w') → K ⟨#[.int .i64 (most : Int), s1, s2, s3, u4, .pointer (some ⟨p, 0, none⟩), s6, u7, u8, s9, .pointer (some ⟨g10, 0, none⟩), .int .i64 (bz b), s12, s13, u14, u15, u16, s17, s18, s19, s20, s21, s22, s23, s24, s25, s26, s27, s28, s29, s30, s31, s32, s33, s34, s35, s36, s37, s38, s39, s40, s41, s42, s43, s44, s45, s46, s47, s48, s49, s50, s51, s52, s53, s54, s55, s56, s57, s58, s59, s60, s61, s62, s63, s64, s65, s66, s67, s68, .int .i64 kd, u70, u71, u72, u73, u74, u75, u76, u77, u78, u79, u80, u81, u82, u83, u84, u85, u86, u87, u88, u89, u90, u91, u92, u93, u94, u95, u96, u97, u98, u99, u100, u101, u102, u103, u104, u105, u106, u107, u108, u109, u110, u111, u112, u113, u114, u115, u116, u117, u118, u119, u120, u121, u122, u123, u124, u125, u126, u127, u128, u129, u130, u131, u132, u133, u134, u135, u136, u137, u138, u139, u140, u141, u142, u143, u144, u145, u146, u147, u148, u149, u150, u151, u152, u153, u154, u155, u156, u157, u158, u159, u160, u161, u162, u163, u164, u165, u166, u167, u168, u169, u170, u171, u172, u173, u174, u175, u176, u177, u178, u179, u180, u181, u182, u183, u184, u185, u186, u187, u188, u189, u190, u191, u192, u193, u194, u195, u196, u197, u198, u199, u200, u201, s202, s203, s204, s205, s206, s207, s208, s209, s210, s211, s212, s213, s214, s215, s216, s217, s218, s219, s220, s221, s222, s223, s224, s225, s226, s227, s228, s229, s230, s231, s232, s233, s234, s235, s236, s237, s238, s239, s240], []⟩ w')) :
    Code.wp Try.prog ((((Try.f4.body.bind (findBlock 4)).getD .skip))) (Exit.then K Q) ⟨#[.int .i64 (most : Int), s1, s2, s3, s4, .pointer (some ⟨p, 0, none⟩), s6, .slice am nm cm, .int .u64 (last : Int), s9, .pointer (some ⟨g10, 0, none⟩), .int .i64 (bz b), s12, s13, .int .i64 0, s15, s16, s17, s18, s19, s20, s21, s22, s23, s24, s25, s26, s27, s28, s29, s30, s31, s32, s33, s34, s35, s36, s37, s38, s39, s40, s41, s42, s43, s44, s45, s46, s47, s48, s49, s50, s51, s52, s53, s54, s55, s56, s57, s58, s59, s60, s61, s62, s63, s64, s65, s66, s67, s68, .int .i64 kd, s70, s71, s72, s73, s74, s75, s76, s77, s78, s79, s80, s81, s82, s83, s84, s85, s86, s87, s88, s89, s90, s91, s92, s93, s94, s95, s96, s97, s98, s99, s100, s101, s102, s103, s104, s105, s106, s107, s108, s109, s110, s111, s112, s113, s114, s115, s116, s117, s118, s119, s120, s121, s122, s123, s124, s125, s126, s127, s128, s129, s130, s131, s132, s133, s134, s135, s136, s137, s138, s139, s140, s141, s142, s143, s144, s145, s146, s147, s148, s149, s150, s151, s152, s153, s154, s155, s156, s157, s158, s159, s160, s161, s162, s163, s164, s165, s166, s167, s168, s169, s170, s171, s172, s173, s174, s175, s176, s177, s178, s179, s180, s181, s182, s183, s184, s185, s186, s187, s188, s189, s190, s191, s192, s193, s194, s195, s196, s197, s198, s199, s200, s201, s202, s203, s204, s205, s206, s207, s208, s209, s210, s211, s212, s213, s214, s215, s216, s217, s218, s219, s220, s221, s222, s223, s224, s225, s226, s227, s228, s229, s230, s231, s232, s233, s234, s235, s236, s237, s238, s239, s240], []⟩ w := by
  conv => arg 2; whnf
  have hn := hP.lst.len
  have hll : L.length ≤ 10000 := Nat.le_trans hP.tab.l256 (by decide)
  have HP := Lib.hid hP
  have HOv := Lib.hid (fun W (f : Fr F0 w W) => dOver_any (hP.tab.fr0 f) at_)
  have HLt := Lib.hid (fun W (f : Fr F0 w W) => late18_any (hP.lst.fr0 f) hP.tab.asc hll at_)
  have HLL := Lib.hid hll
  cases b with
  | none =>
    have b1 : bz none = -1 := rfl
    rw [b1]
    have HLa := Lib.hid (fun W (f : Fr F0 w W) => dLate_no (hP.tab.fr0 f) at_ hb.no)
    clear hP hn hll hb
    go_upto_region 20 with fail
    refine rbegin (S := (fun w' => w'.heap[g10]? = some (.cells #[.int .i64 kd, .int .u64 (id : Int), .int .u64 (at_ : Int), .string x] 40 (0, 0)) ∧ Fr F0 w w')) ?_ fun hHeld => ?_
    · ((try dsimp only) <;> (exact ⟨r10, (Fr.refl F0 w).drew⟩))
    refine rtake 0 ?_
    refine rtake 1 ?_
    refine rtake 2 ?_
    refine rtake 5 ?_
    refine rtake 6 ?_
    refine rtake 7 ?_
    refine rone 3 fun K hK => ?_
    go_simp
    ((with_reducible refine (HOv.out _ hHeld.2).mono ?_); rintro e w5 ⟨gb, v5, s1, rfl, r5, o5, h5, f5⟩; have HRB := Lib.hid (over18_any (show RowsB _ gb v5 s1 w5 from ⟨r5, o5⟩) (h5.short (Nat.le_trans HLL.out (by decide)))); have HO1 := Lib.hid h5; clear r5 o5 h5)
    refine hK.out _ _ ?_ (fun hHeld => ?_)
    · ((try dsimp only) <;> (first | exact hHeld | exact ⟨keep_fr f5 hHeld.1, hHeld.2.trans' f5⟩))
    clear hK K
    try (simp only [Act.put, aST]; dsimp only [aS0, aS1])
    refine rone 4 fun K hK => ?_
    go_simp
    ((with_reducible refine HRB.out.mono ?_); rintro e w6 ⟨a6, n6, c6, rfl, o6, f5⟩; have HO6 := Lib.hid (fun W (f : Fr F0 w6 W) => o6.fr0 f); clear o6)
    refine hK.out _ _ ?_ (fun hHeld => ?_)
    · ((try dsimp only) <;> (first | exact hHeld | exact ⟨keep_fr f5 hHeld.1, hHeld.2.trans' f5⟩))
    clear hK K
    try (simp only [Act.put, aST]; dsimp only [aS0, aS1])
    refine rone 8 fun K hK => ?_
    go_simp
    ((with_reducible refine (HLt.out _ hHeld.2).mono ?_); rintro e w8 ⟨a8, n8, c8, s8, rfl, o8, h8, f5⟩; have HS := Lib.hid (same_late HO1.out h8 (HO6.out _ f5) o8 HLL.out); clear o8 h8)
    refine hK.out _ _ ?_ (fun hHeld => ?_)
    · ((try dsimp only) <;> (first | exact hHeld | exact ⟨keep_fr f5 hHeld.1, hHeld.2.trans' f5⟩))
    clear hK K
    try (simp only [Act.put, aST]; dsimp only [aS0, aS1])
    refine rone 9 fun K hK => ?_
    go_simp
    ((with_reducible refine HS.out.mono ?_); rintro e w9 ⟨rfl, f5⟩)
    refine hK.out _ _ ?_ (fun hHeld => ?_)
    · ((try dsimp only) <;> (first | exact hHeld | exact ⟨keep_fr f5 hHeld.1, hHeld.2.trans' f5⟩))
    clear hK K
    try (simp only [Act.put, aST]; dsimp only [aS0, aS1])
    refine rtake 10 ?_
    refine rtake 11 ?_
    refine rtake 12 ?_
    refine rtake 13 ?_
    refine rtake 14 ?_
    refine rtake 15 ?_
    refine rtake 16 ?_
    refine rtake 18 ?_
    refine rtake 19 ?_
    refine rone 17 fun K hK => ?_
    go_simp
    ((with_reducible refine (HLa.out _ hHeld.2).mono ?_); rintro e w10 ⟨rfl, f5⟩)
    refine hK.out _ _ ?_ (fun hHeld => ?_)
    · ((try dsimp only) <;> (first | exact hHeld | exact ⟨keep_fr f5 hHeld.1, hHeld.2.trans' f5⟩))
    clear hK K
    try (simp only [Act.put, aST]; dsimp only [aS0, aS1])
    refine rtake 20 ?_
    refine rleave 21 ?_
    refine rleave 22 ?_
    refine rleave 23 ?_
    refine rleave 24 ?_
    refine rleave 25 ?_
    refine rleave 26 ?_
    refine rleave 27 ?_
    refine rleave 28 ?_
    refine rtake 29 ?_
    refine rtake 30 ?_
    refine rtake 31 ?_
    refine rdone ?_
    have F := Lib.hid hHeld.2
    clear hHeld
    go_wp2_with fail
    exact hK.out ⟨last, v, _, _, _, L, rfl, rfl, by omega, HP.out.fr0 F.out, F.out.of0⟩
  | some j =>
    have b1 : bz (some j) = (j : Int) := rfl
    rw [b1]
    obtain ⟨hj, r, hr⟩ := hb
    have hjn : j < nm := by omega
    obtain ⟨gm, rfl⟩ := OwnE.place1 hP.lst hjn
    obtain ⟨q, hq⟩ : ∃ q, decide (r.due < at_) = q := ⟨_, rfl⟩
    have HLa := Lib.hid (fun W (f : Fr F0 w W) => dLate_yes (hP.tab.fr0 f) hr at_ q hq)
    have c2 : Obj.cellAt (j * 3 + 1) w.heap[gm]? = some (.int .u64 (r.due : Int)) := OwnT.cell hP.lst j 1 r _ hr.1 rfl
    have HC2 := Lib.hid (fun W (f : Fr F0 w W) => show Obj.cellAt (j * 3 + 1) W.heap[gm]? = some (.int .u64 (r.due : Int)) from OwnT.cell (hP.lst.fr0 f) j 1 r _ hr.1 rfl)
    have hq2 : decide ((r.due : Int) < (at_ : Int)) = q := by rw [← hq]; exact decide_eq_decide.2 (by omega)
    clear hP hn hll hr
    generalize r.due = rd at *
    clear r
    go_upto_region 20 with fail
    refine rbegin (S := (fun w' => (w'.heap[g10]? = some (.cells #[.int .i64 kd, .int .u64 (id : Int), .int .u64 (at_ : Int), .string x] 40 (0, 0)) ∧ Obj.cellAt (j * 3 + 1) w'.heap[gm]? = some (.int .u64 (rd : Int))) ∧ Fr F0 w w')) ?_ fun hHeld => ?_
    · ((try dsimp only) <;> (exact ⟨⟨r10, c2⟩, (Fr.refl F0 w).drew⟩))
    refine rtake 0 ?_
    refine rtake 1 ?_
    refine rtake 2 ?_
    refine rtake 5 ?_
    refine rtake 6 ?_
    refine rtake 7 ?_
    refine rone 3 fun K hK => ?_
    go_simp
    ((with_reducible refine (HOv.out _ hHeld.2).mono ?_); rintro e w5 ⟨gb, v5, s1, rfl, r5, o5, h5, f5⟩; have HRB := Lib.hid (over18_any (show RowsB _ gb v5 s1 w5 from ⟨r5, o5⟩) (h5.short (Nat.le_trans HLL.out (by decide)))); have HO1 := Lib.hid h5; clear r5 o5 h5)
    refine hK.out _ _ ?_ (fun hHeld => ?_)
    · ((try dsimp only) <;> (first | exact hHeld | exact ⟨⟨keep_fr f5 hHeld.1.1, HC2.out _ (hHeld.2.trans' f5)⟩, hHeld.2.trans' f5⟩))
    clear hK K
    try (simp only [Act.put, aST]; dsimp only [aS0, aS1])
    refine rone 4 fun K hK => ?_
    go_simp
    ((with_reducible refine HRB.out.mono ?_); rintro e w6 ⟨a6, n6, c6, rfl, o6, f5⟩; have HO6 := Lib.hid (fun W (f : Fr F0 w6 W) => o6.fr0 f); clear o6)
    refine hK.out _ _ ?_ (fun hHeld => ?_)
    · ((try dsimp only) <;> (first | exact hHeld | exact ⟨⟨keep_fr f5 hHeld.1.1, HC2.out _ (hHeld.2.trans' f5)⟩, hHeld.2.trans' f5⟩))
    clear hK K
    try (simp only [Act.put, aST]; dsimp only [aS0, aS1])
    refine rone 8 fun K hK => ?_
    go_simp
    ((with_reducible refine (HLt.out _ hHeld.2).mono ?_); rintro e w8 ⟨a8, n8, c8, s8, rfl, o8, h8, f5⟩; have HS := Lib.hid (same_late HO1.out h8 (HO6.out _ f5) o8 HLL.out); clear o8 h8)
    refine hK.out _ _ ?_ (fun hHeld => ?_)
    · ((try dsimp only) <;> (first | exact hHeld | exact ⟨⟨keep_fr f5 hHeld.1.1, HC2.out _ (hHeld.2.trans' f5)⟩, hHeld.2.trans' f5⟩))
    clear hK K
    try (simp only [Act.put, aST]; dsimp only [aS0, aS1])
    refine rone 9 fun K hK => ?_
    go_simp
    ((with_reducible refine HS.out.mono ?_); rintro e w9 ⟨rfl, f5⟩)
    refine hK.out _ _ ?_ (fun hHeld => ?_)
    · ((try dsimp only) <;> (first | exact hHeld | exact ⟨⟨keep_fr f5 hHeld.1.1, HC2.out _ (hHeld.2.trans' f5)⟩, hHeld.2.trans' f5⟩))
    clear hK K
    try (simp only [Act.put, aST]; dsimp only [aS0, aS1])
    refine rtake 10 ?_
    refine rtake 11 ?_
    refine rtake 12 ?_
    refine rtake 13 ?_
    refine rtake 14 ?_
    refine rtake 15 ?_
    refine rtake 16 ?_
    refine rtake 18 ?_
    refine rtake 19 ?_
    refine rone 17 fun K hK => ?_
    go_simp
    ((with_reducible refine (HLa.out _ hHeld.2).mono ?_); rintro e w10 ⟨rfl, f5⟩)
    refine hK.out _ _ ?_ (fun hHeld => ?_)
    · ((try dsimp only) <;> (first | exact hHeld | exact ⟨⟨keep_fr f5 hHeld.1.1, HC2.out _ (hHeld.2.trans' f5)⟩, hHeld.2.trans' f5⟩))
    clear hK K
    try (simp only [Act.put, aST]; dsimp only [aS0, aS1])
    refine rtake 20 ?_
    refine rtake 21 ?_
    refine rtake 22 ?_
    refine rtake 23 ?_
    refine rtake 24 ?_
    refine rtake 25 ?_
    refine rtake 26 ?_
    refine rtake 27 ?_
    refine rtake 28 ?_
    refine rtake 29 ?_
    refine rtake 30 ?_
    refine rtake 31 ?_
    refine rdone ?_
    have F := Lib.hid hHeld.2
    clear hHeld
    go_wp2_with fail
    exact hK.out ⟨last, v, _, _, _, L, rfl, rfl, by omega, HP.out.fr0 F.out, F.out.of0⟩
end Go.Proofs.Ytkekdbnmeobgiaa

/- Layer 18's law DuePlays, walked. -/
namespace Go.Proofs.Ytkekdbnmeobgiaa
set_option maxRecDepth 100000
set_option linter.unusedVariables false
set_option linter.unusedSimpArgs false
open Go.RowKit

section
variable {B : Nat} {w w' : World} {p most last : Nat} {v vm : Value} {L : List Ro}
theorem PSt.keepB (h : PSt B w p most last v vm L) (f : Fr (fun k => w.heap.size ≤ k) w w') : PSt B w' p most last v vm L :=
  ⟨h.tab.frS f (fun e => by have := h.tab.lt; omega) (fun k hk e => by have := h.tab.own.lt k hk; omega), h.lst.frS f fun k hk e => by have := h.lst.lt k hk; omega⟩
theorem frB_dt (d : DT B w p most last v L) (f : Fr (fun k => k = p ∨ v.ownBlock = some k) w w') : Fr (fun k => B ≤ k) w w' := f.mono fun k _ e => by
  rcases e with rfl | e
  · exact d.base
  · exact d.own.blk k e
/-- Whatever becomes of it, it is a table. -/
theorem dDrop_some (d : DT B w p most last v L) (id : Nat) : Calls Try.prog 12 #[.pointer (some ⟨p, 0, none⟩), .int .u64 (id : Int)] w fun e w' => (∃ z, e = .returned (.int .i64 z)) ∧ (∃ v' L', DT B w' p most last v' L') ∧ Fr (fun k => B ≤ k) w w' := by
  by_cases h : ∃ r ∈ L, r.id = id
  · obtain ⟨r, hr, e⟩ := h
    obtain ⟨i, hi, e2⟩ := List.mem_iff_getElem.1 hr
    refine (dDrop_yes d (show AtR L id i r from ⟨by rw [List.getElem?_eq_getElem hi, e2], e⟩)).mono ?_
    rintro e w' ⟨rfl, v', d', f, -⟩
    exact ⟨⟨_, rfl⟩, ⟨v', _, d'⟩, frB_dt d f⟩
  · refine (dDrop_no d (fun r hr e => h ⟨r, hr, e⟩)).mono ?_
    rintro e w' ⟨rfl, f⟩
    exact ⟨⟨_, rfl⟩, ⟨v, L, d.fr0 f⟩, f.of0⟩
theorem dAdd_some (d : DT B w p most last v L) (hB : B ≤ w.heap.size) (hL : last < 1000000) (x : ByteArray) : Calls Try.prog 8 #[.pointer (some ⟨p, 0, none⟩), .string x, .int .u64 0] w fun e w' => (∃ y z, e = .returned (.tuple #[.int .u64 y, .int .i64 z])) ∧ (∃ last' v' L', DT B w' p most last' v' L') ∧ Fr (fun k => B ≤ k) w w' := by
  by_cases h : L.length = most
  · refine (dAdd_full d h x 0 (by decide)).mono ?_
    rintro e w' ⟨rfl, f⟩
    exact ⟨⟨_, _, rfl⟩, ⟨last, v, L, d.fr0 f⟩, f.of0⟩
  · refine (dAdd_ok d hB (by have := d.len; omega) hL x 0 (by decide)).mono ?_
    rintro e w' ⟨rfl, v', d', f, -⟩
    exact ⟨⟨_, _, rfl⟩, ⟨_, v', _, d'⟩, frB_dt d f⟩
theorem FrB.fr0 {w0 : World} (f : Fr F0 w0 w) (g : Fr (fun k => w0.heap.size ≤ k) w w') : Fr F0 w0 w' := f.trans g fun i hi e => absurd hi (Nat.not_lt.2 e)
end

theorem wp_inBlockD {P : Program} {c : Code} {n : Nat} {K : Act → World → Prop} {Q : Exit → Act → World → Prop} {a : Act} {w : World} (h : Code.wp P c (Exit.then K fun _ _ _ => False) a w) : Code.wp P c (Exit.inBlock n (Exit.then K Q)) a w :=
  Code.wp_mono (fun e a w k => by cases e <;> first | exact k | exact k.elim) h
set_option maxRecDepth 100000 in
set_option maxHeartbeats 64000000 in
theorem duePlays_any {w : World} {m : Int} {ad : Option Addr} {n c : Nat} (h1 : Acts18 w ad n) :
    Calls Try.prog 4 #[.int .i64 m, .slice ad n c] w fun e w' => e = .returned (.bool true) ∧ Fr F0 w w' := by
  have HT := Lib.hid h1
  have HL := Lib.hid (fun W => lives18_any W)
  clear h1
  by_cases hb1 : 60 < n
  · have l1 : (60 : Int) < (n : Int) := by omega
    go_enter Try.func4, Try.ntmps4
    go_wp2_with fail
    (with_reducible refine (HL.out _).mono ?_); rintro e w1 ⟨rfl, f1⟩
    have F1 := Lib.hid f1
    clear f1
    go_wp2_with fail
    (with_reducible refine (HL.out w1).mono ?_); rintro e w2 ⟨rfl, f2⟩
    have F2 := Lib.hid (F1.out.trans' f2)
    clear f2
    go_wp2_with fail
    go_ret
    exact ⟨rfl, F2.out⟩
  have b1 : n ≤ 60 := by omega
  have l1 : ¬ (60 : Int) < (n : Int) := by omega
  clear hb1
  by_cases hr : 1 ≤ m ∧ m ≤ 256
  · obtain ⟨most, rfl⟩ := Int.eq_ofNat_of_zero_le (show 0 ≤ m by omega)
    have HN := Lib.hid (fun W => dNew_ok most (by omega) W)
    have l2 : ¬ (most : Int) < 1 := by omega
    have l3 : ¬ (256 : Int) < (most : Int) := by omega
    clear hr
    go_enter Try.func4, Try.ntmps4
    go_wp2_with fail
    (with_reducible refine (HL.out _).mono ?_); rintro e w1 ⟨rfl, f1⟩
    have F1 := Lib.hid f1
    clear f1
    go_wp2_with fail
    refine (HN.out _).mono ?_; rintro e w2 ⟨p, rfl, d2, f2⟩
    have H2 := Lib.hid (And.intro (d2.mono F1.out.size) (F1.out.trans' f2))
    clear d2 f2
    go_wp2_with fail
    go_loopw [7, 8, 50] (fun xv yv iv wr => ∃ (k last : Nat) (v : Value) (am : Option Addr) (nm cm : Nat) (L : List Ro), iv = .int .i64 (k : Int) ∧ xv = .slice am nm cm ∧ yv = .int .u64 (last : Int) ∧ k ≤ n ∧ last ≤ k ∧ PSt w.heap.size wr p most last v (.slice am nm cm) L ∧ Fr F0 w wr) (fun _ _ iv _ => n - (intOf iv).toNat)
    case atStart => exact ⟨0, 0, _, _, _, _, [], rfl, rfl, rfl, Nat.zero_le _, Nat.le_refl _, ⟨H2.out.1, OwnE.nil _ _⟩, H2.out.2⟩
    case round =>
      clear H2
      obtain ⟨k, last, v, am, nm, cm, L, rfl, rfl, rfl, hk, hlk, P, F⟩ := hrel
      by_cases h1 : k < n
      · have l1 : (k : Int) < (n : Int) := by omega
        obtain ⟨b, off, kd, id, at_, x, rfl, hld⟩ := HT.out.at_ k h1
        have lds := hld wr F
        have oS := rowOne_A kd (id : Int) (at_ : Int) x
        have k1 : IntKind.i64.wrap ((k : Int) + 1) = ((k + 1 : Nat) : Int) := by rw [IntWalk.i64_in _ (by omega)]; omega
        have HP := Lib.hid P
        have HF := Lib.hid (And.intro F (And.intro h1 hlk))
        clear hld P F h1 hk hlk
        go_upto_region 11 with fail
        refine wp_put fun W3 N => ?_
        have r10 := N.new
        have F3 := N.fr
        clear N lds
        obtain ⟨g10, hg⟩ : ∃ g, wr.heap.size = g := ⟨_, rfl⟩
        rw [hg] at r10 ⊢
        have H3 := Lib.hid (And.intro (HP.out.fr0 F3) (And.intro (HF.out.1.trans' F3) (show w.heap.size ≤ g10 ∧ g10 ≠ p ∧ v.ownBlock ≠ some g10 from ⟨by rw [← hg]; exact HF.out.1.size, fun e => by have := HP.out.tab.lt; omega, fun e => by have := HP.out.tab.own.lt g10 e; omega⟩)))
        clear hg F3
        go_upto_block 2 with fail
        have hnm := H3.out.1.lst.len
        have hll := H3.out.1.tab.l256
        refine dp2 w.heap.size g10 nm cm id at_ kd x am L W3 r10 H3.out.1.lst (by omega) H3.out.1.tab.asc (Lib.hid ?_)
        rename_i w4
        rintro ⟨⟨bb, rfl, hf⟩, f4⟩
        replace r10 := keep_fr f4 r10
        have H4 := Lib.hid (And.intro (H3.out.1.fr0 f4) (And.intro (H3.out.2.1.trans' f4) (And.intro H3.out.2.2 (And.intro hf (show w.heap.size ≤ w4.heap.size ∧ last < 1000000 from ⟨(H3.out.2.1.trans' f4).size, by have := HF.out; omega⟩)))))
        clear f4 H3 HP hf hnm hll
        by_cases e0 : kd = 0
        · subst e0
          go_upto_block 4 with fail
          refine wp_inBlockD (dp4a w.heap.size p most last g10 id at_ x v am nm cm L bb w4 r10 H4.out.1 H4.out.2.2.2.2.1 H4.out.2.2.2.2.2 H4.out.2.2.1 (Lib.hid ?_))
          rename_i w5
          rintro ⟨last', v', a', n', c', L', rfl, rfl, hl', P', f5⟩
          have H5 := Lib.hid (And.intro P' (And.intro (FrB.fr0 H4.out.2.1 f5) hl'))
          clear P' f5 hl' r10 H4
          go_wp2_with fail
          go_roundw
          case rel => exact ⟨k + 1, last', v', a', n', c', L', rfl, rfl, rfl, by have := HF.out; omega, by have := HF.out; have := H5.out.2.2; omega, H5.out.1, H5.out.2.1⟩
          case measure => have := HF.out; simp [intOf]; omega
        · by_cases e1 : kd = 1
          · subst e1
            go_upto_block 4 with fail
            refine wp_inBlockD (dp4b w.heap.size p most last g10 id at_ x v am nm cm L bb w4 r10 H4.out.1 H4.out.2.2.2.2.1 H4.out.2.2.2.1 H4.out.2.2.1 (Lib.hid ?_))
            rename_i w5
            rintro ⟨last', v', a', n', c', L', rfl, rfl, hl', P', f5⟩
            have H5 := Lib.hid (And.intro P' (And.intro (FrB.fr0 H4.out.2.1 f5) hl'))
            clear P' f5 hl' r10 H4
            go_wp2_with fail
            go_roundw
            case rel => exact ⟨k + 1, last', v', a', n', c', L', rfl, rfl, rfl, by have := HF.out; omega, by have := HF.out; have := H5.out.2.2; omega, H5.out.1, H5.out.2.1⟩
            case measure => have := HF.out; simp [intOf]; omega
          · by_cases e2 : kd = 2
            · subst e2
              go_upto_block 4 with fail
              refine wp_inBlockD (dp4c w.heap.size p most last g10 id at_ x v am nm cm L bb w4 r10 H4.out.1 H4.out.2.2.2.2.1 H4.out.2.2.2.1 H4.out.2.2.1 (Lib.hid ?_))
              rename_i w5
              rintro ⟨last', v', a', n', c', L', rfl, rfl, hl', P', f5⟩
              have H5 := Lib.hid (And.intro P' (And.intro (FrB.fr0 H4.out.2.1 f5) hl'))
              clear P' f5 hl' r10 H4
              go_wp2_with fail
              go_roundw
              case rel => exact ⟨k + 1, last', v', a', n', c', L', rfl, rfl, rfl, by have := HF.out; omega, by have := HF.out; have := H5.out.2.2; omega, H5.out.1, H5.out.2.1⟩
              case measure => have := HF.out; simp [intOf]; omega
            · have q0 : (kd == 0) = false := beq_eq_false_iff_ne.2 e0
              have q1 : (kd == 1) = false := beq_eq_false_iff_ne.2 e1
              have q2 : (kd == 2) = false := beq_eq_false_iff_ne.2 e2
              clear e0 e1 e2
              go_upto_block 4 with fail
              refine wp_inBlockD (dp4d w.heap.size p most last g10 id at_ kd x v am nm cm L bb w4 q0 q1 q2 r10 H4.out.1 H4.out.2.2.2.1 (Lib.hid ?_))
              rename_i w5
              rintro ⟨last', v', a', n', c', L', rfl, rfl, hl', P', f5⟩
              have H5 := Lib.hid (And.intro P' (And.intro (FrB.fr0 H4.out.2.1 f5) hl'))
              clear P' f5 hl' r10 H4
              go_wp2_with fail
              go_roundw
              case rel => exact ⟨k + 1, last', v', a', n', c', L', rfl, rfl, rfl, by have := HF.out; omega, by have := HF.out; have := H5.out.2.2; omega, H5.out.1, H5.out.2.1⟩
              case measure => have := HF.out; simp [intOf]; omega
      · obtain rfl : k = n := by omega
        have l1 : ¬ (k : Int) < (k : Int) := by omega
        have HC := Lib.hid (dCopy_any P.tab)
        have HP := Lib.hid (And.intro P (And.intro F hlk))
        have hnm := Lib.hid P.lst.len
        have hll := P.tab.l256
        clear P F hlk h1 hk HL HN HT
        generalize wr = wq at *
        go_wp2_with fail
        (with_reducible refine HC.out.mono ?_); rintro e w3 ⟨q, v3, rfl, d3, f3⟩
        have HA := Lib.hid (dAdd_some d3 f3.size (by have := HP.out.2.2; omega) ⟨#[109, 111, 114, 101]⟩)
        have F3 := Lib.hid f3
        clear d3 f3 HC
        go_wp2_with fail
        (with_reducible refine HA.out.mono ?_); rintro e w4 ⟨⟨y4, z4, rfl⟩, ⟨l4, v4, L4, d4⟩, f4⟩
        have H4 := Lib.hid (And.intro d4 ((F3.out.of0 (T := fun k => wq.heap.size ≤ k)).trans' f4))
        clear d4 f4 HA F3
        go_wp2_with fail
        go_loopw [209] (fun iv wr => ∃ (k l' : Nat) (v' : Value) (L' : List Ro), iv = .int .i64 (k : Int) ∧ k ≤ nm ∧ DT wq.heap.size wr q most l' v' L' ∧ Fr (fun k => wq.heap.size ≤ k) wq wr) (fun iv _ => nm - (intOf iv).toNat)
        case atStart => exact ⟨0, l4, v4, L4, rfl, Nat.zero_le _, H4.out.1, H4.out.2⟩
        case round =>
          clear H4
          obtain ⟨j, l', v', L', rfl, hj, d, f⟩ := hrel
          by_cases hlt : j < nm
          · have l5 : (j : Int) < (nm : Int) := by omega
            have P5 := HP.out.1.keepB f
            obtain ⟨gm, rfl⟩ := OwnE.place1 HP.out.1.lst hlt
            have hr := List.getElem?_eq_getElem (show j < L.length by have := hnm.out; omega)
            have hld := OwnT.load P5.lst j _ hr
            obtain ⟨r, hre⟩ : ∃ r, L[j]'(by have := hnm.out; omega) = r := ⟨_, rfl⟩
            rw [hre] at hld
            obtain ⟨ri, rd, rx⟩ := r
            have oS := rowOne_R (ri : Int) (rd : Int) rx
            have k1 : IntKind.i64.wrap ((j : Int) + 1) = ((j + 1 : Nat) : Int) := by rw [IntWalk.i64_in _ (by have := hnm.out; omega)]; omega
            have HD := Lib.hid (fun W (f : Fr F0 wr W) => dDrop_some (d.fr0 f) ri)
            have HF := Lib.hid f
            clear hr hre P5 d f hj
            go_upto_region 52 with fail
            refine wp_put fun W3 N => ?_
            have r19 := N.new
            have HD3 := Lib.hid (HD.out W3 N.fr)
            have F3 := Lib.hid (HF.out.trans' N.fr.of0)
            clear N hld
            obtain ⟨g19, hg⟩ : ∃ g, wr.heap.size = g := ⟨_, rfl⟩
            rw [hg] at r19 ⊢
            clear hg HD
            go_wp2_with fail
            (with_reducible refine HD3.out.mono ?_); rintro e w5 ⟨⟨z5, rfl⟩, ⟨v5, L5, d5⟩, f5⟩
            have H5 := Lib.hid (And.intro d5 (F3.out.trans' f5))
            clear d5 f5 HD3
            go_wp2_with fail
            go_roundw
            case rel => exact ⟨j + 1, l', v5, L5, rfl, by omega, H5.out.1, H5.out.2⟩
            case measure => simp [intOf]; omega
          · obtain rfl : j = nm := by omega
            have l5 : ¬ (j : Int) < (j : Int) := by omega
            have P5 := HP.out.1.keepB f
            have F5 := Lib.hid (FrB.fr0 HP.out.2.1 (f.mono fun k _ e => Nat.le_trans HP.out.2.1.size e))
            have HG := Lib.hid (dGet_no (id := 0) P5.tab (fun r hr e => by have := (P5.tab.ids r hr).1; omega))
            have HI := Lib.hid (fun W (f : Fr F0 wr W) => is18_any (P5.tab.fr0 f) (P5.lst.fr0 f))
            have HLa := Lib.hid (fun W (f : Fr F0 wr W) => dLast_any (P5.tab.fr0 f))
            clear P5 d f hlt
            generalize wr = wz at *
            go_wp2_with fail
            refine HG.out.mono ?_; rintro e w6 ⟨rfl, f6⟩
            have F6 := Lib.hid f6
            have HI6 := Lib.hid (HI.out w6 f6)
            clear f6 HG HI
            go_wp2_with fail
            (with_reducible refine HI6.out.mono ?_); rintro e w7 ⟨rfl, f7⟩
            have HL7 := Lib.hid (HLa.out w7 (F6.out.trans' f7))
            have F7 := Lib.hid (F5.out.trans' (F6.out.trans' f7))
            clear f7 HI6 HLa
            go_wp2_with fail
            (with_reducible refine HL7.out.mono ?_); rintro e w8 ⟨rfl, hw⟩; replace hw := hw.symm; subst hw
            go_wp2_with fail
            go_ret
            exact ⟨rfl, F7.out⟩
  · have HN := Lib.hid (fun W => dNew_no m hr W)
    by_cases h1 : m < 1
    · clear hr
      go_enter Try.func4, Try.ntmps4
      go_wp2_with fail
      (with_reducible refine (HL.out _).mono ?_); rintro e w1 ⟨rfl, f1⟩
      have F1 := Lib.hid f1
      clear f1
      go_wp2_with fail
      (with_reducible refine (HN.out _).mono ?_); rintro e w2 ⟨rfl, hw⟩; replace hw := hw.symm; subst hw
      go_wp2_with fail
      go_ret
      exact ⟨rfl, F1.out⟩
    · have h2 : 256 < m := by omega
      clear hr
      go_enter Try.func4, Try.ntmps4
      go_wp2_with fail
      (with_reducible refine (HL.out _).mono ?_); rintro e w1 ⟨rfl, f1⟩
      have F1 := Lib.hid f1
      clear f1
      go_wp2_with fail
      (with_reducible refine (HN.out _).mono ?_); rintro e w2 ⟨rfl, hw⟩; replace hw := hw.symm; subst hw
      go_wp2_with fail
      go_ret
      exact ⟨rfl, F1.out⟩
end Go.Proofs.Ytkekdbnmeobgiaa

/- Arguments of layer 18's laws, opened: numbers, texts, what is to be done. -/
namespace Go.Proofs.Ytkekdbnmeobgiaa
set_option maxRecDepth 100000
set_option linter.unusedVariables false
set_option linter.unusedSimpArgs false
open Go.RowKit Go.ChangeShapes Go.WideShapes Go.Deep

theorem split4d (cs : List Value) (h : cs.length = 4) : cs = (cs.drop 0).take 1 ++ ((cs.drop 1).take 1 ++ ((cs.drop 2).take 1 ++ (cs.drop 3).take 1)) := by
  match cs, h with
  | [a, b, c, d], _ => rfl
/-- Numbers in memory. -/
def U64s18 (w : World) (a : Option Addr) (n c : Nat) : Prop := ∃ l : List Nat, n = l.length ∧ Us w a c l
section
variable {H : Type} {enc : TypeId × Value → H} {w : World} {base : Nat} {spare : Nat → Bool} {held : Bool}

theorem open_str18 {r : Reach} {b0 : Nat} {v : Value} {d : DataW H} {ps : List MemPlace} (hd : DataW.Trod enc Try.prog w base spare held 9 v d ps) (hv : Value.okWide Try.prog w r b0 9 v) :
    ∃ s : ByteArray, v = .string s := by
  simp only [Value.okWide, Try.underlying9, Cell.okWide] at hv
  obtain ⟨fuel, hf⟩ := hd
  obtain ⟨s, e, _, _⟩ := DataW.trod_string Try.underlying9 hf
  refine ⟨s, ?_⟩
  cases v <;> simp_all [Value.cells, Cell.ok]
theorem open_u64s18 {fuel : Nat} {a : Option Addr} {n c : Nat} {x : DataW H × List MemPlace} (h : DataW.trod enc Try.prog w base spare held fuel 22 [.slice a n c] = some x) : U64s18 w a n c := by
  rcases open_ints Try.underlying22 Try.underlying23 (by kernel_rfl) h with ⟨hcs, _⟩ | ⟨ad, l, cap, zs, hcs, _, hl, hm, hz, _, hcell, hwz⟩
  · simp only [List.cons.injEq, Value.slice.injEq, and_true] at hcs
    obtain ⟨rfl, rfl, rfl⟩ := hcs
    exact ⟨[], rfl, Sl.nothing w 1⟩
  · simp only [List.cons.injEq, Value.slice.injEq, and_true] at hcs
    obtain ⟨rfl, rfl, rfl⟩ := hcs
    have hzl : n ≤ zs.length := by rw [hz]; split <;> omega
    refine ⟨(zs.take n).map fun z => z.toNat, by simp; omega, by simp, by simp; omega, hm, (fun e => by cases e), fun j u hj => ?_⟩
    simp only [List.map_map, List.getElem?_map, Option.map_eq_some_iff] at hj
    obtain ⟨z, hz1, rfl⟩ := hj
    rw [List.getElem?_take] at hz1
    split at hz1
    · rename_i hjn
      have hc := hcell j (by omega)
      have hzj : zs.getD j 0 = z := by simp [List.getD, hz1]
      rw [hzj] at hc
      have hr := bounds_u64' (hwz z (List.mem_of_getElem? hz1))
      obtain ⟨b, off, spot⟩ := ad
      have hs : w.cell? ((⟨b, off, spot⟩ : Addr).add j) = some (U64 z.toNat) := by
        rw [hc]
        simp only [U64]
        congr 2
        omega
      have h0 : 0 < zs.length := by omega
      have hs0 := World.cell?_spot (hcell 0 h0)
      simp only [Addr.add, if_true] at hs0
      subst hs0
      rw [Addr.add_lit] at hs
      exact ⟨b, off, rfl, hs⟩
    · cases hz1
set_option maxRecDepth 100000 in
theorem cells_act18 {fuel : Nat} {cs : List Value} {y : DataW H × List MemPlace} (hf : DataW.trod enc Try.prog w base spare held fuel 40 cs = some y) : ∃ (kd : Int) (id at_ : Nat) (x : ByteArray), cs = [.int .i64 kd, .int .u64 (id : Int), .int .u64 (at_ : Int), .string x] := by
  obtain ⟨xs, n, _, _, hl, hlen, hc⟩ := DataW.trod_struct Try.underlying40 hf
  have h4 : Try.prog.cellsOf 40 = 4 := by kernel_rfl
  have h1 : Try.prog.cellsOf 3 = 1 := by kernel_rfl
  have h2 : Try.prog.cellsOf 23 = 1 := by kernel_rfl
  have h3 : Try.prog.cellsOf 9 = 1 := by kernel_rfl
  match xs, hlen with
  | [y0, y1, y2, y3], _ =>
    have k0 : DataW.trod enc Try.prog w base spare held n 3 ((cs.drop 0).take (Try.prog.cellsOf 3)) = some y0 := hc 0 _ rfl
    have k1 : DataW.trod enc Try.prog w base spare held n 23 ((cs.drop 1).take (Try.prog.cellsOf 23)) = some y1 := hc 1 _ rfl
    have k2 : DataW.trod enc Try.prog w base spare held n 23 ((cs.drop 2).take (Try.prog.cellsOf 23)) = some y2 := hc 2 _ rfl
    have k3 : DataW.trod enc Try.prog w base spare held n 9 ((cs.drop 3).take (Try.prog.cellsOf 9)) = some y3 := hc 3 _ rfl
    rw [h1] at k0
    rw [h2] at k1 k2
    rw [h3] at k3
    have hl' : cs.length = 4 := by rw [← h4, ← hl]
    obtain ⟨x0, e0, _, _⟩ := DataW.trod_int Try.underlying3 k0
    obtain ⟨x1, e1, _, w1⟩ := DataW.trod_int Try.underlying23 k1
    obtain ⟨x2, e2, _, w2⟩ := DataW.trod_int Try.underlying23 k2
    obtain ⟨x3, e3, _, _⟩ := DataW.trod_string Try.underlying9 k3
    have b1 := bounds_u64' w1
    have b2 := bounds_u64' w2
    obtain ⟨n1, rfl⟩ := Int.eq_ofNat_of_zero_le b1.1
    obtain ⟨n2, rfl⟩ := Int.eq_ofNat_of_zero_le b2.1
    refine ⟨x0, n1, n2, x3, ?_⟩
    have := split4d cs hl'
    rw [e0, e1, e2, e3] at this
    rw [this]
    rfl
set_option maxRecDepth 100000 in
theorem open_acts18 {fuel : Nat} {a : Option Addr} {n c : Nat} {x : DataW H × List MemPlace} (h : DataW.trod enc Try.prog w base spare held fuel 37 [.slice a n c] = some x) : Acts18 w a n := by
  rcases open_slice Try.underlying37 h with ⟨hcs, _⟩ | ⟨ad, len, cap, m, k, D, Pl, hcs, _, hl, hm, hmm, _, hi⟩
  · simp only [List.cons.injEq, Value.slice.injEq, and_true] at hcs
    obtain ⟨rfl, rfl, rfl⟩ := hcs
    exact ⟨fun k hk => absurd hk (by omega)⟩
  · simp only [List.cons.injEq, Value.slice.injEq, and_true] at hcs
    obtain ⟨rfl, rfl, rfl⟩ := hcs
    have hnm : n ≤ m := by rw [hmm]; split <;> omega
    have hC : Try.prog.cellsOf 40 = 4 := by kernel_rfl
    refine ⟨fun k hk => ?_⟩
    obtain ⟨cs, h1, h2⟩ := hi k (by omega)
    rw [hC] at h1
    obtain ⟨_, hlen, hat⟩ := World.cells?_some h1
    obtain ⟨kd, id, at_, x, rfl⟩ := cells_act18 h2
    obtain ⟨cs0, g1, g2⟩ := hi 0 (by omega)
    rw [hC] at g1
    obtain ⟨_, glen, gat⟩ := World.cells?_some g1
    have hs0 := World.cell?_spot ((gat 0 (by omega)).trans (List.getElem?_eq_getElem (show 0 < cs0.length by omega)))
    obtain ⟨b, off, spot⟩ := ad
    simp [Addr.add] at hs0
    subst hs0
    refine ⟨b, off, kd, id, at_, x, rfl, fun W f => ?_⟩
    exact run_loadAt_mid (P := Try.prog) W b (off + k * 4) 40 [.int .i64 kd, .int .u64 (id : Int), .int .u64 (at_ : Int), .string x] _ (fun j u hj => by
      have hj' : j < 4 := by have := (List.getElem?_eq_some_iff.1 hj).1; simpa using this
      have := (hat j hj').trans hj
      rw [Addr.add_lit, Addr.add_lit] at this
      exact f.cell (fun e => e) this) Try.underlying40 rfl (by rw [Try.szAct18]; rfl)
end
theorem duePlays_at (m : Int) (a : Option Addr) (n c : Nat) (_ : (Lit.int .i64 m).wf = true) (w : World) (h : Acts18 w a n) : Calls Try.prog 4 #[.int .i64 m, .slice a n c] w fun e w' => e = .returned (.bool true) ∧ Fr F0 w w' := duePlays_any h
theorem dueGrows_at (ad : Option Addr) (n c a b : Nat) (_ : a < 2 ^ 64) (_ : b < 2 ^ 64) (w : World) (h : U64s18 w ad n c) : Calls Try.prog 3 #[.slice ad n c, .int .u64 (a : Int), .int .u64 (b : Int)] w fun e w' => e = .returned (.bool true) ∧ Fr F0 w w' := by
  obtain ⟨l, hn, hl⟩ := h
  exact dueGrows_any hl hn a b
theorem dueNone_at (id now : Nat) (x : ByteArray) (_ : id < 2 ^ 64) (_ : now < 2 ^ 64) (w : World) : Calls Try.prog 5 #[.int .u64 (id : Int), .int .u64 (now : Int), .string x] w fun e w' => e = .returned (.bool true) ∧ Fr F0 w w' := dueNone_any id now x w
end Go.Proofs.Ytkekdbnmeobgiaa

/- Layer 18 (due): all that its three laws need. -/
namespace Go.Proofs.Ytkekdbnmeobgiaa
set_option maxRecDepth 100000
end Go.Proofs.Ytkekdbnmeobgiaa
