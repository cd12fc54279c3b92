import Derived.Test.YtfjcplfhkahamaaGreatDoorQ1
import Derived.Test.YtfjcplfhkahamaaGreatDoorQ30
import Derived.Test.YtfjcplfhkahamaaGreatDoorQ34
import Derived.Test.YtfjcplfhkahamaaGreatDoorQ24
import Derived.Test.YtfjcplfhkahamaaGreatDoorQ27
import Derived.Test.YtfjcplfhkahamaaGreatDoorQ32
set_option maxRecDepth 100000
set_option maxHeartbeats 64000000
namespace Go.Proofs.YtfjcplfhkahamaaGreatDoor
set_option linter.unusedVariables false
set_option linter.unusedSimpArgs false
open Go.RowKit
theorem Bks.hashes {w : World} {a : Option Addr} {c : Nat} {L : List Bk} (h : Bks w a c L) (k : Nat) (hk : k < L.length) :
  ∃ b off,a = some ⟨b,off,none⟩ ∧ ∀ W,Fr F0 w W → (loadRowAt 25 (.pointer (some ⟨b,off + k * 36,none⟩))).run Tryz.prog W = .ok (.agg (hc (bkT L k).hash)) W := by
 obtain ⟨b,off,e,_⟩ := h.get k hk
 have o := h.ok _ (bkT_mem hk)
 refine ⟨b,off,e,fun W f => ?_⟩
 obtain ⟨b',off',e',hc'⟩ := (h.fr f).get k hk
 rw [e] at e'
 cases e'
 refine load_midA o.hash fun j u hj => ?_
 have hj' : j < 32 := by have := (List.getElem?_eq_some_iff.1 hj).1; rw [List.length_map,o.hash] at this; exact this
 exact hc' j u ((Bk.cell_lo o j hj').trans hj)
theorem is4 {s2 s3 s4 s8 s9 s10 s11 s12 s13 s14 s15 s16 s17 s18 s19 s20 s21 s22 s23 s24 s25 s26 s27 s28 s29 s30 s31 s32 s33 s34 s35 s36 s37 s38 s39 s40 s41 s42 s43 s44 s45 s46 s47 s48 s49 s50 s51 s52 s53 s54 s55 s56 s57 s58 s59 s60 s61 s62 s63 s64 s65 s66 s67 s68 s69 s70 s71 s72 s73 s74 s75 s76 s77 s78 s79 s80 s81 s82 s83 s84 s85 s86 s87 s88 s89 s90 s91 s92 s93 s94 s95 s96 s97 s98 s99 s100 s101 s102 s103 s104 s105 s106 s107 s108 s109 s110 s111 s112 s113 s114 s115 s116 s117 s118 s119 s120 s121 s122 s123 s124 s125 s126 s127 s128 s129 s130 s131 s132 s133 s134 s135 s136 s137 s138 s139 s140 s141 s142 s143 s144 s145 s146 s147 s148 s149 s150 s151 s152 s153 s154 s155 s156 s157 s158 s159 s160 s161 s162 s163 s164 s165 s166 s167 s168 s169 s170 s171 s172 s173 s174 s175 s176 s177 s178 s179 s180 s181 s182 s183 s184 s185 s186 s187 s188 s189 s190 s191 s192 s193 s194 s195 s196 s197 s198 s199 s200 s201 s202 s203 s204 s205 s206 s207 s208 s209 s210 s211 s212 : Value} {K : Act → World → Prop} {Q : Exit → Act → World → Prop} (w w3 : World) (X : Array Value) (p p2 best n m tp b off c0 c6 c7 : Nat) (a6 a7 : Option Addr) (e1 e2 e3 : Value) (H1 : RowKit.Hid (∀ W : World,Fr F0 w W → Calls Tryz.prog 11 #[.pointer (some ⟨p,0,none⟩)] W fun e w' => e = .returned (.agg X) ∧ Fr F0 W w')) (H2 : RowKit.Hid (∀ W : World,Fr F0 w W → Calls Tryz.prog 17 #[.pointer (some ⟨p,0,none⟩)] W fun e w' => e = .returned (.int .i64 (n : Int)) ∧ Fr F0 W w')) (H3 : RowKit.Hid (∀ W : World,Fr F0 w W → Calls Tryz.prog 16 #[.pointer (some ⟨p,0,none⟩)] W fun e w' => e = .returned (.int .i64 (tp : Int)) ∧ Fr F0 W w')) (H4 : RowKit.Hid (∀ W : World,Fr F0 w W → Calls Tryz.prog 44 #[.pointer (some ⟨p2,0,none⟩)] W fun e w' => e = .returned (.int .i64 (tp : Int)) ∧ Fr F0 W w')) (H5 : RowKit.Hid (∀ W : World,Fr F0 w W → (loadRowAt 25 (.pointer (some ⟨b,off + best * 36,none⟩))).run Tryz.prog W = .ok (.agg X) W)) (H6 : RowKit.Hid (∀ W : World,Fr F0 w W → W.heap[p2]? = some (.cells #[.slice (some ⟨b,off,none⟩) n c0,e1,e2,e3] 43 (0,0)))) (heq : ∀ w : World,(Op.equalIn 10000 26 (.agg X) (.agg X)).run Tryz.prog w = .ok true w) (l1 : (best : Int) < (n : Int)) (F : Fr F0 w w3)
  (hK : RowKit.Hid (∀ {u34 u35 u36 u37 u38 u39 u40 u41 u42 u43 u44 u45 u46 u47 u48 u49 u50 u51 u52 u53 u54 u55 u56 u57 u58 u59 u60 u61 u62 u63 u64 u65 u66 u67 u68 : Value} {w' : World},(u68 = .bool false ∧ Fr F0 w3 w') → K ⟨#[.pointer (some ⟨p,0,none⟩),.pointer (some ⟨p2,0,none⟩),s2,s3,s4,.int .i64 (best : Int),.slice a6 m c6,.slice a7 m c7,s8,s9,s10,s11,s12,s13,s14,s15,s16,s17,s18,s19,s20,s21,s22,s23,s24,s25,s26,s27,s28,s29,s30,s31,s32,s33,u34,u35,u36,u37,u38,u39,u40,u41,u42,u43,u44,u45,u46,u47,u48,u49,u50,u51,u52,u53,u54,u55,u56,u57,u58,u59,u60,u61,u62,u63,u64,u65,u66,u67,u68,s69,s70,s71,s72,s73,s74,s75,s76,s77,s78,s79,s80,s81,s82,s83,s84,s85,s86,s87,s88,s89,s90,s91,s92,s93,s94,s95,s96,s97,s98,s99,s100,s101,s102,s103,s104,s105,s106,s107,s108,s109,s110,s111,s112,s113,s114,s115,s116,s117,s118,s119,s120,s121,s122,s123,s124,s125,s126,s127,s128,s129,s130,s131,s132,s133,s134,s135,s136,s137,s138,s139,s140,s141,s142,s143,s144,s145,s146,s147,s148,s149,s150,s151,s152,s153,s154,s155,s156,s157,s158,s159,s160,s161,s162,s163,s164,s165,s166,s167,s168,s169,s170,s171,s172,s173,s174,s175,s176,s177,s178,s179,s180,s181,s182,s183,s184,s185,s186,s187,s188,s189,s190,s191,s192,s193,s194,s195,s196,s197,s198,s199,s200,s201,s202,s203,s204,s205,s206,s207,s208,s209,s210,s211,s212],[]⟩ w')) :
  Code.wp Tryz.prog ((Tryz.f15.body.bind (findRegion 4)).getD .skip) (Exit.then K Q) ⟨#[.pointer (some ⟨p,0,none⟩),.pointer (some ⟨p2,0,none⟩),s2,s3,s4,.int .i64 (best : Int),.slice a6 m c6,.slice a7 m c7,s8,s9,s10,s11,s12,s13,s14,s15,s16,s17,s18,s19,s20,s21,s22,s23,s24,s25,s26,s27,s28,s29,s30,s31,s32,s33,s34,s35,s36,s37,s38,s39,s40,s41,s42,s43,s44,s45,s46,s47,s48,s49,s50,s51,s52,s53,s54,s55,s56,s57,s58,s59,s60,s61,s62,s63,s64,s65,s66,s67,s68,s69,s70,s71,s72,s73,s74,s75,s76,s77,s78,s79,s80,s81,s82,s83,s84,s85,s86,s87,s88,s89,s90,s91,s92,s93,s94,s95,s96,s97,s98,s99,s100,s101,s102,s103,s104,s105,s106,s107,s108,s109,s110,s111,s112,s113,s114,s115,s116,s117,s118,s119,s120,s121,s122,s123,s124,s125,s126,s127,s128,s129,s130,s131,s132,s133,s134,s135,s136,s137,s138,s139,s140,s141,s142,s143,s144,s145,s146,s147,s148,s149,s150,s151,s152,s153,s154,s155,s156,s157,s158,s159,s160,s161,s162,s163,s164,s165,s166,s167,s168,s169,s170,s171,s172,s173,s174,s175,s176,s177,s178,s179,s180,s181,s182,s183,s184,s185,s186,s187,s188,s189,s190,s191,s192,s193,s194,s195,s196,s197,s198,s199,s200,s201,s202,s203,s204,s205,s206,s207,s208,s209,s210,s211,s212],[]⟩ w3 := by
 conv => arg 2; whnf
 have F9 := Fr.refl F0 w3
 refine rbegin (S := (fun w' => (w'.heap[p2]? = some (.cells #[.slice (some ⟨b,off,none⟩) n c0,e1,e2,e3] 43 (0,0)) ∧ (loadRowAt 25 (.pointer (some ⟨b,off + best * 36,none⟩))).run Tryz.prog w' = .ok (.agg X) w') ∧ Fr F0 w3 w')) ?_ fun hHeld => ?_
 ·((try dsimp only) <;> (exact ⟨⟨H6.out _ F.drew,H5.out _ F.drew⟩,F9.drew⟩))
 refine rtake 0 ?_
 refine rtake 2 ?_
 refine rtake 3 ?_
 refine rtake 4 ?_
 refine rtake 5 ?_
 refine rtake 6 ?_
 refine rtake 7 ?_
 refine rtake 8 ?_
 refine rtake 9 ?_
 refine rone 1 fun K hK => ?_
 go_simp
 ((with_reducible refine (H1.out _ (F.trans' hHeld.2)).mono ?_); rintro e w5 ⟨rfl,f5⟩)
 refine hK.out _ _ ?_ (fun hHeld => ?_)
 ·((try dsimp only) <;> (first | exact hHeld | exact ⟨⟨H6.out _ (F.trans' (hHeld.2.trans' f5)),H5.out _ (F.trans' (hHeld.2.trans' f5))⟩,hHeld.2.trans' f5⟩))
 clear hK K
 try (simp only [Act.put,aST]; dsimp only [aS0,aS1])
 refine rtake 10 ?_
 refine rtake 11 ?_
 refine rtake 12 ?_
 refine rtake 13 ?_
 refine rtake 14 ?_
 refine rtake 15 ?_
 refine rtake 16 ?_
 refine rtake 17 ?_
 refine rtake 18 ?_
 refine rtake 19 ?_
 refine rtake 21 ?_
 refine rtake 22 ?_
 refine rtake 23 ?_
 refine rtake 24 ?_
 refine rtake 25 ?_
 refine rone 20 fun K hK => ?_
 go_simp
 ((with_reducible refine (H2.out _ (F.trans' hHeld.2)).mono ?_); rintro e w5 ⟨rfl,f5⟩)
 refine hK.out _ _ ?_ (fun hHeld => ?_)
 ·((try dsimp only) <;> (first | exact hHeld | exact ⟨⟨H6.out _ (F.trans' (hHeld.2.trans' f5)),H5.out _ (F.trans' (hHeld.2.trans' f5))⟩,hHeld.2.trans' f5⟩))
 clear hK K
 try (simp only [Act.put,aST]; dsimp only [aS0,aS1])
 refine rtake 26 ?_
 refine rtake 27 ?_
 refine rtake 28 ?_
 refine rtake 29 ?_
 refine rtake 31 ?_
 refine rone 30 fun K hK => ?_
 go_simp
 ((with_reducible refine (H3.out _ (F.trans' hHeld.2)).mono ?_); rintro e w5 ⟨rfl,f5⟩)
 refine hK.out _ _ ?_ (fun hHeld => ?_)
 ·((try dsimp only) <;> (first | exact hHeld | exact ⟨⟨H6.out _ (F.trans' (hHeld.2.trans' f5)),H5.out _ (F.trans' (hHeld.2.trans' f5))⟩,hHeld.2.trans' f5⟩))
 clear hK K
 try (simp only [Act.put,aST]; dsimp only [aS0,aS1])
 refine rone 32 fun K hK => ?_
 go_simp
 ((with_reducible refine (H4.out _ (F.trans' hHeld.2)).mono ?_); rintro e w5 ⟨rfl,f5⟩)
 refine hK.out _ _ ?_ (fun hHeld => ?_)
 ·((try dsimp only) <;> (first | exact hHeld | exact ⟨⟨H6.out _ (F.trans' (hHeld.2.trans' f5)),H5.out _ (F.trans' (hHeld.2.trans' f5))⟩,hHeld.2.trans' f5⟩))
 clear hK K
 try (simp only [Act.put,aST]; dsimp only [aS0,aS1])
 refine rtake 33 ?_
 refine rtake 34 ?_
 refine rdone ?_
 all_goals exact hK.out ⟨by first | rfl | simp,hHeld.2⟩
theorem is10 {s0 s2 s3 s4 s5 s6 s12 s13 s14 s15 s16 s17 s18 s19 s20 s21 s22 s23 s24 s25 s26 s27 s28 s29 s30 s31 s32 s33 s34 s35 s36 s37 s38 s39 s40 s41 s42 s43 s44 s45 s46 s47 s48 s49 s50 s51 s52 s53 s54 s55 s56 s57 s58 s59 s60 s61 s62 s63 s64 s65 s66 s67 s68 s69 s70 s71 s72 s73 s74 s75 s76 s77 s78 s79 s80 s81 s82 s83 s84 s85 s86 s87 s88 s89 s90 s91 s92 s93 s94 s95 s96 s97 s98 s99 s100 s101 s102 s103 s104 s105 s106 s107 s108 s109 s110 s111 s112 s113 s114 s115 s116 s117 s118 s119 s120 s121 s122 s123 s124 s125 s126 s127 s128 s129 s130 s131 s132 s133 s134 s135 s136 s137 s138 s139 s140 s141 s142 s143 s144 s145 s146 s147 s148 s149 s150 s151 s152 s153 s154 s155 s156 s157 s158 s159 s160 s161 s162 s163 s164 s165 s166 s167 s168 s169 s170 s171 s172 s173 s174 s175 s176 s177 s178 s179 s180 s181 s182 s183 s184 s185 s186 s187 s188 s189 s190 s191 s192 s193 s194 s195 s196 s197 s198 s199 s200 s201 s202 s203 s204 s205 s206 s207 s208 s209 s210 s211 s212 : Value} {K : Act → World → Prop} {Q : Exit → Act → World → Prop} (w w3 : World) (X : Array Value) (p2 g10 k lk m n b off c0 b7 off7 c7 : Nat) (e1 e2 e3 : Value) (H4 : RowKit.Hid (∀ W : World,Fr F0 w W → (loadRowAt 26 (.pointer (some ⟨b7,off7 + k * 32,none⟩))).run Tryz.prog W = .ok (.agg X) W)) (H5 : RowKit.Hid (∀ W : World,Fr F0 w W → (loadRowAt 25 (.pointer (some ⟨b,off + lk * 36,none⟩))).run Tryz.prog W = .ok (.agg X) W)) (H6 : RowKit.Hid (∀ W : World,Fr F0 w W → W.heap[p2]? = some (.cells #[.slice (some ⟨b,off,none⟩) n c0,e1,e2,e3] 43 (0,0)))) (heq : ∀ w : World,(Op.equalIn 10000 26 (.agg X) (.agg X)).run Tryz.prog w = .ok true w) (sX : X.size = 32) (l1 : (lk : Int) < (n : Int)) (l2 : (k : Int) < (m : Int)) (F : Fr F0 w w3) (r10 : w3.heap[g10]? = some (.cells X 26 (0,0)))
  (hK : RowKit.Hid (∀ {u82 u83 u84 u85 u86 u87 u88 u89 u90 u91 u92 u93 u94 u95 u96 u97 u98 u99 u100 u101 u102 u103 : Value} {w' : World},(u103 = .bool false ∧ Fr F0 w3 w') → K ⟨#[s0,.pointer (some ⟨p2,0,none⟩),s2,s3,s4,s5,s6,.slice (some ⟨b7,off7,none⟩) m c7,.int .i64 (k : Int),.int .i64 (lk : Int),.pointer (some ⟨g10,0,none⟩),.bool true,s12,s13,s14,s15,s16,s17,s18,s19,s20,s21,s22,s23,s24,s25,s26,s27,s28,s29,s30,s31,s32,s33,s34,s35,s36,s37,s38,s39,s40,s41,s42,s43,s44,s45,s46,s47,s48,s49,s50,s51,s52,s53,s54,s55,s56,s57,s58,s59,s60,s61,s62,s63,s64,s65,s66,s67,s68,s69,s70,s71,s72,s73,s74,s75,s76,s77,s78,s79,s80,s81,u82,u83,u84,u85,u86,u87,u88,u89,u90,u91,u92,u93,u94,u95,u96,u97,u98,u99,u100,u101,u102,u103,s104,s105,s106,s107,s108,s109,s110,s111,s112,s113,s114,s115,s116,s117,s118,s119,s120,s121,s122,s123,s124,s125,s126,s127,s128,s129,s130,s131,s132,s133,s134,s135,s136,s137,s138,s139,s140,s141,s142,s143,s144,s145,s146,s147,s148,s149,s150,s151,s152,s153,s154,s155,s156,s157,s158,s159,s160,s161,s162,s163,s164,s165,s166,s167,s168,s169,s170,s171,s172,s173,s174,s175,s176,s177,s178,s179,s180,s181,s182,s183,s184,s185,s186,s187,s188,s189,s190,s191,s192,s193,s194,s195,s196,s197,s198,s199,s200,s201,s202,s203,s204,s205,s206,s207,s208,s209,s210,s211,s212],[]⟩ w')) :
  Code.wp Tryz.prog ((Tryz.f15.body.bind (findRegion 10)).getD .skip) (Exit.then K Q) ⟨#[s0,.pointer (some ⟨p2,0,none⟩),s2,s3,s4,s5,s6,.slice (some ⟨b7,off7,none⟩) m c7,.int .i64 (k : Int),.int .i64 (lk : Int),.pointer (some ⟨g10,0,none⟩),.bool true,s12,s13,s14,s15,s16,s17,s18,s19,s20,s21,s22,s23,s24,s25,s26,s27,s28,s29,s30,s31,s32,s33,s34,s35,s36,s37,s38,s39,s40,s41,s42,s43,s44,s45,s46,s47,s48,s49,s50,s51,s52,s53,s54,s55,s56,s57,s58,s59,s60,s61,s62,s63,s64,s65,s66,s67,s68,s69,s70,s71,s72,s73,s74,s75,s76,s77,s78,s79,s80,s81,s82,s83,s84,s85,s86,s87,s88,s89,s90,s91,s92,s93,s94,s95,s96,s97,s98,s99,s100,s101,s102,s103,s104,s105,s106,s107,s108,s109,s110,s111,s112,s113,s114,s115,s116,s117,s118,s119,s120,s121,s122,s123,s124,s125,s126,s127,s128,s129,s130,s131,s132,s133,s134,s135,s136,s137,s138,s139,s140,s141,s142,s143,s144,s145,s146,s147,s148,s149,s150,s151,s152,s153,s154,s155,s156,s157,s158,s159,s160,s161,s162,s163,s164,s165,s166,s167,s168,s169,s170,s171,s172,s173,s174,s175,s176,s177,s178,s179,s180,s181,s182,s183,s184,s185,s186,s187,s188,s189,s190,s191,s192,s193,s194,s195,s196,s197,s198,s199,s200,s201,s202,s203,s204,s205,s206,s207,s208,s209,s210,s211,s212],[]⟩ w3 := by
 conv => arg 2; whnf
 have F9 := Fr.refl F0 w3
 refine rbegin (S := (fun w' => (w'.heap[g10]? = some (.cells X 26 (0,0)) ∧ w'.heap[p2]? = some (.cells #[.slice (some ⟨b,off,none⟩) n c0,e1,e2,e3] 43 (0,0)) ∧ (loadRowAt 25 (.pointer (some ⟨b,off + lk * 36,none⟩))).run Tryz.prog w' = .ok (.agg X) w' ∧ (loadRowAt 26 (.pointer (some ⟨b7,off7 + k * 32,none⟩))).run Tryz.prog w' = .ok (.agg X) w') ∧ Fr F0 w3 w')) ?_ fun hHeld => ?_
 ·((try dsimp only) <;> (exact ⟨⟨r10,H6.out _ F.drew,H5.out _ F.drew,H4.out _ F.drew⟩,F9.drew⟩))
 refine rtake 0 ?_
 refine rtake 1 ?_
 refine rtake 2 ?_
 refine rtake 3 ?_
 refine rtake 4 ?_
 refine rtake 5 ?_
 refine rtake 6 ?_
 refine rtake 7 ?_
 refine rtake 8 ?_
 refine rtake 9 ?_
 refine rtake 10 ?_
 refine rtake 11 ?_
 refine rtake 12 ?_
 refine rtake 13 ?_
 refine rtake 14 ?_
 refine rtake 15 ?_
 refine rtake 16 ?_
 refine rtake 17 ?_
 refine rtake 18 ?_
 refine rtake 19 ?_
 refine rtake 20 ?_
 refine rtake 21 ?_
 refine rdone ?_
 all_goals exact hK.out ⟨by first | rfl | simp,hHeld.2⟩
theorem is18 {s2 s3 s4 s6 s7 s8 s9 s10 s11 s12 s14 s15 s16 s17 s18 s19 s20 s21 s22 s23 s24 s25 s26 s27 s28 s29 s30 s31 s32 s33 s34 s35 s36 s37 s38 s39 s40 s41 s42 s43 s44 s45 s46 s47 s48 s49 s50 s51 s52 s53 s54 s55 s56 s57 s58 s59 s60 s61 s62 s63 s64 s65 s66 s67 s68 s69 s70 s71 s72 s73 s74 s75 s76 s77 s78 s79 s80 s81 s82 s83 s84 s85 s86 s87 s88 s89 s90 s91 s92 s93 s94 s95 s96 s97 s98 s99 s100 s101 s102 s103 s104 s105 s106 s107 s108 s109 s110 s111 s112 s113 s114 s115 s116 s117 s118 s119 s120 s121 s122 s123 s124 s125 s126 s127 s128 s129 s130 s131 s132 s133 s134 s135 s136 s137 s138 s139 s140 s141 s142 s143 s144 s145 s146 s147 s148 s149 s150 s151 s152 s153 s154 s155 s156 s157 s158 s159 s160 s161 s162 s163 s164 s165 s166 s167 s168 s169 s170 s171 s172 s173 s174 s175 s176 s177 s178 s179 s180 s181 s182 s183 s184 s185 s186 s187 s188 s189 s190 s191 s192 s193 s194 s195 s196 s197 s198 s199 s200 s201 s202 s203 s204 s205 s206 s207 s208 s209 s210 s211 s212 : Value} {K : Act → World → Prop} {Q : Exit → Act → World → Prop} (w w3 : World) (X Y B : Array Value) (p p2 g13 best n b off c0 fk : Nat) (e1 e2 e3 : Value) (H1 : RowKit.Hid (∀ W : World,Fr F0 w W → Calls Tryz.prog 52 #[.pointer (some ⟨p,0,none⟩),.agg X,.agg Y] W fun e w' => e = .returned (.tuple #[.int .i64 (fk : Int),.bool true]) ∧ Fr F0 W w')) (H4 : RowKit.Hid (∀ (W : World),W.heap[g13]? = some (.cells B 38 (0,0)) → (loadRowAt 25 (.pointer (some ⟨g13,0,none⟩))).run Tryz.prog W = .ok (.agg X) W)) (H5 : RowKit.Hid (∀ W : World,Fr F0 w W → (loadRowAt 25 (.pointer (some ⟨b,off + best * 36,none⟩))).run Tryz.prog W = .ok (.agg Y) W)) (H6 : RowKit.Hid (∀ W : World,Fr F0 w W → W.heap[p2]? = some (.cells #[.slice (some ⟨b,off,none⟩) n c0,e1,e2,e3] 43 (0,0)))) (l1 : (best : Int) < (n : Int)) (F : Fr F0 w w3) (r13 : w3.heap[g13]? = some (.cells B 38 (0,0)))
  (hK : RowKit.Hid (∀ {u18 u19 u129 u130 u131 u132 u133 u134 u135 u136 u137 u138 u139 u140 u141 u142 u143 : Value} {w' : World},(u18 = .int .i64 (fk : Int) ∧ u19 = .bool true ∧ Fr F0 w3 w') → K ⟨#[.pointer (some ⟨p,0,none⟩),.pointer (some ⟨p2,0,none⟩),s2,s3,s4,.int .i64 (best : Int),s6,s7,s8,s9,s10,s11,s12,.pointer (some ⟨g13,0,none⟩),s14,s15,s16,s17,u18,u19,s20,s21,s22,s23,s24,s25,s26,s27,s28,s29,s30,s31,s32,s33,s34,s35,s36,s37,s38,s39,s40,s41,s42,s43,s44,s45,s46,s47,s48,s49,s50,s51,s52,s53,s54,s55,s56,s57,s58,s59,s60,s61,s62,s63,s64,s65,s66,s67,s68,s69,s70,s71,s72,s73,s74,s75,s76,s77,s78,s79,s80,s81,s82,s83,s84,s85,s86,s87,s88,s89,s90,s91,s92,s93,s94,s95,s96,s97,s98,s99,s100,s101,s102,s103,s104,s105,s106,s107,s108,s109,s110,s111,s112,s113,s114,s115,s116,s117,s118,s119,s120,s121,s122,s123,s124,s125,s126,s127,s128,u129,u130,u131,u132,u133,u134,u135,u136,u137,u138,u139,u140,u141,u142,u143,s144,s145,s146,s147,s148,s149,s150,s151,s152,s153,s154,s155,s156,s157,s158,s159,s160,s161,s162,s163,s164,s165,s166,s167,s168,s169,s170,s171,s172,s173,s174,s175,s176,s177,s178,s179,s180,s181,s182,s183,s184,s185,s186,s187,s188,s189,s190,s191,s192,s193,s194,s195,s196,s197,s198,s199,s200,s201,s202,s203,s204,s205,s206,s207,s208,s209,s210,s211,s212],[]⟩ w')) :
  Code.wp Tryz.prog ((Tryz.f15.body.bind (findRegion 18)).getD .skip) (Exit.then K Q) ⟨#[.pointer (some ⟨p,0,none⟩),.pointer (some ⟨p2,0,none⟩),s2,s3,s4,.int .i64 (best : Int),s6,s7,s8,s9,s10,s11,s12,.pointer (some ⟨g13,0,none⟩),s14,s15,s16,s17,s18,s19,s20,s21,s22,s23,s24,s25,s26,s27,s28,s29,s30,s31,s32,s33,s34,s35,s36,s37,s38,s39,s40,s41,s42,s43,s44,s45,s46,s47,s48,s49,s50,s51,s52,s53,s54,s55,s56,s57,s58,s59,s60,s61,s62,s63,s64,s65,s66,s67,s68,s69,s70,s71,s72,s73,s74,s75,s76,s77,s78,s79,s80,s81,s82,s83,s84,s85,s86,s87,s88,s89,s90,s91,s92,s93,s94,s95,s96,s97,s98,s99,s100,s101,s102,s103,s104,s105,s106,s107,s108,s109,s110,s111,s112,s113,s114,s115,s116,s117,s118,s119,s120,s121,s122,s123,s124,s125,s126,s127,s128,s129,s130,s131,s132,s133,s134,s135,s136,s137,s138,s139,s140,s141,s142,s143,s144,s145,s146,s147,s148,s149,s150,s151,s152,s153,s154,s155,s156,s157,s158,s159,s160,s161,s162,s163,s164,s165,s166,s167,s168,s169,s170,s171,s172,s173,s174,s175,s176,s177,s178,s179,s180,s181,s182,s183,s184,s185,s186,s187,s188,s189,s190,s191,s192,s193,s194,s195,s196,s197,s198,s199,s200,s201,s202,s203,s204,s205,s206,s207,s208,s209,s210,s211,s212],[]⟩ w3 := by
 conv => arg 2; whnf
 have F9 := Fr.refl F0 w3
 refine rbegin (S := (fun w' => (w'.heap[g13]? = some (.cells B 38 (0,0)) ∧ w'.heap[p2]? = some (.cells #[.slice (some ⟨b,off,none⟩) n c0,e1,e2,e3] 43 (0,0)) ∧ (loadRowAt 25 (.pointer (some ⟨b,off + best * 36,none⟩))).run Tryz.prog w' = .ok (.agg Y) w' ∧ (loadRowAt 25 (.pointer (some ⟨g13,0,none⟩))).run Tryz.prog w' = .ok (.agg X) w') ∧ Fr F0 w3 w')) ?_ fun hHeld => ?_
 ·((try dsimp only) <;> (exact ⟨⟨r13,H6.out _ F.drew,H5.out _ F.drew,H4.out _ r13⟩,F9.drew⟩))
 refine rtake 0 ?_
 refine rtake 1 ?_
 refine rtake 2 ?_
 refine rtake 3 ?_
 refine rtake 4 ?_
 refine rtake 5 ?_
 refine rtake 6 ?_
 refine rtake 7 ?_
 refine rtake 8 ?_
 refine rtake 9 ?_
 refine rtake 10 ?_
 refine rone 11 fun K hK => ?_
 go_simp
 ((with_reducible refine (H1.out _ (F.trans' hHeld.2)).mono ?_); rintro e w5 ⟨rfl,f5⟩)
 refine hK.out _ _ ?_ (fun hHeld => ?_)
 ·((try dsimp only) <;> (first | exact hHeld | exact ⟨⟨keep_fr f5 hHeld.1.1,H6.out _ (F.trans' (hHeld.2.trans' f5)),H5.out _ (F.trans' (hHeld.2.trans' f5)),H4.out _ (keep_fr f5 hHeld.1.1)⟩,hHeld.2.trans' f5⟩))
 clear hK K
 try (simp only [Act.put,aST]; dsimp only [aS0,aS1])
 refine rtake 12 ?_
 refine rtake 13 ?_
 refine rtake 14 ?_
 refine rtake 15 ?_
 refine rtake 16 ?_
 refine rdone ?_
 all_goals exact hK.out ⟨rfl,rfl,hHeld.2⟩
theorem is20 {s0 s2 s3 s4 s6 s7 s8 s9 s10 s11 s22 s23 s24 s25 s26 s27 s28 s29 s30 s31 s32 s33 s34 s35 s36 s37 s38 s39 s40 s41 s42 s43 s44 s45 s46 s47 s48 s49 s50 s51 s52 s53 s54 s55 s56 s57 s58 s59 s60 s61 s62 s63 s64 s65 s66 s67 s68 s69 s70 s71 s72 s73 s74 s75 s76 s77 s78 s79 s80 s81 s82 s83 s84 s85 s86 s87 s88 s89 s90 s91 s92 s93 s94 s95 s96 s97 s98 s99 s100 s101 s102 s103 s104 s105 s106 s107 s108 s109 s110 s111 s112 s113 s114 s115 s116 s117 s118 s119 s120 s121 s122 s123 s124 s125 s126 s127 s128 s129 s130 s131 s132 s133 s134 s135 s136 s137 s138 s139 s140 s141 s142 s143 s144 s145 s146 s147 s148 s149 s150 s151 s152 s153 s154 s155 s156 s157 s158 s159 s160 s161 s162 s163 s164 s165 s166 s167 s168 s169 s170 s171 s172 s173 s174 s175 s176 s177 s178 s179 s180 s181 s182 s183 s184 s185 s186 s187 s188 s189 s190 s191 s192 s193 s194 s195 s196 s197 s198 s199 s200 s201 s202 s203 s204 s205 s206 s207 s208 s209 s210 s211 s212 : Value} {K : Act → World → Prop} {Q : Exit → Act → World → Prop} (w w3 : World) (X B Z : Array Value) (p p2 g13 g16 best i ht fk bi : Nat) (H1 : RowKit.Hid (∀ W : World,Fr F0 w W → Calls Tryz.prog 53 #[.pointer (some ⟨p2,0,none⟩),.int .i64 (i : Int)] W fun e w' => e = .returned (.int .i64 (ht : Int)) ∧ Fr F0 W w')) (H2 : RowKit.Hid (∀ W : World,Fr F0 w W → Calls Tryz.prog 19 #[.agg Z] W fun e w' => e = .returned (.agg X) ∧ Fr F0 W w')) (H3 : RowKit.Hid (∀ W : World,Fr F0 w W → Calls Tryz.prog 54 #[.pointer (some ⟨p2,0,none⟩),.int .i64 (i : Int),.int .i64 (best : Int)] W fun e w' => e = .returned (.int .i64 (fk : Int)) ∧ Fr F0 W w')) (H7 : RowKit.Hid (∀ W : World,Fr F0 w W → Calls Tryz.prog 40 #[.pointer (some ⟨p2,0,none⟩),.int .i64 (i : Int)] W fun e w' => e = .returned (.int .u32 (bi : Int)) ∧ Fr F0 W w')) (H4 : RowKit.Hid (∀ (W : World),W.heap[g13]? = some (.cells B 38 (0,0)) → (loadRowAt 25 (.pointer (some ⟨g13,0,none⟩))).run Tryz.prog W = .ok (.agg X) W)) (heq : ∀ w : World,(Op.equalIn 10000 26 (.agg X) (.agg X)).run Tryz.prog w = .ok true w) (sZ : Z.size = 68) (F : Fr F0 w w3) (r13 : w3.heap[g13]? = some (.cells B 38 (0,0))) (r16 : w3.heap[g16]? = some (.cells Z 28 (0,0)))
  (hK : RowKit.Hid (∀ {u151 u152 u153 u154 u155 u156 u157 u158 u159 u160 u161 u162 u163 u164 u165 u166 u167 u168 u169 u170 u171 u172 u173 u174 u175 u176 u177 u178 u179 u180 u181 u182 u183 u184 u185 u186 u187 u188 u189 u190 u191 u192 u193 : Value} {w' : World},(u193 = .bool false ∧ Fr F0 w3 w') → K ⟨#[s0,.pointer (some ⟨p2,0,none⟩),s2,s3,s4,.int .i64 (best : Int),s6,s7,s8,s9,s10,s11,.int .i64 (i : Int),.pointer (some ⟨g13,0,none⟩),.int .i64 (ht : Int),.bool true,.pointer (some ⟨g16,0,none⟩),.bool true,.int .i64 (fk : Int),.bool true,.int .u32 (bi : Int),.int .i64 0,s22,s23,s24,s25,s26,s27,s28,s29,s30,s31,s32,s33,s34,s35,s36,s37,s38,s39,s40,s41,s42,s43,s44,s45,s46,s47,s48,s49,s50,s51,s52,s53,s54,s55,s56,s57,s58,s59,s60,s61,s62,s63,s64,s65,s66,s67,s68,s69,s70,s71,s72,s73,s74,s75,s76,s77,s78,s79,s80,s81,s82,s83,s84,s85,s86,s87,s88,s89,s90,s91,s92,s93,s94,s95,s96,s97,s98,s99,s100,s101,s102,s103,s104,s105,s106,s107,s108,s109,s110,s111,s112,s113,s114,s115,s116,s117,s118,s119,s120,s121,s122,s123,s124,s125,s126,s127,s128,s129,s130,s131,s132,s133,s134,s135,s136,s137,s138,s139,s140,s141,s142,s143,s144,s145,s146,s147,s148,s149,s150,u151,u152,u153,u154,u155,u156,u157,u158,u159,u160,u161,u162,u163,u164,u165,u166,u167,u168,u169,u170,u171,u172,u173,u174,u175,u176,u177,u178,u179,u180,u181,u182,u183,u184,u185,u186,u187,u188,u189,u190,u191,u192,u193,s194,s195,s196,s197,s198,s199,s200,s201,s202,s203,s204,s205,s206,s207,s208,s209,s210,s211,s212],[]⟩ w')) :
  Code.wp Tryz.prog ((Tryz.f15.body.bind (findRegion 20)).getD .skip) (Exit.then K Q) ⟨#[s0,.pointer (some ⟨p2,0,none⟩),s2,s3,s4,.int .i64 (best : Int),s6,s7,s8,s9,s10,s11,.int .i64 (i : Int),.pointer (some ⟨g13,0,none⟩),.int .i64 (ht : Int),.bool true,.pointer (some ⟨g16,0,none⟩),.bool true,.int .i64 (fk : Int),.bool true,.int .u32 (bi : Int),.int .i64 0,s22,s23,s24,s25,s26,s27,s28,s29,s30,s31,s32,s33,s34,s35,s36,s37,s38,s39,s40,s41,s42,s43,s44,s45,s46,s47,s48,s49,s50,s51,s52,s53,s54,s55,s56,s57,s58,s59,s60,s61,s62,s63,s64,s65,s66,s67,s68,s69,s70,s71,s72,s73,s74,s75,s76,s77,s78,s79,s80,s81,s82,s83,s84,s85,s86,s87,s88,s89,s90,s91,s92,s93,s94,s95,s96,s97,s98,s99,s100,s101,s102,s103,s104,s105,s106,s107,s108,s109,s110,s111,s112,s113,s114,s115,s116,s117,s118,s119,s120,s121,s122,s123,s124,s125,s126,s127,s128,s129,s130,s131,s132,s133,s134,s135,s136,s137,s138,s139,s140,s141,s142,s143,s144,s145,s146,s147,s148,s149,s150,s151,s152,s153,s154,s155,s156,s157,s158,s159,s160,s161,s162,s163,s164,s165,s166,s167,s168,s169,s170,s171,s172,s173,s174,s175,s176,s177,s178,s179,s180,s181,s182,s183,s184,s185,s186,s187,s188,s189,s190,s191,s192,s193,s194,s195,s196,s197,s198,s199,s200,s201,s202,s203,s204,s205,s206,s207,s208,s209,s210,s211,s212],[]⟩ w3 := by
 conv => arg 2; whnf
 have F9 := Fr.refl F0 w3
 refine rbegin (S := (fun w' => (w'.heap[g13]? = some (.cells B 38 (0,0)) ∧ w'.heap[g16]? = some (.cells Z 28 (0,0)) ∧ (loadRowAt 25 (.pointer (some ⟨g13,0,none⟩))).run Tryz.prog w' = .ok (.agg X) w') ∧ Fr F0 w3 w')) ?_ fun hHeld => ?_
 ·((try dsimp only) <;> (exact ⟨⟨r13,r16,H4.out _ r13⟩,F9.drew⟩))
 refine rtake 0 ?_
 refine rtake 1 ?_
 refine rtake 2 ?_
 refine rtake 3 ?_
 refine rtake 4 ?_
 refine rtake 5 ?_
 refine rone 6 fun K hK => ?_
 go_simp
 ((with_reducible refine (H1.out _ (F.trans' hHeld.2)).mono ?_); rintro e w5 ⟨rfl,f5⟩)
 refine hK.out _ _ ?_ (fun hHeld => ?_)
 ·((try dsimp only) <;> (first | exact hHeld | exact ⟨⟨keep_fr f5 hHeld.1.1,keep_fr f5 hHeld.1.2.1,H4.out _ (keep_fr f5 hHeld.1.1)⟩,hHeld.2.trans' f5⟩))
 clear hK K
 try (simp only [Act.put,aST]; dsimp only [aS0,aS1])
 refine rtake 7 ?_
 refine rtake 8 ?_
 refine rtake 9 ?_
 refine rtake 10 ?_
 refine rtake 11 ?_
 refine rtake 12 ?_
 refine rtake 13 ?_
 refine rtake 14 ?_
 refine rtake 16 ?_
 refine rtake 17 ?_
 refine rone 15 fun K hK => ?_
 go_simp
 ((with_reducible refine (H2.out _ (F.trans' hHeld.2)).mono ?_); rintro e w5 ⟨rfl,f5⟩)
 refine hK.out _ _ ?_ (fun hHeld => ?_)
 ·((try dsimp only) <;> (first | exact hHeld | exact ⟨⟨keep_fr f5 hHeld.1.1,keep_fr f5 hHeld.1.2.1,H4.out _ (keep_fr f5 hHeld.1.1)⟩,hHeld.2.trans' f5⟩))
 clear hK K
 try (simp only [Act.put,aST]; dsimp only [aS0,aS1])
 refine rtake 18 ?_
 refine rtake 19 ?_
 refine rtake 20 ?_
 refine rtake 21 ?_
 refine rtake 22 ?_
 refine rtake 23 ?_
 refine rtake 24 ?_
 refine rtake 25 ?_
 refine rtake 26 ?_
 refine rtake 27 ?_
 refine rtake 28 ?_
 refine rone 29 fun K hK => ?_
 go_simp
 ((with_reducible refine (H3.out _ (F.trans' hHeld.2)).mono ?_); rintro e w5 ⟨rfl,f5⟩)
 refine hK.out _ _ ?_ (fun hHeld => ?_)
 ·((try dsimp only) <;> (first | exact hHeld | exact ⟨⟨keep_fr f5 hHeld.1.1,keep_fr f5 hHeld.1.2.1,H4.out _ (keep_fr f5 hHeld.1.1)⟩,hHeld.2.trans' f5⟩))
 clear hK K
 try (simp only [Act.put,aST]; dsimp only [aS0,aS1])
 refine rtake 30 ?_
 refine rtake 31 ?_
 refine rtake 32 ?_
 refine rtake 33 ?_
 refine rtake 34 ?_
 refine rtake 35 ?_
 refine rtake 36 ?_
 refine rtake 37 ?_
 refine rtake 38 ?_
 refine rtake 39 ?_
 refine rone 40 fun K hK => ?_
 go_simp
 ((with_reducible refine (H7.out _ (F.trans' hHeld.2)).mono ?_); rintro e w5 ⟨rfl,f5⟩)
 refine hK.out _ _ ?_ (fun hHeld => ?_)
 ·((try dsimp only) <;> (first | exact hHeld | exact ⟨⟨keep_fr f5 hHeld.1.1,keep_fr f5 hHeld.1.2.1,H4.out _ (keep_fr f5 hHeld.1.1)⟩,hHeld.2.trans' f5⟩))
 clear hK K
 try (simp only [Act.put,aST]; dsimp only [aS0,aS1])
 refine rtake 41 ?_
 refine rtake 42 ?_
 refine rdone ?_
 all_goals exact hK.out ⟨by first | rfl | simp,hHeld.2⟩
end Go.Proofs.YtfjcplfhkahamaaGreatDoor
