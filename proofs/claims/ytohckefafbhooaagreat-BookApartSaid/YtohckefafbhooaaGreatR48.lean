import Derived.Test.YtohckefafbhooaaGreatR1
import Derived.Test.YtohckefafbhooaaGreatR47
import Derived.Test.YtohckefafbhooaaGreatR15
import Derived.Test.YtohckefafbhooaaGreatR43
set_option maxRecDepth 100000
set_option maxHeartbeats 64000000
namespace Go.Proofs.YtohckefafbhooaaGreat
set_option linter.unusedVariables false
set_option linter.unusedSimpArgs false
open Go.RowKit
attribute [-go_sem] gq
theorem RB.nine {B : Nat} {W : World} {m : Nat} {R : Nat → Nat} {M : Bok} {sv : Value} (h : RB B W m R M sv) : W.cell? ⟨m,11,none⟩ = some (.int .u64 (M.now : Nat)) ∧ W.cell? ⟨m,12,none⟩ = some (.int .u64 (M.price : Nat)) ∧ W.cell? ⟨m,13,none⟩ = some (.int .u64 (M.told : Nat)) ∧ W.cell? ⟨m,526,none⟩ = some (.int .u64 (M.held : Nat)) ∧ W.cell? ⟨m,527,none⟩ = some (.int .u64 (M.inn : Nat)) ∧ W.cell? ⟨m,528,none⟩ = some (.int .u64 (M.out : Nat)) ∧ W.cell? ⟨m,529,none⟩ = some (.int .u64 (M.pc : Nat)) ∧ W.cell? ⟨m,530,none⟩ = some (.int .u64 (M.pn : Nat)) ∧ W.cell? ⟨m,532,none⟩ = some (.int .u64 (M.dep : Nat)) := ⟨h.now,h.price,h.told,h.held,h.inn,h.out,h.pc,h.pn,h.dep⟩
theorem sp3 {s2 s3 s4 s9 s10 s11 s12 s13 s14 s15 s16 s17 s18 s19 s20 s21 s22 s23 s24 s25 s26 s27 s28 s29 s30 s31 s32 s33 s34 s35 s36 s37 s38 s39 s40 s41 s42 s43 s44 s45 s46 s47 s48 s49 s50 s51 s52 s53 s54 s55 s56 s57 s58 s59 s60 s61 s62 s63 s64 s65 s66 s67 s68 s69 s70 s71 s72 s73 s74 s75 s76 s77 s78 s79 s80 s81 s82 s83 s84 s85 s86 s87 s88 s89 s90 s91 s92 s93 s94 s95 s96 s97 s98 s99 ay2 ay1 ay0 ayz ayy ayx ayw ayv s108 s109 s110 s111 s112 s113 s114 s115 s116 s117 s118 s119 aIr aIq aIp aIo aIn aIm aIl aIk aIj aIi aIh aIg aIf aIe aId aIc aIb aIa aH9 aH8 aH7 aH6 aH5 aH4 aH3 aH2 aH1 aH0 aHz aHy aHx aHw aHv aHu aHt aHs aHr aHq aHp aHo aHn aHm aHl aHk aHj aHi aHh aHg aHf aHe aHd aHc aHb aHa aG9 aG8 aG7 aG6 aG5 aG4 aG3 aG2 aG1 s183 s184 s185 s186 s187 s188 s189 s190 s191 s192 s193 s194 s195 s196 s197 s198 s199 s200 s201 s202 s203 s204 s205 s206 s207 s208 s209 s210 s211 s212 s213 s214 s215 s216 s217 s218 s219 s220 s221 s222 s223 s224 s225 s226 s227 s228 s229 s230 s231 s232 s233 s234 s235 s236 s237 s238 s239 s240 s241 s242 s243 s244 s245 s246 s247 s248 s249 s250 s251 s252 s253 s254 s255 s256 s257 s258 s259 aG0 aGz aGy aGx aGw aGv aGu aGt aGs aGr aGq aGp aGo aGn aGm aGl aGk aGj aGi : Value} {K : Act → World → Prop} {Q : Exit → Act → World → Prop} {S : Nat → Prop} {w w1 : World} {p tp q fp vb m tt : Nat} {M : Bok} (H : RowKit.Hid (∀ W,Fr F0 w W → KP S W p tp q fp vb M)) (HX : RowKit.Hid (∀ W,Fr F0 w W → (W.cell? ⟨m,11,none⟩ = some (.int .u64 (M.now : Nat)) ∧ W.cell? ⟨m,12,none⟩ = some (.int .u64 (M.price : Nat)) ∧ W.cell? ⟨m,13,none⟩ = some (.int .u64 (M.told : Nat)) ∧ W.cell? ⟨m,526,none⟩ = some (.int .u64 (M.held : Nat)) ∧ W.cell? ⟨m,527,none⟩ = some (.int .u64 (M.inn : Nat)) ∧ W.cell? ⟨m,528,none⟩ = some (.int .u64 (M.out : Nat)) ∧ W.cell? ⟨m,529,none⟩ = some (.int .u64 (M.pc : Nat)) ∧ W.cell? ⟨m,530,none⟩ = some (.int .u64 (M.pn : Nat)) ∧ W.cell? ⟨m,532,none⟩ = some (.int .u64 (M.dep : Nat))) ∧ Fr F0 w W)) (HT : RowKit.Hid (∀ W,Fr F0 w W → Calls Tryz.prog 58 #[.pointer (some ⟨tp,0,none⟩)] W fun e w' => e = .returned (.int .u64 (tt : Int)) ∧ Fr F0 W w')) (HR : RowKit.Hid (∀ W,Fr F0 w W → Calls Tryz.prog 62 #[.pointer (some ⟨m,0,none⟩)] W fun e w' => e = .returned (.int .u64 (tt : Int)) ∧ w' = W)) (F1 : Fr F0 w w1)
  (hK : RowKit.Hid (∀ {u34 u35 u36 u37 u38 u39 u40 u41 u42 u43 u44 u45 u46 u47 u48 u49 u50 u51 u52 u53 u54 u55 u56 u57 u58 u59 u60 u61 u62 u63 u64 u65 u66 u67 u68 u69 u70 u71 u72 u73 u74 u75 u76 u77 u78 u79 u80 u81 u82 u83 u84 u85 u86 u87 u88 u89 u90 u91 u92 u93 u94 u95 u96 u97 u98 u99 aCw aCv aCu aCt aCs u105 aCr aCq u108 u109 u110 u111 u112 u113 u114 u115 u116 u117 u118 u119 : Value} {w' : World},(u119 = .bool false ∧ Fr F0 w w') → K ⟨#[.pointer (some ⟨p,0,none⟩),.pointer (some ⟨m,0,none⟩),s2,s3,s4,.int .u64 (M.inn : Nat),.int .u64 (M.out : Nat),.int .u64 (M.price : Int),.int .u64 (M.told : Int),s9,s10,s11,s12,s13,s14,s15,s16,s17,s18,s19,s20,s21,s22,s23,s24,s25,s26,s27,s28,s29,s30,s31,s32,s33,u34,u35,u36,u37,u38,u39,u40,u41,u42,u43,u44,u45,u46,u47,u48,u49,u50,u51,u52,u53,u54,u55,u56,u57,u58,u59,u60,u61,u62,u63,u64,u65,u66,u67,u68,u69,u70,u71,u72,u73,u74,u75,u76,u77,u78,u79,u80,u81,u82,u83,u84,u85,u86,u87,u88,u89,u90,u91,u92,u93,u94,u95,u96,u97,u98,u99,aCw,aCv,aCu,aCt,aCs,u105,aCr,aCq,u108,u109,u110,u111,u112,u113,u114,u115,u116,u117,u118,u119,aIr,aIq,aIp,aIo,aIn,aIm,aIl,aIk,aIj,aIi,aIh,aIg,aIf,aIe,aId,aIc,aIb,aIa,aH9,aH8,aH7,aH6,aH5,aH4,aH3,aH2,aH1,aH0,aHz,aHy,aHx,aHw,aHv,aHu,aHt,aHs,aHr,aHq,aHp,aHo,aHn,aHm,aHl,aHk,aHj,aHi,aHh,aHg,aHf,aHe,aHd,aHc,aHb,aHa,aG9,aG8,aG7,aG6,aG5,aG4,aG3,aG2,aG1,s183,s184,s185,s186,s187,s188,s189,s190,s191,s192,s193,s194,s195,s196,s197,s198,s199,s200,s201,s202,s203,s204,s205,s206,s207,s208,s209,s210,s211,s212,s213,s214,s215,s216,s217,s218,s219,s220,s221,s222,s223,s224,s225,s226,s227,s228,s229,s230,s231,s232,s233,s234,s235,s236,s237,s238,s239,s240,s241,s242,s243,s244,s245,s246,s247,s248,s249,s250,s251,s252,s253,s254,s255,s256,s257,s258,s259,aG0,aGz,aGy,aGx,aGw,aGv,aGu,aGt,aGs,aGr,aGq,aGp,aGo,aGn,aGm,aGl,aGk,aGj,aGi],[]⟩ w')) :
  Code.wp Tryz.prog ((((Tryz.f15.body.bind (qc 3)).getD .skip))) (Exit.then K Q) ⟨#[.pointer (some ⟨p,0,none⟩),.pointer (some ⟨m,0,none⟩),s2,s3,s4,.int .u64 (M.inn : Nat),.int .u64 (M.out : Nat),.int .u64 (M.price : Int),.int .u64 (M.told : Int),s9,s10,s11,s12,s13,s14,s15,s16,s17,s18,s19,s20,s21,s22,s23,s24,s25,s26,s27,s28,s29,s30,s31,s32,s33,s34,s35,s36,s37,s38,s39,s40,s41,s42,s43,s44,s45,s46,s47,s48,s49,s50,s51,s52,s53,s54,s55,s56,s57,s58,s59,s60,s61,s62,s63,s64,s65,s66,s67,s68,s69,s70,s71,s72,s73,s74,s75,s76,s77,s78,s79,s80,s81,s82,s83,s84,s85,s86,s87,s88,s89,s90,s91,s92,s93,s94,s95,s96,s97,s98,s99,ay2,ay1,ay0,ayz,ayy,ayx,ayw,ayv,s108,s109,s110,s111,s112,s113,s114,s115,s116,s117,s118,s119,aIr,aIq,aIp,aIo,aIn,aIm,aIl,aIk,aIj,aIi,aIh,aIg,aIf,aIe,aId,aIc,aIb,aIa,aH9,aH8,aH7,aH6,aH5,aH4,aH3,aH2,aH1,aH0,aHz,aHy,aHx,aHw,aHv,aHu,aHt,aHs,aHr,aHq,aHp,aHo,aHn,aHm,aHl,aHk,aHj,aHi,aHh,aHg,aHf,aHe,aHd,aHc,aHb,aHa,aG9,aG8,aG7,aG6,aG5,aG4,aG3,aG2,aG1,s183,s184,s185,s186,s187,s188,s189,s190,s191,s192,s193,s194,s195,s196,s197,s198,s199,s200,s201,s202,s203,s204,s205,s206,s207,s208,s209,s210,s211,s212,s213,s214,s215,s216,s217,s218,s219,s220,s221,s222,s223,s224,s225,s226,s227,s228,s229,s230,s231,s232,s233,s234,s235,s236,s237,s238,s239,s240,s241,s242,s243,s244,s245,s246,s247,s248,s249,s250,s251,s252,s253,s254,s255,s256,s257,s258,s259,aG0,aGz,aGy,aGx,aGw,aGv,aGu,aGt,aGs,aGr,aGq,aGp,aGo,aGn,aGm,aGl,aGk,aGj,aGi],[]⟩ w1 := by
 conv => arg 2; whnf
 have hf0 := ahc
 have hf1 := ahb
 have Fz := Lib.hid (HX.out _ F1.drew)
 clear F1
 refine zn (S := (fun w' => (w'.cell? ⟨m,11,none⟩ = some (.int .u64 (M.now : Nat)) ∧ w'.cell? ⟨m,12,none⟩ = some (.int .u64 (M.price : Nat)) ∧ w'.cell? ⟨m,13,none⟩ = some (.int .u64 (M.told : Nat)) ∧ w'.cell? ⟨m,526,none⟩ = some (.int .u64 (M.held : Nat)) ∧ w'.cell? ⟨m,527,none⟩ = some (.int .u64 (M.inn : Nat)) ∧ w'.cell? ⟨m,528,none⟩ = some (.int .u64 (M.out : Nat)) ∧ w'.cell? ⟨m,529,none⟩ = some (.int .u64 (M.pc : Nat)) ∧ w'.cell? ⟨m,530,none⟩ = some (.int .u64 (M.pn : Nat)) ∧ w'.cell? ⟨m,532,none⟩ = some (.int .u64 (M.dep : Nat))) ∧ Fr F0 w w')) ?_ fun aj => ?_
 ·exact(by ((try dsimp only) <;> (exact Fz.out)))
 refine au 0 ?_
 refine au 2 ?_
 refine au 3 ?_
 refine au 4 ?_
 refine au 5 ?_
 refine zi 1 fun K hK => ?_
 go_simp
 ((with_reducible refine (aI3 (H.out _ aj.2)).mono ?_); rintro e w7 ⟨rfl,hw⟩; replace hw := hw.symm; subst hw)
 refine rpu hK (by ((try dsimp only) <;> (first | exact aj | exact HX.out _ (aj.2.trans' f5)))) fun aj => ?_
 clear hK K
 refine au 6 ?_
 refine au 7 ?_
 refine au 8 ?_
 refine au 9 ?_
 refine au 10 ?_
 refine au 11 ?_
 refine au 12 ?_
 refine au 13 ?_
 refine au 14 ?_
 refine au 15 ?_
 refine au 16 ?_
 refine au 17 ?_
 refine au 18 ?_
 refine au 19 ?_
 refine au 20 ?_
 refine au 21 ?_
 refine au 22 ?_
 refine au 23 ?_
 refine au 24 ?_
 refine au 25 ?_
 refine au 26 ?_
 refine au 27 ?_
 refine au 28 ?_
 refine au 29 ?_
 refine au 30 ?_
 refine au 31 ?_
 refine au 32 ?_
 refine au 33 ?_
 refine au 34 ?_
 refine au 35 ?_
 refine au 36 ?_
 refine au 37 ?_
 refine au 38 ?_
 refine au 39 ?_
 refine au 40 ?_
 refine au 43 ?_
 refine au 44 ?_
 refine au 45 ?_
 refine au 46 ?_
 refine zi 41 fun K hK => ?_
 go_simp
 ((with_reducible refine (ad1 (H.out _ aj.2)).mono ?_); rintro e w7 ⟨rfl,hw⟩; replace hw := hw.symm; subst hw)
 refine rpu hK (by ((try dsimp only) <;> (first | exact aj | exact HX.out _ (aj.2.trans' f5)))) fun aj => ?_
 clear hK K
 refine zi 42 fun K hK => ?_
 go_simp
 ((with_reducible refine (al7 (H.out _ aj.2)).mono ?_); rintro e w7 ⟨rfl,f5⟩)
 refine rpu hK (by ((try dsimp only) <;> (first | exact aj | exact HX.out _ (aj.2.trans' f5)))) fun aj => ?_
 clear hK K
 refine au 47 ?_
 refine au 48 ?_
 refine au 49 ?_
 refine au 50 ?_
 refine au 52 ?_
 refine au 53 ?_
 refine au 54 ?_
 refine au 55 ?_
 refine zi 51 fun K hK => ?_
 go_simp
 ((with_reducible refine (ai9 (H.out _ aj.2)).mono ?_); rintro e w7 ⟨rfl,hw⟩; replace hw := hw.symm; subst hw)
 refine rpu hK (by ((try dsimp only) <;> (first | exact aj | exact HX.out _ (aj.2.trans' f5)))) fun aj => ?_
 clear hK K
 refine au 56 ?_
 refine au 57 ?_
 refine au 58 ?_
 refine au 59 ?_
 refine au 62 ?_
 refine au 63 ?_
 refine au 64 ?_
 refine au 65 ?_
 refine zi 60 fun K hK => ?_
 go_simp
 ((with_reducible refine (adg (H.out _ aj.2)).mono ?_); rintro e w7 ⟨rfl,f5⟩)
 refine rpu hK (by ((try dsimp only) <;> (first | exact aj | exact HX.out _ (aj.2.trans' f5)))) fun aj => ?_
 clear hK K
 refine au 61 ?_
 refine au 66 ?_
 refine au 67 ?_
 refine au 68 ?_
 refine au 69 ?_
 refine au 72 ?_
 refine au 73 ?_
 refine au 74 ?_
 refine au 75 ?_
 refine zi 70 fun K hK => ?_
 go_simp
 ((with_reducible refine (adg (H.out _ aj.2)).mono ?_); rintro e w7 ⟨rfl,f5⟩)
 refine rpu hK (by ((try dsimp only) <;> (first | exact aj | exact HX.out _ (aj.2.trans' f5)))) fun aj => ?_
 clear hK K
 refine au 71 ?_
 refine au 76 ?_
 refine au 77 ?_
 refine au 78 ?_
 refine au 79 ?_
 refine au 82 ?_
 refine zi 80 fun K hK => ?_
 go_simp
 ((with_reducible refine (agc (H.out _ aj.2)).mono ?_); rintro e w7 ⟨rfl,hw⟩; replace hw := hw.symm; subst hw)
 refine rpu hK (by ((try dsimp only) <;> (first | exact aj | exact HX.out _ (aj.2.trans' f5)))) fun aj => ?_
 clear hK K
 refine zi 81 fun K hK => ?_
 go_simp
 ((with_reducible refine (HT.out _ aj.2).mono ?_); rintro e w7 ⟨rfl,f5⟩)
 refine rpu hK (by ((try dsimp only) <;> (first | exact aj | exact HX.out _ (aj.2.trans' f5)))) fun aj => ?_
 clear hK K
 refine zi 83 fun K hK => ?_
 go_simp
 ((with_reducible refine (HR.out _ aj.2).mono ?_); rintro e w7 ⟨rfl,hw⟩; replace hw := hw.symm; subst hw)
 refine rpu hK (by ((try dsimp only) <;> (first | exact aj | exact HX.out _ (aj.2.trans' f5)))) fun aj => ?_
 clear hK K
 refine au 84 ?_
 refine au 85 ?_
 refine aap ?_
 all_goals exact hK.out ⟨rfl,aj.2⟩
end Go.Proofs.YtohckefafbhooaaGreat
