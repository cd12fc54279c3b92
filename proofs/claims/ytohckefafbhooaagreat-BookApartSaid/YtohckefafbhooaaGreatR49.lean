import Derived.Test.YtohckefafbhooaaGreatR1
import Derived.Test.YtohckefafbhooaaGreatR47
import Derived.Test.YtohckefafbhooaaGreatR43
set_option maxRecDepth 100000
set_option maxHeartbeats 64000000
namespace Go.Proofs.YtohckefafbhooaaGreat
set_option linter.unusedVariables false
set_option linter.unusedSimpArgs false
open Go.RowKit
attribute [-go_sem] gq
theorem vrows {W : World} {b c d : Nat} {x : Vlt} (h1 : VX W b x) (h2 : VY W c x) (h3 : VX W d x) (hx : x.addr.length = 20) : W.heap[b]? = some (.cells (cB x) 72 (0,0)) ∧ W.heap[d]? = some (.cells (cB x) 72 (0,0)) ∧ W.cell? ⟨b,0,none⟩ = some (.int .u8 (x.who : Int)) ∧ W.cell? ⟨c,0,none⟩ = some (.int .i64 (x.who : Int)) ∧ (gu 68 (.pointer (some ⟨b,1,none⟩))).run Tryz.prog W = .ok (.agg (x.addr.map B8).toArray) W ∧ (gu 24 (.pointer (some ⟨c,1,none⟩))).run Tryz.prog W = .ok (.agg (x.addr.map B8).toArray) W ∧ W.cell? ⟨b,21,none⟩ = some (.int .u64 (x.coll : Int)) ∧ W.cell? ⟨b,22,none⟩ = some (.int .u64 (x.iss : Int)) ∧ W.cell? ⟨b,23,none⟩ = some (.int .u64 (x.com : Int)) ∧ W.cell? ⟨b,24,none⟩ = some (.int .u64 (x.goi : Int)) ∧ W.cell? ⟨b,25,none⟩ = some (.int .u64 (x.lea : Int)) ∧ W.cell? ⟨c,21,none⟩ = some (.int .u64 (x.coll : Int)) ∧ W.cell? ⟨c,22,none⟩ = some (.int .u64 (x.iss : Int)) ∧ W.cell? ⟨c,23,none⟩ = some (.int .u64 (x.com : Int)) ∧ W.cell? ⟨c,24,none⟩ = some (.int .u64 (x.goi : Int)) ∧ W.cell? ⟨c,25,none⟩ = some (.int .u64 (x.lea : Int)) ∧ W.cell? ⟨b,26,none⟩ = some (.bool x.fal) ∧ W.cell? ⟨c,26,none⟩ = some (.bool x.fal) :=
 ⟨h1,h3,h1.cell0,h2.cell0,h1.addr hx,h2.addr hx,h1.coll,h1.iss,h1.com,h1.goi,h1.lea,h2.cellT 0,h2.cellT 1,h2.cellT 2,h2.cellT 3,h2.cellT 4,h1.fal,h2.cellT 5⟩
theorem sp19 {s0 s1 s2 s3 s4 s5 s6 s7 s8 s9 s10 s11 s12 s17 s18 s19 s20 s21 s22 s23 s24 s25 s26 s27 s28 s29 s30 s31 s32 s33 s34 s35 s36 s37 s38 s39 s40 s41 s42 s43 s44 s45 s46 s47 s48 s49 s50 s51 s52 s53 s54 s55 s56 s57 s58 s59 s60 s61 s62 s63 s64 s65 s66 s67 s68 s69 s70 s71 s72 s73 s74 s75 s76 s77 s78 s79 s80 s81 s82 s83 s84 s85 s86 s87 s88 s89 s90 s91 s92 s93 s94 s95 s96 s97 s98 s99 ay2 ay1 ay0 ayz ayy ayx ayw ayv s108 s109 s110 s111 s112 s113 s114 s115 s116 s117 s118 s119 aIr aIq aIp aIo aIn aIm aIl aIk aIj aIi aIh aIg aIf aIe aId aIc aIb aIa aH9 aH8 aH7 aH6 aH5 aH4 aH3 aH2 aH1 aH0 aHz aHy aHx aHw aHv aHu aHt aHs aHr aHq aHp aHo aHn aHm aHl aHk aHj aHi aHh aHg aHf aHe aHd aHc aHb aHa aG9 aG8 aG7 aG6 aG5 aG4 aG3 aG2 aG1 s183 s184 s185 s186 s187 s188 s189 s190 s191 s192 s193 s194 s195 s196 s197 s198 s199 s200 s201 s202 s203 s204 s205 s206 s207 s208 s209 s210 s211 s212 s213 s214 s215 s216 s217 s218 s219 s220 s221 s222 s223 s224 s225 s226 s227 s228 s229 s230 s231 s232 s233 s234 s235 s236 s237 s238 s239 s240 s241 s242 s243 s244 s245 s246 s247 s248 s249 s250 s251 s252 s253 s254 s255 s256 s257 s258 s259 aG0 aGz aGy aGx aGw aGv aGu aGt aGs aGr aGq aGp aGo aGn aGm aGl aGk aGj aGi : Value} {K : Act → World → Prop} {Q : Exit → Act → World → Prop} {w : World} {b c d : Nat} {x : Vlt} (HX : RowKit.Hid (∀ W,Fr F0 w W → (W.heap[b]? = some (.cells (cB x) 72 (0,0)) ∧ W.heap[d]? = some (.cells (cB x) 72 (0,0)) ∧ W.cell? ⟨b,0,none⟩ = some (.int .u8 (x.who : Int)) ∧ W.cell? ⟨c,0,none⟩ = some (.int .i64 (x.who : Int)) ∧ (gu 68 (.pointer (some ⟨b,1,none⟩))).run Tryz.prog W = .ok (.agg (x.addr.map B8).toArray) W ∧ (gu 24 (.pointer (some ⟨c,1,none⟩))).run Tryz.prog W = .ok (.agg (x.addr.map B8).toArray) W ∧ W.cell? ⟨b,21,none⟩ = some (.int .u64 (x.coll : Int)) ∧ W.cell? ⟨b,22,none⟩ = some (.int .u64 (x.iss : Int)) ∧ W.cell? ⟨b,23,none⟩ = some (.int .u64 (x.com : Int)) ∧ W.cell? ⟨b,24,none⟩ = some (.int .u64 (x.goi : Int)) ∧ W.cell? ⟨b,25,none⟩ = some (.int .u64 (x.lea : Int)) ∧ W.cell? ⟨c,21,none⟩ = some (.int .u64 (x.coll : Int)) ∧ W.cell? ⟨c,22,none⟩ = some (.int .u64 (x.iss : Int)) ∧ W.cell? ⟨c,23,none⟩ = some (.int .u64 (x.com : Int)) ∧ W.cell? ⟨c,24,none⟩ = some (.int .u64 (x.goi : Int)) ∧ W.cell? ⟨c,25,none⟩ = some (.int .u64 (x.lea : Int)) ∧ W.cell? ⟨b,26,none⟩ = some (.bool x.fal) ∧ W.cell? ⟨c,26,none⟩ = some (.bool x.fal)) ∧ Fr F0 w W)) (hb : x.bur ≤ 4611686018427387904) (hw : x.who < 256) (hx : x.addr.length = 20)
  (hK : RowKit.Hid (∀ {u183 u184 u185 u186 u187 u188 u189 u190 u191 u192 u193 u194 u195 u196 u197 u198 u199 u200 u201 u202 u203 u204 u205 u206 u207 u208 u209 u210 u211 u212 u213 u214 u215 u216 u217 u218 u219 u220 u221 u222 u223 u224 u225 u226 u227 u228 u229 u230 u231 u232 u233 u234 u235 u236 u237 u238 u239 u240 u241 u242 u243 u244 u245 u246 u247 u248 u249 u250 u251 u252 u253 u254 u255 u256 u257 u258 u259 : Value} {w' : World},(u259 = .bool false ∧ Fr F0 w w') → K ⟨#[s0,s1,s2,s3,s4,s5,s6,s7,s8,s9,s10,s11,s12,.pointer (some ⟨b,0,none⟩),.pointer (some ⟨c,0,none⟩),.pointer (some ⟨d,0,none⟩),.bool true,s17,s18,s19,s20,s21,s22,s23,s24,s25,s26,s27,s28,s29,s30,s31,s32,s33,s34,s35,s36,s37,s38,s39,s40,s41,s42,s43,s44,s45,s46,s47,s48,s49,s50,s51,s52,s53,s54,s55,s56,s57,s58,s59,s60,s61,s62,s63,s64,s65,s66,s67,s68,s69,s70,s71,s72,s73,s74,s75,s76,s77,s78,s79,s80,s81,s82,s83,s84,s85,s86,s87,s88,s89,s90,s91,s92,s93,s94,s95,s96,s97,s98,s99,ay2,ay1,ay0,ayz,ayy,ayx,ayw,ayv,s108,s109,s110,s111,s112,s113,s114,s115,s116,s117,s118,s119,aIr,aIq,aIp,aIo,aIn,aIm,aIl,aIk,aIj,aIi,aIh,aIg,aIf,aIe,aId,aIc,aIb,aIa,aH9,aH8,aH7,aH6,aH5,aH4,aH3,aH2,aH1,aH0,aHz,aHy,aHx,aHw,aHv,aHu,aHt,aHs,aHr,aHq,aHp,aHo,aHn,aHm,aHl,aHk,aHj,aHi,aHh,aHg,aHf,aHe,aHd,aHc,aHb,aHa,aG9,aG8,aG7,aG6,aG5,aG4,aG3,aG2,aG1,u183,u184,u185,u186,u187,u188,u189,u190,u191,u192,u193,u194,u195,u196,u197,u198,u199,u200,u201,u202,u203,u204,u205,u206,u207,u208,u209,u210,u211,u212,u213,u214,u215,u216,u217,u218,u219,u220,u221,u222,u223,u224,u225,u226,u227,u228,u229,u230,u231,u232,u233,u234,u235,u236,u237,u238,u239,u240,u241,u242,u243,u244,u245,u246,u247,u248,u249,u250,u251,u252,u253,u254,u255,u256,u257,u258,u259,aG0,aGz,aGy,aGx,aGw,aGv,aGu,aGt,aGs,aGr,aGq,aGp,aGo,aGn,aGm,aGl,aGk,aGj,aGi],[]⟩ w')) :
  Code.wp Tryz.prog ((((Tryz.f15.body.bind (qc 19)).getD .skip))) (Exit.then K Q) ⟨#[s0,s1,s2,s3,s4,s5,s6,s7,s8,s9,s10,s11,s12,.pointer (some ⟨b,0,none⟩),.pointer (some ⟨c,0,none⟩),.pointer (some ⟨d,0,none⟩),.bool true,s17,s18,s19,s20,s21,s22,s23,s24,s25,s26,s27,s28,s29,s30,s31,s32,s33,s34,s35,s36,s37,s38,s39,s40,s41,s42,s43,s44,s45,s46,s47,s48,s49,s50,s51,s52,s53,s54,s55,s56,s57,s58,s59,s60,s61,s62,s63,s64,s65,s66,s67,s68,s69,s70,s71,s72,s73,s74,s75,s76,s77,s78,s79,s80,s81,s82,s83,s84,s85,s86,s87,s88,s89,s90,s91,s92,s93,s94,s95,s96,s97,s98,s99,ay2,ay1,ay0,ayz,ayy,ayx,ayw,ayv,s108,s109,s110,s111,s112,s113,s114,s115,s116,s117,s118,s119,aIr,aIq,aIp,aIo,aIn,aIm,aIl,aIk,aIj,aIi,aIh,aIg,aIf,aIe,aId,aIc,aIb,aIa,aH9,aH8,aH7,aH6,aH5,aH4,aH3,aH2,aH1,aH0,aHz,aHy,aHx,aHw,aHv,aHu,aHt,aHs,aHr,aHq,aHp,aHo,aHn,aHm,aHl,aHk,aHj,aHi,aHh,aHg,aHf,aHe,aHd,aHc,aHb,aHa,aG9,aG8,aG7,aG6,aG5,aG4,aG3,aG2,aG1,s183,s184,s185,s186,s187,s188,s189,s190,s191,s192,s193,s194,s195,s196,s197,s198,s199,s200,s201,s202,s203,s204,s205,s206,s207,s208,s209,s210,s211,s212,s213,s214,s215,s216,s217,s218,s219,s220,s221,s222,s223,s224,s225,s226,s227,s228,s229,s230,s231,s232,s233,s234,s235,s236,s237,s238,s239,s240,s241,s242,s243,s244,s245,s246,s247,s248,s249,s250,s251,s252,s253,s254,s255,s256,s257,s258,s259,aG0,aGz,aGy,aGx,aGw,aGv,aGu,aGt,aGs,aGr,aGq,aGp,aGo,aGn,aGm,aGl,aGk,aGj,aGi],[]⟩ w := by
 conv => arg 2; whnf
 have HB : RowKit.Hid (∀ W,Calls Tryz.prog 65 #[.agg (cB x)] W fun e w' => e = .returned (.int .u64 (x.bur : Int)) ∧ Fr F0 W w') := Lib.hid (fun W => aan x hb W)
 have sz := lu x
 have oS := ru x
 have k0 : IntKind.i64.wrap (x.who : Int) = (x.who : Int) := IntWalk.i64_in _ (by omega)
 have hE : x.bur = x.iss + x.com + x.goi := rfl
 have k1 : IntKind.u64.wrap ((x.iss : Int) + (x.com : Int)) = ((x.iss + x.com : Nat) : Int) := by rw [IntWalk.u64_in _ (by omega)]; omega
 have k2 : IntKind.u64.wrap (((x.iss + x.com : Nat) : Int) + (x.goi : Int)) = (x.bur : Int) := by rw [IntWalk.u64_in _ (by omega)]; omega
 have q1 := fun W => awz W x
 have q2 := fun W => aw0 W x.addr hx
 have Fz := Lib.hid (HX.out _ (Fr.refl F0 w).drew)
 clear hE hb hw hx
 generalize x.iss + x.com = ic at *
 refine zn (S := (fun w' => (w'.heap[b]? = some (.cells (cB x) 72 (0,0)) ∧ w'.heap[d]? = some (.cells (cB x) 72 (0,0)) ∧ w'.cell? ⟨b,0,none⟩ = some (.int .u8 (x.who : Int)) ∧ w'.cell? ⟨c,0,none⟩ = some (.int .i64 (x.who : Int)) ∧ (gu 68 (.pointer (some ⟨b,1,none⟩))).run Tryz.prog w' = .ok (.agg (x.addr.map B8).toArray) w' ∧ (gu 24 (.pointer (some ⟨c,1,none⟩))).run Tryz.prog w' = .ok (.agg (x.addr.map B8).toArray) w' ∧ w'.cell? ⟨b,21,none⟩ = some (.int .u64 (x.coll : Int)) ∧ w'.cell? ⟨b,22,none⟩ = some (.int .u64 (x.iss : Int)) ∧ w'.cell? ⟨b,23,none⟩ = some (.int .u64 (x.com : Int)) ∧ w'.cell? ⟨b,24,none⟩ = some (.int .u64 (x.goi : Int)) ∧ w'.cell? ⟨b,25,none⟩ = some (.int .u64 (x.lea : Int)) ∧ w'.cell? ⟨c,21,none⟩ = some (.int .u64 (x.coll : Int)) ∧ w'.cell? ⟨c,22,none⟩ = some (.int .u64 (x.iss : Int)) ∧ w'.cell? ⟨c,23,none⟩ = some (.int .u64 (x.com : Int)) ∧ w'.cell? ⟨c,24,none⟩ = some (.int .u64 (x.goi : Int)) ∧ w'.cell? ⟨c,25,none⟩ = some (.int .u64 (x.lea : Int)) ∧ w'.cell? ⟨b,26,none⟩ = some (.bool x.fal) ∧ w'.cell? ⟨c,26,none⟩ = some (.bool x.fal)) ∧ Fr F0 w w')) ?_ fun aj => ?_
 ·exact(by ((try dsimp only) <;> (exact Fz.out)))
 refine au 0 ?_
 refine au 1 ?_
 refine au 2 ?_
 refine au 3 ?_
 refine au 4 ?_
 refine au 5 ?_
 refine au 6 ?_
 refine au 7 ?_
 refine au 8 ?_
 refine au 9 ?_
 refine au 10 ?_
 refine au 11 ?_
 refine au 12 ?_
 refine au 13 ?_
 refine au 14 ?_
 refine au 15 ?_
 refine au 16 ?_
 refine au 17 ?_
 refine au 18 ?_
 refine au 19 ?_
 refine au 20 ?_
 refine au 21 ?_
 refine au 22 ?_
 refine au 23 ?_
 refine au 24 ?_
 refine au 25 ?_
 refine au 26 ?_
 refine au 27 ?_
 refine au 28 ?_
 refine au 29 ?_
 refine au 30 ?_
 refine au 31 ?_
 refine au 32 ?_
 refine au 33 ?_
 refine au 34 ?_
 refine au 35 ?_
 refine au 36 ?_
 refine au 37 ?_
 refine au 38 ?_
 refine au 39 ?_
 refine au 40 ?_
 refine au 41 ?_
 refine au 42 ?_
 refine au 43 ?_
 refine au 44 ?_
 refine au 45 ?_
 refine au 46 ?_
 refine au 47 ?_
 refine au 48 ?_
 refine au 49 ?_
 refine au 50 ?_
 refine au 51 ?_
 refine au 52 ?_
 refine au 53 ?_
 refine au 54 ?_
 refine au 55 ?_
 refine au 56 ?_
 refine au 57 ?_
 refine au 58 ?_
 refine au 59 ?_
 refine au 60 ?_
 refine au 61 ?_
 refine au 62 ?_
 refine au 63 ?_
 refine au 64 ?_
 refine au 65 ?_
 refine au 67 ?_
 refine au 68 ?_
 refine au 69 ?_
 refine au 70 ?_
 refine au 71 ?_
 refine au 72 ?_
 refine au 73 ?_
 refine au 74 ?_
 refine zi 66 fun K hK => ?_
 go_simp
 ((with_reducible refine (HB.out _).mono ?_); rintro e w7 ⟨rfl,f5⟩)
 refine rpu hK (by ((try dsimp only) <;> (first | exact aj | exact HX.out _ (aj.2.trans' f5)))) fun aj => ?_
 clear hK K
 refine au 75 ?_
 refine au 76 ?_
 refine aap ?_
 all_goals exact hK.out ⟨rfl,aj.2⟩
end Go.Proofs.YtohckefafbhooaaGreat
