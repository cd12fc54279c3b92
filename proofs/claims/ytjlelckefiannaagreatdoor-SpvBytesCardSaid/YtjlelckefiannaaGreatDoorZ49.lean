import Derived.Test.YtjlelckefiannaaGreatDoorZ2
import Derived.Test.YtjlelckefiannaaGreatDoorZ28
import Derived.Test.YtjlelckefiannaaGreatDoorZ21
import Derived.Test.YtjlelckefiannaaGreatDoorZ48
import Derived.Test.YtjlelckefiannaaGreatDoorZ23
set_option maxRecDepth 100000
set_option maxHeartbeats 64000000
namespace Go.Proofs.YtjlelckefiannaaGreatDoor
set_option linter.unusedVariables false
set_option linter.unusedSimpArgs false
open Go.RowKit
theorem sb4{s0 s1 s3 s4 s6 s7 s8 s9 s10 s11 s12 s13 s14 s15 s16 s17 s18 s19 s20 s21 s22 s23 s24 s25 s26 s27 s28 s29 s30 s31 s32 s33 s34 s35 s36 s37 s38 s39 s40 s41 s42 s43 s44 s45 s46 s47 s48 s49 s50 s51 s52 s53 s54 s55 s56 s57 s58 s59 s60 s61 s62 s63 s64 s65 s66 s67 s68 s69 s70 s71 s72 s73 s74 s75 s76 s77 s78 s79 s80 s81 s82 s83 s84 s85 s86 s87 s88 s89 s90 s91 s92 s93 s94 s95 s96 s97 s98 s99 aoq ajd aEy aEx aEw aEv auc aEu aEt aEs aEr aEq aEp ay6 ay5 aI6 aI5 aI4 aI3 aI2 aI1 aI0 aIz aIy aIx aIw aIv aIu aIt aIs aIr aIq:Value}{K:Act→World→Prop}{Q:Exit→Act→World→Prop}(w:World)(g2 n5 c5:Nat)(a5:Option Addr)(C:Array Value)(S:ByteArray)(RF:Option Addr→Nat→Array Value)(PQ:Option Addr→Nat→World→Prop)(H1:RowKit.Hid (∀W:World,Fr F0 w W→Calls Tryz.prog 8 #[.agg C] W λe w'=>∃b d,e = .returned (.agg (RF b d))∧PQ b d w'∧Fr F0 W w'))(H2:RowKit.Hid (∀(W:World) (b:Option Addr) (d:Nat),PQ b d W→Calls Tryz.prog 9 #[.agg (RF b d)] W λe w'=>∃a n c,e = .returned (.slice a n c)∧(convert 22 9 (.slice a n c)).run Tryz.prog w' = .ok (.string S) w'∧Fr F0 W w'))(HS:RowKit.Hid (∀W:World,Fr F0 w W→(convert 22 9 (.slice a5 n5 c5)).run Tryz.prog W = .ok (.string S) W))(r2:w.heap[g2]? = some (.cells C 28 (0,0)))(sC:C.size=36)
  (hK:RowKit.Hid (∀{u38 u39 u40 u41 u42 u43 u44:Value} {w':World},(u44 = .bool false∧Fr F0 w w')→K ⟨#[s0,s1,.pointer (some ⟨g2,0,none⟩),s3,s4,.slice a5 n5 c5,s6,s7,s8,s9,s10,s11,s12,s13,s14,s15,s16,s17,s18,s19,s20,s21,s22,s23,s24,s25,s26,s27,s28,s29,s30,s31,s32,s33,s34,s35,s36,s37,u38,u39,u40,u41,u42,u43,u44,s45,s46,s47,s48,s49,s50,s51,s52,s53,s54,s55,s56,s57,s58,s59,s60,s61,s62,s63,s64,s65,s66,s67,s68,s69,s70,s71,s72,s73,s74,s75,s76,s77,s78,s79,s80,s81,s82,s83,s84,s85,s86,s87,s88,s89,s90,s91,s92,s93,s94,s95,s96,s97,s98,s99,aoq,ajd,aEy,aEx,aEw,aEv,auc,aEu,aEt,aEs,aEr,aEq,aEp,ay6,ay5,aI6,aI5,aI4,aI3,aI2,aI1,aI0,aIz,aIy,aIx,aIw,aIv,aIu,aIt,aIs,aIr,aIq],[]⟩ w')) :
  Code.wp Tryz.prog ((Tryz.f3.body.bind (jw 4)).getD .skip) (Exit.then K Q) ⟨#[s0,s1,.pointer (some ⟨g2,0,none⟩),s3,s4,.slice a5 n5 c5,s6,s7,s8,s9,s10,s11,s12,s13,s14,s15,s16,s17,s18,s19,s20,s21,s22,s23,s24,s25,s26,s27,s28,s29,s30,s31,s32,s33,s34,s35,s36,s37,s38,s39,s40,s41,s42,s43,s44,s45,s46,s47,s48,s49,s50,s51,s52,s53,s54,s55,s56,s57,s58,s59,s60,s61,s62,s63,s64,s65,s66,s67,s68,s69,s70,s71,s72,s73,s74,s75,s76,s77,s78,s79,s80,s81,s82,s83,s84,s85,s86,s87,s88,s89,s90,s91,s92,s93,s94,s95,s96,s97,s98,s99,aoq,ajd,aEy,aEx,aEw,aEv,auc,aEu,aEt,aEs,aEr,aEq,aEp,ay6,ay5,aI6,aI5,aI4,aI3,aI2,aI1,aI0,aIz,aIy,aIx,aIw,aIv,aIu,aIt,aIs,aIr,aIq],[]⟩ w:=by
 conv=>arg 2;whnf
 have F9:=Fr.refl F0 w
 refine jm (S:=(λw'=>(w'.heap[g2]? = some (.cells C 28 (0,0))∧(convert 22 9 (.slice a5 n5 c5)).run Tryz.prog w' = .ok (.string S) w')∧Fr F0 w w')) ?_ λak=>?_
 ·exact(by((try dsimp only)<;>(exact⟨⟨ku r2,HS.out _ F9.drew⟩,F9.drew⟩)))
 refine aj 0 ?_
 refine aj 1 ?_
 refine aj 2 ?_
 refine jf 3 λK hK=>?_
 go_simp
 ((with_reducible refine(H1.out _ ak.2).mono ?_);rintro e w5 ⟨b,d,rfl,hpq,f5⟩)
 refine rpu hK zz24 λak=>?_
 clear hK K
 refine jf 4 λK hK=>?_
 go_simp
 ((with_reducible refine(H2.out _ b d hpq).mono ?_);rintro e w6 ⟨a6,n6,c6,rfl,hs6,f5⟩)
 refine rpu hK zz24 λak=>?_
 clear hK K
 refine jf 5 λK hK=>?_
 go_simp
 refine rpu hK abz λak=>?_
 clear hK K
 refine aj 6 ?_
 refine jg ?_
 all_goals
  exact hK.out ⟨by first|rfl|simp,ak.2⟩
theorem sb17n{s0 s1 s2 s3 s4 s5 s6 s7 s8 s11 s14 s15 s16 s17 s18 s19 s20 s21 s22 s23 s24 s25 s26 s27 s28 s29 s30 s31 s32 s33 s34 s35 s36 s37 s38 s39 s40 s41 s42 s43 s44 s45 s46 s47 s48 s49 s50 s51 s52 s53 s54 s55 s56 s57 s58 s59 s60 s61 s62 s63 s64 s65 s66 s67 s68 s69 s70 s71 s72 s73 s74 s75 s76 s77 s78 s79 s80 s81 s82 s83 s84 s85 s86 s87 s88 s89 s90 s91 s92 s93 s94 s95 s96 s97 s98 s99 aoq ajd aEy aEx aEw aEv auc aEu aEt aEs aEr aEq aEp ay6 ay5 aI6 aI5 aI4 aI3 aI2 aI1 aI0 aIz aIy aIx aIw aIv aIu aIt aIs aIr aIq:Value}{K:Act→World→Prop}{Q:Exit→Act→World→Prop}(w:World)(g9 g12 k0 k35:Nat)(a0 a35:Option Addr)(A:Array Value)(sA:A.size=36)(c0:A[0]? = some (.slice a0 0 k0))(c35:A[35]? = some (.slice a35 0 k35))(r9:w.heap[g9]? = some (.cells A 28 (0,0)))
  (hK:RowKit.Hid (∀{u78 u79 u80 u81 u82 u83 u84 u85 u86 u87 u88 u89 u90 u91 u92 u93 u94 u95 u96 u97 u98 u99 u100 u101 u102 u103 u104 u105 u106 u107 u108 u109 u110 u111 aPu:Value} {w':World},(aPu = .bool false∧Fr F0 w w')→K ⟨#[s0,s1,s2,s3,s4,s5,s6,s7,s8,.pointer (some ⟨g9,0,none⟩),.int .i64 2,s11,.pointer (some ⟨g12,0,none⟩),.bool false,s14,s15,s16,s17,s18,s19,s20,s21,s22,s23,s24,s25,s26,s27,s28,s29,s30,s31,s32,s33,s34,s35,s36,s37,s38,s39,s40,s41,s42,s43,s44,s45,s46,s47,s48,s49,s50,s51,s52,s53,s54,s55,s56,s57,s58,s59,s60,s61,s62,s63,s64,s65,s66,s67,s68,s69,s70,s71,s72,s73,s74,s75,s76,s77,u78,u79,u80,u81,u82,u83,u84,u85,u86,u87,u88,u89,u90,u91,u92,u93,u94,u95,u96,u97,u98,u99,u100,u101,u102,u103,u104,u105,u106,u107,u108,u109,u110,u111,aPu,ay6,ay5,aI6,aI5,aI4,aI3,aI2,aI1,aI0,aIz,aIy,aIx,aIw,aIv,aIu,aIt,aIs,aIr,aIq],[]⟩ w')) :
  Code.wp Tryz.prog ((Tryz.f3.body.bind (jw 17)).getD .skip) (Exit.then K Q) ⟨#[s0,s1,s2,s3,s4,s5,s6,s7,s8,.pointer (some ⟨g9,0,none⟩),.int .i64 2,s11,.pointer (some ⟨g12,0,none⟩),.bool false,s14,s15,s16,s17,s18,s19,s20,s21,s22,s23,s24,s25,s26,s27,s28,s29,s30,s31,s32,s33,s34,s35,s36,s37,s38,s39,s40,s41,s42,s43,s44,s45,s46,s47,s48,s49,s50,s51,s52,s53,s54,s55,s56,s57,s58,s59,s60,s61,s62,s63,s64,s65,s66,s67,s68,s69,s70,s71,s72,s73,s74,s75,s76,s77,s78,s79,s80,s81,s82,s83,s84,s85,s86,s87,s88,s89,s90,s91,s92,s93,s94,s95,s96,s97,s98,s99,aoq,ajd,aEy,aEx,aEw,aEv,auc,aEu,aEt,aEs,aEr,aEq,aEp,ay6,ay5,aI6,aI5,aI4,aI3,aI2,aI1,aI0,aIz,aIy,aIx,aIw,aIv,aIu,aIt,aIs,aIr,aIq],[]⟩ w:=by
 conv=>arg 2;whnf
 have F9:=Fr.refl F0 w
 have z0:0<A.size:=by omega
 have z35:35<A.size:=by omega
 have d0:=jd c0 z0
 have d35:=jd c35 z35
 refine jm (S:=(λw'=>w'.heap[g9]? = some (.cells A 28 (0,0))∧Fr F0 w w')) ?_ λak=>?_
 ·exact(by((try dsimp only)<;>(exact⟨ku r9,F9.drew⟩)))
 refine aj 0 ?_
 refine aj 1 ?_
 refine aj 2 ?_
 refine aj 3 ?_
 refine aj 4 ?_
 refine aj 5 ?_
 refine aj 6 ?_
 refine aj 7 ?_
 refine aj 8 ?_
 refine aj 9 ?_
 refine aj 10 ?_
 refine aj 11 ?_
 refine aj 12 ?_
 refine aj 13 ?_
 refine aj 14 ?_
 refine aj 15 ?_
 refine aj 16 ?_
 refine aj 17 ?_
 refine aj 18 ?_
 refine aj 19 ?_
 refine aj 20 ?_
 refine aj 21 ?_
 refine aj 22 ?_
 refine aj 23 ?_
 refine aj 24 ?_
 refine uo 25 ?_
 refine uo 26 ?_
 refine uo 27 ?_
 refine uo 28 ?_
 refine uo 29 ?_
 refine uo 30 ?_
 refine uo 31 ?_
 refine uo 32 ?_
 refine aj 33 ?_
 refine aj 34 ?_
 refine jg ?_
 all_goals
  exact hK.out ⟨rfl,ak.2⟩
theorem sb17y{s0 s1 s2 s3 s4 s5 s6 s7 s8 s11 s14 s15 s16 s17 s18 s19 s20 s21 s22 s23 s24 s25 s26 s27 s28 s29 s30 s31 s32 s33 s34 s35 s36 s37 s38 s39 s40 s41 s42 s43 s44 s45 s46 s47 s48 s49 s50 s51 s52 s53 s54 s55 s56 s57 s58 s59 s60 s61 s62 s63 s64 s65 s66 s67 s68 s69 s70 s71 s72 s73 s74 s75 s76 s77 s78 s79 s80 s81 s82 s83 s84 s85 s86 s87 s88 s89 s90 s91 s92 s93 s94 s95 s96 s97 s98 s99 aoq ajd aEy aEx aEw aEv auc aEu aEt aEs aEr aEq aEp ay6 ay5 aI6 aI5 aI4 aI3 aI2 aI1 aI0 aIz aIy aIx aIw aIv aIu aIt aIs aIr aIq:Value}{K:Act→World→Prop}{Q:Exit→Act→World→Prop}(w:World)(g9 g12:Nat)(A B:Array Value)(S:ByteArray)(RF:Option Addr→Nat→Array Value)(PQ:Option Addr→Nat→World→Prop)(H1:RowKit.Hid (∀W:World,Fr F0 w W→Calls Tryz.prog 8 #[.agg A] W λe w'=>∃b d,e = .returned (.agg (RF b d))∧PQ b d w'∧Fr F0 W w'))(H2:RowKit.Hid (∀(W:World) (b:Option Addr) (d:Nat),PQ b d W→Calls Tryz.prog 9 #[.agg (RF b d)] W λe w'=>∃a n c,e = .returned (.slice a n c)∧(∀W',Fr F0 w' W'→(convert 22 9 (.slice a n c)).run Tryz.prog W' = .ok (.string S) W')∧Fr F0 W w'))(H3:RowKit.Hid (∀W:World,Fr F0 w W→Calls Tryz.prog 9 #[.agg B] W λe w'=>∃a n c,e = .returned (.slice a n c)∧(∀W',Fr F0 w' W'→(convert 22 9 (.slice a n c)).run Tryz.prog W' = .ok (.string S) W')∧Fr F0 W w'))(sA:A.size=36)(sB:B.size=36)(r9:w.heap[g9]? = some (.cells A 28 (0,0)))(r12:w.heap[g12]? = some (.cells B 34 (0,0)))
  (hK:RowKit.Hid (∀{u78 u79 u80 u81 u82 u83 u84 u85 u86 u87 u88 u89 u90 u91 u92 u93 u94 u95 u96 u97 u98 u99 u100 u101 u102 u103 u104 u105 u106 u107 u108 u109 u110 u111 aPu:Value} {w':World},(aPu = .bool false∧Fr F0 w w')→K ⟨#[s0,s1,s2,s3,s4,s5,s6,s7,s8,.pointer (some ⟨g9,0,none⟩),.int .i64 0,s11,.pointer (some ⟨g12,0,none⟩),.bool true,s14,s15,s16,s17,s18,s19,s20,s21,s22,s23,s24,s25,s26,s27,s28,s29,s30,s31,s32,s33,s34,s35,s36,s37,s38,s39,s40,s41,s42,s43,s44,s45,s46,s47,s48,s49,s50,s51,s52,s53,s54,s55,s56,s57,s58,s59,s60,s61,s62,s63,s64,s65,s66,s67,s68,s69,s70,s71,s72,s73,s74,s75,s76,s77,u78,u79,u80,u81,u82,u83,u84,u85,u86,u87,u88,u89,u90,u91,u92,u93,u94,u95,u96,u97,u98,u99,u100,u101,u102,u103,u104,u105,u106,u107,u108,u109,u110,u111,aPu,ay6,ay5,aI6,aI5,aI4,aI3,aI2,aI1,aI0,aIz,aIy,aIx,aIw,aIv,aIu,aIt,aIs,aIr,aIq],[]⟩ w')) :
  Code.wp Tryz.prog ((Tryz.f3.body.bind (jw 17)).getD .skip) (Exit.then K Q) ⟨#[s0,s1,s2,s3,s4,s5,s6,s7,s8,.pointer (some ⟨g9,0,none⟩),.int .i64 0,s11,.pointer (some ⟨g12,0,none⟩),.bool true,s14,s15,s16,s17,s18,s19,s20,s21,s22,s23,s24,s25,s26,s27,s28,s29,s30,s31,s32,s33,s34,s35,s36,s37,s38,s39,s40,s41,s42,s43,s44,s45,s46,s47,s48,s49,s50,s51,s52,s53,s54,s55,s56,s57,s58,s59,s60,s61,s62,s63,s64,s65,s66,s67,s68,s69,s70,s71,s72,s73,s74,s75,s76,s77,s78,s79,s80,s81,s82,s83,s84,s85,s86,s87,s88,s89,s90,s91,s92,s93,s94,s95,s96,s97,s98,s99,aoq,ajd,aEy,aEx,aEw,aEv,auc,aEu,aEt,aEs,aEr,aEq,aEp,ay6,ay5,aI6,aI5,aI4,aI3,aI2,aI1,aI0,aIz,aIy,aIx,aIw,aIv,aIu,aIt,aIs,aIr,aIq],[]⟩ w:=by
 conv=>arg 2;whnf
 have F9:=Fr.refl F0 w
 refine jm (S:=(λw'=>(w'.heap[g9]? = some (.cells A 28 (0,0))∧w'.heap[g12]? = some (.cells B 34 (0,0)))∧Fr F0 w w')) ?_ λak=>?_
 ·exact(by((try dsimp only)<;>(exact⟨⟨ku r9,ku r12⟩,F9.drew⟩)))
 refine aj 0 ?_
 refine aj 1 ?_
 refine aj 2 ?_
 refine aj 3 ?_
 refine aj 4 ?_
 refine aj 5 ?_
 refine aj 6 ?_
 refine aj 7 ?_
 refine uo 8 ?_
 refine uo 9 ?_
 refine uo 10 ?_
 refine uo 11 ?_
 refine uo 12 ?_
 refine uo 13 ?_
 refine uo 14 ?_
 refine uo 15 ?_
 refine uo 16 ?_
 refine uo 17 ?_
 refine uo 18 ?_
 refine uo 19 ?_
 refine aj 20 ?_
 refine aj 21 ?_
 refine aj 22 ?_
 refine aj 23 ?_
 refine aj 24 ?_
 refine aj 25 ?_
 refine aj 29 ?_
 refine jf 26 λK hK=>?_
 go_simp
 ((with_reducible refine(H1.out _ ak.2).mono ?_);rintro e w5 ⟨b,d,rfl,hpq,f5⟩)
 refine rpu hK ak5 λak=>?_
 clear hK K
 refine jf 27 λK hK=>?_
 go_simp
 ((with_reducible refine(H2.out _ b d hpq).mono ?_);rintro e w6 ⟨a6,n6,c6,rfl,hs6,f5⟩;have hs66:=hs6 w6 (Fr.refl _ _))
 refine rpu hK ak5 λak=>?_
 clear hK K
 refine rdy [28,30] ?_
 refine rco (λK hK=>?_) (rco (λK hK=>?_) AllReadyH.nil)
 go_simp
 refine rpu hK abz λak=>?_
 clear hK K
 refine jf 30 λK hK=>?_
 go_simp
 ((with_reducible refine(H3.out _ ak.2).mono ?_);rintro e w7 ⟨a7,n7,c7,rfl,hs7,f5⟩;have hs77:=hs7 w7 (Fr.refl _ _);have hs67:=hs6 w7 f5)
 refine rpu hK ak5 λak=>?_
 clear hK K
 refine jf 31 λK hK=>?_
 go_simp
 refine rpu hK abz λak=>?_
 clear hK K
 refine aj 32 ?_
 refine aj 33 ?_
 refine aj 34 ?_
 refine jg ?_
 rotate_left
 go_simp
 ((with_reducible refine(H3.out _ ak.2).mono ?_);rintro e w7 ⟨a7,n7,c7,rfl,hs7,f5⟩;have hs77:=hs7 w7 (Fr.refl _ _);have hs67:=hs6 w7 f5)
 refine rpu hK ak5 λak=>?_
 clear hK K
 refine rdy [28,31] ?_
 refine rco (λK hK=>?_) (rco (λK hK=>?_) AllReadyH.nil)
 go_simp
 refine rpu hK abz λak=>?_
 clear hK K
 refine jf 31 λK hK=>?_
 go_simp
 refine rpu hK abz λak=>?_
 clear hK K
 refine aj 32 ?_
 refine aj 33 ?_
 refine aj 34 ?_
 refine jg ?_
 rotate_left
 go_simp
 refine rpu hK abz λak=>?_
 clear hK K
 refine jf 28 λK hK=>?_
 go_simp
 refine rpu hK abz λak=>?_
 clear hK K
 refine aj 32 ?_
 refine aj 33 ?_
 refine aj 34 ?_
 refine jg ?_
 rotate_left
 all_goals
  exact hK.out ⟨by first|rfl|simp,ak.2⟩
theorem refB(f:MP)(o:f.Ok)(h1:f.tx.length≤50000)(h2:f.wy.length≤1000)(W:World)(b:Option Addr)(d:Nat)(hs:Hs W b d f.wy):
  Calls Tryz.prog 9 #[.agg (rfC f b d)] W λe w'=>∃a n c,e = .returned (.slice a n c)∧(∀W',Fr F0 w' W'→(convert 22 9 (.slice a n c)).run Tryz.prog W' = .ok (.string (strOf f.bytes)) W')∧Fr F0 W w':=by
 refine(aq6 f o b d W hs h1 h2).mono ?_
 rintro e w' ⟨a,n,c,rfl,hn,hb,fr⟩
 exact⟨a,n,c,rfl,λW' f'=>ahw (Bs.fr7 hb f') hn,fr⟩
theorem aqu(p:MP)(o:p.Ok)(a:Option Addr)(c:Nat)(b:Option Addr)(d:Nat)(bs:List UInt8)(ab:Option Addr)(cb:Nat)(w:World)(hp:Bs w a c p.tx)(hs:Hs w b d p.wy)(hb:Bs w ab cb bs)(zn:Cub w):
  Calls Tryz.prog 3 #[.agg (pfC p a c b d),.slice ab bs.length cb] w λe w'=>e = .returned (.bool true)∧Fr F0 w w':=by
 have HL:=Lib.hid (λW (fr:Fr F0 w W)=>atd W (zn.fr fr λf=>f))
 have HP0:=Lib.hid (And.intro hp (And.intro hs hb))
 have HO:=Lib.hid o
 have hrm:=hp.room
 have hrm2:=hs.room
 have hrm3:=hb.room
 have hmx:=hp.most
 have hmx3:=hb.most
 unfold maxLen at hmx hmx3
 have s0:=pq o.bk (.slice a p.tx.length c) (.int .u32 (p.ix:Int)) (.int .u32 (p.cn:Int)) (.slice b p.wy.length d)
 have c0:=alz (.slice a p.tx.length c) p.bk (.int .u32 (p.ix:Int)) (.int .u32 (p.cn:Int)) (.slice b p.wy.length d)
 have c35:=ac6 o.bk (.slice a p.tx.length c) (.int .u32 (p.ix:Int)) (.int .u32 (p.cn:Int)) (.slice b p.wy.length d)
 have oC:jh (pfC p a c b d):=aad _ rfl rfl rfl rfl
 replace s0:(pfC p a c b d).size=36:=s0
 replace c0:(pfC p a c b d)[0]? = some (.slice a p.tx.length c):=c0
 replace c35:(pfC p a c b d)[35]? = some (.slice b p.wy.length d):=c35
 obtain⟨C,hC⟩:∃C,C=pfC p a c b d:=⟨_,rfl⟩
 rw[←hC]at s0 c0 c35 oC ⊢
 have HC:=Lib.hid hC
 obtain⟨tn,htn⟩:∃n,n=p.tx.length:=⟨_,rfl⟩
 obtain⟨wn,hwn⟩:∃n,n=p.wy.length:=⟨_,rfl⟩
 obtain⟨bn,hbn⟩:∃n,n=bs.length:=⟨_,rfl⟩
 rw[←htn]at c0 hrm
 rw[←hwn]at c35 hrm2
 rw[←hbn]at hrm3 ⊢
 have hmt:tn≤9223372036854775807:=by omega
 have hmb:bn≤9223372036854775807:=by omega
 have hmw:wn≤9223372036854775807:=by have:=hs.sl.room;have:=hs.room;omega
 clear hmx hmx3
 have HN:=Lib.hid (And.intro htn (And.intro hwn hbn))
 have z0:0<C.size:=by omega
 have z35:35<C.size:=by omega
 have d0:=jd c0 z0
 have d35:=jd c35 z35
 have HCu:=Lib.hid zn
 clear hC htn hwn hbn hp hs hb o zn
 go_enter Tryz.func3,Tryz.ntmps3
 go_upto_region 1 with fail
 refine lu λW1 N1=>?_
 have r2:=N1.new
 have F:=N1.fr
 have hz1:=Lib.hid (Array.getElem?_eq_some_iff.1 r2).1
 clear N1
 generalize w.heap.size=g2 at *
 go_wp2_with fail
 (with_reducible refine(HL.out _ F).mono ?_);rintro e w2 ⟨rfl,f⟩
 replace r2:=au f r2
 replace F:=F.trans' f
 clear f
 by_cases h1:4200<tn
 ·have l1:(4200:Int)<(tn:Int):=by omega
  clear h1
  go_wp2_with fail
  (with_reducible refine(HL.out _ F).mono ?_);rintro e w3 ⟨rfl,f⟩
  go_wp2_with fail
  go_ret
  exact⟨rfl,F.trans' f⟩
 have l1:¬(4200:Int)<(tn:Int):=by omega
 by_cases h2:20<wn
 ·have l2:(20:Int)<(wn:Int):=by omega
  clear h2 h1
  go_wp2_with fail
  (with_reducible refine(HL.out _ F).mono ?_);rintro e w3 ⟨rfl,f⟩
  go_wp2_with fail
  go_ret
  exact⟨rfl,F.trans' f⟩
 have l2:¬(20:Int)<(wn:Int):=by omega
 by_cases h3:5000<bn
 ·have l3:(5000:Int)<(bn:Int):=by omega
  clear h3 h2 h1
  go_wp2_with fail
  (with_reducible refine(HL.out _ F).mono ?_);rintro e w3 ⟨rfl,f⟩
  go_wp2_with fail
  go_ret
  exact⟨rfl,F.trans' f⟩
 have l3:¬(5000:Int)<(bn:Int):=by omega
 have k1:decide ((4200:Int)<(tn:Int))=false:=decide_eq_false l1
 have k2:decide ((20:Int)<(wn:Int))=false:=decide_eq_false l2
 have k3:decide ((5000:Int)<(bn:Int))=false:=decide_eq_false l3
 have HB:=Lib.hid (show tn≤4200∧wn≤20∧bn≤5000 by omega)
 clear h1 h2 h3 HL
 have HPb:=Lib.hid (λW (fr:Fr F0 w W)=>axl p HO.out a c b d W (Bs.fr7 HP0.out.1 fr) (HP0.out.2.1.fr fr) zz52 zz52)
 rw[←HC.out]at HPb
 unfold ou at HPb
 have HXl:=Lib.hid (show p.bytes.length≤6000 by have h:=p.aj9 HO.out;have h1:=aa0 p.tx.length;have h2:=aa0 p.wy.length;have:=HB.out;have:=HN.out;omega)
 obtain⟨xn,hxn⟩:∃n,n=p.bytes.length:=⟨_,rfl⟩
 rw[←hxn]at HPb HXl
 have HXn:=Lib.hid hxn
 clear hxn
 go_wp2_with fail
 (with_reducible refine(HPb.out _ F).mono ?_);rintro e w3 ⟨a5,c5,rfl,hb5,f,nb5⟩
 replace r2:=au f r2
 replace F:=F.trans' f
 have HX:=Lib.hid hb5
 clear f HPb hb5 nb5
 go_upto_region 4 with fail
 refine sb4 w3 g2 xn c5 a5 C (strOf p.bytes) (rfC p) (λb d W=>Hs W b d p.wy) (Lib.hid λW fr=>by
   have:=aqe p HO.out a c b d W (Bs.fr7 HP0.out.1 (F.trans' fr)) (HP0.out.2.1.fr (F.trans' fr)) zz52
   rw[←HC.out]at this
   exact this) (Lib.hid λW b d hq=>(refB p HO.out zz52 zz52 W b d hq).mono (by rintro e w' ⟨a,n,c,rfl,h,fr⟩;exact⟨a,n,c,rfl,h _ (Fr.refl _ _),fr⟩)) (Lib.hid λW fr=>ahw (Bs.fr7 HX.out fr) HXn.out) r2 s0 (Lib.hid ?_)
 rename_i w4
 rintro⟨rfl,f⟩
 replace r2:=au f r2
 have HX4:=Lib.hid (Bs.fr7 HX.out f)
 replace F:=F.trans' f
 clear f HX
 go_upto_region 7 with fail
 refine lu λW5 N5=>?_
 have r47:=N5.new
 replace r2:=N5.old r2
 have HX5:=Lib.hid (Bs.fr7 HX4.out N5.fr)
 replace F:=F.trans' N5.fr
 have HB5:=Lib.hid (Bs.fr7 HP0.out.2.2 F)
 clear N5 HX4
 generalize w4.heap.size=g47 at *
 replace F:=Lib.hid F
 have HY:Hid (∀k:Nat,k<2→∃(y:List UInt8) (ay:Option Addr) (ny cy:Nat),#[Value.slice a5 xn c5,.slice ab bn cb][k]? = some (.slice ay ny cy)∧Bs W5 ay cy y∧ny=y.length∧y.length≤6000):=Lib.hid λk hk=>by
  rcases(show k=0∨k=1 by omega)with rfl|rfl
  ·exact⟨p.bytes,a5,xn,c5,rfl,HX5.out,HXn.out,by have:=HXl.out;have:=HXn.out;omega⟩
  ·exact⟨bs,ab,bn,cb,rfl,HB5.out,HN.out.2.2,by have:=HB.out;have:=HN.out;omega⟩
 obtain⟨D,hD⟩:∃D:Array Value,D=#[Value.slice a5 xn c5,.slice ab bn cb]:=⟨_,rfl⟩
 rw[←hD]at r47 HY
 have sD:D.size=2:=by rw[hD];rfl
 clear hD k1 k2 k3 l1 l2 l3
 go_loopw [49] (λkv wr=>∃k:Nat,k≤2∧kv = .int .i64 (k:Int)∧(wr.heap[g47]? = some (.cells D 22 (0,0))∧wr.heap[g2]? = some (.cells C 28 (0,0)))∧Hid (Fr F0 W5 wr)) (λkv _=>2-(intOf kv).toNat)
 case atStart=>exact⟨0,by decide,rfl,⟨r47,r2⟩,Fr.refl _ _⟩
 case round =>
  obtain⟨k,hk,rfl,⟨q47,q2⟩,hF⟩:=hrel
  clear r47 r2
  by_cases hk2:k<2
  ·obtain⟨y,ay,ny,cy,hyk,hby,hny,hyl⟩:=HY.out k hk2
   have l1:(k:Int)<2:=by omega
   have zk:k<D.size:=by omega
   have dk:=jd hyk zk
   have HBy:=Lib.hid (Bs.fr7 hby hF.out)
   have HNy:=Lib.hid (And.intro hny hyl)
   have HB5y:=Lib.hid hby
   obtain⟨ao,co,w6,happ,ho6,hp6,f6⟩:=copyB wr ay cy ny y HBy.out hny aPl
   have HO6:=Lib.hid ho6
   have HP6:=Lib.hid hp6
   clear hby hny hyl ho6 hp6
   have HPa:=Lib.hid (amk ao ny co y w6 HO6.out.bs.2 HNy.out.1 (by have:=HNy.out.2;omega))
   go_wp2_with fail
   (with_reducible refine HPa.out.mono ?_);rintro e w7 ⟨f,E,a7,c7,b7,d7,rfl,hcase,hfo,hb7,hs7,f7,na7,nb7⟩
   have sA:=pq hfo.bk (.slice a7 f.tx.length c7) (.int .u32 (f.ix:Int)) (.int .u32 (f.cn:Int)) (.slice b7 f.wy.length d7)
   have oA:jh (pfC f a7 c7 b7 d7):=aad _ rfl rfl rfl rfl
   replace sA:(pfC f a7 c7 b7 d7).size=36:=sA
   obtain⟨A,hA⟩:∃A,A=pfC f a7 c7 b7 d7:=⟨_,rfl⟩
   rw[←hA]at sA oA ⊢
   have HA:=Lib.hid hA
   have aKv:=au f7 (au f6 q47)
   have q2':=au f7 (au f6 q2)
   have F7:=Lib.hid (show Fr F0 W5 w7 from(hF.out.trans' f6).trans' f7)
   have HQ7:=Lib.hid (And.intro hb7 (And.intro hs7 (And.intro na7 nb7)))
   have ho7:OwnB w7 (.slice ao ny co) y:=HO6.out.fr f7 λ_ _ f=>f
   have hlo:=Lib.hid (show(∀i,ql ao=some i→wr.heap.size≤i∧i<w6.heap.size)∧g47<wr.heap.size∧g2<wr.heap.size∧w6.heap.size≤w7.heap.size∧W5.heap.size≤wr.heap.size from⟨λi hi=>⟨HP6.out i hi,HO6.out.lt i aPo⟩,(Array.getElem?_eq_some_iff.1 q47).1,(Array.getElem?_eq_some_iff.1 q2).1,f7.size,hF.out.size⟩)
   have HCs:=Lib.hid (And.intro hcase hfo)
   clear hA f6 f7 hF hb7 hs7 na7 nb7 hcase hfo happ HPa HO6 HP6 q47 q2 HBy zk dk hyk
   go_upto_region 11 with fail
   refine uy λW8 N8=>?_
   have r9:=N8.new
   have q47:=N8.old aKv
   have q2:=N8.old q2'
   have F8:=Lib.hid (F7.out.trans' N8.fr)
   have HQ8:=Lib.hid (And.intro (Bs.fr7 HQ7.out.1 N8.fr) (HQ7.out.2.1.fr N8.fr))
   have ho8:OwnB W8 (.slice ao ny co) y:=ho7.fr N8.fr λ_ _ f=>f
   have hg9:=Lib.hid (show w6.heap.size≤w7.heap.size from hlo.out.2.2.2.1)
   clear N8 aKv q2' F7 ho7
   generalize w7.heap.size=g9 at *
   have hny6:=Lib.hid (show ny≤6000 by have:=HNy.out;omega)
   go_wp2_with fail
   go_loopw [63] (λiv wi=>∃(j:Nat) (wr':World),wr'=wi∧j≤ny∧iv = .int .i64 (j:Int)∧(∃bs',OwnB wi (.slice ao ny co) bs'∧bs'.length=ny)∧Hid (Fr (λi=>ql ao=some i) W8 wi)) (λiv _=>ny-(intOf iv).toNat)
   case atStart=>exact⟨0,_,rfl,Nat.zero_le _,rfl,⟨y,ho8,HNy.out.1.symm⟩,Fr.refl _ _⟩
   case round =>
    obtain⟨j,wr',rfl,hj,rfl,⟨bs',ho',hl'⟩,hf⟩:=hrel
    clear ho8
    by_cases hjn:j<ny
    ·obtain⟨g,rfl⟩:=ho'.form9 aPl
     obtain⟨hc1,hz1⟩:=ho'.cell9 j aPl
     rw[jq]at hc1
     rw[ahh]at hz1
     have hx8:=(bs'[j]'aPl).toNat_lt
     generalize (bs'[j]'aPl).toNat=v at *
     have hxor:bits .xor .u8 (v:Int) 255=((v ^^^ 255:Nat):Int):=u8_xor_nat v 255 aPl aPl
     have hv8:v ^^^ 255<256:=Nat.xor_lt_two_pow (n:=8) aPl aPl
     generalize v ^^^ 255=u at *
     have HS:=Lib.hid (ho'.set9 j (UInt8.ofNat u))
     have HFs:=Lib.hid (Fr.setCell hf.out (p:=⟨g,j,none⟩) (λ_=>rfl) (B8 (UInt8.ofNat u)))
     have hB8:B8 (UInt8.ofNat u) = .int .u8 u:=by simp[B8,Nat.mod_eq_of_lt hv8]
     rw[hB8]at HS HFs
     have HLn:=Lib.hid hl'
     have lj:(j:Int)<(ny:Int):=by omega
     have wj:IntKind.i64.wrap ((j:Int)+1)=((j+1:Nat):Int):=by rw[IntWalk.i64_in _ (by have:=hny6.out;omega)];rfl
     have hjny:=Lib.hid hjn
     clear hl' ho' hB8 hf r9 q47 q2
     go_wp2_with fail
     go_roundw
     case rel=>exact⟨j+1,_,rfl,by have:=hjny.out;omega,by first|rfl|go_num,⟨_,HS.out,by rw[List.length_set];exact HLn.out⟩,HFs.out⟩
     case measure=>have:=hjny.out;simp[intOf];omega
    ·obtain rfl:ny=j:=by omega
     have r9':=hf.out.keeps (λe=>by have:=(hlo.out.1 g9 e).2;have:=hg9.out;omega) r9
     have aKv:=hf.out.keeps (λe=>by have:=(hlo.out.1 g47 e).1;have:=hlo.out;omega) q47
     have q2':=hf.out.keeps (λe=>by have:=(hlo.out.1 g2 e).1;have:=hlo.out;omega) q2
     have F9:=Lib.hid (F8.out.trans hf.out λi hi e=>by have:=(hlo.out.1 i e).1;have:=hlo.out;omega)
     have HQ9:=Lib.hid (And.intro (HQ8.out.1.frx hf.out λ_ i hi e=>by have h1:=HQ7.out.2.2.1 i hi;have:=(hlo.out.1 i e).2;omega) (HQ8.out.2.frx hf.out λi hi e=>by have h1:=HQ7.out.2.2.2 i hi;have:=(hlo.out.1 i e).2;omega))
     clear ho' hl' hjn hj hf r9 q47 q2 F8 HQ8 HQ7
     have HPr:=Lib.hid (aq5 ay ny cy y wr' (Bs.fr7 HB5y.out F9.out) HNy.out.1 (by have:=HNy.out.2;omega))
     go_wp2_with fail
     (with_reducible refine HPr.out.mono ?_);rintro e w10 ⟨f2,ok,b10,d10,rfl,hc2,hfo2,hs10,f10⟩
     replace r9':=au f10 r9'
     replace aKv:=au f10 aKv
     replace q2':=au f10 q2'
     have F10:=Lib.hid (F9.out.trans' f10)
     have HQ10:=Lib.hid (And.intro (Bs.fr7 HQ9.out.1 f10) (HQ9.out.2.fr f10))
     have sB:=pq hfo2.bk (.string (strOf f2.tx)) (.int .u64 (f2.ix:Int)) (.int .u64 (f2.cn:Int)) (.slice b10 f2.wy.length d10)
     have oB:jh (rfC f2 b10 d10):=aad _ rfl rfl rfl rfl
     replace sB:(rfC f2 b10 d10).size=36:=sB
     obtain⟨B,hB⟩:∃B,B=rfC f2 b10 d10:=⟨_,rfl⟩
     rw[←hB]at sB oB ⊢
     have HB2:=Lib.hid (And.intro hB (And.intro hs10 hfo2))
     have HC2:=Lib.hid hc2
     clear hB f10 F9 HQ9 HPr hc2 hfo2 hs10
     go_upto_region 17 with fail
     refine uy λW11 N11=>?_
     have r12:=N11.new
     have r9:=N11.old r9'
     have q47:=N11.old aKv
     have q2:=N11.old q2'
     have F11:=Lib.hid (F10.out.trans' N11.fr)
     have HQ11:=Lib.hid (And.intro (Bs.fr7 HQ10.out.1 N11.fr) (HQ10.out.2.fr N11.fr))
     have hs11:=Lib.hid (HB2.out.2.1.fr N11.fr)
     clear N11 r9' aKv q2' F10 HQ10
     generalize w10.heap.size=g12 at *
     rcases HCs.out.1 with⟨hp1,rfl⟩|⟨hp1,rfl,rfl⟩
     ·obtain⟨rfl,hp2⟩:ok=true∧ak6 y=some f2:=by
       rcases HC2.out with h|⟨_,h,_⟩
       ·exact h
       ·rw[hp1]at h;cases h
      have hff:f2=f:=by rw[hp1]at hp2;exact(Option.some.inj hp2).symm
      have hfit:=(ai3 hp1).2
      have H1:Hid (∀W:World,Fr F0 W11 W→Calls Tryz.prog 8 #[.agg A] W λe w'=>∃b d,e = .returned (.agg (rfC f b d))∧Hs w' b d f.wy∧Fr F0 W w'):=Lib.hid λW fr=>by
       have:=aqe f HCs.out.2 a7 c7 b7 d7 W (Bs.fr7 HQ11.out.1 fr) (HQ11.out.2.fr fr) (by have:=hfit.wy;omega)
       rw[←HA.out]at this
       exact this
      have H3:Hid (∀W:World,Fr F0 W11 W→Calls Tryz.prog 9 #[.agg B] W λe w'=>∃a n c,e = .returned (.slice a n c)∧(∀W',Fr F0 w' W'→(convert 22 9 (.slice a n c)).run Tryz.prog W' = .ok (.string (strOf f.bytes)) W')∧Fr F0 W w'):=Lib.hid λW fr=>by
       have:=refB f2 HB2.out.2.2 (by rw[hff];have:=hfit.tx;omega) (by rw[hff];have:=hfit.wy;omega) W b10 d10 (hs11.out.fr fr)
       rw[←HB2.out.1,hff]at this
       exact this
      have H2:=Lib.hid (fun(W:World) (b:Option Addr) (d:Nat) (hq:Hs W b d f.wy)=>refB f HCs.out.2 (by have:=hfit.tx;omega) (by have:=hfit.wy;omega) W b d hq)
      clear hp1 hp2 hff hfit
      refine sb17y W11 g9 g12 A B (strOf f.bytes) (rfC f) (λb d W=>Hs W b d f.wy) H1 H2 H3 sA sB r9 r12 (Lib.hid ?_)
      rename_i w12
      rintro⟨rfl,f12⟩
      replace q47:=au f12 q47
      replace q2:=au f12 q2
      have F12:=Lib.hid (F11.out.trans' f12)
      clear f12 F11 HQ11 H1 H2 H3 r9 r12 hs11
      go_wp2_with fail
      go_roundw
      case rel=>exact⟨k+1,by omega,by go_num,⟨q47,q2⟩,F12.out⟩
      case measure=>simp[intOf];omega
     ·obtain rfl:ok=false:=by
       rcases HC2.out with⟨_,h⟩|⟨h,_⟩
       ·rw[hp1]at h;cases h
       ·exact h
      have c0A:A[0]? = some (.slice a7 0 c7):=by rw[HA.out];rfl
      have c35A:A[35]? = some (.slice b7 0 d7):=by rw[HA.out];exact ac6 (h:=z32) rfl _ _ _ _
      refine sb17n W11 g9 g12 c7 d7 a7 b7 A sA c0A c35A r9 (Lib.hid ?_)
      rename_i w12
      rintro⟨rfl,f12⟩
      replace q47:=au f12 q47
      replace q2:=au f12 q2
      have F12:=Lib.hid (F11.out.trans' f12)
      clear f12 F11 HQ11 r9 r12 hs11
      go_wp2_with fail
      go_roundw
      case rel=>exact⟨k+1,by omega,by go_num,⟨q47,q2⟩,F12.out⟩
      case measure=>simp[intOf];omega
  ·obtain rfl:k=2:=by omega
   have FW:=Lib.hid (F.out.trans' hF.out)
   have HXw:=Lib.hid (Bs.fr7 HX5.out hF.out)
   clear F hF HX5 HY HB5 q47
   have HPx:=Lib.hid (amk a5 xn c5 p.bytes wr HXw.out HXn.out (by have:=HXl.out;have:=HXn.out;omega))
   go_wp2_with fail
   (with_reducible refine HPx.out.mono ?_);rintro e w20 ⟨f,E,a7,c7,b7,d7,rfl,hcase,hfo,_,_,f20,_,_⟩
   have sA:=pq hfo.bk (.slice a7 f.tx.length c7) (.int .u32 (f.ix:Int)) (.int .u32 (f.cn:Int)) (.slice b7 f.wy.length d7)
   have oA:jh (pfC f a7 c7 b7 d7):=aad _ rfl rfl rfl rfl
   replace sA:(pfC f a7 c7 b7 d7).size=36:=sA
   generalize pfC f a7 c7 b7 d7=A at *
   replace q2:=au f20 q2
   have F20:=Lib.hid (FW.out.trans' f20)
   have hfit:=aGl HO.out zz52 zz52
   rw[←HN.out.1,←HN.out.2.1]at hfit
   have hE:E=if tn≤4096∧wn≤16 then 0 else 2:=by
    rcases hcase with⟨h,rfl⟩|⟨h,rfl,_⟩
    ·rw[h]at hfit
     have:=hfit.symm
     simp only[Option.isSome_some,Bool.and_eq_true,decide_eq_true_eq]at this
     rw[if_pos this]
    ·rw[h]at hfit
     have:=hfit.symm
     simp only[Option.isSome_none,Bool.and_eq_false_iff,decide_eq_false_iff_not]at this
     rw[if_neg (λhh=>by rcases this with h|h;exact h hh.1;exact h hh.2)]
   have HE:=Lib.hid hE
   clear f20 hcase hfo hfit hE HPx FW HXw
   go_upto_region 21 with fail
   refine uy λW21 N21=>?_
   have q3:=N21.old q2
   have F21:=Lib.hid (F20.out.trans' N21.fr)
   clear N21 q2 F20 sA oA
   by_cases h1:tn≤4096
   ·have l1:(tn:Int)≤4096:=by omega
    by_cases h2:wn≤16
    ·have l2:(wn:Int)≤16:=by omega
     obtain rfl:E=0:=by rw[HE.out,if_pos ⟨h1,h2⟩]
     clear h1 h2
     go_wp2_with fail
     go_ret
     exact⟨rfl,F21.out⟩
    ·have l2:¬(wn:Int)≤16:=by omega
     obtain rfl:E=2:=by rw[HE.out,if_neg (λh=>h2 h.2)]
     clear h1 h2
     go_wp2_with fail
     go_ret
     exact⟨rfl,F21.out⟩
   ·have l1:¬(tn:Int)≤4096:=by omega
    obtain rfl:E=2:=by rw[HE.out,if_neg (λh=>h1 h.1)]
    clear h1
    go_wp2_with fail
    go_ret
    exact⟨rfl,F21.out⟩
end Go.Proofs.YtjlelckefiannaaGreatDoor
