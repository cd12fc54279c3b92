import Derived.Test.YtfjcplfhkahamaaGreatDoorQ1
import Derived.Test.YtfjcplfhkahamaaGreatDoorQ38
import Derived.Test.YtfjcplfhkahamaaGreatDoorQ35
import Derived.Test.YtfjcplfhkahamaaGreatDoorQ4
import Derived.Test.YtfjcplfhkahamaaGreatDoorQ36
import Derived.Test.YtfjcplfhkahamaaGreatDoorQ32
import Derived.Test.YtfjcplfhkahamaaGreatDoorQ26
import Derived.Test.YtfjcplfhkahamaaGreatDoorQ2
import Derived.Test.YtfjcplfhkahamaaGreatDoorQ6
import Derived.Test.YtfjcplfhkahamaaGreatDoorQ9
import Derived.Test.YtfjcplfhkahamaaGreatDoorQ17
set_option maxRecDepth 100000
set_option maxHeartbeats 64000000
namespace Go.Proofs.YtfjcplfhkahamaaGreatDoor
set_option linter.unusedVariables false
set_option linter.unusedSimpArgs false
open Go.RowKit
theorem Tryz.szStep12 : (Tryz.prog.info? 46).map (·.size) = some 4 := by kernel_rfl
@[go_sem ↓ high] theorem load_step12 (p : Value) : Instr.loadAt 46 p = loadRowAt 46 p := rfl
@[go_sem ↓ high] theorem store_step12 (p v : Value) : Instr.storeAt 46 p v = storeRowAt 46 p v := rfl
@[go_sem] theorem run_load_step12 (w : World) (g : Nat) : (loadRowAt 46 (.pointer (some ⟨g,0,none⟩))).run Tryz.prog w = rowOut Tryz.prog 46 (.pointer (some ⟨g,0,none⟩)) w 4 w.heap[g]? :=
 run_loadRowAt w _ g 4 _ Tryz.underlying46 rfl Tryz.szStep12
@[go_sem] theorem run_store_step12 (w : World) (g : Nat) (cells : Array Value) : (storeRowAt 46 (.pointer (some ⟨g,0,none⟩)) (.agg cells)).run Tryz.prog w = rowIn Tryz.prog 46 (.pointer (some ⟨g,0,none⟩)) cells g w 4 w.heap[g]? :=
 run_storeRowAt w _ g 4 cells Tryz.szStep12
theorem zHd_size : Tryz.zeroCells28.size = 68 := by kernel_rfl
theorem kg26 {s0 s1 s2 s3 s4 s5 s6 s7 s9 s10 s11 s12 s13 s14 s15 s17 s18 s19 s20 s21 s22 s23 s24 s25 s26 s27 s28 s29 s30 s31 s32 s33 s34 s35 s36 s37 s38 s39 s40 s41 s42 s43 s44 s45 s46 s47 s48 s49 s50 s51 s52 s53 s54 s55 s56 s57 s58 s59 s60 s61 s62 s63 s64 s65 s66 s67 s68 s69 s70 s71 s72 s73 s74 s75 s76 s77 s78 s79 s80 s81 s82 s83 s84 s85 s86 s87 s88 s89 s90 s91 s92 s93 s94 s95 s96 s97 s98 s99 s100 s101 s102 s103 s104 s105 s106 s107 s108 s109 s110 s111 s112 s113 s114 s115 s116 s117 s118 s119 s120 s121 s122 s123 s124 s125 s126 s127 s128 s129 s130 s131 s132 s133 s134 s135 s136 : Value} {K : Act → World → Prop} {Q : Exit → Act → World → Prop} (w3 : World) (X : Array Value) (p g16 x y : Nat) (s : Int) (H1 : RowKit.Hid (∀ W : World,Fr F0 w3 W → Calls Tryz.prog 11 #[.pointer (some ⟨p,0,none⟩)] W fun e w' => e = .returned (.agg X) ∧ Fr F0 W w')) (H2 : RowKit.Hid (∀ W : World,Fr F0 w3 W → Calls Tryz.prog 10 #[.pointer (some ⟨p,0,none⟩),.agg X] W fun e w' => e = .returned (.agg (rowN .u64 64 4 y)) ∧ Fr F0 W w')) (H3 : RowKit.Hid (∀ W : World,Calls Tryz.prog 14 #[.agg (rowN .u64 64 4 y),.agg (rowN .u64 64 4 x)] W fun e w' => e = .returned (.int .i64 s) ∧ Fr F0 W w')) (hs : ¬ s < 0) (r16 : w3.heap[g16]? = some (.cells (rowN .u64 64 4 x) 51 (0,0)))
  (hK : RowKit.Hid (∀ {u119 u120 u121 u122 u123 u124 u125 : Value} {w' : World},(u125 = .bool false ∧ Fr F0 w3 w') → K ⟨#[s0,s1,s2,s3,s4,s5,s6,s7,.pointer (some ⟨p,0,none⟩),s9,s10,s11,s12,s13,s14,s15,.pointer (some ⟨g16,0,none⟩),s17,s18,s19,s20,s21,s22,s23,s24,s25,s26,s27,s28,s29,s30,s31,s32,s33,s34,s35,s36,s37,s38,s39,s40,s41,s42,s43,s44,s45,s46,s47,s48,s49,s50,s51,s52,s53,s54,s55,s56,s57,s58,s59,s60,s61,s62,s63,s64,s65,s66,s67,s68,s69,s70,s71,s72,s73,s74,s75,s76,s77,s78,s79,s80,s81,s82,s83,s84,s85,s86,s87,s88,s89,s90,s91,s92,s93,s94,s95,s96,s97,s98,s99,s100,s101,s102,s103,s104,s105,s106,s107,s108,s109,s110,s111,s112,s113,s114,s115,s116,s117,s118,u119,u120,u121,u122,u123,u124,u125,s126,s127,s128,s129,s130,s131,s132,s133,s134,s135,s136],[]⟩ w')) :
  Code.wp Tryz.prog ((Tryz.f3.body.bind (findRegion 26)).getD .skip) (Exit.then K Q) ⟨#[s0,s1,s2,s3,s4,s5,s6,s7,.pointer (some ⟨p,0,none⟩),s9,s10,s11,s12,s13,s14,s15,.pointer (some ⟨g16,0,none⟩),s17,s18,s19,s20,s21,s22,s23,s24,s25,s26,s27,s28,s29,s30,s31,s32,s33,s34,s35,s36,s37,s38,s39,s40,s41,s42,s43,s44,s45,s46,s47,s48,s49,s50,s51,s52,s53,s54,s55,s56,s57,s58,s59,s60,s61,s62,s63,s64,s65,s66,s67,s68,s69,s70,s71,s72,s73,s74,s75,s76,s77,s78,s79,s80,s81,s82,s83,s84,s85,s86,s87,s88,s89,s90,s91,s92,s93,s94,s95,s96,s97,s98,s99,s100,s101,s102,s103,s104,s105,s106,s107,s108,s109,s110,s111,s112,s113,s114,s115,s116,s117,s118,s119,s120,s121,s122,s123,s124,s125,s126,s127,s128,s129,s130,s131,s132,s133,s134,s135,s136],[]⟩ w3 := by
 conv => arg 2; whnf
 have F9 := Fr.refl F0 w3
 have sX := rowN_size .u64 64 4 x
 refine rbegin (S := (fun w' => w'.heap[g16]? = some (.cells (rowN .u64 64 4 x) 51 (0,0)) ∧ Fr F0 w3 w')) ?_ fun hHeld => ?_
 ·((try dsimp only) <;> (exact ⟨r16,F9.drew⟩))
 refine rtake 0 ?_
 refine rtake 1 ?_
 refine rtake 4 ?_
 refine rone 2 fun K hK => ?_
 go_simp
 ((with_reducible refine (H1.out _ hHeld.2).mono ?_); rintro e w5 ⟨rfl,f5⟩)
 refine hK.out _ _ ?_ (fun hHeld => ?_)
 ·((try dsimp only) <;> (first | exact hHeld | exact ⟨keep_fr f5 hHeld.1,hHeld.2.trans' f5⟩))
 clear hK K
 try (simp only [Act.put,aST]; dsimp only [aS0,aS1])
 refine rone 3 fun K hK => ?_
 go_simp
 ((with_reducible refine (H2.out _ hHeld.2).mono ?_); rintro e w5 ⟨rfl,f5⟩)
 refine hK.out _ _ ?_ (fun hHeld => ?_)
 ·((try dsimp only) <;> (first | exact hHeld | exact ⟨keep_fr f5 hHeld.1,hHeld.2.trans' f5⟩))
 clear hK K
 try (simp only [Act.put,aST]; dsimp only [aS0,aS1])
 refine rone 5 fun K hK => ?_
 go_simp
 ((with_reducible refine (H3.out _).mono ?_); rintro e w5 ⟨rfl,f5⟩)
 refine hK.out _ _ ?_ (fun hHeld => ?_)
 ·((try dsimp only) <;> (first | exact hHeld | exact ⟨keep_fr f5 hHeld.1,hHeld.2.trans' f5⟩))
 clear hK K
 try (simp only [Act.put,aST]; dsimp only [aS0,aS1])
 refine rtake 6 ?_
 refine rdone ?_
 all_goals exact hK.out ⟨by first | rfl | simp [hs] | (simp; omega),hHeld.2⟩
theorem kg14 {s0 s1 s2 s3 s4 s5 s6 s7 s9 s10 s11 s13 s15 s16 s17 s18 s19 s20 s21 s22 s23 s24 s25 s26 s27 s28 s29 s30 s31 s32 s33 s34 s35 s36 s37 s38 s39 s40 s41 s42 s43 s44 s45 s46 s47 s48 s49 s50 s51 s52 s53 s54 s55 s56 s57 s58 s59 s60 s61 s62 s63 s64 s65 s66 s67 s68 s69 s70 s71 s72 s73 s74 s75 s76 s77 s78 s79 s80 s81 s82 s83 s84 s85 s86 s87 s88 s89 s90 s91 s92 s93 s94 s95 s96 s97 s98 s99 s100 s101 s102 s103 s104 s105 s106 s107 s108 s109 s110 s111 s112 s113 s114 s115 s116 s117 s118 s119 s120 s121 s122 s123 s124 s125 s126 s127 s128 s129 s130 s131 s132 s133 s134 s135 s136 : Value} {K : Act → World → Prop} {Q : Exit → Act → World → Prop} (w3 : World) (X : Array Value) (Y : Nat → Array Value) (kind ah late : Int) (b8 : Value) (p g14 b c m x j : Nat) (H1 : RowKit.Hid (∀ W : World,Fr F0 w3 W → (loadRowAt 28 (.pointer (some ⟨b,j * 68,none⟩))).run Tryz.prog W = .ok (.agg X) W)) (H2 : RowKit.Hid (∀ W : World,Fr F0 w3 W → Calls Tryz.prog 9 #[.pointer (some ⟨p,0,none⟩),.agg X,.agg #[.int .i64 kind,.int .i64 ah,.int .i32 late,b8]] W fun e w' => (∃ n : Nat,n < 4294967296 ∧ e = .returned (.agg (Y n))) ∧ Fr F0 W w')) (HY : RowKit.Hid (∀ n : Nat,n < 4294967296 → (Y n).size = 68 ∧ rowOne (Y n))) (one : rowOne #[.int .i64 kind,.int .i64 ah,.int .i32 late,b8]) (hx : IntKind.u64.wrap ah = (x : Int)) (hm : IntKind.u64.wrap (m : Int) = (m : Int)) (hj : (x : Int).tmod (m : Int) = (j : Int)) (hj2 : IntKind.i64.wrap (j : Int) = (j : Int)) (hjm : (j : Int) < (m : Int)) (hjn : j < m) (m0 : ¬ (m : Int) = 0) (m1 : ¬ m = 0) (r14 : w3.heap[g14]? = some (.cells #[.int .i64 kind,.int .i64 ah,.int .i32 late,b8] 46 (0,0)))
  (hK : RowKit.Hid (∀ {u15 u62 u63 u64 u65 u66 u67 u68 u69 u70 u71 u72 u73 u74 u75 : Value} {w' : World},((∃ g15 n : Nat,u15 = .pointer (some ⟨g15,0,none⟩) ∧ n < 4294967296 ∧ w3.heap.size ≤ g15 ∧ w'.heap[g15]? = some (.cells (Y n) 28 (0,0))) ∧ w'.heap[g14]? = some (.cells #[.int .i64 kind,.int .i64 ah,.int .i32 late,b8] 46 (0,0)) ∧ Fr F0 w3 w') → K ⟨#[s0,s1,s2,s3,s4,s5,s6,s7,.pointer (some ⟨p,0,none⟩),s9,s10,s11,.slice (some ⟨b,0,none⟩) m c,s13,.pointer (some ⟨g14,0,none⟩),u15,s16,s17,s18,s19,s20,s21,s22,s23,s24,s25,s26,s27,s28,s29,s30,s31,s32,s33,s34,s35,s36,s37,s38,s39,s40,s41,s42,s43,s44,s45,s46,s47,s48,s49,s50,s51,s52,s53,s54,s55,s56,s57,s58,s59,s60,s61,u62,u63,u64,u65,u66,u67,u68,u69,u70,u71,u72,u73,u74,u75,s76,s77,s78,s79,s80,s81,s82,s83,s84,s85,s86,s87,s88,s89,s90,s91,s92,s93,s94,s95,s96,s97,s98,s99,s100,s101,s102,s103,s104,s105,s106,s107,s108,s109,s110,s111,s112,s113,s114,s115,s116,s117,s118,s119,s120,s121,s122,s123,s124,s125,s126,s127,s128,s129,s130,s131,s132,s133,s134,s135,s136],[]⟩ w')) :
  Code.wp Tryz.prog ((Tryz.f3.body.bind (findRegion 14)).getD .skip) (Exit.then K Q) ⟨#[s0,s1,s2,s3,s4,s5,s6,s7,.pointer (some ⟨p,0,none⟩),s9,s10,s11,.slice (some ⟨b,0,none⟩) m c,s13,.pointer (some ⟨g14,0,none⟩),s15,s16,s17,s18,s19,s20,s21,s22,s23,s24,s25,s26,s27,s28,s29,s30,s31,s32,s33,s34,s35,s36,s37,s38,s39,s40,s41,s42,s43,s44,s45,s46,s47,s48,s49,s50,s51,s52,s53,s54,s55,s56,s57,s58,s59,s60,s61,s62,s63,s64,s65,s66,s67,s68,s69,s70,s71,s72,s73,s74,s75,s76,s77,s78,s79,s80,s81,s82,s83,s84,s85,s86,s87,s88,s89,s90,s91,s92,s93,s94,s95,s96,s97,s98,s99,s100,s101,s102,s103,s104,s105,s106,s107,s108,s109,s110,s111,s112,s113,s114,s115,s116,s117,s118,s119,s120,s121,s122,s123,s124,s125,s126,s127,s128,s129,s130,s131,s132,s133,s134,s135,s136],[]⟩ w3 := by
 conv => arg 2; whnf
 have F9 := Fr.refl F0 w3
 have HG := Lib.hid (Array.getElem?_eq_some_iff.1 r14).1
 refine rbegin (S := (fun w' => (w'.heap[g14]? = some (.cells #[.int .i64 kind,.int .i64 ah,.int .i32 late,b8] 46 (0,0)) ∧ (loadRowAt 28 (.pointer (some ⟨b,j * 68,none⟩))).run Tryz.prog w' = .ok (.agg X) w') ∧ Fr F0 w3 w')) ?_ fun hHeld => ?_
 ·((try dsimp only) <;> (exact ⟨⟨r14,H1.out _ F9.drew⟩,F9.drew⟩))
 refine rtake 0 ?_
 refine rtake 1 ?_
 refine rtake 2 ?_
 refine rtake 3 ?_
 refine rtake 4 ?_
 refine rtake 5 ?_
 refine rtake 6 ?_
 refine rtake 7 ?_
 refine rtake 8 ?_
 refine rtake 9 ?_
 refine rtake 10 ?_
 refine rtake 11 ?_
 refine rtake 12 ?_
 refine wpAnyH_ready (rs := [13,14]) (by kernel_rfl) (by simp) ?_
 refine AllReadyH.cons (o := ⟨_,_,_,_,_,_⟩) rfl (fun K hK => ?_) (AllReadyH.cons (o := ⟨_,_,_,_,_,_⟩) rfl (fun K hK => ?_) AllReadyH.nil)
 go_simp
 ((with_reducible refine (H2.out _ hHeld.2).mono ?_); rintro e w5 ⟨⟨n,hn,rfl⟩,f5⟩; have z5 := (hHeld.2.trans' f5).size)
 refine hK.out _ _ ?_ (fun hHeld => ?_)
 ·((try dsimp only) <;> (first | exact hHeld | exact ⟨⟨keep_fr f5 hHeld.1.1,H1.out _ (hHeld.2.trans' f5)⟩,hHeld.2.trans' f5⟩))
 clear hK K
 try (simp only [Act.put,aST]; dsimp only [aS0,aS1])
 refine rone 14 fun K hK => ?_
 go_simp
 refine hK.out _ _ ?_ (fun hHeld => ?_)
 ·((try dsimp only) <;> (first | exact hHeld | exact ⟨⟨keep_alloc hHeld.1.1,H1.out _ (hHeld.2.alloc _)⟩,hHeld.2.alloc _⟩ | exact ⟨⟨keep_row (by have := HG.out; omega) hHeld.1.1,H1.out _ (hHeld.2.setRow (fun h => by have := HG.out; omega) _)⟩,hHeld.2.setRow (fun h => by have := HG.out; omega) _⟩))
 clear hK K
 try (simp only [Act.put,aST]; dsimp only [aS0,aS1])
 refine rone 15 fun K hK => ?_
 go_simp
 (try (rw [rowIn_of (old := Tryz.zeroCells28) (t' := 28) (by ((try rw [← Array.getElem?_eq_getElem]); repeat (first | rfl | exact heap_alloc_new _ _ | refine keep_alloc ?_ | refine keep_fr (by assumption) ?_))) zHd_size (HY.out n hn).1 (HY.out n hn).2]; go_simp))
 refine hK.out _ _ ?_ (fun hHeld => ?_)
 ·((try dsimp only) <;> (first | exact hHeld | exact ⟨⟨keep_alloc hHeld.1.1,H1.out _ (hHeld.2.alloc _)⟩,hHeld.2.alloc _⟩ | exact ⟨⟨keep_row (by have := HG.out; omega) hHeld.1.1,H1.out _ (hHeld.2.setRow (fun h => by have := HG.out; omega) _)⟩,hHeld.2.setRow (fun h => by have := HG.out; omega) _⟩))
 clear hK K
 try (simp only [Act.put,aST]; dsimp only [aS0,aS1])
 refine rdone ?_
 rotate_left
 go_simp
 refine hK.out _ _ ?_ (fun hHeld => ?_)
 ·((try dsimp only) <;> (first | exact hHeld | exact ⟨⟨keep_alloc hHeld.1.1,H1.out _ (hHeld.2.alloc _)⟩,hHeld.2.alloc _⟩ | exact ⟨⟨keep_row (by have := HG.out; omega) hHeld.1.1,H1.out _ (hHeld.2.setRow (fun h => by have := HG.out; omega) _)⟩,hHeld.2.setRow (fun h => by have := HG.out; omega) _⟩))
 clear hK K
 try (simp only [Act.put,aST]; dsimp only [aS0,aS1])
 refine rone 13 fun K hK => ?_
 go_simp
 ((with_reducible refine (H2.out _ hHeld.2).mono ?_); rintro e w5 ⟨⟨n,hn,rfl⟩,f5⟩; have z5 := (hHeld.2.trans' f5).size)
 refine hK.out _ _ ?_ (fun hHeld => ?_)
 ·((try dsimp only) <;> (first | exact hHeld | exact ⟨⟨keep_fr f5 hHeld.1.1,H1.out _ (hHeld.2.trans' f5)⟩,hHeld.2.trans' f5⟩))
 clear hK K
 try (simp only [Act.put,aST]; dsimp only [aS0,aS1])
 refine rone 15 fun K hK => ?_
 go_simp
 (try (rw [rowIn_of (old := Tryz.zeroCells28) (t' := 28) (by ((try rw [← Array.getElem?_eq_getElem]); repeat (first | rfl | exact heap_alloc_new _ _ | refine keep_alloc ?_ | refine keep_fr (by assumption) ?_))) zHd_size (HY.out n hn).1 (HY.out n hn).2]; go_simp))
 refine hK.out _ _ ?_ (fun hHeld => ?_)
 ·((try dsimp only) <;> (first | exact hHeld | exact ⟨⟨keep_alloc hHeld.1.1,H1.out _ (hHeld.2.alloc _)⟩,hHeld.2.alloc _⟩ | exact ⟨⟨keep_row (by have := HG.out; omega) hHeld.1.1,H1.out _ (hHeld.2.setRow (fun h => by have := HG.out; omega) _)⟩,hHeld.2.setRow (fun h => by have := HG.out; omega) _⟩))
 clear hK K
 try (simp only [Act.put,aST]; dsimp only [aS0,aS1])
 refine rdone ?_
 rotate_left
 all_goals
  refine hK.out ⟨⟨_,n,rfl,hn,by (try simp only [World.size_alloc,heap_drew'] at z5 ⊢); omega,?_⟩,hHeld.1.1,hHeld.2⟩
  refine (new_row (z := Tryz.zeroCells28) (t := 28) (f := (0,0)) ?_)
  repeat (first | exact heap_alloc_new _ _ | refine keep_alloc ?_ | refine keep_fr (by assumption) ?_)
def buildTr (parts : Array (Nat × Value)) : Sem Value := Instr.build 43 parts
@[go_sem ↓ high] theorem build_tr12 (p : Array (Nat × Value)) : Instr.build 43 p = buildTr p := rfl
theorem built_tr (a : Option Addr) (n c : Nat) (e s l : Int) : Tryz.prog.built 43 [(0,.slice a n c),(1,.int .i64 e),(2,.int .u32 s),(3,.int .u32 l)] = some #[.slice a n c,.int .i64 e,.int .u32 s,.int .u32 l] := by kernel_rfl
theorem run_buildTr (w : World) (a : Option Addr) (n c : Nat) (e s l : Int) : (buildTr #[(0,.slice a n c),(1,.int .i64 e),(2,.int .u32 s),(3,.int .u32 l)]).run Tryz.prog w = .ok (.agg #[.slice a n c,.int .i64 e,.int .u32 s,.int .u32 l]) w := run_build w _ _ _ (built_tr a n c e s l)
theorem plain_first (v : Value) : (plainB Fh v).arr.setIfInBounds 32 (.int .i64 (-1)) = (b0 v).arr := by
 have h : ((sha2 Fh.bytes).map B8).length = 32 := by simp [sha2,sha_length]
 unfold Bk.arr Bk.cells plainB b0
 dsimp only
 rw [List.setIfInBounds_toArray,List.set_append_right _ _ (by omega),h]
 rfl
theorem plain_new (h : Hd) (v : Value) (i : Nat) : (plainB h v).arr.setIfInBounds 32 (.int .i64 (i : Int)) = (nbB h v i).arr := by
 have e : ((sha2 h.bytes).map B8).length = 32 := by simp [sha2,sha_length]
 unfold Bk.arr Bk.cells plainB nbB
 dsimp only
 rw [List.setIfInBounds_toArray,List.set_append_right _ _ (by omega),e]
 rfl
theorem plain_ok {h : Hd} (o : h.Ok) {a : Option Addr} {n c : Nat} : (plainB h (.slice a n c)).Ok := ⟨by simp [plainB,sha2,sha_length],o.time,o.bits,rfl⟩
structure Stp (w : World) (a : Option Addr) (n c : Nat) : Prop where
 at_ : ∀ k,k < n → ∃ b off kind ah late rt,a = some ⟨b,off,none⟩ ∧ ∀ W,Fr F0 w W → (loadRowAt 46 (.pointer (some ⟨b,off + k * 4,none⟩))).run Tryz.prog W = .ok (.agg #[.int .i64 kind,.int .i64 ah,.int .i32 late,B8 rt]) W
theorem GB_b0 (v : Value) : GB [b0 v] := by
 intro i hi
 obtain rfl : i = 0 := by simpa using hi
 have e : (bkT [b0 v] 0).bits = lim0 := by rw [bk_b0,b0_bits]; rfl
 refine ⟨by rw [e]; exact lim0_P,by rw [e]; exact Nat.le_refl _,?_⟩
 rw [e]
 exact lim0_ge
theorem bits_lt12 {L : List Bk} (hw : WFt L) {e s i : Nat} (hi : i < L.length) : bitsM L e s lim0 i < 4294967296 := by
 unfold bitsM
 split
 ·exact enB_lt (Nat.lt_of_le_of_lt (sc_top lim0_P.2.1).1 lim0_P.2.2)
 ·exact (hw.at hi).bits
theorem bitA_lt {L : List Bk} (hw : WFt L) {e s : Nat} (A : List UInt8) : bitA L e s lim0 A < 4294967296 := by
 unfold bitA
 split
 ·omega
 ·rcases findM_lt A L with h | ⟨i,h,hi⟩
  ·omega
  ·rw [h,Int.toNat_natCast]
   exact bits_lt12 hw hi
theorem mem_bkT {L : List Bk} {b : Bk} (h : b ∈ L) : ∃ k,k < L.length ∧ bkT L k = b := by
 obtain ⟨k,hk,rfl⟩ := List.getElem_of_mem h
 exact ⟨k,hk,by unfold bkT; rw [List.getD,List.getElem?_eq_getElem hk]; rfl⟩
structure Cts (w wr : World) (R : Array Value) (E s p bm p2 : Nat) (L : List Bk) : Prop where
 made : ∀ W,Fr F0 wr W → ∀ (h : Hd),h.Ok → ∀ (kind ah late : Int) (rt : UInt8),Calls Tryz.prog 9 #[.pointer (some ⟨p,0,none⟩),.agg h.cells,.agg #[.int .i64 kind,.int .i64 ah,.int .i32 late,B8 rt]] W fun e w' => (∃ n : Nat,n < 4294967296 ∧ e = .returned (.agg ((mkM (mkK kind (mk0 h late rt (bitA L E s lim0 (sha2 h.bytes))))).with n).cells)) ∧ Fr F0 W w'
 best : ∀ W,Fr F0 wr W → Calls Tryz.prog 11 #[.pointer (some ⟨p,0,none⟩)] W fun e w' => e = .returned (.agg (hc (bkT L (bestM L)).hash)) ∧ Fr F0 W w'
 work : ∀ W,Fr F0 wr W → Calls Tryz.prog 10 #[.pointer (some ⟨p,0,none⟩),.agg (hc (bkT L (bestM L)).hash)] W fun e w' => e = .returned (.agg (rowN .u64 64 4 (workM L (bestM L)))) ∧ Fr F0 W w'
theorem Cts.of {w wr : World} {R : Array Value} {E s p bm p2 : Nat} {H : List Hd} {L : List Bk} {ps : List Nat} {v lv tv : Value} {LD : List Bk} {tl : List Hd} (ri : RI R E s lim0) (I : TI H L ps) (g : GB L) (hl : L.length ≤ 31) (S : StM w wr R E s p bm p2 H L ps v lv LD tv tl) (hcub : Cub w) : Cts w wr R E s p bm p2 L := by
 have hR : R.size = 72 := by obtain ⟨c,hr⟩ := ri.of; exact hr.size
 have tb : TB L E s lim0 := g.tb I.wf hl ri.s0
 have hcl := I.chn_len
 refine ⟨fun W f h o kind ah late rt => ?_,fun W f => ?_,fun W f => ?_⟩
 ·refine (Made12_any hHashC hMineC hCheckC (.pointer (some ⟨p,0,none⟩)) (bitA L E s lim0) (bitZ L) (fun A => bitA_lt I.wf A) h o kind ah late rt W ((hcub.fr S.F fun f => f).fr f fun f => f) (Lib.hid fun A hA w' f' => ?_)).mono ?_
  ·exact kBits_any decC encTC scaleC ri I (S.T.fr (f.trans' f')) tb.bits A hA
  ·rintro e w' ⟨n,hn,rfl,_,f'⟩
   exact ⟨⟨n,hn,rfl⟩,f'⟩
 ·have := kBest_any hR (S.T.fr f) (by rw [hcl.1]; omega) (by omega)
  rw [I.at_best] at this
  exact this
 ·exact kWork_any hR I (S.T.fr f) (bestM L) I.best
theorem grown {w W W' : World} {R : Array Value} {E s p bm p2 : Nat} {H : List Hd} {L : List Bk} {ps : List Nat} {v lv tv : Value} {tl : List Hd} (S : StM w W R E s p bm p2 H L ps v lv L tv tl) {h : Hd} {EE : Int}
  (hne : EE ≠ 0 → Fr F0 W W')
  (hz : EE = 0 → ∃ i : Nat,findM L h.ahead = (i : Int) ∧ ∃ q v',NB H L ps i h (nbB h (.bool false) i) q ∧ TM W' p R bm (H ++ [h]) (L ++ [nbB h (.bool false) i]) (ps ++ [q]) v' (chn (L ++ [nbB h (.bool false) i])) ∧ W.heap.size ≤ q ∧ (∀ k,v'.ownBlock = some k → v.ownBlock = some k ∨ W.heap.size ≤ k) ∧ Fr (TS p bm ps v) W W') :
  ((EE ≠ 0 ∧ StM w W' R E s p bm p2 H L ps v lv L tv tl) ∨ (EE = 0 ∧ ∃ (i q : Nat) (v' : Value),findM L h.ahead = (i : Int) ∧ NB H L ps i h (nbB h (.bool false) i) q ∧ StM w W' R E s p bm p2 (H ++ [h]) (L ++ [nbB h (.bool false) i]) (ps ++ [q]) v' lv L tv tl)) ∧
  TR W' p2 L (E : Int) s lim0 ∧ Fr F0 w W' ∧ W.heap.size ≤ W'.heap.size ∧ ∀ (k : Nat) (A : Array Value) (t : TypeId) (f : Nat × Nat),W.heap[k]? = some (.cells A t f) → t ≠ 75 → t ≠ 71 → t ≠ 26 → W'.heap[k]? = some (.cells A t f) := by
 by_cases hE : EE = 0
 ·obtain ⟨i,hi,q,v',nb,T',hq,hv,f⟩ := hz hE
  have S' := S.add f T' (by simp) hq hv
  exact ⟨.inr ⟨hE,i,q,v',hi,nb,S'⟩,S'.tr,S'.F,f.size,fun k A t f' hk h1 h2 h3 => f.keeps (S.T.apart S.plen hk h1 h2 h3) hk⟩
 ·have f := hne hE
  have S' := S.fr f
  exact ⟨.inl ⟨hE,S'⟩,S'.tr,S'.F,f.size,fun k A t f' hk h1 h2 h3 => keep_fr f hk⟩
theorem check_at {R : Array Value} {E s p2 : Nat} {H : List Hd} {L : List Bk} {ps : List Nat} (ri : RI R E s lim0) (hs : s < 4294967296) (I : TI H L ps) (g : GB L) {W0 : World} (D : TR W0 p2 L (E : Int) s lim0) {h : Hd} (oh : h.Ok) {a : Option Addr} {c : Nat} (hb : Bs W0 a c h.bytes) :
  ∀ W,Fr F0 W0 W → Calls Tryz.prog 13 #[.pointer (some ⟨p2,0,none⟩),.agg (plainB h (.slice a h.bytes.length c)).arr,.agg (hc h.ahead)] W fun e w' => e = .returned (.tuple #[.int .i64 (chkV L E s lim0 (plainB h (.bool false)) h.ahead (mtH h)),.int .i64 (chkE L E s lim0 (plainB h (.bool false)) h.ahead (mtH h))]) ∧ Fr F0 W w' := by
 intro W f
 have hl := I.small
 have AX : Ans W 42 #[(plainB h (.slice a h.bytes.length c)).bytes] (.bool (mtH h)) := Lib.hid fun W' f' => by
  show Calls Tryz.prog 42 #[.slice a h.bytes.length c] W' fun e w' => e = .returned (.bool (mtH h)) ∧ Fr F0 W' w'
  rw [Hd.bytes_length oh]
  exact r7Meets_any h oh a c W' (Bs.fr7 hb (f.trans' f'))
 exact r12Check_any p2 L E s lim0 I.wf (by omega) (by have := ri.e0; omega) ri.e1 ri.s0 hs (fun b hb => by
  obtain ⟨k,hk,rfl⟩ := mem_bkT hb
  exact (g k hk).1) ri.lim (by decide) (plainB h (.slice a h.bytes.length c)) (plain_ok oh) h.ahead oh.ahead (mtH h) W (D.fr f) AX
theorem sgn_ge12 {x y : Nat} (h : y ≤ x) : 0 ≤ sgn x y := by unfold sgn; split <;> (try split) <;> omega
theorem chk_bits {L : List Bk} {E s : Nat} {h : Hd} {v : Value} {mt : Bool} (h0 : chkE L E s lim0 (plainB h v) h.ahead mt = 0) {i : Nat} (hi : findM L h.ahead = (i : Int)) : h.bits = bitsM L E s lim0 i := by
 unfold chkE at h0
 rw [hi] at h0
 by_cases h1 : 0 ≤ findM L (plainB h v).hash
 ·rw [if_pos h1] at h0; cases h0
 ·rw [if_neg h1,if_neg (show ¬ ((i : Int) < 0) by omega),Int.toNat_natCast] at h0
  unfold mayE at h0
  by_cases h2 : bitsM L E s lim0 i = (plainB h v).bits ∧ btP (plainB h v).bits ∧ btT (plainB h v).bits ≤ btT lim0
  ·exact h2.1.symm
  ·rw [if_pos h2] at h0; cases h0
theorem StM.app_keep {w W W' : World} {R : Array Value} {e span p bm p2 : Nat} {H : List Hd} {L : List Bk} {ps : List Nat} {v lv tv : Value} {LD : List Bk} {tl : List Hd} (S : StM w W R e span p bm p2 H L ps v lv LD tv tl) (f : Fr (fun k => lv.ownBlock = some k) W W') {lv2 : Value} {k : Nat} {A : Array Value} {t : TypeId} {f' : Nat × Nat} (h : W.heap[k]? = some (.cells A t f')) (h1 : t ≠ 38) (h2 : t ≠ 43) :
  (W'.setCell ⟨p2,0,none⟩ lv2).heap[k]? = some (.cells A t f') := by
 rw [heap_setCell_ne' _ _ _ _ _ (cells_apart h S.D1 h2)]
 refine f.keeps (fun e => ?_) h
 obtain ⟨cur,hc⟩ := S.D2.block e
 exact cells_apart hc h (fun e => h1 e.symm) rfl
theorem treeGrows_any (every : Int) (span : Nat) (he : -9223372036854775808 ≤ every ∧ every ≤ 9223372036854775807) (hs : span < 4294967296) (a : Option Addr) (n c : Nat) (w : World) (hst : Stp w a n c) (hcub : Cub w) :
  Calls Tryz.prog 3 #[.int .i64 every,.int .u32 (span : Int),.slice a n c] w fun ed w' => ed = .returned (.bool true) ∧ Fr F0 w w' := by
 have HC := Lib.hid hcub
 have HL := Lib.hid (fun W (f : Fr F0 w W) => lives12_any W (hcub.fr f fun f => f))
 obtain ⟨E,hE,E2,E7⟩ : ∃ E,E = 2 + (every % 18446744073709551616).toNat % 6 ∧ 2 ≤ E ∧ E ≤ 7 := ⟨_,rfl,by omega,by omega⟩
 obtain ⟨s,hsp,s1,s2⟩ : ∃ s,s = 1 + span % 1000 ∧ 1 ≤ s ∧ s ≤ 1000 := ⟨_,rfl,by omega,by omega⟩
 have HR := Lib.hid (fun W (f : Fr F0 w W) => show Calls Tryz.prog 6 #[.int .i64 every,.int .u32 (span : Int),.int .i64 1] W fun e w' => e = .returned (.agg (ruC E s 2)) ∧ Fr F0 W w' from by
  have := Rules12_any hMineC every 1 span he (by omega) hs W (hcub.fr f fun f => f)
  rw [← hE,← hsp] at this
  exact this)
 have HN := Lib.hid (fun W (f : Fr F0 w W) => kNew_any decC hCheckC hHashC workC E s 2 (by omega) (by omega) (by omega) (by omega) (by omega) (by omega) (.bool false) rfl W (hcub.fr f fun f => f))
 have HP := Lib.hid (fun W (f : Fr F0 w W) => plain12_any hHashC Fh Fh.ok W (hcub.fr f fun f => f))
 have HLD := Lib.hid (fun W g (h : W.heap[g]? = some (.cells (ruC E s 2) 30 (0,0))) => first_load E s 2 W g h)
 have hru := ruC_of E s 2 (by omega)
 have HRU := Lib.hid (show RI (ruC E s 2) E s lim0 from ⟨⟨_,hru⟩,E2,by omega,by omega,lim0_P⟩)
 have sR := hru.size
 have oR := hru.one
 have c0 := hru.c0
 have c1 := hru.c1
 have c2 := hru.c2
 have HST := Lib.hid hst
 have HES := Lib.hid (And.intro E2 (And.intro E7 (And.intro s1 s2)))
 generalize hRR : ruC E s 2 = R at *
 have z0 : 0 < R.size := by omega
 have z1 : 1 < R.size := by omega
 have z2 : 2 < R.size := by omega
 have d0 := cell_is c0 z0
 have d1 := cell_is c1 z1
 have d2 := cell_is c2 z2
 have sF : Fh.cells.size = 68 := rfl
 obtain ⟨FC,hFC⟩ : ∃ FC,Fh.cells = FC := ⟨_,rfl⟩
 rw [hFC] at HP HLD sF
 have oF : rowOne FC := by rw [← hFC]; exact Hd.one
 have HFC := Lib.hid hFC
 clear hcub hst hE hsp he hs hru hRR hFC
 have F := Fr.refl F0 w
 go_enter Tryz.func3,Tryz.ntmps3
 go_wp2_with fail
 (with_reducible refine (HL.out _ F).mono ?_); rintro e1 w1 ⟨rfl,f⟩
 replace F := F.trans' f
 clear f
 by_cases h30 : 30 < n
 ·have h31 : (30 : Int) < (n : Int) := by omega
  go_wp2_with fail
  (with_reducible refine (HL.out _ F).mono ?_); rintro e1 w2 ⟨rfl,f⟩
  replace F := F.trans' f
  clear f
  go_wp2_with fail
  go_ret
  exact ⟨rfl,F⟩
 have h31 : decide ((30 : Int) < (n : Int)) = false := decide_eq_false (by omega)
 go_wp2_with fail
 (with_reducible refine (HR.out _ F).mono ?_); rintro e1 w2 ⟨rfl,f⟩
 replace F := F.trans' f
 clear f
 go_upto_region 4 with fail
 refine wp_put fun W3 N => ?_
 have r7 := N.new
 replace F := F.trans' N.fr
 clear N
 generalize w2.heap.size = g7 at *
 go_wp2_with fail
 (with_reducible refine (HN.out _ F).mono ?_); rintro e1 w4 ⟨⟨p,bm,q,sl,rfl,T,lo⟩,f⟩
 have hW3 := F.size
 replace r7 := keep_fr f r7
 replace F := F.trans' f
 clear f
 have ld7 := HLD.out _ _ r7
 go_wp2_with fail
 (with_reducible refine (HP.out _ F).mono ?_); rintro e1 w5 ⟨a5,c5,rfl,_,f⟩
 replace r7 := keep_fr f r7
 replace F := F.trans' f
 replace T := T.fr f
 clear f ld7
 have o5 : (plainB Fh (.slice a5 Fh.bytes.length c5)).Ok := plain_ok Fh.ok
 have sB := Bk.arr_size o5
 have oB := Bk.arr_one o5
 have hset := plain_first (.slice a5 Fh.bytes.length c5)
 obtain ⟨vb,hvb⟩ : ∃ vb,Value.slice a5 Fh.bytes.length c5 = vb := ⟨_,rfl⟩
 have ovb : vb.oneCell' = true := by rw [← hvb]; rfl
 rw [hvb] at sB oB hset ⊢
 replace T := T.swap (bare_b0 _ vb)
 clear o5 hvb
 have HG5 := Lib.hid F.size
 go_upto_region 6 with fail
 refine wp_put fun W6 N => ?_
 have r10 := N.new
 replace r7 := N.old r7
 have hne := cells_apart r7 r10 (by decide)
 replace T := T.fr N.fr
 replace F := F.trans' N.fr
 clear N
 generalize w5.heap.size = g10 at *
 go_upto_region 7 with fail
 obtain ⟨W7,hW7⟩ : ∃ W,W = W6.setCell ⟨g10,32,none⟩ (.int .i64 (-1)) := ⟨_,rfl⟩
 refine wp_of_world W7 hW7 ?_
 have ta := T.apart (by simp) r10 (by decide) (by decide) (by decide)
 have fs : Fr (fun k => k = g10) W6 W7 := by rw [hW7]; exact Fr.setCell (S := fun k => k = g10) (Fr.refl _ _) (p := ⟨g10,32,none⟩) (fun _ => rfl) _
 replace T := T.keepS (by simp) fs fun k hk e => ta (by rw [← e]; exact hk)
 replace F := StM.trans_low F fs fun k hk => by have := HG5.out; omega
 replace r7 := fs.keeps hne r7
 replace r10 : W7.heap[g10]? = some (.cells (b0 vb).arr 38 (0,0)) := by rw [hW7,heap_setCell_at,r10,withCell_cells,hset]
 clear hW7 ta fs sB oB hset hne
 have o0 : (b0 vb).Ok := (wf_b0 ovb).ok _ (by simp)
 have sB := Bk.arr_size o0
 have oB := Bk.arr_one o0
 have hbl := fun W => run_buildLR W (b0 vb).arr sB
 have hbt := fun W a n c => run_buildTr W a n c (E : Int) (s : Int) 545259519
 obtain ⟨BB,hBB⟩ : ∃ BB,(b0 vb).arr = BB := ⟨_,rfl⟩
 rw [hBB] at r10 sB oB hbl
 have HBB := Lib.hid (And.intro hBB o0)
 clear hBB o0
 have r7a := keep_alloc (o := .cells BB 38) r7
 go_upto_region 8 with fail
 obtain ⟨W8,hW8⟩ : ∃ W,W = (W7.alloc (.cells BB 38)).alloc (.cells #[.slice (some ⟨W7.heap.size,0,none⟩) 1 1,.int .i64 (E : Int),.int .u32 (s : Int),.int .u32 545259519] 43) := ⟨_,rfl⟩
 refine wp_of_world W8 hW8 ?_
 have f8 : Fr F0 W7 W8 := by rw [hW8]; exact ((Fr.refl F0 W7).alloc _).alloc _
 have rgs : W8.heap[W7.heap.size]? = some (.cells BB 38 (0,0)) := by rw [hW8]; exact keep_alloc (heap_alloc_new _ _)
 have rp2 : W8.heap[W7.heap.size + 1]? = some (.cells #[.slice (some ⟨W7.heap.size,0,none⟩) 1 1,.int .i64 (E : Int),.int .u32 (s : Int),.int .u32 545259519] 43 (0,0)) := by
  rw [hW8]
  have := heap_alloc_new (W7.alloc (.cells BB 38)) (.cells #[.slice (some ⟨W7.heap.size,0,none⟩) 1 1,.int .i64 (E : Int),.int .u32 (s : Int),.int .u32 545259519] 43)
  rw [World.size_alloc] at this
  exact this
 replace T := T.fr f8
 have hF7 := F.size
 replace F := F.trans' f8
 replace r7 := keep_fr f8 r7
 clear hW8 f8 r7a
 obtain ⟨gs,hgs⟩ : ∃ g,W7.heap.size = g := ⟨_,rfl⟩
 rw [hgs] at rgs rp2 hF7 ⊢
 obtain ⟨p2,hp2⟩ : ∃ g,gs + 1 = g := ⟨_,rfl⟩
 rw [hp2] at rp2 ⊢
 have hp2l : w.heap.size ≤ p2 := by omega
 clear hgs hp2
 have ld7 := HLD.out _ _ r7
 have hbh := fun W => run_buildLHd W FC sF
 go_upto_region 11 with fail
 obtain ⟨W9,hW9⟩ : ∃ W,W = W8.alloc (.cells FC 28) := ⟨_,rfl⟩
 refine wp_of_world W9 hW9 ?_
 have f9 : Fr F0 W8 W9 := by rw [hW9]; exact (Fr.refl F0 W8).alloc _
 have rgt : W9.heap[W8.heap.size]? = some (.cells FC 28 (0,0)) := by rw [hW9]; exact heap_alloc_new _ _
 have hF8 := F.size
 obtain ⟨gt,hgt⟩ : ∃ g,W8.heap.size = g := ⟨_,rfl⟩
 rw [hgt] at rgt hF8 ⊢
 have I0 : TI [Fh] [b0 vb] [q] := TI_first ovb q
 have S0 : StM w W9 R E s p bm p2 [Fh] [b0 vb] [q] (.slice (some ⟨sl,0,none⟩) 1 1) (.slice (some ⟨gs,0,none⟩) 1 1) [b0 vb] (.slice (some ⟨gt,0,none⟩) 1 1) [Fh] := by
  refine ⟨rfl,T.fr f9,keep_fr f9 rp2,(OwnR.new1 _ HBB.out.2 (by rw [HBB.out.1]; exact rgs)).fr f9,OwnHd.new1 _ Fh.ok (by rw [HFC.out]; exact rgt),F.trans' f9,fun k hk => ?_⟩
  have hw3 := hW3
  rcases hk with (rfl | rfl | hk | hk) | rfl | hk | hk
  ·omega
  ·omega
  ·rw [List.mem_singleton] at hk; omega
  ·cases hk; exact Nat.le_trans hw3 lo.2.2.2
  ·exact hp2l
  ·cases hk; exact hF7
  ·cases hk; exact hF8
 clear hW9 f9 rgt hF8 hgt T F rgs rp2 hF7 hp2l lo hW3 r7 r10 ld7 hbh hbl hbt HG5 HP HN HR HLD HL
 go_upto_region 12 with fail
 go_loopw [12,58] (fun tv iv wr => ∃ (k : Nat) (H : List Hd) (L : List Bk) (ps : List Nat) (v lv : Value) (tl : List Hd),iv = .int .i64 (k : Int) ∧ k ≤ n ∧ L.length ≤ 1 + k ∧ tl.length ≤ 1 + k ∧ 0 < tl.length ∧ TI H L ps ∧ GB L ∧ StM w wr R E s p bm p2 H L ps v lv L tv tl) (fun _ iv _ => n - (intOf iv).toNat)
 case atStart => exact ⟨0,[Fh],[b0 vb],[q],_,_,[Fh],rfl,by omega,by simp,by simp,by simp,I0,GB_b0 vb,S0⟩
 case round =>
  clear S0 I0
  obtain ⟨k,H,L,ps,v,lv,tl,rfl,hk,hLk,htk,ht0,I,g,S⟩ := hrel
  by_cases h1 : k < n
  ·have l1 : (k : Int) < (n : Int) := by omega
   obtain ⟨bs,offs,kind,ah,late,rt,ea,hld⟩ := HST.out.at_ k h1
   subst ea
   have lds := hld wr S.F
   obtain ⟨x,hx⟩ : ∃ x,(ah % 18446744073709551616).toNat = x := ⟨_,rfl⟩
   have wx : IntKind.u64.wrap ah = (x : Int) := by rw [IntKind.wrap_u64]; omega
   obtain ⟨j,hj⟩ : ∃ j,x % tl.length = j := ⟨_,rfl⟩
   have hjm : j < tl.length := by rw [← hj]; exact Nat.mod_lt _ ht0
   obtain ⟨bt,ct,et,hct,ldj⟩ := S.Q.load hjm
   have oj := S.Q.ok _ (hdT_mem hjm)
   subst et
   obtain ⟨bt2,ct2,et2,_,ldl⟩ := S.Q.load (show tl.length - 1 < tl.length by omega)
   cases et2
   have ol := S.Q.ok _ (hdT_mem (show tl.length - 1 < tl.length by omega))
   have HC2 := Lib.hid (Cts.of HRU.out I g (by omega) S HC.out)
   have HK := Lib.hid (And.intro h1 (And.intro hLk (And.intro htk ht0)))
   have HS := Lib.hid (And.intro I (And.intro g S))
   have hjt : (x : Int).tmod (tl.length : Int) = (j : Int) := by rw [← hj]; exact (Int.ofNat_tmod x tl.length).symm
   obtain ⟨m,hm⟩ : ∃ m,tl.length = m := ⟨_,rfl⟩
   have HM := Lib.hid hm
   rw [hm] at hjm hjt htk ht0 ldl ol ⊢
   have mw : IntKind.u64.wrap (m : Int) = (m : Int) := by rw [IntKind.wrap_u64]; omega
   have jw : IntKind.i64.wrap (j : Int) = (j : Int) := IntWalk.i64_in _ (by omega)
   have jm : (j : Int) < (m : Int) := by omega
   have m0 : ¬ (m : Int) = 0 := by omega
   have m1 : ¬ m = 0 := by omega
   have HLJ := Lib.hid ldj
   have HLL := Lib.hid ldl
   have HOJ := Lib.hid (And.intro oj ol)
   have oS : rowOne #[Value.int .i64 kind,.int .i64 ah,.int .i32 late,B8 rt] := by unfold rowOne; kernel_rfl
   have k1 : IntKind.i64.wrap ((k : Int) + 1) = ((k + 1 : Nat) : Int) := by rw [IntWalk.i64_in _ (by omega)]; rfl
   clear hx hj ldj ldl oj ol hm I g S h1 hLk htk ht0 hld
   generalize hb8 : B8 rt = b8 at *
   have HB8 := Lib.hid hb8
   clear hb8
   go_upto_region 14 with fail
   refine wp_put fun W3 N => ?_
   have r14 := N.new
   have F3 := N.fr
   clear N lds
   obtain ⟨g14,hg14⟩ : ∃ g,wr.heap.size = g := ⟨_,rfl⟩
   rw [hg14] at r14 ⊢
   have HG14 := Lib.hid (show wr.heap.size ≤ g14 by omega)
   clear hg14
   refine kg14 W3 (hdT tl j).cells (fun n => (mkH tl (bitA L E s lim0) kind late rt j n).cells) kind ah late b8 p g14 bt ct m x j (Lib.hid fun W f => HLJ.out W (F3.trans' f)) (Lib.hid fun W f => by
    have := HC2.out.made W (F3.trans' f) (hdT tl j) HOJ.out.1 kind ah late rt
    rw [HB8.out] at this
    exact this) (Lib.hid fun n hn => ⟨Hd.cells_size (mkH_ok (bitA_lt HS.out.1.wf _) hn HOJ.out.1),Hd.one⟩) oS wx mw hjt jw jm hjm m0 m1 r14 (Lib.hid ?_)
   rename_i w4
   rintro ⟨⟨g15,nn,rfl,hnn,z15,r15⟩,r14',f⟩
   have oh : (mkH tl (bitA L E s lim0) kind late rt j nn).Ok := mkH_ok (bitA_lt HS.out.1.wf _) hnn HOJ.out.1
   replace r15 : w4.heap[g15]? = some (.cells (mkH tl (bitA L E s lim0) kind late rt j nn).cells 28 (0,0)) := r15
   obtain ⟨h,hh⟩ : ∃ h,mkH tl (bitA L E s lim0) kind late rt j nn = h := ⟨_,rfl⟩
   rw [hh] at r15 oh
   replace r14 := r14'
   have F := F3.trans' f
   have HG15 := Lib.hid (show wr.heap.size ≤ g15 from Nat.le_trans F3.size z15)
   clear z15 r14' f F3 hh wx mw hjt jw jm hjm oS
   have sh := Hd.cells_size oh
   have one : rowOne h.cells := Hd.one
   by_cases hk4 : kind = 4
   case' pos =>
    subst hk4
    have mm : IntKind.i64.wrap ((m : Int) - 1) = ((m - 1 : Nat) : Int) := by rw [IntWalk.i64_in _ (by have := HK.out.2.2.1; have := HM.out; omega)]; omega
    have ml : ((m - 1 : Nat) : Int) < (m : Int) := by omega
    have lt := HLL.out _ F
    have sl2 := Hd.cells_size HOJ.out.2
    have ol2 : rowOne (hdT tl (m - 1)).cells := Hd.one
    go_upto_region 17 with fail
    obtain ⟨W5,hW5⟩ : ∃ W,W = w4.setRow g15 (hdT tl (m - 1)).cells := ⟨_,rfl⟩
    refine wp_of_world W5 hW5 ?_
    have hne := cells_apart r14 r15 (by decide)
    replace r14 : W5.heap[g14]? = some (.cells #[.int .i64 4,.int .i64 ah,.int .i32 late,b8] 46 (0,0)) := by rw [hW5]; exact keep_row hne r14
    replace r15 : W5.heap[g15]? = some (.cells (hdT tl (m - 1)).cells 28 (0,0)) := by rw [hW5]; exact new_row r15
    replace F : Fr F0 wr W5 := by rw [hW5]; exact F.setRow (fun h => by have := HG15.out; omega) _
    replace oh := HOJ.out.2
    clear hW5 hne lt sh one
    obtain ⟨h,hh⟩ : ∃ h,hdT tl (m - 1) = h := ⟨_,rfl⟩
    rw [hh] at r15 oh sl2 ol2
    have sh := sl2
    have one := ol2
    have hkpos := Lib.hid (rfl : (4 : Int) = 4)
    clear hh sl2 ol2 mm ml
   case' neg =>
    go_upto_region 17 with fail
    obtain ⟨W5,hW5⟩ : ∃ W,W = w4 := ⟨_,rfl⟩
    refine wp_of_world W5 hW5 ?_
    subst hW5
   all_goals
    obtain ⟨XB,hXB⟩ : ∃ X,hc (bkT L (bestM L)).hash = X := ⟨_,rfl⟩
    obtain ⟨wb,hwb⟩ : ∃ x,workM L (bestM L) = x := ⟨_,rfl⟩
    have HB1 := HC2.out.best
    have HW1 := HC2.out.work
    rw [hXB] at HB1 HW1
    rw [hwb] at HW1
    replace HB1 := Lib.hid HB1
    replace HW1 := Lib.hid HW1
    have HXB := Lib.hid (And.intro hXB hwb)
    clear hXB hwb
    go_wp2_with fail
    (with_reducible refine (HB1.out _ F).mono ?_); rintro e1 w6 ⟨rfl,f⟩
    replace r14 := keep_fr f r14
    replace r15 := keep_fr f r15
    replace F := F.trans' f
    clear f
    go_wp2_with fail
    (with_reducible refine (HW1.out _ F).mono ?_); rintro e1 w7 ⟨rfl,f⟩
    replace r14 := keep_fr f r14
    replace r15 := keep_fr f r15
    replace F := F.trans' f
    clear f
    have szw := rowN_size .u64 64 4 wb
    have ozw := rowN_rowOne .u64 64 4 wb
    go_upto_region 18 with fail
    refine wp_put fun W8 N => ?_
    have r16 := N.new
    replace r14 := N.old r14
    replace r15 := N.old r15
    replace F := F.trans' N.fr
    clear N
    generalize w7.heap.size = g16 at *
    obtain ⟨I,g,S⟩ := HS.out
    have HA := Lib.hid (kAdd_any HRU.out I (g.tb I.wf (by have := HK.out.2.1; omega) (by have := HES.out; omega)) (S.fr F).T h oh (.bool false) (.bool false) rfl (HC.out.fr (S.F.trans' F) fun f => f))
    have HCE := Lib.hid (fun (W0 : World) (D : TR W0 p2 L (E : Int) s lim0) a c (hb : Bs W0 a c h.bytes) => check_at HRU.out (by have := HES.out; omega) I g D oh hb)
    have HV := Lib.hid (fun (hE : chkE L E s lim0 (plainB h (.bool false)) h.ahead (mtH h) = 0) => And.intro (show chkV L E s lim0 (plainB h (.bool false)) h.ahead (mtH h) = findM L h.ahead from by unfold chkV; rw [if_pos hE]) (show ∀ i : Nat,findM L h.ahead = (i : Int) → h.bits = bitsM L E s lim0 i from fun i hi => chk_bits hE hi))
    have HS8 := Lib.hid (S.fr F)
    clear I g S
    obtain ⟨EE,hEE⟩ : ∃ z,chkE L E s lim0 (plainB h (.bool false)) h.ahead (mtH h) = z := ⟨_,rfl⟩
    obtain ⟨VV,hVV⟩ : ∃ z,chkV L E s lim0 (plainB h (.bool false)) h.ahead (mtH h) = z := ⟨_,rfl⟩
    rw [hEE] at HA HCE HV
    rw [hVV] at HCE HV
    clear hEE hVV
    go_wp2_with fail
    (with_reducible refine HA.out.mono ?_); rintro e1 w9 ⟨rfl,hne,hz⟩
    obtain ⟨hor,D9,Fw,hsz,hkeep⟩ := grown HS8.out hne hz
    replace r14 := hkeep _ _ _ _ r14 (by decide) (by decide) (by decide)
    replace r15 := hkeep _ _ _ _ r15 (by decide) (by decide) (by decide)
    replace r16 := hkeep _ _ _ _ r16 (by decide) (by decide) (by decide)
    have HOR := Lib.hid hor
    have HG := Lib.hid (show wr.heap.size ≤ w9.heap.size from Nat.le_trans F.size hsz)
    clear hne hz hor hkeep hsz F HA
    have HP := Lib.hid (plain12_any hHashC h oh w9 (HC.out.fr Fw fun f => f))
    have HD9 := Lib.hid (And.intro D9 Fw)
    clear D9 Fw
    go_wp2_with fail
    (with_reducible refine HP.out.mono ?_); rintro e1 w10 ⟨a10,c10,rfl,hbs,f⟩
    replace r14 := keep_fr f r14
    replace r15 := keep_fr f r15
    replace r16 := keep_fr f r16
    have HCK := Lib.hid (HCE.out w10 (HD9.out.1.fr f) a10 c10 hbs)
    have o10 : (plainB h (.slice a10 h.bytes.length c10)).Ok := plain_ok oh
    have HNW := Lib.hid (fun i : Nat => And.intro (plain_new h (.slice a10 h.bytes.length c10) i) (show (nbB h (.slice a10 h.bytes.length c10) i).Ok from ⟨o10.hash,o10.time,o10.bits,o10.bytes⟩))
    obtain ⟨vb10,hvb⟩ : ∃ v,Value.slice a10 h.bytes.length c10 = v := ⟨_,rfl⟩
    have ov10 : vb10.oneCell' = true := by rw [← hvb]; rfl
    rw [hvb] at HCK o10 HNW ⊢
    have sB := Bk.arr_size o10
    have oB := Bk.arr_one o10
    obtain ⟨B10,hB10⟩ : ∃ B,(plainB h vb10).arr = B := ⟨_,rfl⟩
    rw [hB10] at HCK HNW sB oB ⊢
    have HG18 := Lib.hid f.size
    clear hvb hB10 o10 hbs HP HCE
    go_upto_region 20 with fail
    refine wp_put fun W11 N => ?_
    have r18 := N.new
    replace r14 := N.old r14
    replace r15 := N.old r15
    replace r16 := N.old r16
    have F10 := N.fr
    replace f := f.trans' N.fr
    clear N
    generalize w10.heap.size = g18 at *
    have ldh := find_hd oh _ g15 r15
    have sha := hc_size oh.ahead
    have oha := hc_one h.ahead
    generalize hc h.ahead = XA at *
    go_wp2_with fail
    (with_reducible refine (HCK.out _ F10).mono ?_); rintro e1 w12 ⟨rfl,f2⟩
    replace r14 := keep_fr f2 r14
    replace r15 := keep_fr f2 r15
    replace r16 := keep_fr f2 r16
    replace r18 := keep_fr f2 r18
    replace f := f.trans' f2
    clear F10 f2 ldh
    by_cases hE : EE = 0
    case' pos =>
     subst hE
     obtain ⟨_,i,q2,v2,hfi,nb,S9⟩ := HOR.out.resolve_left fun h => h.1 rfl
     obtain ⟨hv1,hv2⟩ := HV.out rfl
     have hbi := hv2 i hfi
     obtain rfl : VV = (i : Int) := hv1.trans hfi
     have HNB := Lib.hid (And.intro nb (And.intro S9 hbi))
     clear nb S9 hbi hfi hv1 hv2
     go_upto_region 25 with fail
     obtain ⟨W13,hW13⟩ : ∃ W,W = w12.setCell ⟨g18,32,none⟩ (.int .i64 (i : Int)) := ⟨_,rfl⟩
     refine wp_of_world W13 hW13 ?_
     have fs : Fr (fun k => k = g18) w12 W13 := by rw [hW13]; exact Fr.setCell (S := fun k => k = g18) (Fr.refl _ _) (p := ⟨g18,32,none⟩) (fun _ => rfl) _
     replace f := StM.trans_low f fs fun k hk => by rw [hk]; exact HG18.out
     have n1 := cells_apart r14 r18 (by decide)
     have n2 := cells_apart r15 r18 (by decide)
     have n3 := cells_apart r16 r18 (by decide)
     replace r14 := fs.keeps n1 r14
     replace r15 := fs.keeps n2 r15
     replace r16 := fs.keeps n3 r16
     replace r18 : W13.heap[g18]? = some (.cells (nbB h vb10 i).arr 38 (0,0)) := by rw [hW13,heap_setCell_at,r18,withCell_cells,(HNW.out i).1]
     clear hW13 n1 n2 n3 fs
     have S13 := (HNB.out.2.1.fr f).swap (bare_snoc L h (.bool false) vb10 i)
     refine kg25 W13 lv L (nbB h vb10 i) p2 g18 _ _ _ (HNW.out i).2 (by have := HK.out.2.1; omega) S13.D1 S13.D2 r18 (Lib.hid ?_)
     rename_i w14
     rintro ⟨W1,lv2,rfl,o2,f2,hv2⟩
     replace r14 := S13.app_keep f2 (lv2 := lv2) r14 (by decide) (by decide)
     replace r15 := S13.app_keep f2 (lv2 := lv2) r15 (by decide) (by decide)
     replace r16 := S13.app_keep f2 (lv2 := lv2) r16 (by decide) (by decide)
     have S14 := S13.app f2 o2 hv2
     have nb := HNB.out.1.swap ov10
     go_upto_region 26 with fail
     obtain ⟨W14,hW14⟩ : ∃ W,W1.setCell ⟨p2,0,none⟩ lv2 = W := ⟨_,rfl⟩
     rw [hW14] at r14 r15 r16 S14 ⊢
     obtain ⟨H',L',ps',v',lv',HS2⟩ : ∃ H' L' ps' v' lv',Hid (TI H' L' ps' ∧ GB L' ∧ StM w W14 R E s p bm p2 H' L' ps' v' lv' L' (.slice (some ⟨bt,0,none⟩) tl.length ct) tl ∧ L'.length ≤ L.length + 1 ∧ wb ≤ workM L' (bestM L')) :=
      ⟨_,_,_,_,_,Lib.hid ⟨HS.out.1.snoc nb,HS.out.2.1.snoc HS.out.1.wf (by have := HK.out.2.1; omega) (by have := HES.out; omega) nb.ob nb.hi nb.up HNB.out.2.2,S14,by simp,by
       rw [← HXB.out.2]
       exact best_more HS.out.1.wf HS.out.1.pos nb.ob nb.hi nb.up⟩⟩
     clear S13 S14 o2 f2 hv2 nb HNB hW14 r18 f
    case' neg =>
     go_upto_region 26 with fail
     obtain ⟨W14,hW14⟩ : ∃ W,w12 = W := ⟨_,rfl⟩
     rw [hW14] at r14 r15 r16 f ⊢
     obtain ⟨H',L',ps',v',lv',HS2⟩ : ∃ H' L' ps' v' lv',Hid (TI H' L' ps' ∧ GB L' ∧ StM w W14 R E s p bm p2 H' L' ps' v' lv' L' (.slice (some ⟨bt,0,none⟩) tl.length ct) tl ∧ L'.length ≤ L.length + 1 ∧ wb ≤ workM L' (bestM L')) :=
      ⟨_,_,_,_,_,Lib.hid ⟨HS.out.1,HS.out.2.1,(HOR.out.resolve_right fun h => hE h.1).2.fr f,by omega,by
       rw [← HXB.out.2]
       exact Nat.le_refl _⟩⟩
     clear hW14 r18 f
    all_goals
     have HC3 := Lib.hid (Cts.of HRU.out HS2.out.1 HS2.out.2.1 (by have := HK.out.2.1; have := HS2.out.2.2.2.1; omega) HS2.out.2.2.1 HC.out)
     have hle := HS2.out.2.2.2.2
     have hb1 := Lib.hid HC3.out.best
     have hb2 := Lib.hid HC3.out.work
     have hb3 := Lib.hid fun W => wCmp_any (workM L' (bestM L')) wb (HS2.out.1.wk _ HS2.out.1.best) (by rw [← HXB.out.2]; exact HS.out.1.wk _ HS.out.1.best) W
     have hb4 : ¬ sgn (workM L' (bestM L')) wb < 0 := Int.not_lt.2 (sgn_ge12 hle)
     generalize sgn (workM L' (bestM L')) wb = sg at hb3 hb4
     generalize workM L' (bestM L') = wk' at hb2 hb3
     generalize hc (bkT L' (bestM L')).hash = XB' at hb1 hb2
     refine kg26 W14 XB' p g16 wb wk' sg hb1 hb2 hb3 hb4 r16 (Lib.hid ?_)
     rename_i w15
     rintro ⟨rfl,f⟩
     replace r14 := keep_fr f r14
     replace r15 := keep_fr f r15
     have S15 := HS2.out.2.2.1.fr f
     clear f r16
     first
     |have := hkpos
      have HS15 := Lib.hid S15
      clear S15
      go_wp2_with fail
      go_roundw
      case rel => exact ⟨k + 1,H',L',ps',v',lv',tl,by go_num,by have := HK.out.1; omega,by have := HK.out.2.1; have := HS2.out.2.2.2.1; omega,by have := HK.out.2.2.1; omega,HK.out.2.2.2,HS2.out.1,HS2.out.2.1,by rw [← HM.out]; exact HS15.out⟩
      case measure => have := HK.out; simp [intOf]; omega
     |obtain ⟨a2,c2,W16,hap,o2,f2,hv2⟩ := S15.Q.app h oh (by have := HK.out.2.2.1; omega) 44
      have S16 := S15.try f2 o2 fun k hk => by rw [ablk_own] at hk; exact hv2 k hk
      rw [HM.out] at hap
      have HS16 := Lib.hid S16
      have hbh := fun W => run_buildLHd W h.cells sh
      clear S15 S16 o2 f2 hv2
      go_wp2_with fail
      go_roundw
      case rel => exact ⟨k + 1,H',L',ps',v',lv',tl ++ [h],by go_num,by have := HK.out.1; omega,by have := HK.out.2.1; have := HS2.out.2.2.2.1; omega,by have := HK.out.2.2.1; simp; omega,by simp,HS2.out.1,HS2.out.2.1,by rw [← HM.out]; exact HS16.out⟩
      case measure => have := HK.out; simp [intOf]; omega
  ·have l1 : ¬ (k : Int) < (n : Int) := by omega
   have HI := Lib.hid (is12_any HRU.out I (g.tb I.wf (by omega) (by have := HES.out; omega)) S.T p2 S.tr (by decide) (by have := HES.out; omega) (HC.out.fr S.F fun f => f))
   have F := S.F
   clear S g I
   go_wp2_with fail
   (with_reducible refine HI.out.mono ?_); rintro e1 w2 ⟨rfl,f⟩
   replace F := F.trans' f
   clear f
   go_wp2_with fail
   go_ret
   exact ⟨rfl,F⟩
end Go.Proofs.YtfjcplfhkahamaaGreatDoor
namespace Go.Proofs.YtfjcplfhkahamaaGreatDoor
set_option linter.unusedVariables false
set_option linter.unusedSimpArgs false
open Go.RowKit Go.ChangeShapes Go.WideShapes Go.Deep
theorem split4 (cs : List Value) (h : cs.length = 4) : cs = (cs.drop 0).take 1 ++ ((cs.drop 1).take 1 ++ ((cs.drop 2).take 1 ++ (cs.drop 3).take 1)) := by
 match cs,h with
 |[a,b,c,d],_ => rfl
section
variable {H : Type} {enc : TypeId × Value → H} {w : World} {base : Nat} {spare : Nat → Bool} {held : Bool}
theorem cells_step {fuel : Nat} {cs : List Value} {y : DataW H × List MemPlace} (hf : DataW.trod enc Tryz.prog w base spare held fuel 46 cs = some y) : ∃ (kind ah late : Int) (rt : UInt8),cs = [.int .i64 kind,.int .i64 ah,.int .i32 late,B8 rt] := by
 obtain ⟨xs,n,_,_,hl,hlen,hc⟩ := DataW.trod_struct Tryz.underlying46 hf
 have h4 : Tryz.prog.cellsOf 46 = 4 := by kernel_rfl
 have h1 : Tryz.prog.cellsOf 3 = 1 := by kernel_rfl
 have h2 : Tryz.prog.cellsOf 21 = 1 := by kernel_rfl
 have h3 : Tryz.prog.cellsOf 5 = 1 := by kernel_rfl
 match xs,hlen with
 |[y0,y1,y2,y3],_ =>
  have k0 : DataW.trod enc Tryz.prog w base spare held n 3 ((cs.drop 0).take (Tryz.prog.cellsOf 3)) = some y0 := hc 0 _ rfl
  have k1 : DataW.trod enc Tryz.prog w base spare held n 3 ((cs.drop 1).take (Tryz.prog.cellsOf 3)) = some y1 := hc 1 _ rfl
  have k2 : DataW.trod enc Tryz.prog w base spare held n 21 ((cs.drop 2).take (Tryz.prog.cellsOf 21)) = some y2 := hc 2 _ rfl
  have k3 : DataW.trod enc Tryz.prog w base spare held n 5 ((cs.drop 3).take (Tryz.prog.cellsOf 5)) = some y3 := hc 3 _ rfl
  rw [h1] at k0 k1
  rw [h2] at k2
  rw [h3] at k3
  have hl' : cs.length = 4 := by rw [← h4,← hl]
  obtain ⟨x0,_,e0⟩ := cells_int k0
  obtain ⟨x1,_,e1⟩ := cells_int k1
  obtain ⟨x2,e2,_,_⟩ := DataW.trod_int Tryz.underlying21 k2
  obtain ⟨x3,e3,_,wf⟩ := DataW.trod_int Tryz.underlying5 k3
  have hb : 0 ≤ x3 ∧ x3 ≤ 255 := bounds_u8 wf
  refine ⟨x0,x1,x2,UInt8.ofNat x3.toNat,?_⟩
  have := split4 cs hl'
  rw [e0,e1,e2,e3] at this
  rw [this]
  have e : B8 (UInt8.ofNat x3.toNat) = .int .u8 x3 := by
   simp only [B8,UInt8.toNat_ofNat']
   congr 1
   omega
  rw [e]
  rfl
theorem open_steps {fuel : Nat} {a : Option Addr} {n c : Nat} {x : DataW H × List MemPlace} (h : DataW.trod enc Tryz.prog w base spare held fuel 23 [.slice a n c] = some x) : Stp w a n c := by
 rcases open_slice Tryz.underlying23 h with ⟨hcs,_⟩ | ⟨ad,len,cap,m,k,D,Pl,hcs,_,hl,hm,hmm,_,hi⟩
 ·simp only [List.cons.injEq,Value.slice.injEq,and_true] at hcs
  obtain ⟨rfl,rfl,rfl⟩ := hcs
  exact ⟨fun k hk => absurd hk (by omega)⟩
 ·simp only [List.cons.injEq,Value.slice.injEq,and_true] at hcs
  obtain ⟨rfl,rfl,rfl⟩ := hcs
  have hnm : n ≤ m := by rw [hmm]; split <;> omega
  have hC : Tryz.prog.cellsOf 46 = 4 := by kernel_rfl
  refine ⟨fun k hk => ?_⟩
  obtain ⟨cs,h1,h2⟩ := hi k (by omega)
  rw [hC] at h1
  obtain ⟨_,hlen,hat⟩ := World.cells?_some h1
  obtain ⟨kind,ah,late,rt,rfl⟩ := cells_step h2
  obtain ⟨cs0,g1,g2⟩ := hi 0 (by omega)
  rw [hC] at g1
  obtain ⟨_,glen,gat⟩ := World.cells?_some g1
  have hs0 := World.cell?_spot ((gat 0 (by omega)).trans (List.getElem?_eq_getElem (show 0 < cs0.length by omega)))
  obtain ⟨b,off,spot⟩ := ad
  simp [Addr.add] at hs0
  subst hs0
  refine ⟨b,off,kind,ah,late,rt,rfl,fun W f => ?_⟩
  exact run_loadAt_mid (P := Tryz.prog) W b (off + k * 4) 46 [.int .i64 kind,.int .i64 ah,.int .i32 late,B8 rt] _ (fun j u hj => by
   have hj' : j < 4 := by have := (List.getElem?_eq_some_iff.1 hj).1; simpa using this
   have := (hat j hj').trans hj
   rw [Addr.add_lit,Addr.add_lit] at this
   exact f.cell (fun e => e) this) Tryz.underlying46 rfl (by rw [Tryz.szStep12]; rfl)
theorem open_int12 {r : Reach} {b0 : Nat} {v : Value} {d : DataW H} {ps : List MemPlace} (hd : DataW.Trod enc Tryz.prog w base spare held 3 v d ps) (hv : Value.okWide Tryz.prog w r b0 3 v) :
  ∃ n : Int,(-9223372036854775808 ≤ n ∧ n ≤ 9223372036854775807) ∧ v = .int .i64 n := by
 obtain ⟨n,rfl⟩ := okWide_int Tryz.underlying3 hv
 obtain ⟨fuel,hf⟩ := hd
 obtain ⟨x,hx,e⟩ := cells_int (by simpa [Value.cells] using hf)
 simp at e
 subst e
 exact ⟨_,hx,rfl⟩
end
end Go.Proofs.YtfjcplfhkahamaaGreatDoor
