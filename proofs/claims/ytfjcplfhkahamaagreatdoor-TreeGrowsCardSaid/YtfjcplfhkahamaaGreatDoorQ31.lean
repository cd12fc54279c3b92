import Derived.Test.YtfjcplfhkahamaaGreatDoorQ18
import Derived.Test.YtfjcplfhkahamaaGreatDoorQ26
import Derived.Test.YtfjcplfhkahamaaGreatDoorQ7
import Derived.Test.YtfjcplfhkahamaaGreatDoorQ9
import Derived.Test.YtfjcplfhkahamaaGreatDoorQ1
import Derived.Deep.Cut
set_option maxRecDepth 100000
set_option maxHeartbeats 64000000
namespace Go.Proofs.YtfjcplfhkahamaaGreatDoor
set_option linter.unusedVariables false
set_option linter.unusedSimpArgs false
open Go.RowKit
def Fh0 : Hd := { ver := 1,ahead := zero7,root := zero7,time := 1000,bits := 545259519,nonce := 0 }
theorem Fh0.ok : Fh0.Ok := ⟨by decide,rfl,rfl,by decide,by decide,by decide⟩
def Fh : Hd := Fh0.with 1
theorem Fh.ok : Fh.Ok := ⟨by decide,rfl,rfl,by decide,by decide,by decide⟩
def hashF0 : List UInt8 := [61,203,117,189,137,197,20,104,21,221,192,209,215,49,76,183,70,25,253,247,43,253,106,115,55,132,161,91,255,182,29,187]
def hashF : List UInt8 := [64,212,44,169,105,242,46,26,213,113,80,86,103,22,131,220,56,26,102,175,166,60,188,192,220,97,234,162,38,110,30,39]
theorem Fh0.sum : sha2 (Fh0.with 0).bytes = hashF0 := by
 rw [sha2,sha_is,sha_is]
 decide +kernel
theorem Fh.sum : sha2 Fh.bytes = hashF := by
 rw [sha2,sha_is,sha_is]
 decide +kernel
theorem Fh0.meets : mtH (Fh0.with 0) = false := by
 rw [mtH,hsh,Fh0.sum]
 decide +kernel
theorem Fh.meets : mtH (Fh0.with 1) = true := by
 rw [mtH,hsh,show Fh0.with 1 = Fh from rfl,Fh.sum]
 decide +kernel
theorem Fh.mine : mineN Fh0 1000 0 = some 1 := by
 rw [show (1000 : Nat) = 999 + 1 from rfl,mineN,Fh0.meets,if_neg (by decide),if_neg (by decide),show (999 : Nat) = 998 + 1 from rfl,mineN,show (0 + 1 : Nat) = 1 from rfl,Fh.meets,if_pos rfl]
theorem Fh.mineH : mineH Fh0 1000 = Fh ∧ mineO Fh0 1000 = true := by
 unfold Go.Proofs.YtfjcplfhkahamaaGreatDoor.mineH mineO
 rw [show Fh0.nonce = 0 from rfl,Fh.mine]
 exact ⟨rfl,rfl⟩
def buildRuT (parts : Array (Nat × Value)) : Sem Value := Instr.build 30 parts
@[go_sem ↓ high] theorem build_rulesT (p : Array (Nat × Value)) : Instr.build 30 p = buildRuT p := rfl
theorem run_buildRuT (w : World) (parts : Array (Nat × Value)) (cells : Array Value) (h : Tryz.prog.built 30 parts.toList = some cells) : (buildRuT parts).run Tryz.prog w = .ok (.agg cells) w := run_build w _ parts cells h
def ruC (e s k : Nat) : Array Value := (Value.int .i64 (e : Int) :: .int .u32 (s : Int) :: .int .u32 545259519 :: .int .i64 (k : Int) :: Fh.cells.toList).toArray
theorem ruC_of (e s k : Nat) (hs : s < 4294967296) : RuOf (ruC e s k) e s 545259519 k := by
 refine ⟨rfl,rfl,rfl,rfl,rfl,?_,hs,by omega⟩
 unfold rowOne; kernel_rfl
theorem built_ruC (e s k : Nat) : Tryz.prog.built 30 [(0,.int .i64 (e : Int)),(1,.int .u32 (s : Int)),(2,.int .u32 545259519),(3,.int .i64 (k : Int)),(4,.agg Fh.cells)] = some (ruC e s k) := by
 kernel_rfl
theorem built_fh0 : Tryz.prog.built 28 [(0,.int .u32 1),(3,.int .u32 1000),(4,.int .u32 545259519)] = some Fh0.cells := by kernel_rfl
theorem Rules12_any (HM : HMineC) (every confirm : Int) (span : Nat) (he : -9223372036854775808 ≤ every ∧ every ≤ 9223372036854775807) (hk : -9223372036854775808 ≤ confirm ∧ confirm ≤ 9223372036854775807) (hs : span < 4294967296) (w : World) (hcub : Cub w) :
  Calls Tryz.prog 6 #[.int .i64 every,.int .u32 (span : Int),.int .i64 confirm] w fun e w' => e = .returned (.agg (ruC (2 + (every % 18446744073709551616).toNat % 6) (1 + span % 1000) (1 + (confirm % 18446744073709551616).toNat % 4))) ∧ Fr F0 w w' := by
 have HC := Lib.hid hcub
 have H1 := Lib.hid (HM Fh0 Fh0.ok 1000 (by omega))
 rw [Fh.mineH.1,Fh.mineH.2] at H1
 change Hid (∀ w,Cub w → Calls Tryz.prog 21 #[.agg Fh0.cells,.int .u32 1000] w fun e w' => e = .returned (.tuple #[.agg Fh.cells,.bool true]) ∧ Fr F0 w w') at H1
 have hb0 : ∀ w,(buildHd #[(0,.int .u32 1),(3,.int .u32 1000),(4,.int .u32 545259519)]).run Tryz.prog w = .ok (.agg Fh0.cells) w := fun w => run_buildHd w _ _ built_fh0
 obtain ⟨q1,hq1⟩ : ∃ q : Nat,q = (every % 18446744073709551616).toNat := ⟨_,rfl⟩
 obtain ⟨q2,hq2⟩ : ∃ q : Nat,q = (confirm % 18446744073709551616).toNat := ⟨_,rfl⟩
 have m1 : IntKind.u64.wrap every = (q1 : Int) := by rw [IntKind.wrap_u64]; omega
 have m2 : IntKind.u64.wrap confirm = (q2 : Int) := by rw [IntKind.wrap_u64]; omega
 rw [← hq1,← hq2]
 have hb1 : ∀ w,(buildRuT #[(0,.int .i64 (2 + (q1 : Int) % 6)),(1,.int .u32 (1 + (span : Int) % 1000)),(2,.int .u32 545259519),(3,.int .i64 (1 + (q2 : Int) % 4)),(4,.agg Fh.cells)]).run Tryz.prog w = .ok (.agg (ruC (2 + q1 % 6) (1 + span % 1000) (1 + q2 % 4))) w := fun w => by
  rw [show 2 + (q1 : Int) % 6 = ((2 + q1 % 6 : Nat) : Int) by omega,show 1 + (span : Int) % 1000 = ((1 + span % 1000 : Nat) : Int) by omega,show 1 + (q2 : Int) % 4 = ((1 + q2 % 4 : Nat) : Int) by omega]
  exact run_buildRuT w _ _ (built_ruC _ _ _)
 have s0 : Fh0.cells.size = 68 := rfl
 have s1 : Fh.cells.size = 68 := rfl
 have s2 : (ruC (2 + q1 % 6) (1 + span % 1000) (1 + q2 % 4)).size = 72 := rfl
 have o1 : rowOne Fh.cells := Hd.one
 have o2 := (ruC_of (2 + q1 % 6) (1 + span % 1000) (1 + q2 % 4) (by omega)).one
 generalize ruC (2 + q1 % 6) (1 + span % 1000) (1 + q2 % 4) = R at *
 generalize Fh.cells = C at *
 generalize Fh0.cells = C0 at *
 clear hcub HM hq1 hq2 he hk
 go_enter Tryz.func6,Tryz.ntmps6
 have zz : Tryz.zeroCells30.size = 72 := by kernel_rfl
 go_wp2_with fail
 generalize Tryz.zeroCells30 = Z at *
 refine calls_new fun W1 N1 => ?_
 have r0 := N1.new
 have F := N1.fr
 have hg0 : ∃ g0,g0 = w.heap.size := ⟨_,rfl⟩
 obtain ⟨g0,hg0⟩ := hg0
 rw [← hg0] at r0 ⊢
 replace hg0 := Lib.hid hg0
 clear N1
 (with_reducible refine (H1.out _ (HC.out.fr F fun f => f)).mono ?_); rintro e w2 ⟨rfl,f⟩
 replace r0 := keep_fr f r0
 replace F := F.trans' f
 clear f
 go_upto_region 2 with fail
 refine wp_put fun W2 N2 => ?_
 have r1 := N2.new
 have ne := N2.ne r0
 replace r0 := N2.old r0
 replace F := F.trans' N2.fr
 generalize w2.heap.size = g1 at *
 clear N2
 go_wp2_with fail
 refine bodyPost_ret (results_cell_row rfl _ _ g0 _ _ _ _ rfl (by rw [heap_setRow_at,r0]; rfl) Tryz.underlying30 rfl (by rw [Tryz.szRules,s2])) rfl ⟨rfl,?_⟩
 exact F.setRow (fun h => by have := hg0.out; omega) _
theorem mk1 {s0 s1 s2 s3 s7 s8 s9 s10 s11 s12 s13 s14 s15 s16 s17 s18 s19 s20 s21 s22 s23 s24 s25 s26 s27 s28 s29 s30 s31 s32 s33 s34 s35 s36 s37 s38 s39 s40 s41 s42 s43 s44 s45 s46 s47 s48 s49 s50 s51 s52 s53 s54 s55 s56 s57 s58 s59 s60 s61 s62 s63 s64 s65 s66 s67 s68 s69 s70 : Value} {K : Act → World → Prop} {Q : Exit → Act → World → Prop} (w w6 : World) (C HL R32 H0 Z : Array Value) (late : Int) (kind ah : Int) (rt T q T2 g4 g5 g6 : Nat) (H1 : RowKit.Hid (∀ w : World,Cub w → Calls Tryz.prog 19 #[.agg C] w fun e w' => e = .returned (.agg HL) ∧ Fr F0 w w')) (HC : RowKit.Hid (Cub w)) (hq : IntKind.u32.wrap (late.tmod 2000) = (q : Int)) (hT : IntKind.u32.wrap ((T : Int) + (q : Int)) = (T2 : Int)) (zC : C.size = 68) (c65 : C[65]? = some (.int .u32 (T : Int))) (l65 : 65 < C.size) (d65 : C[65] = .int .u32 (T : Int)) (zH : H0.size = 68) (o0 : rowOne H0) (hz : Tryz.zeroCells28.size = 68) (hbh : ∀ w,(buildZ 26 #[(0,.int .u8 (rt : Int))]).run Tryz.prog w = .ok (.agg R32) w) (hbd : ∀ w,(buildHd #[(0,.int .u32 2),(1,.agg HL),(3,.int .u32 (T2 : Int)),(2,.agg R32)]).run Tryz.prog w = .ok (.agg H0) w) (r4 : w6.heap[g4]? = some (.cells C 28 (0,0))) (r5 : w6.heap[g5]? = some (.cells #[.int .i64 kind,.int .i64 ah,.int .i32 late,.int .u8 (rt : Int)] 46 (0,0))) (r6 : w6.heap[g6]? = some (.cells Z 28 (0,0))) (F : Fr F0 w w6)
  (hK : RowKit.Hid (∀ {u7 u10 u11 u12 u13 u14 u15 u16 u17 u18 u19 u20 u21 u22 : Value} {w' : World},((∃ p1 : Nat,u7 = .pointer (some ⟨p1,0,none⟩) ∧ w'.heap[p1]? = some (.cells H0 28 (0,0)) ∧ w.heap.size ≤ p1 ∧ p1 ≠ g4 ∧ p1 ≠ g5 ∧ p1 ≠ g6) ∧ (w'.heap[g4]? = some (.cells C 28 (0,0)) ∧ w'.heap[g5]? = some (.cells #[.int .i64 kind,.int .i64 ah,.int .i32 late,.int .u8 (rt : Int)] 46 (0,0)) ∧ w'.heap[g6]? = some (.cells Z 28 (0,0))) ∧ Fr F0 w w') → K ⟨#[s0,s1,s2,s3,.pointer (some ⟨g4,0,none⟩),.pointer (some ⟨g5,0,none⟩),.pointer (some ⟨g6,0,none⟩),u7,s8,s9,u10,u11,u12,u13,u14,u15,u16,u17,u18,u19,u20,u21,u22,s23,s24,s25,s26,s27,s28,s29,s30,s31,s32,s33,s34,s35,s36,s37,s38,s39,s40,s41,s42,s43,s44,s45,s46,s47,s48,s49,s50,s51,s52,s53,s54,s55,s56,s57,s58,s59,s60,s61,s62,s63,s64,s65,s66,s67,s68,s69,s70],[]⟩ w')) :
  Code.wp Tryz.prog ((Tryz.f9.body.bind (findRegion 1)).getD .skip) (Exit.then K Q) ⟨#[s0,s1,s2,s3,.pointer (some ⟨g4,0,none⟩),.pointer (some ⟨g5,0,none⟩),.pointer (some ⟨g6,0,none⟩),s7,s8,s9,s10,s11,s12,s13,s14,s15,s16,s17,s18,s19,s20,s21,s22,s23,s24,s25,s26,s27,s28,s29,s30,s31,s32,s33,s34,s35,s36,s37,s38,s39,s40,s41,s42,s43,s44,s45,s46,s47,s48,s49,s50,s51,s52,s53,s54,s55,s56,s57,s58,s59,s60,s61,s62,s63,s64,s65,s66,s67,s68,s69,s70],[]⟩ w6 := by
 conv => arg 2; whnf
 have HG0 := Lib.hid (And.intro (Array.getElem?_eq_some_iff.1 r4).1 (And.intro (Array.getElem?_eq_some_iff.1 r5).1 (And.intro (Array.getElem?_eq_some_iff.1 r6).1 F.size)))
 refine rbegin (S := (fun w' => (w'.heap[g4]? = some (.cells C 28 (0,0)) ∧ w'.heap[g5]? = some (.cells #[.int .i64 kind,.int .i64 ah,.int .i32 late,.int .u8 (rt : Int)] 46 (0,0)) ∧ w'.heap[g6]? = some (.cells Z 28 (0,0))) ∧ Fr F0 w w')) ?_ fun hHeld => ?_
 ·((try dsimp only) <;> (exact ⟨⟨r4,r5,r6⟩,F.drew⟩))
 refine rtake 0 ?_
 refine rtake 2 ?_
 refine rtake 3 ?_
 refine rtake 4 ?_
 refine rtake 5 ?_
 refine rtake 6 ?_
 refine rtake 7 ?_
 refine rtake 8 ?_
 refine rtake 9 ?_
 refine rtake 10 ?_
 refine rtake 11 ?_
 refine wpAnyH_ready (rs := [1,13]) (by kernel_rfl) (by simp) ?_
 refine AllReadyH.cons (o := ⟨_,_,_,_,_,_⟩) rfl (fun K hK => ?_) (AllReadyH.cons (o := ⟨_,_,_,_,_,_⟩) rfl (fun K hK => ?_) AllReadyH.nil)
 go_simp
 ((with_reducible refine (H1.out _ (HC.out.fr hHeld.2 fun f => f)).mono ?_); rintro e w5 ⟨rfl,f5⟩; have z5 := f5.size; (try simp only [World.size_alloc,heap_drew'] at z5))
 refine hK.out _ _ ?_ (fun hHeld => ?_)
 ·((try dsimp only) <;> (first | exact hHeld | exact ⟨⟨keep_fr f5 hHeld.1.1,keep_fr f5 hHeld.1.2.1,keep_fr f5 hHeld.1.2.2⟩,hHeld.2.trans' f5⟩))
 clear hK K
 try (simp only [Act.put,aST]; dsimp only [aS0,aS1])
 refine rtake 12 ?_
 refine rone 13 fun K hK => ?_
 go_simp
 refine hK.out _ _ ?_ (fun hHeld => ?_)
 ·((try dsimp only) <;> (first | exact hHeld | exact ⟨⟨keep_alloc hHeld.1.1,keep_alloc hHeld.1.2.1,keep_alloc hHeld.1.2.2⟩,hHeld.2.alloc _⟩ | exact ⟨⟨keep_row (by have := HG0.out; omega) hHeld.1.1,keep_row (by have := HG0.out; omega) hHeld.1.2.1,keep_row (by have := HG0.out; omega) hHeld.1.2.2⟩,hHeld.2.setRow (fun h => by have := HG0.out; omega) _⟩))
 clear hK K
 try (simp only [Act.put,aST]; dsimp only [aS0,aS1])
 refine rone 14 fun K hK => ?_
 go_simp
 (try (rw [rowIn_of (old := Tryz.zeroCells28) (t' := 28) (by ((try rw [← Array.getElem?_eq_getElem]); repeat (first | exact heap_alloc_new _ _ | refine keep_alloc ?_ | refine keep_fr (by assumption) ?_))) hz zH o0]; go_simp))
 refine hK.out _ _ ?_ (fun hHeld => ?_)
 ·((try dsimp only) <;> (first | exact hHeld | exact ⟨⟨keep_alloc hHeld.1.1,keep_alloc hHeld.1.2.1,keep_alloc hHeld.1.2.2⟩,hHeld.2.alloc _⟩ | exact ⟨⟨keep_row (by have := HG0.out; omega) hHeld.1.1,keep_row (by have := HG0.out; omega) hHeld.1.2.1,keep_row (by have := HG0.out; omega) hHeld.1.2.2⟩,hHeld.2.setRow (fun h => by have := HG0.out; omega) _⟩))
 clear hK K
 try (simp only [Act.put,aST]; dsimp only [aS0,aS1])
 refine rdone ?_
 rotate_left
 go_simp
 refine hK.out _ _ ?_ (fun hHeld => ?_)
 ·((try dsimp only) <;> (first | exact hHeld | exact ⟨⟨keep_alloc hHeld.1.1,keep_alloc hHeld.1.2.1,keep_alloc hHeld.1.2.2⟩,hHeld.2.alloc _⟩ | exact ⟨⟨keep_row (by have := HG0.out; omega) hHeld.1.1,keep_row (by have := HG0.out; omega) hHeld.1.2.1,keep_row (by have := HG0.out; omega) hHeld.1.2.2⟩,hHeld.2.setRow (fun h => by have := HG0.out; omega) _⟩))
 clear hK K
 try (simp only [Act.put,aST]; dsimp only [aS0,aS1])
 refine rone 1 fun K hK => ?_
 go_simp
 ((with_reducible refine (H1.out _ (HC.out.fr hHeld.2 fun f => f)).mono ?_); rintro e w5 ⟨rfl,f5⟩; have z5 := f5.size; (try simp only [World.size_alloc,heap_drew'] at z5))
 refine hK.out _ _ ?_ (fun hHeld => ?_)
 ·((try dsimp only) <;> (first | exact hHeld | exact ⟨⟨keep_fr f5 hHeld.1.1,keep_fr f5 hHeld.1.2.1,keep_fr f5 hHeld.1.2.2⟩,hHeld.2.trans' f5⟩))
 clear hK K
 try (simp only [Act.put,aST]; dsimp only [aS0,aS1])
 refine rtake 12 ?_
 refine rone 14 fun K hK => ?_
 go_simp
 (try (rw [rowIn_of (old := Tryz.zeroCells28) (t' := 28) (by ((try rw [← Array.getElem?_eq_getElem]); repeat (first | exact heap_alloc_new _ _ | refine keep_alloc ?_ | refine keep_fr (by assumption) ?_))) hz zH o0]; go_simp))
 refine hK.out _ _ ?_ (fun hHeld => ?_)
 ·((try dsimp only) <;> (first | exact hHeld | exact ⟨⟨keep_alloc hHeld.1.1,keep_alloc hHeld.1.2.1,keep_alloc hHeld.1.2.2⟩,hHeld.2.alloc _⟩ | exact ⟨⟨keep_row (by have := HG0.out; omega) hHeld.1.1,keep_row (by have := HG0.out; omega) hHeld.1.2.1,keep_row (by have := HG0.out; omega) hHeld.1.2.2⟩,hHeld.2.setRow (fun h => by have := HG0.out; omega) _⟩))
 clear hK K
 try (simp only [Act.put,aST]; dsimp only [aS0,aS1])
 refine rdone ?_
 rotate_left
 all_goals
  refine hK.out ⟨⟨_,rfl,?_,?_⟩,hHeld.1,hHeld.2⟩
  ·refine (new_row (z := Tryz.zeroCells28) (t := 28) (f := (0,0)) ?_)
   repeat (first | exact heap_alloc_new _ _ | refine keep_alloc ?_ | refine keep_fr (by assumption) ?_)
  ·have := HG0.out
   (try simp only [World.size_alloc,heap_drew'])
   omega
theorem mk_split (h : Hd) : h.cells = ((Value.int .u32 (h.ver : Int) :: (h.ahead.map B8 ++ (h.root.map B8 ++ [Value.int .u32 (h.time : Int)]))) ++ [Value.int .u32 (h.bits : Int),Value.int .u32 (h.nonce : Int)]).toArray := by simp [Hd.cells]
theorem mk_set66 {h : Hd} (o : h.Ok) (k : Nat) : h.cells.setIfInBounds 66 (.int .u32 (k : Int)) = ({ h with bits := k } : Hd).cells := by
 rw [mk_split,mk_split,List.setIfInBounds_toArray,List.set_append_right _ _ (by simp [o.ahead,o.root])]
 simp [o.ahead,o.root]
theorem mk_set67 {h : Hd} (o : h.Ok) (k : Nat) : h.cells.setIfInBounds 67 (.int .u32 (k : Int)) = (h.with k).cells := by
 rw [mk_split,mk_split,List.setIfInBounds_toArray,List.set_append_right _ _ (by simp [o.ahead,o.root])]
 simp [Hd.with,o.ahead,o.root]
theorem mk_set6 {h : Hd} (o : h.Ok) (x : UInt8) : h.cells.setIfInBounds 6 (B8 x) = ({ h with ahead := h.ahead.set 5 x } : Hd).cells := by
 unfold Hd.cells
 rw [List.setIfInBounds_toArray,List.set_cons_succ,List.set_append_left _ _ (by simp [o.ahead]),← List.map_set]
theorem mk_cell6 {h : Hd} (o : h.Ok) : h.cells[6]? = some (B8 (h.ahead.getD 5 0)) := by
 have l : 5 < h.ahead.length := by rw [o.ahead]; decide
 simp [Hd.cells,List.getElem?_append,o.ahead,l]
theorem mk_xor8 : ∀ x : UInt8,bits .xor .u8 (x.toNat : Int) 1 = (((x ^^^ 1).toNat : Nat) : Int) := by
 intro x
 have h := u8_xor_nat x.toNat 1 x.toNat_lt (by omega)
 rw [show ((1 : Nat) : Int) = 1 from rfl] at h
 rw [h,UInt8.toNat_xor]
 rfl
def mkT (T : Nat) (late : Int) : Nat := (IntKind.u32.wrap ((T : Int) + IntKind.u32.wrap (late.tmod 2000))).toNat
def mk0 (h : Hd) (late : Int) (rt : UInt8) (b : Nat) : Hd := { ver := 2,ahead := sha2 h.bytes,root := rt :: List.replicate 31 0,time := mkT h.time late,bits := b,nonce := 0 }
def mkK (kind : Int) (h : Hd) : Hd := if kind = 1 then { h with bits := h.bits ^^^ 1 } else if kind = 3 then { h with ahead := h.ahead.set 5 (h.ahead.getD 5 0 ^^^ 1) } else h
def mkM (h : Hd) : Hd := if mineO h 400 then mineH h 400 else h
theorem mkT_lt (T : Nat) (late : Int) : mkT T late < 4294967296 := by
 unfold mkT
 rw [IntKind.wrap_u32]
 omega
theorem mk0_ok {h : Hd} (late : Int) (rt : UInt8) {b : Nat} (hb : b < 4294967296) : (mk0 h late rt b).Ok := ⟨show (2 : Nat) < 4294967296 by omega,by simp [mk0,sha2,sha_length],by simp [mk0],mkT_lt _ _,hb,show (0 : Nat) < 4294967296 by omega⟩
theorem mkK_ok {kind : Int} {h : Hd} (o : h.Ok) : (mkK kind h).Ok := by
 unfold mkK
 split
 ·exact ⟨o.ver,o.ahead,o.root,o.time,Nat.xor_lt_two_pow (n := 32) o.bits (by decide),o.nonce⟩
 ·split
  ·exact ⟨o.ver,by simp [o.ahead],o.root,o.time,o.bits,o.nonce⟩
  ·exact o
theorem mine_lt {h : Hd} : ∀ k n,n < 4294967296 → ∀ r,mineN h k n = some r → r < 4294967296
 |0,n,hn,r,e => by
  rw [mineN] at e
  split at e
  ·cases e; exact hn
  ·cases e
 |k + 1,n,hn,r,e => by
  rw [mineN] at e
  split at e
  ·cases e; exact hn
  ·split at e
   ·cases e
   ·exact mine_lt k (n + 1) (by omega) r e
theorem mineH_ok {h : Hd} (o : h.Ok) (k : Nat) : (mineH h k).Ok := by
 unfold mineH
 cases e : mineN h k h.nonce with
 |none => exact zeroHd.ok
 |some r => exact ⟨o.ver,o.ahead,o.root,o.time,o.bits,mine_lt k _ o.nonce r e⟩
theorem mkM_ok {h : Hd} (o : h.Ok) : (mkM h).Ok := by
 unfold mkM mineO mineH
 cases e : mineN h 400 h.nonce with
 |none => exact o
 |some r => exact ⟨o.ver,o.ahead,o.root,o.time,o.bits,mine_lt 400 _ o.nonce r e⟩
end Go.Proofs.YtfjcplfhkahamaaGreatDoor
