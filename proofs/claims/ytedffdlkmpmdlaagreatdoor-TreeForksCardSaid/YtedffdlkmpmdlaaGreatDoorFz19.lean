import Derived.Test.YtedffdlkmpmdlaaGreatDoorFz13
import Derived.Test.YtedffdlkmpmdlaaGreatDoorFz8
import Derived.Test.YtedffdlkmpmdlaaGreatDoorFz6
import Derived.Test.YtedffdlkmpmdlaaGreatDoorFz1
set_option maxRecDepth 100000
set_option maxHeartbeats 64000000
namespace Go.Proofs.YtedffdlkmpmdlaaGreatDoor
set_option maxRecDepth 100000
set_option linter.unusedVariables false
set_option linter.unusedSimpArgs false
open Go.RowKit
theorem Tryz.szRules : (Tryz.prog.info? 29).map (·.size) = some 72 := by kernel_rfl
@[go_sem ↓ high] theorem load_rules (p : Value) : Instr.loadAt 29 p = loadRowAt 29 p := rfl
@[go_sem ↓ high] theorem store_rules (p v : Value) : Instr.storeAt 29 p v = storeRowAt 29 p v := rfl
@[go_sem] theorem run_load_rules (w : World) (g : Nat) : (loadRowAt 29 (.pointer (some ⟨g,0,none⟩))).run Tryz.prog w = rowOut Tryz.prog 29 (.pointer (some ⟨g,0,none⟩)) w 72 w.heap[g]? :=
 run_loadRowAt w _ g 72 _ Tryz.underlying29 rfl Tryz.szRules
@[go_sem] theorem run_store_rules (w : World) (g : Nat) (cells : Array Value) : (storeRowAt 29 (.pointer (some ⟨g,0,none⟩)) (.agg cells)).run Tryz.prog w = rowIn Tryz.prog 29 (.pointer (some ⟨g,0,none⟩)) cells g w 72 w.heap[g]? :=
 run_storeRowAt w _ g 72 cells Tryz.szRules
structure RuOf (C : Array Value) (every : Int) (span limit : Nat) (confirm : Int) : Prop where
 size : C.size = 72
 c0 : C[0]? = some (.int .i64 every)
 c1 : C[1]? = some (.int .u32 (span : Int))
 c2 : C[2]? = some (.int .u32 (limit : Int))
 c3 : C[3]? = some (.int .i64 confirm)
 one : rowOne C
 span_lt : span < 4294967296
 limit_lt : limit < 4294967296
open Classical in
noncomputable def topN (limit : Nat) : Nat := if btP limit then btT limit else 0
theorem btT_lt {b : Nat} (h : btP b) : btT b < W256 := h.2.2
theorem topN_lt (l : Nat) : topN l < W256 := by
 unfold topN; split
 ·exact btT_lt ‹_›
 ·exact W256_pos
theorem topN_0 (l : Nat) : topN l = 0 ↔ ¬ btP l := by
 unfold topN; split
 ·rename_i h; exact ⟨fun e => absurd h.2.1 (by omega),fun h2 => absurd h h2⟩
 ·rename_i h; exact ⟨fun _ => h,fun _ => rfl⟩
theorem jTop_any (HD : DecC) {C : Array Value} {every : Int} {span limit : Nat} {confirm : Int} (h : RuOf C every span limit confirm) (w : World) :
  Calls Tryz.prog 53 #[.agg C] w fun e w' => e = .returned (.agg (rowN .u64 64 4 (topN limit))) ∧ Fr F0 w w' := by
 have H1 : Hid (∃ E : Int,∀ w,Calls Tryz.prog 55 #[.int .u32 (limit : Int)] w fun e w' => e = .returned (.tuple #[.agg (rowN .u64 64 4 (topN limit)),.int .i64 E]) ∧ Fr F0 w w') := by
  refine Lib.hid ?_
  unfold topN
  by_cases hp : btP limit
  ·exact ⟨0,by rw [if_pos hp]; exact (HD limit h.limit_lt).1 hp⟩
  ·exact ⟨6,by rw [if_neg hp]; exact (HD limit h.limit_lt).2 hp⟩
 obtain ⟨E,H1⟩ := H1.out
 replace H1 := Lib.hid H1
 generalize topN limit = T at *
 obtain ⟨s,c0,c1,c2,c3,_,_,_⟩ := h
 have s2 : 2 < C.size := by omega
 have d2 := cell_is c2 s2
 clear HD c0 c1 c3
 go_enter Tryz.func53,Tryz.ntmps53
 go_wp2_with fail
 (with_reducible refine (H1.out _).mono ?_); rintro e w1 ⟨rfl,f⟩
 obtain ⟨r1,r2⟩ := heap2 w (.cells C 29) (.cells (rowN .u64 64 4 0) 73)
 replace r1 := keep_fr f r1
 replace r2 := keep_fr f r2
 have F := (((Fr.refl F0 w).alloc (.cells C 29)).alloc (.cells (rowN .u64 64 4 0) 73)).trans' f
 clear f
 generalize hg2 : w.heap.size + 1 = g2 at *
 generalize hg1 : w.heap.size = g1 at *
 have HG := Lib.hid (show w.heap.size ≤ g2 by omega)
 clear hg1 hg2
 go_upto_region 2 with fail
 refine wp_put fun W N => ?_
 have r3 := N.new
 replace r1 := N.old r1
 replace r2 := N.old r2
 replace F := F.trans' N.fr
 clear N
 generalize w1.heap.size = g3 at *
 go_wp2_with fail
 refine bodyPost_ret (results_cell_row rfl _ _ g2 _ _ _ _ rfl (new_row r2) Tryz.underlying73 rfl (by rw [Tryz.szWide]; rfl)) rfl ⟨rfl,F.setRow (fun h => by have := HG.out; omega) _⟩
theorem run_maxI (ts : Array TypeId) (t : TypeId) (x y z : Int) (h : max x y = z) (w : World) : (Builtin.max_ ts t #[.int .i64 x,.int .i64 y]).run Tryz.prog w = .ok (.int .i64 z) w := by
 rw [run_max_int2,show (if y > x then y else x) = z by split <;> omega]
theorem run_minI (ts : Array TypeId) (t : TypeId) (x y z : Int) (h : min x y = z) (w : World) : (Builtin.min_ ts t #[.int .i64 x,.int .i64 y]).run Tryz.prog w = .ok (.int .i64 z) w := by
 rw [run_min_int2,show (if y < x then y else x) = z by split <;> omega]
theorem jTaken_any {C : Array Value} {every : Int} {span limit : Nat} {confirm : Int} (h : RuOf C every span limit confirm) (hs : 0 < span) (k : Int) (w : World) :
  Calls Tryz.prog 82 #[.agg C,.int .i64 k] w fun e w' => e = .returned (.int .u64 ((tkN span k : Nat) : Int)) ∧ Fr F0 w w' := by
 obtain ⟨s,c0,c1,c2,c3,_,hlt,_⟩ := h
 have s1 : 1 < C.size := by omega
 have d1 := cell_is c1 s1
 obtain ⟨q,hq⟩ : ∃ q,span / 4 = q := ⟨_,rfl⟩
 obtain ⟨l,hl⟩ : ∃ l,max (q : Int) 1 = l := ⟨_,rfl⟩
 obtain ⟨a,ha⟩ : ∃ a,max k l = a := ⟨_,rfl⟩
 obtain ⟨m,hm⟩ : ∃ m,span * 4 = m := ⟨_,rfl⟩
 obtain ⟨r,hr⟩ : ∃ r : Nat,min a (m : Int) = (r : Int) := ⟨(min a (m : Int)).toNat,by omega⟩
 have hR : tkN span k = r := by
  unfold tkN
  split <;> (try split) <;> omega
 have m0 : IntKind.i64.wrap (span : Int) = (span : Int) := IntWalk.i64_in _ (by omega)
 have m1 : (span : Int) / 4 = (q : Int) := by omega
 have m2 : IntKind.i64.wrap (q : Int) = (q : Int) := IntWalk.i64_in _ (by omega)
 have m3 : wrap64 (q : Int) = (q : Int) := IntWalk.wrap64_in _ (by omega)
 have m4 : IntKind.i64.wrap ((span : Int) * 4) = (m : Int) := by rw [IntWalk.i64_in _ (by omega)]; omega
 have m5 : IntKind.u64.wrap (r : Int) = (r : Int) := IntWalk.u64_in _ (by omega)
 have q1 := fun ts t w => run_maxI ts t (q : Int) 1 l hl w
 have q2 := fun ts t w => run_maxI ts t k l a ha w
 have q3 := fun ts t w => run_minI ts t a (m : Int) (r : Int) hr w
 rw [hR]
 have F := (Fr.refl F0 w).alloc (.cells C 29)
 have HF := Lib.hid F
 clear hq hl ha hm hr hR hlt hs c0 c2 c3 F
 go_enter Tryz.func82,Tryz.ntmps82
 go_wp2_with fail
 trace_state
 go_ret
 exact ⟨rfl,HF.out⟩
end Go.Proofs.YtedffdlkmpmdlaaGreatDoor
namespace Go.Proofs.YtedffdlkmpmdlaaGreatDoor
set_option maxRecDepth 100000
set_option linter.unusedVariables false
set_option linter.unusedSimpArgs false
open Go.RowKit
theorem nx7 {s0 s1 s4 s5 s6 s7 s9 s11 s12 s13 s14 s15 s16 s17 s18 s19 s20 s21 s22 s23 s24 s25 s26 s27 s28 s29 s30 s31 s32 s33 s34 s35 s36 s37 s38 s39 s40 s41 s42 s43 s44 s45 : Value} {K : Act → World → Prop} {Q : Exit → Act → World → Prop} (w w6 : World) (C : Array Value) (T M S tk span g1 g2 g3 : Nat) (k : Int) (HT : RowKit.Hid (∀ w : World,Calls Tryz.prog 82 #[.agg C,.int .i64 k] w fun e w' => e = .returned (.int .u64 (tk : Int)) ∧ Fr F0 w w')) (HS : RowKit.Hid (∀ w : World,Calls Tryz.prog 81 #[.agg (rowN .u64 64 4 T),.int .u64 (tk : Int),.int .u64 (span : Int),.agg (rowN .u64 64 4 M)] w fun e w' => e = .returned (.tuple #[.agg (rowN .u64 64 4 S),.int .i64 0]) ∧ Fr F0 w w')) (m6 : IntKind.u64.wrap (span : Int) = (span : Int)) (hs : C.size = 72) (hc1 : C[1]? = some (.int .u32 (span : Int))) (hs1 : 1 < C.size) (hd1 : C[1] = .int .u32 (span : Int)) (r1 : w6.heap[g1]? = some (.cells C 29 (0,0))) (r2 : w6.heap[g2]? = some (.cells (rowN .u64 64 4 T) 73 (0,0))) (r3 : w6.heap[g3]? = some (.cells (rowN .u64 64 4 M) 73 (0,0))) (F : Fr F0 w w6)
  (hK : RowKit.Hid (∀ {u11 u12 u32 u33 u34 u35 u36 u37 u38 u39 u40 u41 u42 u43 : Value} {w' : World},((∃ p1 : Nat,u11 = .pointer (some ⟨p1,0,none⟩) ∧ w'.heap[p1]? = some (.cells (rowN .u64 64 4 S) 73 (0,0))) ∧ Fr F0 w w') → K ⟨#[s0,s1,.int .i64 k,.pointer (some ⟨g1,0,none⟩),s4,s5,s6,s7,.pointer (some ⟨g2,0,none⟩),s9,.pointer (some ⟨g3,0,none⟩),u11,u12,s13,s14,s15,s16,s17,s18,s19,s20,s21,s22,s23,s24,s25,s26,s27,s28,s29,s30,s31,u32,u33,u34,u35,u36,u37,u38,u39,u40,u41,u42,u43,s44,s45],[]⟩ w')) :
  Code.wp Tryz.prog ((Tryz.f60.body.bind (findRegion 7)).getD .skip) (Exit.then K Q) ⟨#[s0,s1,.int .i64 k,.pointer (some ⟨g1,0,none⟩),s4,s5,s6,s7,.pointer (some ⟨g2,0,none⟩),s9,.pointer (some ⟨g3,0,none⟩),s11,s12,s13,s14,s15,s16,s17,s18,s19,s20,s21,s22,s23,s24,s25,s26,s27,s28,s29,s30,s31,s32,s33,s34,s35,s36,s37,s38,s39,s40,s41,s42,s43,s44,s45],[]⟩ w6 := by
 conv => arg 2; whnf
 have HG0 := Lib.hid (And.intro (Array.getElem?_eq_some_iff.1 r1).1 (And.intro (Array.getElem?_eq_some_iff.1 r2).1 (And.intro (Array.getElem?_eq_some_iff.1 r3).1 F.size)))
 refine rbegin (S := (fun w' => (w'.heap[g1]? = some (.cells C 29 (0,0)) ∧ w'.heap[g2]? = some (.cells (rowN .u64 64 4 T) 73 (0,0)) ∧ w'.heap[g3]? = some (.cells (rowN .u64 64 4 M) 73 (0,0))) ∧ Fr F0 w w')) ?_ fun hHeld => ?_
 ·((try dsimp only) <;> (exact ⟨⟨r1,r2,r3⟩,F.drew⟩))
 refine rtake 0 ?_
 refine rtake 1 ?_
 refine rtake 2 ?_
 refine rtake 4 ?_
 refine rtake 5 ?_
 refine rtake 6 ?_
 refine rtake 7 ?_
 refine wpAnyH_ready (rs := [3,12]) (by kernel_rfl) (by simp) ?_
 refine AllReadyH.cons (o := ⟨_,_,_,_,_,_⟩) rfl (fun K hK => ?_) (AllReadyH.cons (o := ⟨_,_,_,_,_,_⟩) rfl (fun K hK => ?_) AllReadyH.nil)
 go_simp
 ((with_reducible refine (HT.out _).mono ?_); rintro e w5 ⟨rfl,f5⟩; have z5 := f5.size; (try simp only [World.size_alloc,heap_drew'] at z5))
 refine hK.out _ _ ?_ (fun hHeld => ?_)
 ·((try dsimp only) <;> (exact ⟨⟨keep_fr f5 hHeld.1.1,keep_fr f5 hHeld.1.2.1,keep_fr f5 hHeld.1.2.2⟩,hHeld.2.trans' f5⟩))
 clear hK K
 try (simp only [Act.put,aST]; dsimp only [aS0,aS1])
 refine wpAnyH_ready (rs := [8,12]) (by kernel_rfl) (by simp) ?_
 refine AllReadyH.cons (o := ⟨_,_,_,_,_,_⟩) rfl (fun K hK => ?_) (AllReadyH.cons (o := ⟨_,_,_,_,_,_⟩) rfl (fun K hK => ?_) AllReadyH.nil)
 go_simp
 ((with_reducible refine (HS.out _).mono ?_); rintro e w5 ⟨rfl,f5⟩; have z5 := f5.size; (try simp only [World.size_alloc,heap_drew'] at z5))
 refine hK.out _ _ ?_ (fun hHeld => ?_)
 ·((try dsimp only) <;> (exact ⟨⟨keep_fr f5 hHeld.1.1,keep_fr f5 hHeld.1.2.1,keep_fr f5 hHeld.1.2.2⟩,hHeld.2.trans' f5⟩))
 clear hK K
 try (simp only [Act.put,aST]; dsimp only [aS0,aS1])
 refine rtake 9 ?_
 refine rtake 10 ?_
 refine rtake 11 ?_
 refine rone 12 fun K hK => ?_
 go_simp
 refine hK.out _ _ ?_ (fun hHeld => ?_)
 ·((try dsimp only) <;> (first | exact ⟨⟨keep_alloc hHeld.1.1,keep_alloc hHeld.1.2.1,keep_alloc hHeld.1.2.2⟩,hHeld.2.alloc _⟩ | exact ⟨⟨keep_row (by have := HG0.out; omega) hHeld.1.1,keep_row (by have := HG0.out; omega) hHeld.1.2.1,keep_row (by have := HG0.out; omega) hHeld.1.2.2⟩,hHeld.2.setRow (fun h => by have := HG0.out; omega) _⟩))
 clear hK K
 try (simp only [Act.put,aST]; dsimp only [aS0,aS1])
 refine rone 13 fun K hK => ?_
 go_simp
 (try (rw [rowIn_of (old := rowN .u64 64 4 0) (t' := 73) (by ((try rw [← Array.getElem?_eq_getElem]); repeat (first | exact heap_alloc_new _ _ | refine keep_alloc ?_ | refine keep_fr (by assumption) ?_))) (rowN_size _ _ _ _) (rowN_size _ _ _ _) (rowN_rowOne _ _ _ _)]; go_simp))
 refine hK.out _ _ ?_ (fun hHeld => ?_)
 ·((try dsimp only) <;> (first | exact ⟨⟨keep_alloc hHeld.1.1,keep_alloc hHeld.1.2.1,keep_alloc hHeld.1.2.2⟩,hHeld.2.alloc _⟩ | exact ⟨⟨keep_row (by have := HG0.out; omega) hHeld.1.1,keep_row (by have := HG0.out; omega) hHeld.1.2.1,keep_row (by have := HG0.out; omega) hHeld.1.2.2⟩,hHeld.2.setRow (fun h => by have := HG0.out; omega) _⟩))
 clear hK K
 try (simp only [Act.put,aST]; dsimp only [aS0,aS1])
 refine rtake 14 ?_
 refine rdone ?_
 rotate_left
 go_simp
 refine hK.out _ _ ?_ (fun hHeld => ?_)
 ·((try dsimp only) <;> (first | exact ⟨⟨keep_alloc hHeld.1.1,keep_alloc hHeld.1.2.1,keep_alloc hHeld.1.2.2⟩,hHeld.2.alloc _⟩ | exact ⟨⟨keep_row (by have := HG0.out; omega) hHeld.1.1,keep_row (by have := HG0.out; omega) hHeld.1.2.1,keep_row (by have := HG0.out; omega) hHeld.1.2.2⟩,hHeld.2.setRow (fun h => by have := HG0.out; omega) _⟩))
 clear hK K
 try (simp only [Act.put,aST]; dsimp only [aS0,aS1])
 refine rone 8 fun K hK => ?_
 go_simp
 ((with_reducible refine (HS.out _).mono ?_); rintro e w5 ⟨rfl,f5⟩; have z5 := f5.size; (try simp only [World.size_alloc,heap_drew'] at z5))
 refine hK.out _ _ ?_ (fun hHeld => ?_)
 ·((try dsimp only) <;> (exact ⟨⟨keep_fr f5 hHeld.1.1,keep_fr f5 hHeld.1.2.1,keep_fr f5 hHeld.1.2.2⟩,hHeld.2.trans' f5⟩))
 clear hK K
 try (simp only [Act.put,aST]; dsimp only [aS0,aS1])
 refine rtake 9 ?_
 refine rtake 10 ?_
 refine rtake 11 ?_
 refine rone 13 fun K hK => ?_
 go_simp
 (try (rw [rowIn_of (old := rowN .u64 64 4 0) (t' := 73) (by ((try rw [← Array.getElem?_eq_getElem]); repeat (first | exact heap_alloc_new _ _ | refine keep_alloc ?_ | refine keep_fr (by assumption) ?_))) (rowN_size _ _ _ _) (rowN_size _ _ _ _) (rowN_rowOne _ _ _ _)]; go_simp))
 refine hK.out _ _ ?_ (fun hHeld => ?_)
 ·((try dsimp only) <;> (first | exact ⟨⟨keep_alloc hHeld.1.1,keep_alloc hHeld.1.2.1,keep_alloc hHeld.1.2.2⟩,hHeld.2.alloc _⟩ | exact ⟨⟨keep_row (by have := HG0.out; omega) hHeld.1.1,keep_row (by have := HG0.out; omega) hHeld.1.2.1,keep_row (by have := HG0.out; omega) hHeld.1.2.2⟩,hHeld.2.setRow (fun h => by have := HG0.out; omega) _⟩))
 clear hK K
 try (simp only [Act.put,aST]; dsimp only [aS0,aS1])
 refine rtake 14 ?_
 refine rdone ?_
 rotate_left
 go_simp
 refine hK.out _ _ ?_ (fun hHeld => ?_)
 ·((try dsimp only) <;> (first | exact ⟨⟨keep_alloc hHeld.1.1,keep_alloc hHeld.1.2.1,keep_alloc hHeld.1.2.2⟩,hHeld.2.alloc _⟩ | exact ⟨⟨keep_row (by have := HG0.out; omega) hHeld.1.1,keep_row (by have := HG0.out; omega) hHeld.1.2.1,keep_row (by have := HG0.out; omega) hHeld.1.2.2⟩,hHeld.2.setRow (fun h => by have := HG0.out; omega) _⟩))
 clear hK K
 try (simp only [Act.put,aST]; dsimp only [aS0,aS1])
 refine rone 3 fun K hK => ?_
 go_simp
 ((with_reducible refine (HT.out _).mono ?_); rintro e w5 ⟨rfl,f5⟩; have z5 := f5.size; (try simp only [World.size_alloc,heap_drew'] at z5))
 refine hK.out _ _ ?_ (fun hHeld => ?_)
 ·((try dsimp only) <;> (exact ⟨⟨keep_fr f5 hHeld.1.1,keep_fr f5 hHeld.1.2.1,keep_fr f5 hHeld.1.2.2⟩,hHeld.2.trans' f5⟩))
 clear hK K
 try (simp only [Act.put,aST]; dsimp only [aS0,aS1])
 refine rone 8 fun K hK => ?_
 go_simp
 ((with_reducible refine (HS.out _).mono ?_); rintro e w5 ⟨rfl,f5⟩; have z5 := f5.size; (try simp only [World.size_alloc,heap_drew'] at z5))
 refine hK.out _ _ ?_ (fun hHeld => ?_)
 ·((try dsimp only) <;> (exact ⟨⟨keep_fr f5 hHeld.1.1,keep_fr f5 hHeld.1.2.1,keep_fr f5 hHeld.1.2.2⟩,hHeld.2.trans' f5⟩))
 clear hK K
 try (simp only [Act.put,aST]; dsimp only [aS0,aS1])
 refine rtake 9 ?_
 refine rtake 10 ?_
 refine rtake 11 ?_
 refine rone 13 fun K hK => ?_
 go_simp
 (try (rw [rowIn_of (old := rowN .u64 64 4 0) (t' := 73) (by ((try rw [← Array.getElem?_eq_getElem]); repeat (first | exact heap_alloc_new _ _ | refine keep_alloc ?_ | refine keep_fr (by assumption) ?_))) (rowN_size _ _ _ _) (rowN_size _ _ _ _) (rowN_rowOne _ _ _ _)]; go_simp))
 refine hK.out _ _ ?_ (fun hHeld => ?_)
 ·((try dsimp only) <;> (first | exact ⟨⟨keep_alloc hHeld.1.1,keep_alloc hHeld.1.2.1,keep_alloc hHeld.1.2.2⟩,hHeld.2.alloc _⟩ | exact ⟨⟨keep_row (by have := HG0.out; omega) hHeld.1.1,keep_row (by have := HG0.out; omega) hHeld.1.2.1,keep_row (by have := HG0.out; omega) hHeld.1.2.2⟩,hHeld.2.setRow (fun h => by have := HG0.out; omega) _⟩))
 clear hK K
 try (simp only [Act.put,aST]; dsimp only [aS0,aS1])
 refine rtake 14 ?_
 refine rdone ?_
 rotate_left
 all_goals
  refine hK.out ⟨⟨_,rfl,?_⟩,hHeld.2⟩
  refine new_row (z := rowN .u64 64 4 0) (t := 73) (f := (0,0)) ?_
  repeat (first | exact heap_alloc_new _ _ | refine keep_alloc ?_ | refine keep_fr (by assumption) ?_)
theorem jNext_core {C : Array Value} {every : Int} {span limit : Nat} {confirm : Int} (h : RuOf C every span limit confirm) (bits : Nat) (k : Int) (T M : Nat) (E V Z : Int) (oz : Bool)
  (HD : Hid (∀ w,Calls Tryz.prog 55 #[.int .u32 (bits : Int)] w fun e w' => e = .returned (.tuple #[.agg (rowN .u64 64 4 T),.int .i64 E]) ∧ Fr F0 w w'))
  (HM : Hid (∀ w,Calls Tryz.prog 53 #[.agg C] w fun e w' => e = .returned (.agg (rowN .u64 64 4 M)) ∧ Fr F0 w w'))
  (hz : rowEq 256 M 0 = oz)
  (HC : Hid ((¬ E = 0 ∧ V = 0 ∧ Z = 6) ∨ (E = 0 ∧ oz = true ∧ V = 0 ∧ Z = 6) ∨ (E = 0 ∧ oz = false ∧ span = 0 ∧ V = 0 ∧ Z = 1) ∨ (E = 0 ∧ oz = false ∧ 0 < span ∧ Z = 0 ∧ ∃ tk S : Nat,
   Hid (∀ w : World,Calls Tryz.prog 82 #[.agg C,.int .i64 k] w fun e w' => e = .returned (.int .u64 (tk : Int)) ∧ Fr F0 w w') ∧
   Hid (∀ w : World,Calls Tryz.prog 81 #[.agg (rowN .u64 64 4 T),.int .u64 (tk : Int),.int .u64 (span : Int),.agg (rowN .u64 64 4 M)] w fun e w' => e = .returned (.tuple #[.agg (rowN .u64 64 4 S),.int .i64 0]) ∧ Fr F0 w w') ∧
   Hid (∀ w : World,Calls Tryz.prog 83 #[.agg (rowN .u64 64 4 S)] w fun e w' => e = .returned (.int .u32 V) ∧ Fr F0 w w')))) (w : World) :
  Calls Tryz.prog 60 #[.agg C,.int .u32 (bits : Int),.int .i64 k] w fun e w' => e = .returned (.tuple #[.int .u32 V,.int .i64 Z]) ∧ Fr F0 w w' := by
 obtain ⟨s,c0,c1,c2,c3,_,hlt,_⟩ := h
 have s1 : 1 < C.size := by omega
 have d1 := cell_is c1 s1
 have m6 : IntKind.u64.wrap (span : Int) = (span : Int) := IntWalk.u64_in _ (by omega)
 clear c0 c2 c3 hlt
 go_enter Tryz.func60,Tryz.ntmps60
 go_wp2_with fail
 refine calls_new fun W0 N => ?_
 have r1 := N.new
 have F := N.fr
 clear N
 generalize w.heap.size = g1 at *
 (with_reducible refine (HD.out _).mono ?_); rintro e w1 ⟨rfl,f⟩
 replace r1 := keep_fr f r1
 replace F := F.trans' f
 clear f
 go_upto_region 2 with fail
 refine wp_put fun W N => ?_
 have r2 := N.new
 replace r1 := N.old r1
 replace F := F.trans' N.fr
 clear N
 generalize w1.heap.size = g2 at *
 go_wp2_with fail
 (with_reducible refine (HM.out _).mono ?_); rintro e w2 ⟨rfl,f⟩
 replace r1 := keep_fr f r1
 replace r2 := keep_fr f r2
 replace F := F.trans' f
 clear f
 go_upto_region 3 with fail
 refine wp_put fun W3 N => ?_
 have r3 := N.new
 replace r1 := N.old r1
 replace r2 := N.old r2
 replace F := F.trans' N.fr
 clear N
 generalize w2.heap.size = g3 at *
 rcases HC.out with ⟨l1,rfl,rfl⟩ | ⟨rfl,rfl,rfl,rfl⟩ | ⟨rfl,rfl,rfl,rfl,rfl⟩ | ⟨rfl,rfl,l1,rfl,tk,S,H1,H2,H3⟩
 ·clear HC
  go_wp2_with fail
  go_ret2
  exact ⟨rfl,F⟩
 ·clear HC
  go_wp2_with fail
  go_ret2
  exact ⟨rfl,F⟩
 ·clear HC
  go_wp2_with fail
  go_ret2
  exact ⟨rfl,F⟩
 ·clear HC
  have l2 : ¬ (span : Int) = 0 := by omega
  go_upto_region 7 with fail
  refine nx7 w _ C T M S tk span g1 g2 g3 k H1 H2 m6 s c1 s1 d1 r1 r2 r3 F (Lib.hid ?_)
  clear r1 r2 r3 F
  rename_i w7
  rintro ⟨⟨p1,rfl,r4⟩,F⟩
  go_wp2_with fail
  (with_reducible refine (H3.out _).mono ?_); rintro e w8 ⟨rfl,f⟩
  replace F := F.trans' f
  go_wp2_with fail
  go_ret2
  exact ⟨rfl,F⟩
open Classical in
noncomputable def nxE (span limit bits : Nat) : Int := if btP bits ∧ btP limit then (if span = 0 then 1 else 0) else 6
open Classical in
noncomputable def nxV (span limit bits : Nat) (k : Int) : Nat := if btP bits ∧ btP limit then (if span = 0 then 0 else enB (scN (btT bits) (tkN span k) span (btT limit))) else 0
theorem tkN_word {span : Nat} (hs : 0 < span) (h : span < 4294967296) (k : Int) : tkN span k < 18446744073709551616 := by have := tkN_le hs k; omega
theorem nx_no {span limit bits : Nat} (k : Int) (h : ¬ (btP bits ∧ btP limit)) : nxV span limit bits k = 0 ∧ nxE span limit bits = 6 := ⟨if_neg h,if_neg h⟩
theorem nx_zero {limit bits : Nat} (k : Int) (h : btP bits ∧ btP limit) : nxV 0 limit bits k = 0 ∧ nxE 0 limit bits = 1 := ⟨(if_pos h).trans (if_pos rfl),(if_pos h).trans (if_pos rfl)⟩
theorem nx_yes {span limit bits : Nat} (k : Int) (h : btP bits ∧ btP limit) (h0 : 0 < span) : nxV span limit bits k = enB (scN (btT bits) (tkN span k) span (btT limit)) ∧ nxE span limit bits = 0 := ⟨(if_pos h).trans (if_neg (by omega)),(if_pos h).trans (if_neg (by omega))⟩
theorem jNext_any (HD : DecC) (HE : EncC) (HS : ScaleC) {C : Array Value} {every : Int} {span limit : Nat} {confirm : Int} (h : RuOf C every span limit confirm) (bits : Nat) (hb : bits < 4294967296) (k : Int) (w : World) :
  Calls Tryz.prog 60 #[.agg C,.int .u32 (bits : Int),.int .i64 k] w fun e w' => e = .returned (.tuple #[.int .u32 ((nxV span limit bits k : Nat) : Int),.int .i64 (nxE span limit bits)]) ∧ Fr F0 w w' := by
 have HT := Lib.hid (jTop_any HD h)
 have hz := rowEq_0 (topN limit) (topN_lt limit) _ rfl
 by_cases hp : btP bits
 ·have H1 := Lib.hid ((HD bits hb).1 hp)
  by_cases hl : btP limit
  ·have hz2 : decide (topN limit = 0) = false := decide_eq_false (by rw [topN_0]; exact fun f => f hl)
   have ht : topN limit = btT limit := if_pos hl
   by_cases h0 : span = 0
   ·subst h0
    rw [(nx_zero k ⟨hp,hl⟩).1,(nx_zero k ⟨hp,hl⟩).2]
    exact jNext_core h bits k _ _ 0 _ _ _ H1 HT (hz.trans hz2) (Lib.hid (.inr (.inr (.inl ⟨rfl,rfl,rfl,rfl,rfl⟩)))) w
   ·have hW := Lib.hid (HS (btT bits) (tkN span k) span (btT limit) (btT_lt hp) (tkN_word (by omega) h.span_lt k) (by have := h.span_lt; omega) (btT_lt hl))
    rw [scV,if_neg h0,if_neg (by have := hl.2.1; omega),scE,if_neg h0,if_neg (by have := hl.2.1; omega)] at hW
    rw [(nx_yes k ⟨hp,hl⟩ (by omega)).1,(nx_yes k ⟨hp,hl⟩ (by omega)).2]
    rw [← ht] at hW ⊢
    refine jNext_core h bits k _ _ 0 _ _ _ H1 HT (hz.trans hz2) (Lib.hid (.inr (.inr (.inr ⟨rfl,rfl,by omega,rfl,_,_,Lib.hid (jTaken_any h (by omega) k),hW,Lib.hid (HE _ (scN_wide (topN_lt _)))⟩)))) w
  ·rw [(nx_no k (fun f => hl f.2)).1,(nx_no k (fun f => hl f.2)).2]
   exact jNext_core h bits k _ _ 0 _ _ _ H1 HT (hz.trans (decide_eq_true ((topN_0 _).2 hl))) (Lib.hid (.inr (.inl ⟨rfl,rfl,rfl,rfl⟩))) w
 ·rw [(nx_no k (fun f => hp f.1)).1,(nx_no k (fun f => hp f.1)).2]
  exact jNext_core h bits k _ _ 6 _ _ _ (Lib.hid ((HD bits hb).2 hp)) HT hz (Lib.hid (.inl ⟨by omega,rfl,rfl⟩)) w
end Go.Proofs.YtedffdlkmpmdlaaGreatDoor
