/- Layer 6 (target): Work. -/
import Derived.Test.YtgdnmmobnfjegaaUc
import Derived.Test.YtgdnmmobnfjegaaPiece
import Derived.Test.YtgdnmmobnfjegaaDi
namespace Go.Proofs.Ytgdnmmobnfjegaa
set_option linter.unusedVariables false
set_option linter.unusedSimpArgs false
open Go.RowKit

set_option maxRecDepth 100000 in
set_option maxHeartbeats 16000000 in
theorem tk7 {s0 s5 s6 s7 s8 s9 s10 s11 s12 s13 s14 s15 s16 s17 s18 s19 s20 s21 s22 s23 s24 s25 s26 s27 s28 s29 s30 s31 s32 s33 s34 s35 s36 s37 s38 s39 s40 s41 : Value} {K : Act → World → Prop} {Q : Exit → Act → World → Prop} (w w6 : World) (t n m q r g1 g2 g3 g4 : Nat) (HN : RowKit.Hid (∀ w : World, Calls Try.prog 10 #[.agg (rowN .u64 64 4 t)] w fun e w' => e = .returned (.agg (rowN .u64 64 4 n)) ∧ Fr F0 w w')) (HD : RowKit.Hid (∀ w : World, Calls Try.prog 40 #[.agg (rowN .u64 64 4 n), .agg (rowN .u64 64 4 m)] w fun e w' => e = .returned (.tuple #[.agg (rowN .u64 64 4 q), .agg (rowN .u64 64 4 r), .int .i64 0]) ∧ Fr F0 w w')) (r1 : w6.heap[g1]? = some (.cells (rowN .u64 64 4 t) 24 (0, 0))) (r2 : w6.heap[g2]? = some (.cells (rowN .u64 64 4 0) 24 (0, 0))) (r3 : w6.heap[g3]? = some (.cells (rowN .u64 64 4 1) 24 (0, 0))) (r4 : w6.heap[g4]? = some (.cells (rowN .u64 64 4 m) 24 (0, 0))) (F : Fr F0 w w6)
    (hK : RowKit.Hid (∀ {u6 u7 u8 u27 u28 u29 u30 u31 u32 u33 u34 : Value} {w' : World}, ((∃ p1 : Nat, u6 = .pointer (some ⟨p1, 0, none⟩) ∧ w'.heap[p1]? = some (.cells (rowN .u64 64 4 q) 24 (0, 0))) ∧ (w'.heap[g1]? = some (.cells (rowN .u64 64 4 t) 24 (0, 0)) ∧ w'.heap[g2]? = some (.cells (rowN .u64 64 4 0) 24 (0, 0)) ∧ w'.heap[g3]? = some (.cells (rowN .u64 64 4 1) 24 (0, 0)) ∧ w'.heap[g4]? = some (.cells (rowN .u64 64 4 m) 24 (0, 0))) ∧ Fr F0 w w') → K ⟨#[s0, .pointer (some ⟨g1, 0, none⟩), .pointer (some ⟨g2, 0, none⟩), .pointer (some ⟨g3, 0, none⟩), .pointer (some ⟨g4, 0, none⟩), s5, u6, u7, u8, s9, s10, s11, s12, s13, s14, s15, s16, s17, s18, s19, s20, s21, s22, s23, s24, s25, s26, u27, u28, u29, u30, u31, u32, u33, u34, s35, s36, s37, s38, s39, s40, s41], []⟩ w')) :
    Code.wp Try.prog ((Try.f18.body.bind (findRegion 7)).getD .skip) (Exit.then K Q) ⟨#[s0, .pointer (some ⟨g1, 0, none⟩), .pointer (some ⟨g2, 0, none⟩), .pointer (some ⟨g3, 0, none⟩), .pointer (some ⟨g4, 0, none⟩), s5, s6, s7, s8, s9, s10, s11, s12, s13, s14, s15, s16, s17, s18, s19, s20, s21, s22, s23, s24, s25, s26, s27, s28, s29, s30, s31, s32, s33, s34, s35, s36, s37, s38, s39, s40, s41], []⟩ w6 := by
  conv => arg 2; whnf
  have HG0 := Lib.hid (And.intro (Array.getElem?_eq_some_iff.1 r1).1 (And.intro (Array.getElem?_eq_some_iff.1 r2).1 (And.intro (Array.getElem?_eq_some_iff.1 r3).1 (And.intro (Array.getElem?_eq_some_iff.1 r4).1 F.size))))
  refine wp_region_noPanic ?_
  refine wp_region_held_drew (S := (fun w' => (w'.heap[g1]? = some (.cells (rowN .u64 64 4 t) 24 (0, 0)) ∧ w'.heap[g2]? = some (.cells (rowN .u64 64 4 0) 24 (0, 0)) ∧ w'.heap[g3]? = some (.cells (rowN .u64 64 4 1) 24 (0, 0)) ∧ w'.heap[g4]? = some (.cells (rowN .u64 64 4 m) 24 (0, 0))) ∧ Fr F0 w w')) (by kernel_rfl) ?_ (fun hHeld => ?_)
  · ((try dsimp only) <;> (first | exact ⟨⟨r1, r2, r3, r4⟩, F.drew⟩ | exact ⟨⟨keep_fr f5 hHeld.1.1, keep_fr f5 hHeld.1.2.1, keep_fr f5 hHeld.1.2.2.1, keep_fr f5 hHeld.1.2.2.2⟩, hHeld.2.trans' f5⟩ | exact ⟨⟨keep_alloc hHeld.1.1, keep_alloc hHeld.1.2.1, keep_alloc hHeld.1.2.2.1, keep_alloc hHeld.1.2.2.2⟩, hHeld.2.alloc _⟩ | exact ⟨⟨keep_row (by have := HG0.out; omega) hHeld.1.1, keep_row (by have := HG0.out; omega) hHeld.1.2.1, keep_row (by have := HG0.out; omega) hHeld.1.2.2.1, keep_row (by have := HG0.out; omega) hHeld.1.2.2.2⟩, hHeld.2.setRow (fun h => by have := HG0.out; omega) _⟩))
  refine wpAnyH_take (i := 0) (oi := ⟨_, _, _, _, _, _⟩) (v := ?_) rfl (by kernel_rfl) (by kernel_rfl) (by kernel_rfl) (fun _ _ _ h => h) (Or.inl ⟨by rfl, ?_⟩) (by assumption) ?_
  rotate_left
  · intro w hSw; (try dsimp only at hSw); go_simp; (try (with_reducible rfl)); done
  simp only [Act.put, List.setIfInBounds_toArray]; dsimp only [List.set_cons_zero, List.set_cons_succ]
  refine wpAnyH_take (i := 2) (oi := ⟨_, _, _, _, _, _⟩) (v := ?_) rfl (by kernel_rfl) (by kernel_rfl) (by kernel_rfl) (fun _ _ _ h => h) (Or.inl ⟨by rfl, ?_⟩) (by assumption) ?_
  rotate_left
  · intro w hSw; (try dsimp only at hSw); go_simp; (try (with_reducible rfl)); done
  simp only [Act.put, List.setIfInBounds_toArray]; dsimp only [List.set_cons_zero, List.set_cons_succ]
  refine wpAnyH_ready (rs := [1, 8, 9]) (by kernel_rfl) (by simp) ?_
  refine AllReadyH.cons (o := ⟨_, _, _, _, _, _⟩) rfl (fun K hK => ?_) (AllReadyH.cons (o := ⟨_, _, _, _, _, _⟩) rfl (fun K hK => ?_) (AllReadyH.cons (o := ⟨_, _, _, _, _, _⟩) rfl (fun K hK => ?_) AllReadyH.nil))
  go_simp
  (refine (HN.out _).mono ?_; rintro e w5 ⟨rfl, f5⟩; have z5 := f5.size; (try simp only [World.size_alloc, heap_drew'] at z5))
  refine hK.out _ _ ?_ (fun hHeld => ?_)
  · ((try dsimp only) <;> (first | exact ⟨⟨r1, r2, r3, r4⟩, F.drew⟩ | exact ⟨⟨keep_fr f5 hHeld.1.1, keep_fr f5 hHeld.1.2.1, keep_fr f5 hHeld.1.2.2.1, keep_fr f5 hHeld.1.2.2.2⟩, hHeld.2.trans' f5⟩ | exact ⟨⟨keep_alloc hHeld.1.1, keep_alloc hHeld.1.2.1, keep_alloc hHeld.1.2.2.1, keep_alloc hHeld.1.2.2.2⟩, hHeld.2.alloc _⟩ | exact ⟨⟨keep_row (by have := HG0.out; omega) hHeld.1.1, keep_row (by have := HG0.out; omega) hHeld.1.2.1, keep_row (by have := HG0.out; omega) hHeld.1.2.2.1, keep_row (by have := HG0.out; omega) hHeld.1.2.2.2⟩, hHeld.2.setRow (fun h => by have := HG0.out; omega) _⟩))
  clear hK K
  try (simp only [Act.put, List.setIfInBounds_toArray]; dsimp only [List.set_cons_zero, List.set_cons_succ])
  refine wpAnyH_ready (rs := [3, 8, 9]) (by kernel_rfl) (by simp) ?_
  refine AllReadyH.cons (o := ⟨_, _, _, _, _, _⟩) rfl (fun K hK => ?_) (AllReadyH.cons (o := ⟨_, _, _, _, _, _⟩) rfl (fun K hK => ?_) (AllReadyH.cons (o := ⟨_, _, _, _, _, _⟩) rfl (fun K hK => ?_) AllReadyH.nil))
  go_simp
  (refine (HD.out _).mono ?_; rintro e w5 ⟨rfl, f5⟩; have z5 := f5.size; (try simp only [World.size_alloc, heap_drew'] at z5))
  refine hK.out _ _ ?_ (fun hHeld => ?_)
  · ((try dsimp only) <;> (first | exact ⟨⟨r1, r2, r3, r4⟩, F.drew⟩ | exact ⟨⟨keep_fr f5 hHeld.1.1, keep_fr f5 hHeld.1.2.1, keep_fr f5 hHeld.1.2.2.1, keep_fr f5 hHeld.1.2.2.2⟩, hHeld.2.trans' f5⟩ | exact ⟨⟨keep_alloc hHeld.1.1, keep_alloc hHeld.1.2.1, keep_alloc hHeld.1.2.2.1, keep_alloc hHeld.1.2.2.2⟩, hHeld.2.alloc _⟩ | exact ⟨⟨keep_row (by have := HG0.out; omega) hHeld.1.1, keep_row (by have := HG0.out; omega) hHeld.1.2.1, keep_row (by have := HG0.out; omega) hHeld.1.2.2.1, keep_row (by have := HG0.out; omega) hHeld.1.2.2.2⟩, hHeld.2.setRow (fun h => by have := HG0.out; omega) _⟩))
  clear hK K
  try (simp only [Act.put, List.setIfInBounds_toArray]; dsimp only [List.set_cons_zero, List.set_cons_succ])
  refine wpAnyH_take (i := 4) (oi := ⟨_, _, _, _, _, _⟩) (v := ?_) rfl (by kernel_rfl) (by kernel_rfl) (by kernel_rfl) (fun _ _ _ h => h) (Or.inl ⟨by rfl, ?_⟩) (by assumption) ?_
  rotate_left
  · intro w hSw; (try dsimp only at hSw); go_simp; (try (with_reducible rfl)); done
  simp only [Act.put, List.setIfInBounds_toArray]; dsimp only [List.set_cons_zero, List.set_cons_succ]
  refine wpAnyH_take (i := 5) (oi := ⟨_, _, _, _, _, _⟩) (v := ?_) rfl (by kernel_rfl) (by kernel_rfl) (by kernel_rfl) (fun _ _ _ h => h) (Or.inl ⟨by rfl, ?_⟩) (by assumption) ?_
  rotate_left
  · intro w hSw; (try dsimp only at hSw); go_simp; (try (with_reducible rfl)); done
  simp only [Act.put, List.setIfInBounds_toArray]; dsimp only [List.set_cons_zero, List.set_cons_succ]
  refine wpAnyH_take (i := 6) (oi := ⟨_, _, _, _, _, _⟩) (v := ?_) rfl (by kernel_rfl) (by kernel_rfl) (by kernel_rfl) (fun _ _ _ h => h) (Or.inl ⟨by rfl, ?_⟩) (by assumption) ?_
  rotate_left
  · intro w hSw; (try dsimp only at hSw); go_simp; (try (with_reducible rfl)); done
  simp only [Act.put, List.setIfInBounds_toArray]; dsimp only [List.set_cons_zero, List.set_cons_succ]
  refine wpAnyH_take (i := 7) (oi := ⟨_, _, _, _, _, _⟩) (v := ?_) rfl (by kernel_rfl) (by kernel_rfl) (by kernel_rfl) (fun _ _ _ h => h) (Or.inl ⟨by rfl, ?_⟩) (by assumption) ?_
  rotate_left
  · intro w hSw; (try dsimp only at hSw); go_simp; (try (with_reducible rfl)); done
  simp only [Act.put, List.setIfInBounds_toArray]; dsimp only [List.set_cons_zero, List.set_cons_succ]
  refine wpAnyH_ready (rs := [8, 9]) (by kernel_rfl) (by simp) ?_
  refine AllReadyH.cons (o := ⟨_, _, _, _, _, _⟩) rfl (fun K hK => ?_) (AllReadyH.cons (o := ⟨_, _, _, _, _, _⟩) rfl (fun K hK => ?_) AllReadyH.nil)
  go_simp
  refine hK.out _ _ ?_ (fun hHeld => ?_)
  · ((try dsimp only) <;> (first | exact ⟨⟨r1, r2, r3, r4⟩, F.drew⟩ | exact ⟨⟨keep_fr f5 hHeld.1.1, keep_fr f5 hHeld.1.2.1, keep_fr f5 hHeld.1.2.2.1, keep_fr f5 hHeld.1.2.2.2⟩, hHeld.2.trans' f5⟩ | exact ⟨⟨keep_alloc hHeld.1.1, keep_alloc hHeld.1.2.1, keep_alloc hHeld.1.2.2.1, keep_alloc hHeld.1.2.2.2⟩, hHeld.2.alloc _⟩ | exact ⟨⟨keep_row (by have := HG0.out; omega) hHeld.1.1, keep_row (by have := HG0.out; omega) hHeld.1.2.1, keep_row (by have := HG0.out; omega) hHeld.1.2.2.1, keep_row (by have := HG0.out; omega) hHeld.1.2.2.2⟩, hHeld.2.setRow (fun h => by have := HG0.out; omega) _⟩))
  clear hK K
  try (simp only [Act.put, List.setIfInBounds_toArray]; dsimp only [List.set_cons_zero, List.set_cons_succ])
  refine wpAnyH_ready (rs := [9]) (by kernel_rfl) (by simp) ?_
  refine AllReadyH.cons (o := ⟨_, _, _, _, _, _⟩) rfl (fun K hK => ?_) AllReadyH.nil
  go_simp
  refine hK.out _ _ ?_ (fun hHeld => ?_)
  · ((try dsimp only) <;> (first | exact ⟨⟨r1, r2, r3, r4⟩, F.drew⟩ | exact ⟨⟨keep_fr f5 hHeld.1.1, keep_fr f5 hHeld.1.2.1, keep_fr f5 hHeld.1.2.2.1, keep_fr f5 hHeld.1.2.2.2⟩, hHeld.2.trans' f5⟩ | exact ⟨⟨keep_alloc hHeld.1.1, keep_alloc hHeld.1.2.1, keep_alloc hHeld.1.2.2.1, keep_alloc hHeld.1.2.2.2⟩, hHeld.2.alloc _⟩ | exact ⟨⟨keep_row (by have := HG0.out; omega) hHeld.1.1, keep_row (by have := HG0.out; omega) hHeld.1.2.1, keep_row (by have := HG0.out; omega) hHeld.1.2.2.1, keep_row (by have := HG0.out; omega) hHeld.1.2.2.2⟩, hHeld.2.setRow (fun h => by have := HG0.out; omega) _⟩))
  clear hK K
  try (simp only [Act.put, List.setIfInBounds_toArray]; dsimp only [List.set_cons_zero, List.set_cons_succ])
  refine wpAnyH_ready (rs := [10]) (by kernel_rfl) (by simp) ?_
  refine AllReadyH.cons (o := ⟨_, _, _, _, _, _⟩) rfl (fun K hK => ?_) AllReadyH.nil
  go_simp
  (try (rw [rowIn_of (old := rowN .u64 64 4 0) (t' := 24) (by ((try rw [← Array.getElem?_eq_getElem]); repeat (first | exact heap_alloc_new _ _ | exact heap_alloc2_new _ _ _ | refine keep_alloc ?_ | refine keep_fr (by assumption) ?_))) (rowN_size _ _ _ _) (rowN_size _ _ _ _) (rowN_rowOne _ _ _ _)]; go_simp))
  refine hK.out _ _ ?_ (fun hHeld => ?_)
  · ((try dsimp only) <;> (first | exact ⟨⟨r1, r2, r3, r4⟩, F.drew⟩ | exact ⟨⟨keep_fr f5 hHeld.1.1, keep_fr f5 hHeld.1.2.1, keep_fr f5 hHeld.1.2.2.1, keep_fr f5 hHeld.1.2.2.2⟩, hHeld.2.trans' f5⟩ | exact ⟨⟨keep_alloc hHeld.1.1, keep_alloc hHeld.1.2.1, keep_alloc hHeld.1.2.2.1, keep_alloc hHeld.1.2.2.2⟩, hHeld.2.alloc _⟩ | exact ⟨⟨keep_row (by have := HG0.out; omega) hHeld.1.1, keep_row (by have := HG0.out; omega) hHeld.1.2.1, keep_row (by have := HG0.out; omega) hHeld.1.2.2.1, keep_row (by have := HG0.out; omega) hHeld.1.2.2.2⟩, hHeld.2.setRow (fun h => by have := HG0.out; omega) _⟩))
  clear hK K
  try (simp only [Act.put, List.setIfInBounds_toArray]; dsimp only [List.set_cons_zero, List.set_cons_succ])
  refine wpAnyH_ready (rs := [11]) (by kernel_rfl) (by simp) ?_
  refine AllReadyH.cons (o := ⟨_, _, _, _, _, _⟩) rfl (fun K hK => ?_) AllReadyH.nil
  go_simp
  (try (rw [rowIn_of (old := rowN .u64 64 4 0) (t' := 24) (by ((try rw [← Array.getElem?_eq_getElem]); repeat (first | exact heap_alloc_new _ _ | exact heap_alloc2_new _ _ _ | refine keep_row (by (try simp only [World.size_alloc]); omega) ?_ | refine keep_alloc ?_ | refine keep_fr (by assumption) ?_))) (rowN_size _ _ _ _) (rowN_size _ _ _ _) (rowN_rowOne _ _ _ _)]; go_simp))
  refine hK.out _ _ ?_ (fun hHeld => ?_)
  · ((try dsimp only) <;> (first | exact ⟨⟨r1, r2, r3, r4⟩, F.drew⟩ | exact ⟨⟨keep_fr f5 hHeld.1.1, keep_fr f5 hHeld.1.2.1, keep_fr f5 hHeld.1.2.2.1, keep_fr f5 hHeld.1.2.2.2⟩, hHeld.2.trans' f5⟩ | exact ⟨⟨keep_alloc hHeld.1.1, keep_alloc hHeld.1.2.1, keep_alloc hHeld.1.2.2.1, keep_alloc hHeld.1.2.2.2⟩, hHeld.2.alloc _⟩ | exact ⟨⟨keep_row (by have := HG0.out; omega) hHeld.1.1, keep_row (by have := HG0.out; omega) hHeld.1.2.1, keep_row (by have := HG0.out; omega) hHeld.1.2.2.1, keep_row (by have := HG0.out; omega) hHeld.1.2.2.2⟩, hHeld.2.setRow (fun h => by have := HG0.out; omega) _⟩))
  clear hK K
  try (simp only [Act.put, List.setIfInBounds_toArray]; dsimp only [List.set_cons_zero, List.set_cons_succ])
  refine wpAnyH_take (i := 12) (oi := ⟨_, _, _, _, _, _⟩) (v := ?_) rfl (by kernel_rfl) (by kernel_rfl) (by kernel_rfl) (fun _ _ _ h => h) (Or.inl ⟨by rfl, ?_⟩) (by assumption) ?_
  rotate_left
  · intro w hSw; (try dsimp only at hSw); go_simp; (try (with_reducible rfl)); done
  simp only [Act.put, List.setIfInBounds_toArray]; dsimp only [List.set_cons_zero, List.set_cons_succ]
  refine wpAnyH_done (by kernel_rfl) ?_ _
  refine NoPanic.normal ?_
  rotate_left
  go_simp
  refine hK.out _ _ ?_ (fun hHeld => ?_)
  · ((try dsimp only) <;> (first | exact ⟨⟨r1, r2, r3, r4⟩, F.drew⟩ | exact ⟨⟨keep_fr f5 hHeld.1.1, keep_fr f5 hHeld.1.2.1, keep_fr f5 hHeld.1.2.2.1, keep_fr f5 hHeld.1.2.2.2⟩, hHeld.2.trans' f5⟩ | exact ⟨⟨keep_alloc hHeld.1.1, keep_alloc hHeld.1.2.1, keep_alloc hHeld.1.2.2.1, keep_alloc hHeld.1.2.2.2⟩, hHeld.2.alloc _⟩ | exact ⟨⟨keep_row (by have := HG0.out; omega) hHeld.1.1, keep_row (by have := HG0.out; omega) hHeld.1.2.1, keep_row (by have := HG0.out; omega) hHeld.1.2.2.1, keep_row (by have := HG0.out; omega) hHeld.1.2.2.2⟩, hHeld.2.setRow (fun h => by have := HG0.out; omega) _⟩))
  clear hK K
  try (simp only [Act.put, List.setIfInBounds_toArray]; dsimp only [List.set_cons_zero, List.set_cons_succ])
  refine wpAnyH_ready (rs := [8]) (by kernel_rfl) (by simp) ?_
  refine AllReadyH.cons (o := ⟨_, _, _, _, _, _⟩) rfl (fun K hK => ?_) AllReadyH.nil
  go_simp
  refine hK.out _ _ ?_ (fun hHeld => ?_)
  · ((try dsimp only) <;> (first | exact ⟨⟨r1, r2, r3, r4⟩, F.drew⟩ | exact ⟨⟨keep_fr f5 hHeld.1.1, keep_fr f5 hHeld.1.2.1, keep_fr f5 hHeld.1.2.2.1, keep_fr f5 hHeld.1.2.2.2⟩, hHeld.2.trans' f5⟩ | exact ⟨⟨keep_alloc hHeld.1.1, keep_alloc hHeld.1.2.1, keep_alloc hHeld.1.2.2.1, keep_alloc hHeld.1.2.2.2⟩, hHeld.2.alloc _⟩ | exact ⟨⟨keep_row (by have := HG0.out; omega) hHeld.1.1, keep_row (by have := HG0.out; omega) hHeld.1.2.1, keep_row (by have := HG0.out; omega) hHeld.1.2.2.1, keep_row (by have := HG0.out; omega) hHeld.1.2.2.2⟩, hHeld.2.setRow (fun h => by have := HG0.out; omega) _⟩))
  clear hK K
  try (simp only [Act.put, List.setIfInBounds_toArray]; dsimp only [List.set_cons_zero, List.set_cons_succ])
  refine wpAnyH_ready (rs := [10]) (by kernel_rfl) (by simp) ?_
  refine AllReadyH.cons (o := ⟨_, _, _, _, _, _⟩) rfl (fun K hK => ?_) AllReadyH.nil
  go_simp
  (try (rw [rowIn_of (old := rowN .u64 64 4 0) (t' := 24) (by ((try rw [← Array.getElem?_eq_getElem]); repeat (first | exact heap_alloc_new _ _ | exact heap_alloc2_new _ _ _ | refine keep_alloc ?_ | refine keep_fr (by assumption) ?_))) (rowN_size _ _ _ _) (rowN_size _ _ _ _) (rowN_rowOne _ _ _ _)]; go_simp))
  refine hK.out _ _ ?_ (fun hHeld => ?_)
  · ((try dsimp only) <;> (first | exact ⟨⟨r1, r2, r3, r4⟩, F.drew⟩ | exact ⟨⟨keep_fr f5 hHeld.1.1, keep_fr f5 hHeld.1.2.1, keep_fr f5 hHeld.1.2.2.1, keep_fr f5 hHeld.1.2.2.2⟩, hHeld.2.trans' f5⟩ | exact ⟨⟨keep_alloc hHeld.1.1, keep_alloc hHeld.1.2.1, keep_alloc hHeld.1.2.2.1, keep_alloc hHeld.1.2.2.2⟩, hHeld.2.alloc _⟩ | exact ⟨⟨keep_row (by have := HG0.out; omega) hHeld.1.1, keep_row (by have := HG0.out; omega) hHeld.1.2.1, keep_row (by have := HG0.out; omega) hHeld.1.2.2.1, keep_row (by have := HG0.out; omega) hHeld.1.2.2.2⟩, hHeld.2.setRow (fun h => by have := HG0.out; omega) _⟩))
  clear hK K
  try (simp only [Act.put, List.setIfInBounds_toArray]; dsimp only [List.set_cons_zero, List.set_cons_succ])
  refine wpAnyH_ready (rs := [11]) (by kernel_rfl) (by simp) ?_
  refine AllReadyH.cons (o := ⟨_, _, _, _, _, _⟩) rfl (fun K hK => ?_) AllReadyH.nil
  go_simp
  (try (rw [rowIn_of (old := rowN .u64 64 4 0) (t' := 24) (by ((try rw [← Array.getElem?_eq_getElem]); repeat (first | exact heap_alloc_new _ _ | exact heap_alloc2_new _ _ _ | refine keep_row (by (try simp only [World.size_alloc]); omega) ?_ | refine keep_alloc ?_ | refine keep_fr (by assumption) ?_))) (rowN_size _ _ _ _) (rowN_size _ _ _ _) (rowN_rowOne _ _ _ _)]; go_simp))
  refine hK.out _ _ ?_ (fun hHeld => ?_)
  · ((try dsimp only) <;> (first | exact ⟨⟨r1, r2, r3, r4⟩, F.drew⟩ | exact ⟨⟨keep_fr f5 hHeld.1.1, keep_fr f5 hHeld.1.2.1, keep_fr f5 hHeld.1.2.2.1, keep_fr f5 hHeld.1.2.2.2⟩, hHeld.2.trans' f5⟩ | exact ⟨⟨keep_alloc hHeld.1.1, keep_alloc hHeld.1.2.1, keep_alloc hHeld.1.2.2.1, keep_alloc hHeld.1.2.2.2⟩, hHeld.2.alloc _⟩ | exact ⟨⟨keep_row (by have := HG0.out; omega) hHeld.1.1, keep_row (by have := HG0.out; omega) hHeld.1.2.1, keep_row (by have := HG0.out; omega) hHeld.1.2.2.1, keep_row (by have := HG0.out; omega) hHeld.1.2.2.2⟩, hHeld.2.setRow (fun h => by have := HG0.out; omega) _⟩))
  clear hK K
  try (simp only [Act.put, List.setIfInBounds_toArray]; dsimp only [List.set_cons_zero, List.set_cons_succ])
  refine wpAnyH_take (i := 12) (oi := ⟨_, _, _, _, _, _⟩) (v := ?_) rfl (by kernel_rfl) (by kernel_rfl) (by kernel_rfl) (fun _ _ _ h => h) (Or.inl ⟨by rfl, ?_⟩) (by assumption) ?_
  rotate_left
  · intro w hSw; (try dsimp only at hSw); go_simp; (try (with_reducible rfl)); done
  simp only [Act.put, List.setIfInBounds_toArray]; dsimp only [List.set_cons_zero, List.set_cons_succ]
  refine wpAnyH_done (by kernel_rfl) ?_ _
  refine NoPanic.normal ?_
  rotate_left
  go_simp
  refine hK.out _ _ ?_ (fun hHeld => ?_)
  · ((try dsimp only) <;> (first | exact ⟨⟨r1, r2, r3, r4⟩, F.drew⟩ | exact ⟨⟨keep_fr f5 hHeld.1.1, keep_fr f5 hHeld.1.2.1, keep_fr f5 hHeld.1.2.2.1, keep_fr f5 hHeld.1.2.2.2⟩, hHeld.2.trans' f5⟩ | exact ⟨⟨keep_alloc hHeld.1.1, keep_alloc hHeld.1.2.1, keep_alloc hHeld.1.2.2.1, keep_alloc hHeld.1.2.2.2⟩, hHeld.2.alloc _⟩ | exact ⟨⟨keep_row (by have := HG0.out; omega) hHeld.1.1, keep_row (by have := HG0.out; omega) hHeld.1.2.1, keep_row (by have := HG0.out; omega) hHeld.1.2.2.1, keep_row (by have := HG0.out; omega) hHeld.1.2.2.2⟩, hHeld.2.setRow (fun h => by have := HG0.out; omega) _⟩))
  clear hK K
  try (simp only [Act.put, List.setIfInBounds_toArray]; dsimp only [List.set_cons_zero, List.set_cons_succ])
  refine wpAnyH_ready (rs := [3, 9]) (by kernel_rfl) (by simp) ?_
  refine AllReadyH.cons (o := ⟨_, _, _, _, _, _⟩) rfl (fun K hK => ?_) (AllReadyH.cons (o := ⟨_, _, _, _, _, _⟩) rfl (fun K hK => ?_) AllReadyH.nil)
  go_simp
  (refine (HD.out _).mono ?_; rintro e w5 ⟨rfl, f5⟩; have z5 := f5.size; (try simp only [World.size_alloc, heap_drew'] at z5))
  refine hK.out _ _ ?_ (fun hHeld => ?_)
  · ((try dsimp only) <;> (first | exact ⟨⟨r1, r2, r3, r4⟩, F.drew⟩ | exact ⟨⟨keep_fr f5 hHeld.1.1, keep_fr f5 hHeld.1.2.1, keep_fr f5 hHeld.1.2.2.1, keep_fr f5 hHeld.1.2.2.2⟩, hHeld.2.trans' f5⟩ | exact ⟨⟨keep_alloc hHeld.1.1, keep_alloc hHeld.1.2.1, keep_alloc hHeld.1.2.2.1, keep_alloc hHeld.1.2.2.2⟩, hHeld.2.alloc _⟩ | exact ⟨⟨keep_row (by have := HG0.out; omega) hHeld.1.1, keep_row (by have := HG0.out; omega) hHeld.1.2.1, keep_row (by have := HG0.out; omega) hHeld.1.2.2.1, keep_row (by have := HG0.out; omega) hHeld.1.2.2.2⟩, hHeld.2.setRow (fun h => by have := HG0.out; omega) _⟩))
  clear hK K
  try (simp only [Act.put, List.setIfInBounds_toArray]; dsimp only [List.set_cons_zero, List.set_cons_succ])
  refine wpAnyH_take (i := 4) (oi := ⟨_, _, _, _, _, _⟩) (v := ?_) rfl (by kernel_rfl) (by kernel_rfl) (by kernel_rfl) (fun _ _ _ h => h) (Or.inl ⟨by rfl, ?_⟩) (by assumption) ?_
  rotate_left
  · intro w hSw; (try dsimp only at hSw); go_simp; (try (with_reducible rfl)); done
  simp only [Act.put, List.setIfInBounds_toArray]; dsimp only [List.set_cons_zero, List.set_cons_succ]
  refine wpAnyH_take (i := 5) (oi := ⟨_, _, _, _, _, _⟩) (v := ?_) rfl (by kernel_rfl) (by kernel_rfl) (by kernel_rfl) (fun _ _ _ h => h) (Or.inl ⟨by rfl, ?_⟩) (by assumption) ?_
  rotate_left
  · intro w hSw; (try dsimp only at hSw); go_simp; (try (with_reducible rfl)); done
  simp only [Act.put, List.setIfInBounds_toArray]; dsimp only [List.set_cons_zero, List.set_cons_succ]
  refine wpAnyH_take (i := 6) (oi := ⟨_, _, _, _, _, _⟩) (v := ?_) rfl (by kernel_rfl) (by kernel_rfl) (by kernel_rfl) (fun _ _ _ h => h) (Or.inl ⟨by rfl, ?_⟩) (by assumption) ?_
  rotate_left
  · intro w hSw; (try dsimp only at hSw); go_simp; (try (with_reducible rfl)); done
  simp only [Act.put, List.setIfInBounds_toArray]; dsimp only [List.set_cons_zero, List.set_cons_succ]
  refine wpAnyH_take (i := 7) (oi := ⟨_, _, _, _, _, _⟩) (v := ?_) rfl (by kernel_rfl) (by kernel_rfl) (by kernel_rfl) (fun _ _ _ h => h) (Or.inl ⟨by rfl, ?_⟩) (by assumption) ?_
  rotate_left
  · intro w hSw; (try dsimp only at hSw); go_simp; (try (with_reducible rfl)); done
  simp only [Act.put, List.setIfInBounds_toArray]; dsimp only [List.set_cons_zero, List.set_cons_succ]
  refine wpAnyH_ready (rs := [9]) (by kernel_rfl) (by simp) ?_
  refine AllReadyH.cons (o := ⟨_, _, _, _, _, _⟩) rfl (fun K hK => ?_) AllReadyH.nil
  go_simp
  refine hK.out _ _ ?_ (fun hHeld => ?_)
  · ((try dsimp only) <;> (first | exact ⟨⟨r1, r2, r3, r4⟩, F.drew⟩ | exact ⟨⟨keep_fr f5 hHeld.1.1, keep_fr f5 hHeld.1.2.1, keep_fr f5 hHeld.1.2.2.1, keep_fr f5 hHeld.1.2.2.2⟩, hHeld.2.trans' f5⟩ | exact ⟨⟨keep_alloc hHeld.1.1, keep_alloc hHeld.1.2.1, keep_alloc hHeld.1.2.2.1, keep_alloc hHeld.1.2.2.2⟩, hHeld.2.alloc _⟩ | exact ⟨⟨keep_row (by have := HG0.out; omega) hHeld.1.1, keep_row (by have := HG0.out; omega) hHeld.1.2.1, keep_row (by have := HG0.out; omega) hHeld.1.2.2.1, keep_row (by have := HG0.out; omega) hHeld.1.2.2.2⟩, hHeld.2.setRow (fun h => by have := HG0.out; omega) _⟩))
  clear hK K
  try (simp only [Act.put, List.setIfInBounds_toArray]; dsimp only [List.set_cons_zero, List.set_cons_succ])
  refine wpAnyH_ready (rs := [10]) (by kernel_rfl) (by simp) ?_
  refine AllReadyH.cons (o := ⟨_, _, _, _, _, _⟩) rfl (fun K hK => ?_) AllReadyH.nil
  go_simp
  (try (rw [rowIn_of (old := rowN .u64 64 4 0) (t' := 24) (by ((try rw [← Array.getElem?_eq_getElem]); repeat (first | exact heap_alloc_new _ _ | exact heap_alloc2_new _ _ _ | refine keep_alloc ?_ | refine keep_fr (by assumption) ?_))) (rowN_size _ _ _ _) (rowN_size _ _ _ _) (rowN_rowOne _ _ _ _)]; go_simp))
  refine hK.out _ _ ?_ (fun hHeld => ?_)
  · ((try dsimp only) <;> (first | exact ⟨⟨r1, r2, r3, r4⟩, F.drew⟩ | exact ⟨⟨keep_fr f5 hHeld.1.1, keep_fr f5 hHeld.1.2.1, keep_fr f5 hHeld.1.2.2.1, keep_fr f5 hHeld.1.2.2.2⟩, hHeld.2.trans' f5⟩ | exact ⟨⟨keep_alloc hHeld.1.1, keep_alloc hHeld.1.2.1, keep_alloc hHeld.1.2.2.1, keep_alloc hHeld.1.2.2.2⟩, hHeld.2.alloc _⟩ | exact ⟨⟨keep_row (by have := HG0.out; omega) hHeld.1.1, keep_row (by have := HG0.out; omega) hHeld.1.2.1, keep_row (by have := HG0.out; omega) hHeld.1.2.2.1, keep_row (by have := HG0.out; omega) hHeld.1.2.2.2⟩, hHeld.2.setRow (fun h => by have := HG0.out; omega) _⟩))
  clear hK K
  try (simp only [Act.put, List.setIfInBounds_toArray]; dsimp only [List.set_cons_zero, List.set_cons_succ])
  refine wpAnyH_ready (rs := [11]) (by kernel_rfl) (by simp) ?_
  refine AllReadyH.cons (o := ⟨_, _, _, _, _, _⟩) rfl (fun K hK => ?_) AllReadyH.nil
  go_simp
  (try (rw [rowIn_of (old := rowN .u64 64 4 0) (t' := 24) (by ((try rw [← Array.getElem?_eq_getElem]); repeat (first | exact heap_alloc_new _ _ | exact heap_alloc2_new _ _ _ | refine keep_row (by (try simp only [World.size_alloc]); omega) ?_ | refine keep_alloc ?_ | refine keep_fr (by assumption) ?_))) (rowN_size _ _ _ _) (rowN_size _ _ _ _) (rowN_rowOne _ _ _ _)]; go_simp))
  refine hK.out _ _ ?_ (fun hHeld => ?_)
  · ((try dsimp only) <;> (first | exact ⟨⟨r1, r2, r3, r4⟩, F.drew⟩ | exact ⟨⟨keep_fr f5 hHeld.1.1, keep_fr f5 hHeld.1.2.1, keep_fr f5 hHeld.1.2.2.1, keep_fr f5 hHeld.1.2.2.2⟩, hHeld.2.trans' f5⟩ | exact ⟨⟨keep_alloc hHeld.1.1, keep_alloc hHeld.1.2.1, keep_alloc hHeld.1.2.2.1, keep_alloc hHeld.1.2.2.2⟩, hHeld.2.alloc _⟩ | exact ⟨⟨keep_row (by have := HG0.out; omega) hHeld.1.1, keep_row (by have := HG0.out; omega) hHeld.1.2.1, keep_row (by have := HG0.out; omega) hHeld.1.2.2.1, keep_row (by have := HG0.out; omega) hHeld.1.2.2.2⟩, hHeld.2.setRow (fun h => by have := HG0.out; omega) _⟩))
  clear hK K
  try (simp only [Act.put, List.setIfInBounds_toArray]; dsimp only [List.set_cons_zero, List.set_cons_succ])
  refine wpAnyH_take (i := 12) (oi := ⟨_, _, _, _, _, _⟩) (v := ?_) rfl (by kernel_rfl) (by kernel_rfl) (by kernel_rfl) (fun _ _ _ h => h) (Or.inl ⟨by rfl, ?_⟩) (by assumption) ?_
  rotate_left
  · intro w hSw; (try dsimp only at hSw); go_simp; (try (with_reducible rfl)); done
  simp only [Act.put, List.setIfInBounds_toArray]; dsimp only [List.set_cons_zero, List.set_cons_succ]
  refine wpAnyH_done (by kernel_rfl) ?_ _
  refine NoPanic.normal ?_
  rotate_left
  go_simp
  refine hK.out _ _ ?_ (fun hHeld => ?_)
  · ((try dsimp only) <;> (first | exact ⟨⟨r1, r2, r3, r4⟩, F.drew⟩ | exact ⟨⟨keep_fr f5 hHeld.1.1, keep_fr f5 hHeld.1.2.1, keep_fr f5 hHeld.1.2.2.1, keep_fr f5 hHeld.1.2.2.2⟩, hHeld.2.trans' f5⟩ | exact ⟨⟨keep_alloc hHeld.1.1, keep_alloc hHeld.1.2.1, keep_alloc hHeld.1.2.2.1, keep_alloc hHeld.1.2.2.2⟩, hHeld.2.alloc _⟩ | exact ⟨⟨keep_row (by have := HG0.out; omega) hHeld.1.1, keep_row (by have := HG0.out; omega) hHeld.1.2.1, keep_row (by have := HG0.out; omega) hHeld.1.2.2.1, keep_row (by have := HG0.out; omega) hHeld.1.2.2.2⟩, hHeld.2.setRow (fun h => by have := HG0.out; omega) _⟩))
  clear hK K
  try (simp only [Act.put, List.setIfInBounds_toArray]; dsimp only [List.set_cons_zero, List.set_cons_succ])
  refine wpAnyH_ready (rs := [3]) (by kernel_rfl) (by simp) ?_
  refine AllReadyH.cons (o := ⟨_, _, _, _, _, _⟩) rfl (fun K hK => ?_) AllReadyH.nil
  go_simp
  (refine (HD.out _).mono ?_; rintro e w5 ⟨rfl, f5⟩; have z5 := f5.size; (try simp only [World.size_alloc, heap_drew'] at z5))
  refine hK.out _ _ ?_ (fun hHeld => ?_)
  · ((try dsimp only) <;> (first | exact ⟨⟨r1, r2, r3, r4⟩, F.drew⟩ | exact ⟨⟨keep_fr f5 hHeld.1.1, keep_fr f5 hHeld.1.2.1, keep_fr f5 hHeld.1.2.2.1, keep_fr f5 hHeld.1.2.2.2⟩, hHeld.2.trans' f5⟩ | exact ⟨⟨keep_alloc hHeld.1.1, keep_alloc hHeld.1.2.1, keep_alloc hHeld.1.2.2.1, keep_alloc hHeld.1.2.2.2⟩, hHeld.2.alloc _⟩ | exact ⟨⟨keep_row (by have := HG0.out; omega) hHeld.1.1, keep_row (by have := HG0.out; omega) hHeld.1.2.1, keep_row (by have := HG0.out; omega) hHeld.1.2.2.1, keep_row (by have := HG0.out; omega) hHeld.1.2.2.2⟩, hHeld.2.setRow (fun h => by have := HG0.out; omega) _⟩))
  clear hK K
  try (simp only [Act.put, List.setIfInBounds_toArray]; dsimp only [List.set_cons_zero, List.set_cons_succ])
  refine wpAnyH_take (i := 4) (oi := ⟨_, _, _, _, _, _⟩) (v := ?_) rfl (by kernel_rfl) (by kernel_rfl) (by kernel_rfl) (fun _ _ _ h => h) (Or.inl ⟨by rfl, ?_⟩) (by assumption) ?_
  rotate_left
  · intro w hSw; (try dsimp only at hSw); go_simp; (try (with_reducible rfl)); done
  simp only [Act.put, List.setIfInBounds_toArray]; dsimp only [List.set_cons_zero, List.set_cons_succ]
  refine wpAnyH_take (i := 5) (oi := ⟨_, _, _, _, _, _⟩) (v := ?_) rfl (by kernel_rfl) (by kernel_rfl) (by kernel_rfl) (fun _ _ _ h => h) (Or.inl ⟨by rfl, ?_⟩) (by assumption) ?_
  rotate_left
  · intro w hSw; (try dsimp only at hSw); go_simp; (try (with_reducible rfl)); done
  simp only [Act.put, List.setIfInBounds_toArray]; dsimp only [List.set_cons_zero, List.set_cons_succ]
  refine wpAnyH_take (i := 6) (oi := ⟨_, _, _, _, _, _⟩) (v := ?_) rfl (by kernel_rfl) (by kernel_rfl) (by kernel_rfl) (fun _ _ _ h => h) (Or.inl ⟨by rfl, ?_⟩) (by assumption) ?_
  rotate_left
  · intro w hSw; (try dsimp only at hSw); go_simp; (try (with_reducible rfl)); done
  simp only [Act.put, List.setIfInBounds_toArray]; dsimp only [List.set_cons_zero, List.set_cons_succ]
  refine wpAnyH_take (i := 7) (oi := ⟨_, _, _, _, _, _⟩) (v := ?_) rfl (by kernel_rfl) (by kernel_rfl) (by kernel_rfl) (fun _ _ _ h => h) (Or.inl ⟨by rfl, ?_⟩) (by assumption) ?_
  rotate_left
  · intro w hSw; (try dsimp only at hSw); go_simp; (try (with_reducible rfl)); done
  simp only [Act.put, List.setIfInBounds_toArray]; dsimp only [List.set_cons_zero, List.set_cons_succ]
  refine wpAnyH_ready (rs := [10]) (by kernel_rfl) (by simp) ?_
  refine AllReadyH.cons (o := ⟨_, _, _, _, _, _⟩) rfl (fun K hK => ?_) AllReadyH.nil
  go_simp
  (try (rw [rowIn_of (old := rowN .u64 64 4 0) (t' := 24) (by ((try rw [← Array.getElem?_eq_getElem]); repeat (first | exact heap_alloc_new _ _ | exact heap_alloc2_new _ _ _ | refine keep_alloc ?_ | refine keep_fr (by assumption) ?_))) (rowN_size _ _ _ _) (rowN_size _ _ _ _) (rowN_rowOne _ _ _ _)]; go_simp))
  refine hK.out _ _ ?_ (fun hHeld => ?_)
  · ((try dsimp only) <;> (first | exact ⟨⟨r1, r2, r3, r4⟩, F.drew⟩ | exact ⟨⟨keep_fr f5 hHeld.1.1, keep_fr f5 hHeld.1.2.1, keep_fr f5 hHeld.1.2.2.1, keep_fr f5 hHeld.1.2.2.2⟩, hHeld.2.trans' f5⟩ | exact ⟨⟨keep_alloc hHeld.1.1, keep_alloc hHeld.1.2.1, keep_alloc hHeld.1.2.2.1, keep_alloc hHeld.1.2.2.2⟩, hHeld.2.alloc _⟩ | exact ⟨⟨keep_row (by have := HG0.out; omega) hHeld.1.1, keep_row (by have := HG0.out; omega) hHeld.1.2.1, keep_row (by have := HG0.out; omega) hHeld.1.2.2.1, keep_row (by have := HG0.out; omega) hHeld.1.2.2.2⟩, hHeld.2.setRow (fun h => by have := HG0.out; omega) _⟩))
  clear hK K
  try (simp only [Act.put, List.setIfInBounds_toArray]; dsimp only [List.set_cons_zero, List.set_cons_succ])
  refine wpAnyH_ready (rs := [11]) (by kernel_rfl) (by simp) ?_
  refine AllReadyH.cons (o := ⟨_, _, _, _, _, _⟩) rfl (fun K hK => ?_) AllReadyH.nil
  go_simp
  (try (rw [rowIn_of (old := rowN .u64 64 4 0) (t' := 24) (by ((try rw [← Array.getElem?_eq_getElem]); repeat (first | exact heap_alloc_new _ _ | exact heap_alloc2_new _ _ _ | refine keep_row (by (try simp only [World.size_alloc]); omega) ?_ | refine keep_alloc ?_ | refine keep_fr (by assumption) ?_))) (rowN_size _ _ _ _) (rowN_size _ _ _ _) (rowN_rowOne _ _ _ _)]; go_simp))
  refine hK.out _ _ ?_ (fun hHeld => ?_)
  · ((try dsimp only) <;> (first | exact ⟨⟨r1, r2, r3, r4⟩, F.drew⟩ | exact ⟨⟨keep_fr f5 hHeld.1.1, keep_fr f5 hHeld.1.2.1, keep_fr f5 hHeld.1.2.2.1, keep_fr f5 hHeld.1.2.2.2⟩, hHeld.2.trans' f5⟩ | exact ⟨⟨keep_alloc hHeld.1.1, keep_alloc hHeld.1.2.1, keep_alloc hHeld.1.2.2.1, keep_alloc hHeld.1.2.2.2⟩, hHeld.2.alloc _⟩ | exact ⟨⟨keep_row (by have := HG0.out; omega) hHeld.1.1, keep_row (by have := HG0.out; omega) hHeld.1.2.1, keep_row (by have := HG0.out; omega) hHeld.1.2.2.1, keep_row (by have := HG0.out; omega) hHeld.1.2.2.2⟩, hHeld.2.setRow (fun h => by have := HG0.out; omega) _⟩))
  clear hK K
  try (simp only [Act.put, List.setIfInBounds_toArray]; dsimp only [List.set_cons_zero, List.set_cons_succ])
  refine wpAnyH_take (i := 12) (oi := ⟨_, _, _, _, _, _⟩) (v := ?_) rfl (by kernel_rfl) (by kernel_rfl) (by kernel_rfl) (fun _ _ _ h => h) (Or.inl ⟨by rfl, ?_⟩) (by assumption) ?_
  rotate_left
  · intro w hSw; (try dsimp only at hSw); go_simp; (try (with_reducible rfl)); done
  simp only [Act.put, List.setIfInBounds_toArray]; dsimp only [List.set_cons_zero, List.set_cons_succ]
  refine wpAnyH_done (by kernel_rfl) ?_ _
  refine NoPanic.normal ?_
  rotate_left
  go_simp
  refine hK.out _ _ ?_ (fun hHeld => ?_)
  · ((try dsimp only) <;> (first | exact ⟨⟨r1, r2, r3, r4⟩, F.drew⟩ | exact ⟨⟨keep_fr f5 hHeld.1.1, keep_fr f5 hHeld.1.2.1, keep_fr f5 hHeld.1.2.2.1, keep_fr f5 hHeld.1.2.2.2⟩, hHeld.2.trans' f5⟩ | exact ⟨⟨keep_alloc hHeld.1.1, keep_alloc hHeld.1.2.1, keep_alloc hHeld.1.2.2.1, keep_alloc hHeld.1.2.2.2⟩, hHeld.2.alloc _⟩ | exact ⟨⟨keep_row (by have := HG0.out; omega) hHeld.1.1, keep_row (by have := HG0.out; omega) hHeld.1.2.1, keep_row (by have := HG0.out; omega) hHeld.1.2.2.1, keep_row (by have := HG0.out; omega) hHeld.1.2.2.2⟩, hHeld.2.setRow (fun h => by have := HG0.out; omega) _⟩))
  clear hK K
  try (simp only [Act.put, List.setIfInBounds_toArray]; dsimp only [List.set_cons_zero, List.set_cons_succ])
  refine wpAnyH_ready (rs := [3, 8]) (by kernel_rfl) (by simp) ?_
  refine AllReadyH.cons (o := ⟨_, _, _, _, _, _⟩) rfl (fun K hK => ?_) (AllReadyH.cons (o := ⟨_, _, _, _, _, _⟩) rfl (fun K hK => ?_) AllReadyH.nil)
  go_simp
  (refine (HD.out _).mono ?_; rintro e w5 ⟨rfl, f5⟩; have z5 := f5.size; (try simp only [World.size_alloc, heap_drew'] at z5))
  refine hK.out _ _ ?_ (fun hHeld => ?_)
  · ((try dsimp only) <;> (first | exact ⟨⟨r1, r2, r3, r4⟩, F.drew⟩ | exact ⟨⟨keep_fr f5 hHeld.1.1, keep_fr f5 hHeld.1.2.1, keep_fr f5 hHeld.1.2.2.1, keep_fr f5 hHeld.1.2.2.2⟩, hHeld.2.trans' f5⟩ | exact ⟨⟨keep_alloc hHeld.1.1, keep_alloc hHeld.1.2.1, keep_alloc hHeld.1.2.2.1, keep_alloc hHeld.1.2.2.2⟩, hHeld.2.alloc _⟩ | exact ⟨⟨keep_row (by have := HG0.out; omega) hHeld.1.1, keep_row (by have := HG0.out; omega) hHeld.1.2.1, keep_row (by have := HG0.out; omega) hHeld.1.2.2.1, keep_row (by have := HG0.out; omega) hHeld.1.2.2.2⟩, hHeld.2.setRow (fun h => by have := HG0.out; omega) _⟩))
  clear hK K
  try (simp only [Act.put, List.setIfInBounds_toArray]; dsimp only [List.set_cons_zero, List.set_cons_succ])
  refine wpAnyH_take (i := 4) (oi := ⟨_, _, _, _, _, _⟩) (v := ?_) rfl (by kernel_rfl) (by kernel_rfl) (by kernel_rfl) (fun _ _ _ h => h) (Or.inl ⟨by rfl, ?_⟩) (by assumption) ?_
  rotate_left
  · intro w hSw; (try dsimp only at hSw); go_simp; (try (with_reducible rfl)); done
  simp only [Act.put, List.setIfInBounds_toArray]; dsimp only [List.set_cons_zero, List.set_cons_succ]
  refine wpAnyH_take (i := 5) (oi := ⟨_, _, _, _, _, _⟩) (v := ?_) rfl (by kernel_rfl) (by kernel_rfl) (by kernel_rfl) (fun _ _ _ h => h) (Or.inl ⟨by rfl, ?_⟩) (by assumption) ?_
  rotate_left
  · intro w hSw; (try dsimp only at hSw); go_simp; (try (with_reducible rfl)); done
  simp only [Act.put, List.setIfInBounds_toArray]; dsimp only [List.set_cons_zero, List.set_cons_succ]
  refine wpAnyH_take (i := 6) (oi := ⟨_, _, _, _, _, _⟩) (v := ?_) rfl (by kernel_rfl) (by kernel_rfl) (by kernel_rfl) (fun _ _ _ h => h) (Or.inl ⟨by rfl, ?_⟩) (by assumption) ?_
  rotate_left
  · intro w hSw; (try dsimp only at hSw); go_simp; (try (with_reducible rfl)); done
  simp only [Act.put, List.setIfInBounds_toArray]; dsimp only [List.set_cons_zero, List.set_cons_succ]
  refine wpAnyH_take (i := 7) (oi := ⟨_, _, _, _, _, _⟩) (v := ?_) rfl (by kernel_rfl) (by kernel_rfl) (by kernel_rfl) (fun _ _ _ h => h) (Or.inl ⟨by rfl, ?_⟩) (by assumption) ?_
  rotate_left
  · intro w hSw; (try dsimp only at hSw); go_simp; (try (with_reducible rfl)); done
  simp only [Act.put, List.setIfInBounds_toArray]; dsimp only [List.set_cons_zero, List.set_cons_succ]
  refine wpAnyH_ready (rs := [8]) (by kernel_rfl) (by simp) ?_
  refine AllReadyH.cons (o := ⟨_, _, _, _, _, _⟩) rfl (fun K hK => ?_) AllReadyH.nil
  go_simp
  refine hK.out _ _ ?_ (fun hHeld => ?_)
  · ((try dsimp only) <;> (first | exact ⟨⟨r1, r2, r3, r4⟩, F.drew⟩ | exact ⟨⟨keep_fr f5 hHeld.1.1, keep_fr f5 hHeld.1.2.1, keep_fr f5 hHeld.1.2.2.1, keep_fr f5 hHeld.1.2.2.2⟩, hHeld.2.trans' f5⟩ | exact ⟨⟨keep_alloc hHeld.1.1, keep_alloc hHeld.1.2.1, keep_alloc hHeld.1.2.2.1, keep_alloc hHeld.1.2.2.2⟩, hHeld.2.alloc _⟩ | exact ⟨⟨keep_row (by have := HG0.out; omega) hHeld.1.1, keep_row (by have := HG0.out; omega) hHeld.1.2.1, keep_row (by have := HG0.out; omega) hHeld.1.2.2.1, keep_row (by have := HG0.out; omega) hHeld.1.2.2.2⟩, hHeld.2.setRow (fun h => by have := HG0.out; omega) _⟩))
  clear hK K
  try (simp only [Act.put, List.setIfInBounds_toArray]; dsimp only [List.set_cons_zero, List.set_cons_succ])
  refine wpAnyH_ready (rs := [10]) (by kernel_rfl) (by simp) ?_
  refine AllReadyH.cons (o := ⟨_, _, _, _, _, _⟩) rfl (fun K hK => ?_) AllReadyH.nil
  go_simp
  (try (rw [rowIn_of (old := rowN .u64 64 4 0) (t' := 24) (by ((try rw [← Array.getElem?_eq_getElem]); repeat (first | exact heap_alloc_new _ _ | exact heap_alloc2_new _ _ _ | refine keep_alloc ?_ | refine keep_fr (by assumption) ?_))) (rowN_size _ _ _ _) (rowN_size _ _ _ _) (rowN_rowOne _ _ _ _)]; go_simp))
  refine hK.out _ _ ?_ (fun hHeld => ?_)
  · ((try dsimp only) <;> (first | exact ⟨⟨r1, r2, r3, r4⟩, F.drew⟩ | exact ⟨⟨keep_fr f5 hHeld.1.1, keep_fr f5 hHeld.1.2.1, keep_fr f5 hHeld.1.2.2.1, keep_fr f5 hHeld.1.2.2.2⟩, hHeld.2.trans' f5⟩ | exact ⟨⟨keep_alloc hHeld.1.1, keep_alloc hHeld.1.2.1, keep_alloc hHeld.1.2.2.1, keep_alloc hHeld.1.2.2.2⟩, hHeld.2.alloc _⟩ | exact ⟨⟨keep_row (by have := HG0.out; omega) hHeld.1.1, keep_row (by have := HG0.out; omega) hHeld.1.2.1, keep_row (by have := HG0.out; omega) hHeld.1.2.2.1, keep_row (by have := HG0.out; omega) hHeld.1.2.2.2⟩, hHeld.2.setRow (fun h => by have := HG0.out; omega) _⟩))
  clear hK K
  try (simp only [Act.put, List.setIfInBounds_toArray]; dsimp only [List.set_cons_zero, List.set_cons_succ])
  refine wpAnyH_ready (rs := [11]) (by kernel_rfl) (by simp) ?_
  refine AllReadyH.cons (o := ⟨_, _, _, _, _, _⟩) rfl (fun K hK => ?_) AllReadyH.nil
  go_simp
  (try (rw [rowIn_of (old := rowN .u64 64 4 0) (t' := 24) (by ((try rw [← Array.getElem?_eq_getElem]); repeat (first | exact heap_alloc_new _ _ | exact heap_alloc2_new _ _ _ | refine keep_row (by (try simp only [World.size_alloc]); omega) ?_ | refine keep_alloc ?_ | refine keep_fr (by assumption) ?_))) (rowN_size _ _ _ _) (rowN_size _ _ _ _) (rowN_rowOne _ _ _ _)]; go_simp))
  refine hK.out _ _ ?_ (fun hHeld => ?_)
  · ((try dsimp only) <;> (first | exact ⟨⟨r1, r2, r3, r4⟩, F.drew⟩ | exact ⟨⟨keep_fr f5 hHeld.1.1, keep_fr f5 hHeld.1.2.1, keep_fr f5 hHeld.1.2.2.1, keep_fr f5 hHeld.1.2.2.2⟩, hHeld.2.trans' f5⟩ | exact ⟨⟨keep_alloc hHeld.1.1, keep_alloc hHeld.1.2.1, keep_alloc hHeld.1.2.2.1, keep_alloc hHeld.1.2.2.2⟩, hHeld.2.alloc _⟩ | exact ⟨⟨keep_row (by have := HG0.out; omega) hHeld.1.1, keep_row (by have := HG0.out; omega) hHeld.1.2.1, keep_row (by have := HG0.out; omega) hHeld.1.2.2.1, keep_row (by have := HG0.out; omega) hHeld.1.2.2.2⟩, hHeld.2.setRow (fun h => by have := HG0.out; omega) _⟩))
  clear hK K
  try (simp only [Act.put, List.setIfInBounds_toArray]; dsimp only [List.set_cons_zero, List.set_cons_succ])
  refine wpAnyH_take (i := 12) (oi := ⟨_, _, _, _, _, _⟩) (v := ?_) rfl (by kernel_rfl) (by kernel_rfl) (by kernel_rfl) (fun _ _ _ h => h) (Or.inl ⟨by rfl, ?_⟩) (by assumption) ?_
  rotate_left
  · intro w hSw; (try dsimp only at hSw); go_simp; (try (with_reducible rfl)); done
  simp only [Act.put, List.setIfInBounds_toArray]; dsimp only [List.set_cons_zero, List.set_cons_succ]
  refine wpAnyH_done (by kernel_rfl) ?_ _
  refine NoPanic.normal ?_
  rotate_left
  go_simp
  refine hK.out _ _ ?_ (fun hHeld => ?_)
  · ((try dsimp only) <;> (first | exact ⟨⟨r1, r2, r3, r4⟩, F.drew⟩ | exact ⟨⟨keep_fr f5 hHeld.1.1, keep_fr f5 hHeld.1.2.1, keep_fr f5 hHeld.1.2.2.1, keep_fr f5 hHeld.1.2.2.2⟩, hHeld.2.trans' f5⟩ | exact ⟨⟨keep_alloc hHeld.1.1, keep_alloc hHeld.1.2.1, keep_alloc hHeld.1.2.2.1, keep_alloc hHeld.1.2.2.2⟩, hHeld.2.alloc _⟩ | exact ⟨⟨keep_row (by have := HG0.out; omega) hHeld.1.1, keep_row (by have := HG0.out; omega) hHeld.1.2.1, keep_row (by have := HG0.out; omega) hHeld.1.2.2.1, keep_row (by have := HG0.out; omega) hHeld.1.2.2.2⟩, hHeld.2.setRow (fun h => by have := HG0.out; omega) _⟩))
  clear hK K
  try (simp only [Act.put, List.setIfInBounds_toArray]; dsimp only [List.set_cons_zero, List.set_cons_succ])
  refine wpAnyH_ready (rs := [3]) (by kernel_rfl) (by simp) ?_
  refine AllReadyH.cons (o := ⟨_, _, _, _, _, _⟩) rfl (fun K hK => ?_) AllReadyH.nil
  go_simp
  (refine (HD.out _).mono ?_; rintro e w5 ⟨rfl, f5⟩; have z5 := f5.size; (try simp only [World.size_alloc, heap_drew'] at z5))
  refine hK.out _ _ ?_ (fun hHeld => ?_)
  · ((try dsimp only) <;> (first | exact ⟨⟨r1, r2, r3, r4⟩, F.drew⟩ | exact ⟨⟨keep_fr f5 hHeld.1.1, keep_fr f5 hHeld.1.2.1, keep_fr f5 hHeld.1.2.2.1, keep_fr f5 hHeld.1.2.2.2⟩, hHeld.2.trans' f5⟩ | exact ⟨⟨keep_alloc hHeld.1.1, keep_alloc hHeld.1.2.1, keep_alloc hHeld.1.2.2.1, keep_alloc hHeld.1.2.2.2⟩, hHeld.2.alloc _⟩ | exact ⟨⟨keep_row (by have := HG0.out; omega) hHeld.1.1, keep_row (by have := HG0.out; omega) hHeld.1.2.1, keep_row (by have := HG0.out; omega) hHeld.1.2.2.1, keep_row (by have := HG0.out; omega) hHeld.1.2.2.2⟩, hHeld.2.setRow (fun h => by have := HG0.out; omega) _⟩))
  clear hK K
  try (simp only [Act.put, List.setIfInBounds_toArray]; dsimp only [List.set_cons_zero, List.set_cons_succ])
  refine wpAnyH_take (i := 4) (oi := ⟨_, _, _, _, _, _⟩) (v := ?_) rfl (by kernel_rfl) (by kernel_rfl) (by kernel_rfl) (fun _ _ _ h => h) (Or.inl ⟨by rfl, ?_⟩) (by assumption) ?_
  rotate_left
  · intro w hSw; (try dsimp only at hSw); go_simp; (try (with_reducible rfl)); done
  simp only [Act.put, List.setIfInBounds_toArray]; dsimp only [List.set_cons_zero, List.set_cons_succ]
  refine wpAnyH_take (i := 5) (oi := ⟨_, _, _, _, _, _⟩) (v := ?_) rfl (by kernel_rfl) (by kernel_rfl) (by kernel_rfl) (fun _ _ _ h => h) (Or.inl ⟨by rfl, ?_⟩) (by assumption) ?_
  rotate_left
  · intro w hSw; (try dsimp only at hSw); go_simp; (try (with_reducible rfl)); done
  simp only [Act.put, List.setIfInBounds_toArray]; dsimp only [List.set_cons_zero, List.set_cons_succ]
  refine wpAnyH_take (i := 6) (oi := ⟨_, _, _, _, _, _⟩) (v := ?_) rfl (by kernel_rfl) (by kernel_rfl) (by kernel_rfl) (fun _ _ _ h => h) (Or.inl ⟨by rfl, ?_⟩) (by assumption) ?_
  rotate_left
  · intro w hSw; (try dsimp only at hSw); go_simp; (try (with_reducible rfl)); done
  simp only [Act.put, List.setIfInBounds_toArray]; dsimp only [List.set_cons_zero, List.set_cons_succ]
  refine wpAnyH_take (i := 7) (oi := ⟨_, _, _, _, _, _⟩) (v := ?_) rfl (by kernel_rfl) (by kernel_rfl) (by kernel_rfl) (fun _ _ _ h => h) (Or.inl ⟨by rfl, ?_⟩) (by assumption) ?_
  rotate_left
  · intro w hSw; (try dsimp only at hSw); go_simp; (try (with_reducible rfl)); done
  simp only [Act.put, List.setIfInBounds_toArray]; dsimp only [List.set_cons_zero, List.set_cons_succ]
  refine wpAnyH_ready (rs := [10]) (by kernel_rfl) (by simp) ?_
  refine AllReadyH.cons (o := ⟨_, _, _, _, _, _⟩) rfl (fun K hK => ?_) AllReadyH.nil
  go_simp
  (try (rw [rowIn_of (old := rowN .u64 64 4 0) (t' := 24) (by ((try rw [← Array.getElem?_eq_getElem]); repeat (first | exact heap_alloc_new _ _ | exact heap_alloc2_new _ _ _ | refine keep_alloc ?_ | refine keep_fr (by assumption) ?_))) (rowN_size _ _ _ _) (rowN_size _ _ _ _) (rowN_rowOne _ _ _ _)]; go_simp))
  refine hK.out _ _ ?_ (fun hHeld => ?_)
  · ((try dsimp only) <;> (first | exact ⟨⟨r1, r2, r3, r4⟩, F.drew⟩ | exact ⟨⟨keep_fr f5 hHeld.1.1, keep_fr f5 hHeld.1.2.1, keep_fr f5 hHeld.1.2.2.1, keep_fr f5 hHeld.1.2.2.2⟩, hHeld.2.trans' f5⟩ | exact ⟨⟨keep_alloc hHeld.1.1, keep_alloc hHeld.1.2.1, keep_alloc hHeld.1.2.2.1, keep_alloc hHeld.1.2.2.2⟩, hHeld.2.alloc _⟩ | exact ⟨⟨keep_row (by have := HG0.out; omega) hHeld.1.1, keep_row (by have := HG0.out; omega) hHeld.1.2.1, keep_row (by have := HG0.out; omega) hHeld.1.2.2.1, keep_row (by have := HG0.out; omega) hHeld.1.2.2.2⟩, hHeld.2.setRow (fun h => by have := HG0.out; omega) _⟩))
  clear hK K
  try (simp only [Act.put, List.setIfInBounds_toArray]; dsimp only [List.set_cons_zero, List.set_cons_succ])
  refine wpAnyH_ready (rs := [11]) (by kernel_rfl) (by simp) ?_
  refine AllReadyH.cons (o := ⟨_, _, _, _, _, _⟩) rfl (fun K hK => ?_) AllReadyH.nil
  go_simp
  (try (rw [rowIn_of (old := rowN .u64 64 4 0) (t' := 24) (by ((try rw [← Array.getElem?_eq_getElem]); repeat (first | exact heap_alloc_new _ _ | exact heap_alloc2_new _ _ _ | refine keep_row (by (try simp only [World.size_alloc]); omega) ?_ | refine keep_alloc ?_ | refine keep_fr (by assumption) ?_))) (rowN_size _ _ _ _) (rowN_size _ _ _ _) (rowN_rowOne _ _ _ _)]; go_simp))
  refine hK.out _ _ ?_ (fun hHeld => ?_)
  · ((try dsimp only) <;> (first | exact ⟨⟨r1, r2, r3, r4⟩, F.drew⟩ | exact ⟨⟨keep_fr f5 hHeld.1.1, keep_fr f5 hHeld.1.2.1, keep_fr f5 hHeld.1.2.2.1, keep_fr f5 hHeld.1.2.2.2⟩, hHeld.2.trans' f5⟩ | exact ⟨⟨keep_alloc hHeld.1.1, keep_alloc hHeld.1.2.1, keep_alloc hHeld.1.2.2.1, keep_alloc hHeld.1.2.2.2⟩, hHeld.2.alloc _⟩ | exact ⟨⟨keep_row (by have := HG0.out; omega) hHeld.1.1, keep_row (by have := HG0.out; omega) hHeld.1.2.1, keep_row (by have := HG0.out; omega) hHeld.1.2.2.1, keep_row (by have := HG0.out; omega) hHeld.1.2.2.2⟩, hHeld.2.setRow (fun h => by have := HG0.out; omega) _⟩))
  clear hK K
  try (simp only [Act.put, List.setIfInBounds_toArray]; dsimp only [List.set_cons_zero, List.set_cons_succ])
  refine wpAnyH_take (i := 12) (oi := ⟨_, _, _, _, _, _⟩) (v := ?_) rfl (by kernel_rfl) (by kernel_rfl) (by kernel_rfl) (fun _ _ _ h => h) (Or.inl ⟨by rfl, ?_⟩) (by assumption) ?_
  rotate_left
  · intro w hSw; (try dsimp only at hSw); go_simp; (try (with_reducible rfl)); done
  simp only [Act.put, List.setIfInBounds_toArray]; dsimp only [List.set_cons_zero, List.set_cons_succ]
  refine wpAnyH_done (by kernel_rfl) ?_ _
  refine NoPanic.normal ?_
  rotate_left
  go_simp
  refine hK.out _ _ ?_ (fun hHeld => ?_)
  · ((try dsimp only) <;> (first | exact ⟨⟨r1, r2, r3, r4⟩, F.drew⟩ | exact ⟨⟨keep_fr f5 hHeld.1.1, keep_fr f5 hHeld.1.2.1, keep_fr f5 hHeld.1.2.2.1, keep_fr f5 hHeld.1.2.2.2⟩, hHeld.2.trans' f5⟩ | exact ⟨⟨keep_alloc hHeld.1.1, keep_alloc hHeld.1.2.1, keep_alloc hHeld.1.2.2.1, keep_alloc hHeld.1.2.2.2⟩, hHeld.2.alloc _⟩ | exact ⟨⟨keep_row (by have := HG0.out; omega) hHeld.1.1, keep_row (by have := HG0.out; omega) hHeld.1.2.1, keep_row (by have := HG0.out; omega) hHeld.1.2.2.1, keep_row (by have := HG0.out; omega) hHeld.1.2.2.2⟩, hHeld.2.setRow (fun h => by have := HG0.out; omega) _⟩))
  clear hK K
  try (simp only [Act.put, List.setIfInBounds_toArray]; dsimp only [List.set_cons_zero, List.set_cons_succ])
  refine wpAnyH_ready (rs := [1, 9]) (by kernel_rfl) (by simp) ?_
  refine AllReadyH.cons (o := ⟨_, _, _, _, _, _⟩) rfl (fun K hK => ?_) (AllReadyH.cons (o := ⟨_, _, _, _, _, _⟩) rfl (fun K hK => ?_) AllReadyH.nil)
  go_simp
  (refine (HN.out _).mono ?_; rintro e w5 ⟨rfl, f5⟩; have z5 := f5.size; (try simp only [World.size_alloc, heap_drew'] at z5))
  refine hK.out _ _ ?_ (fun hHeld => ?_)
  · ((try dsimp only) <;> (first | exact ⟨⟨r1, r2, r3, r4⟩, F.drew⟩ | exact ⟨⟨keep_fr f5 hHeld.1.1, keep_fr f5 hHeld.1.2.1, keep_fr f5 hHeld.1.2.2.1, keep_fr f5 hHeld.1.2.2.2⟩, hHeld.2.trans' f5⟩ | exact ⟨⟨keep_alloc hHeld.1.1, keep_alloc hHeld.1.2.1, keep_alloc hHeld.1.2.2.1, keep_alloc hHeld.1.2.2.2⟩, hHeld.2.alloc _⟩ | exact ⟨⟨keep_row (by have := HG0.out; omega) hHeld.1.1, keep_row (by have := HG0.out; omega) hHeld.1.2.1, keep_row (by have := HG0.out; omega) hHeld.1.2.2.1, keep_row (by have := HG0.out; omega) hHeld.1.2.2.2⟩, hHeld.2.setRow (fun h => by have := HG0.out; omega) _⟩))
  clear hK K
  try (simp only [Act.put, List.setIfInBounds_toArray]; dsimp only [List.set_cons_zero, List.set_cons_succ])
  refine wpAnyH_ready (rs := [3, 9]) (by kernel_rfl) (by simp) ?_
  refine AllReadyH.cons (o := ⟨_, _, _, _, _, _⟩) rfl (fun K hK => ?_) (AllReadyH.cons (o := ⟨_, _, _, _, _, _⟩) rfl (fun K hK => ?_) AllReadyH.nil)
  go_simp
  (refine (HD.out _).mono ?_; rintro e w5 ⟨rfl, f5⟩; have z5 := f5.size; (try simp only [World.size_alloc, heap_drew'] at z5))
  refine hK.out _ _ ?_ (fun hHeld => ?_)
  · ((try dsimp only) <;> (first | exact ⟨⟨r1, r2, r3, r4⟩, F.drew⟩ | exact ⟨⟨keep_fr f5 hHeld.1.1, keep_fr f5 hHeld.1.2.1, keep_fr f5 hHeld.1.2.2.1, keep_fr f5 hHeld.1.2.2.2⟩, hHeld.2.trans' f5⟩ | exact ⟨⟨keep_alloc hHeld.1.1, keep_alloc hHeld.1.2.1, keep_alloc hHeld.1.2.2.1, keep_alloc hHeld.1.2.2.2⟩, hHeld.2.alloc _⟩ | exact ⟨⟨keep_row (by have := HG0.out; omega) hHeld.1.1, keep_row (by have := HG0.out; omega) hHeld.1.2.1, keep_row (by have := HG0.out; omega) hHeld.1.2.2.1, keep_row (by have := HG0.out; omega) hHeld.1.2.2.2⟩, hHeld.2.setRow (fun h => by have := HG0.out; omega) _⟩))
  clear hK K
  try (simp only [Act.put, List.setIfInBounds_toArray]; dsimp only [List.set_cons_zero, List.set_cons_succ])
  refine wpAnyH_take (i := 4) (oi := ⟨_, _, _, _, _, _⟩) (v := ?_) rfl (by kernel_rfl) (by kernel_rfl) (by kernel_rfl) (fun _ _ _ h => h) (Or.inl ⟨by rfl, ?_⟩) (by assumption) ?_
  rotate_left
  · intro w hSw; (try dsimp only at hSw); go_simp; (try (with_reducible rfl)); done
  simp only [Act.put, List.setIfInBounds_toArray]; dsimp only [List.set_cons_zero, List.set_cons_succ]
  refine wpAnyH_take (i := 5) (oi := ⟨_, _, _, _, _, _⟩) (v := ?_) rfl (by kernel_rfl) (by kernel_rfl) (by kernel_rfl) (fun _ _ _ h => h) (Or.inl ⟨by rfl, ?_⟩) (by assumption) ?_
  rotate_left
  · intro w hSw; (try dsimp only at hSw); go_simp; (try (with_reducible rfl)); done
  simp only [Act.put, List.setIfInBounds_toArray]; dsimp only [List.set_cons_zero, List.set_cons_succ]
  refine wpAnyH_take (i := 6) (oi := ⟨_, _, _, _, _, _⟩) (v := ?_) rfl (by kernel_rfl) (by kernel_rfl) (by kernel_rfl) (fun _ _ _ h => h) (Or.inl ⟨by rfl, ?_⟩) (by assumption) ?_
  rotate_left
  · intro w hSw; (try dsimp only at hSw); go_simp; (try (with_reducible rfl)); done
  simp only [Act.put, List.setIfInBounds_toArray]; dsimp only [List.set_cons_zero, List.set_cons_succ]
  refine wpAnyH_take (i := 7) (oi := ⟨_, _, _, _, _, _⟩) (v := ?_) rfl (by kernel_rfl) (by kernel_rfl) (by kernel_rfl) (fun _ _ _ h => h) (Or.inl ⟨by rfl, ?_⟩) (by assumption) ?_
  rotate_left
  · intro w hSw; (try dsimp only at hSw); go_simp; (try (with_reducible rfl)); done
  simp only [Act.put, List.setIfInBounds_toArray]; dsimp only [List.set_cons_zero, List.set_cons_succ]
  refine wpAnyH_ready (rs := [9]) (by kernel_rfl) (by simp) ?_
  refine AllReadyH.cons (o := ⟨_, _, _, _, _, _⟩) rfl (fun K hK => ?_) AllReadyH.nil
  go_simp
  refine hK.out _ _ ?_ (fun hHeld => ?_)
  · ((try dsimp only) <;> (first | exact ⟨⟨r1, r2, r3, r4⟩, F.drew⟩ | exact ⟨⟨keep_fr f5 hHeld.1.1, keep_fr f5 hHeld.1.2.1, keep_fr f5 hHeld.1.2.2.1, keep_fr f5 hHeld.1.2.2.2⟩, hHeld.2.trans' f5⟩ | exact ⟨⟨keep_alloc hHeld.1.1, keep_alloc hHeld.1.2.1, keep_alloc hHeld.1.2.2.1, keep_alloc hHeld.1.2.2.2⟩, hHeld.2.alloc _⟩ | exact ⟨⟨keep_row (by have := HG0.out; omega) hHeld.1.1, keep_row (by have := HG0.out; omega) hHeld.1.2.1, keep_row (by have := HG0.out; omega) hHeld.1.2.2.1, keep_row (by have := HG0.out; omega) hHeld.1.2.2.2⟩, hHeld.2.setRow (fun h => by have := HG0.out; omega) _⟩))
  clear hK K
  try (simp only [Act.put, List.setIfInBounds_toArray]; dsimp only [List.set_cons_zero, List.set_cons_succ])
  refine wpAnyH_ready (rs := [10]) (by kernel_rfl) (by simp) ?_
  refine AllReadyH.cons (o := ⟨_, _, _, _, _, _⟩) rfl (fun K hK => ?_) AllReadyH.nil
  go_simp
  (try (rw [rowIn_of (old := rowN .u64 64 4 0) (t' := 24) (by ((try rw [← Array.getElem?_eq_getElem]); repeat (first | exact heap_alloc_new _ _ | exact heap_alloc2_new _ _ _ | refine keep_alloc ?_ | refine keep_fr (by assumption) ?_))) (rowN_size _ _ _ _) (rowN_size _ _ _ _) (rowN_rowOne _ _ _ _)]; go_simp))
  refine hK.out _ _ ?_ (fun hHeld => ?_)
  · ((try dsimp only) <;> (first | exact ⟨⟨r1, r2, r3, r4⟩, F.drew⟩ | exact ⟨⟨keep_fr f5 hHeld.1.1, keep_fr f5 hHeld.1.2.1, keep_fr f5 hHeld.1.2.2.1, keep_fr f5 hHeld.1.2.2.2⟩, hHeld.2.trans' f5⟩ | exact ⟨⟨keep_alloc hHeld.1.1, keep_alloc hHeld.1.2.1, keep_alloc hHeld.1.2.2.1, keep_alloc hHeld.1.2.2.2⟩, hHeld.2.alloc _⟩ | exact ⟨⟨keep_row (by have := HG0.out; omega) hHeld.1.1, keep_row (by have := HG0.out; omega) hHeld.1.2.1, keep_row (by have := HG0.out; omega) hHeld.1.2.2.1, keep_row (by have := HG0.out; omega) hHeld.1.2.2.2⟩, hHeld.2.setRow (fun h => by have := HG0.out; omega) _⟩))
  clear hK K
  try (simp only [Act.put, List.setIfInBounds_toArray]; dsimp only [List.set_cons_zero, List.set_cons_succ])
  refine wpAnyH_ready (rs := [11]) (by kernel_rfl) (by simp) ?_
  refine AllReadyH.cons (o := ⟨_, _, _, _, _, _⟩) rfl (fun K hK => ?_) AllReadyH.nil
  go_simp
  (try (rw [rowIn_of (old := rowN .u64 64 4 0) (t' := 24) (by ((try rw [← Array.getElem?_eq_getElem]); repeat (first | exact heap_alloc_new _ _ | exact heap_alloc2_new _ _ _ | refine keep_row (by (try simp only [World.size_alloc]); omega) ?_ | refine keep_alloc ?_ | refine keep_fr (by assumption) ?_))) (rowN_size _ _ _ _) (rowN_size _ _ _ _) (rowN_rowOne _ _ _ _)]; go_simp))
  refine hK.out _ _ ?_ (fun hHeld => ?_)
  · ((try dsimp only) <;> (first | exact ⟨⟨r1, r2, r3, r4⟩, F.drew⟩ | exact ⟨⟨keep_fr f5 hHeld.1.1, keep_fr f5 hHeld.1.2.1, keep_fr f5 hHeld.1.2.2.1, keep_fr f5 hHeld.1.2.2.2⟩, hHeld.2.trans' f5⟩ | exact ⟨⟨keep_alloc hHeld.1.1, keep_alloc hHeld.1.2.1, keep_alloc hHeld.1.2.2.1, keep_alloc hHeld.1.2.2.2⟩, hHeld.2.alloc _⟩ | exact ⟨⟨keep_row (by have := HG0.out; omega) hHeld.1.1, keep_row (by have := HG0.out; omega) hHeld.1.2.1, keep_row (by have := HG0.out; omega) hHeld.1.2.2.1, keep_row (by have := HG0.out; omega) hHeld.1.2.2.2⟩, hHeld.2.setRow (fun h => by have := HG0.out; omega) _⟩))
  clear hK K
  try (simp only [Act.put, List.setIfInBounds_toArray]; dsimp only [List.set_cons_zero, List.set_cons_succ])
  refine wpAnyH_take (i := 12) (oi := ⟨_, _, _, _, _, _⟩) (v := ?_) rfl (by kernel_rfl) (by kernel_rfl) (by kernel_rfl) (fun _ _ _ h => h) (Or.inl ⟨by rfl, ?_⟩) (by assumption) ?_
  rotate_left
  · intro w hSw; (try dsimp only at hSw); go_simp; (try (with_reducible rfl)); done
  simp only [Act.put, List.setIfInBounds_toArray]; dsimp only [List.set_cons_zero, List.set_cons_succ]
  refine wpAnyH_done (by kernel_rfl) ?_ _
  refine NoPanic.normal ?_
  rotate_left
  go_simp
  refine hK.out _ _ ?_ (fun hHeld => ?_)
  · ((try dsimp only) <;> (first | exact ⟨⟨r1, r2, r3, r4⟩, F.drew⟩ | exact ⟨⟨keep_fr f5 hHeld.1.1, keep_fr f5 hHeld.1.2.1, keep_fr f5 hHeld.1.2.2.1, keep_fr f5 hHeld.1.2.2.2⟩, hHeld.2.trans' f5⟩ | exact ⟨⟨keep_alloc hHeld.1.1, keep_alloc hHeld.1.2.1, keep_alloc hHeld.1.2.2.1, keep_alloc hHeld.1.2.2.2⟩, hHeld.2.alloc _⟩ | exact ⟨⟨keep_row (by have := HG0.out; omega) hHeld.1.1, keep_row (by have := HG0.out; omega) hHeld.1.2.1, keep_row (by have := HG0.out; omega) hHeld.1.2.2.1, keep_row (by have := HG0.out; omega) hHeld.1.2.2.2⟩, hHeld.2.setRow (fun h => by have := HG0.out; omega) _⟩))
  clear hK K
  try (simp only [Act.put, List.setIfInBounds_toArray]; dsimp only [List.set_cons_zero, List.set_cons_succ])
  refine wpAnyH_ready (rs := [3]) (by kernel_rfl) (by simp) ?_
  refine AllReadyH.cons (o := ⟨_, _, _, _, _, _⟩) rfl (fun K hK => ?_) AllReadyH.nil
  go_simp
  (refine (HD.out _).mono ?_; rintro e w5 ⟨rfl, f5⟩; have z5 := f5.size; (try simp only [World.size_alloc, heap_drew'] at z5))
  refine hK.out _ _ ?_ (fun hHeld => ?_)
  · ((try dsimp only) <;> (first | exact ⟨⟨r1, r2, r3, r4⟩, F.drew⟩ | exact ⟨⟨keep_fr f5 hHeld.1.1, keep_fr f5 hHeld.1.2.1, keep_fr f5 hHeld.1.2.2.1, keep_fr f5 hHeld.1.2.2.2⟩, hHeld.2.trans' f5⟩ | exact ⟨⟨keep_alloc hHeld.1.1, keep_alloc hHeld.1.2.1, keep_alloc hHeld.1.2.2.1, keep_alloc hHeld.1.2.2.2⟩, hHeld.2.alloc _⟩ | exact ⟨⟨keep_row (by have := HG0.out; omega) hHeld.1.1, keep_row (by have := HG0.out; omega) hHeld.1.2.1, keep_row (by have := HG0.out; omega) hHeld.1.2.2.1, keep_row (by have := HG0.out; omega) hHeld.1.2.2.2⟩, hHeld.2.setRow (fun h => by have := HG0.out; omega) _⟩))
  clear hK K
  try (simp only [Act.put, List.setIfInBounds_toArray]; dsimp only [List.set_cons_zero, List.set_cons_succ])
  refine wpAnyH_take (i := 4) (oi := ⟨_, _, _, _, _, _⟩) (v := ?_) rfl (by kernel_rfl) (by kernel_rfl) (by kernel_rfl) (fun _ _ _ h => h) (Or.inl ⟨by rfl, ?_⟩) (by assumption) ?_
  rotate_left
  · intro w hSw; (try dsimp only at hSw); go_simp; (try (with_reducible rfl)); done
  simp only [Act.put, List.setIfInBounds_toArray]; dsimp only [List.set_cons_zero, List.set_cons_succ]
  refine wpAnyH_take (i := 5) (oi := ⟨_, _, _, _, _, _⟩) (v := ?_) rfl (by kernel_rfl) (by kernel_rfl) (by kernel_rfl) (fun _ _ _ h => h) (Or.inl ⟨by rfl, ?_⟩) (by assumption) ?_
  rotate_left
  · intro w hSw; (try dsimp only at hSw); go_simp; (try (with_reducible rfl)); done
  simp only [Act.put, List.setIfInBounds_toArray]; dsimp only [List.set_cons_zero, List.set_cons_succ]
  refine wpAnyH_take (i := 6) (oi := ⟨_, _, _, _, _, _⟩) (v := ?_) rfl (by kernel_rfl) (by kernel_rfl) (by kernel_rfl) (fun _ _ _ h => h) (Or.inl ⟨by rfl, ?_⟩) (by assumption) ?_
  rotate_left
  · intro w hSw; (try dsimp only at hSw); go_simp; (try (with_reducible rfl)); done
  simp only [Act.put, List.setIfInBounds_toArray]; dsimp only [List.set_cons_zero, List.set_cons_succ]
  refine wpAnyH_take (i := 7) (oi := ⟨_, _, _, _, _, _⟩) (v := ?_) rfl (by kernel_rfl) (by kernel_rfl) (by kernel_rfl) (fun _ _ _ h => h) (Or.inl ⟨by rfl, ?_⟩) (by assumption) ?_
  rotate_left
  · intro w hSw; (try dsimp only at hSw); go_simp; (try (with_reducible rfl)); done
  simp only [Act.put, List.setIfInBounds_toArray]; dsimp only [List.set_cons_zero, List.set_cons_succ]
  refine wpAnyH_ready (rs := [10]) (by kernel_rfl) (by simp) ?_
  refine AllReadyH.cons (o := ⟨_, _, _, _, _, _⟩) rfl (fun K hK => ?_) AllReadyH.nil
  go_simp
  (try (rw [rowIn_of (old := rowN .u64 64 4 0) (t' := 24) (by ((try rw [← Array.getElem?_eq_getElem]); repeat (first | exact heap_alloc_new _ _ | exact heap_alloc2_new _ _ _ | refine keep_alloc ?_ | refine keep_fr (by assumption) ?_))) (rowN_size _ _ _ _) (rowN_size _ _ _ _) (rowN_rowOne _ _ _ _)]; go_simp))
  refine hK.out _ _ ?_ (fun hHeld => ?_)
  · ((try dsimp only) <;> (first | exact ⟨⟨r1, r2, r3, r4⟩, F.drew⟩ | exact ⟨⟨keep_fr f5 hHeld.1.1, keep_fr f5 hHeld.1.2.1, keep_fr f5 hHeld.1.2.2.1, keep_fr f5 hHeld.1.2.2.2⟩, hHeld.2.trans' f5⟩ | exact ⟨⟨keep_alloc hHeld.1.1, keep_alloc hHeld.1.2.1, keep_alloc hHeld.1.2.2.1, keep_alloc hHeld.1.2.2.2⟩, hHeld.2.alloc _⟩ | exact ⟨⟨keep_row (by have := HG0.out; omega) hHeld.1.1, keep_row (by have := HG0.out; omega) hHeld.1.2.1, keep_row (by have := HG0.out; omega) hHeld.1.2.2.1, keep_row (by have := HG0.out; omega) hHeld.1.2.2.2⟩, hHeld.2.setRow (fun h => by have := HG0.out; omega) _⟩))
  clear hK K
  try (simp only [Act.put, List.setIfInBounds_toArray]; dsimp only [List.set_cons_zero, List.set_cons_succ])
  refine wpAnyH_ready (rs := [11]) (by kernel_rfl) (by simp) ?_
  refine AllReadyH.cons (o := ⟨_, _, _, _, _, _⟩) rfl (fun K hK => ?_) AllReadyH.nil
  go_simp
  (try (rw [rowIn_of (old := rowN .u64 64 4 0) (t' := 24) (by ((try rw [← Array.getElem?_eq_getElem]); repeat (first | exact heap_alloc_new _ _ | exact heap_alloc2_new _ _ _ | refine keep_row (by (try simp only [World.size_alloc]); omega) ?_ | refine keep_alloc ?_ | refine keep_fr (by assumption) ?_))) (rowN_size _ _ _ _) (rowN_size _ _ _ _) (rowN_rowOne _ _ _ _)]; go_simp))
  refine hK.out _ _ ?_ (fun hHeld => ?_)
  · ((try dsimp only) <;> (first | exact ⟨⟨r1, r2, r3, r4⟩, F.drew⟩ | exact ⟨⟨keep_fr f5 hHeld.1.1, keep_fr f5 hHeld.1.2.1, keep_fr f5 hHeld.1.2.2.1, keep_fr f5 hHeld.1.2.2.2⟩, hHeld.2.trans' f5⟩ | exact ⟨⟨keep_alloc hHeld.1.1, keep_alloc hHeld.1.2.1, keep_alloc hHeld.1.2.2.1, keep_alloc hHeld.1.2.2.2⟩, hHeld.2.alloc _⟩ | exact ⟨⟨keep_row (by have := HG0.out; omega) hHeld.1.1, keep_row (by have := HG0.out; omega) hHeld.1.2.1, keep_row (by have := HG0.out; omega) hHeld.1.2.2.1, keep_row (by have := HG0.out; omega) hHeld.1.2.2.2⟩, hHeld.2.setRow (fun h => by have := HG0.out; omega) _⟩))
  clear hK K
  try (simp only [Act.put, List.setIfInBounds_toArray]; dsimp only [List.set_cons_zero, List.set_cons_succ])
  refine wpAnyH_take (i := 12) (oi := ⟨_, _, _, _, _, _⟩) (v := ?_) rfl (by kernel_rfl) (by kernel_rfl) (by kernel_rfl) (fun _ _ _ h => h) (Or.inl ⟨by rfl, ?_⟩) (by assumption) ?_
  rotate_left
  · intro w hSw; (try dsimp only at hSw); go_simp; (try (with_reducible rfl)); done
  simp only [Act.put, List.setIfInBounds_toArray]; dsimp only [List.set_cons_zero, List.set_cons_succ]
  refine wpAnyH_done (by kernel_rfl) ?_ _
  refine NoPanic.normal ?_
  rotate_left
  go_simp
  refine hK.out _ _ ?_ (fun hHeld => ?_)
  · ((try dsimp only) <;> (first | exact ⟨⟨r1, r2, r3, r4⟩, F.drew⟩ | exact ⟨⟨keep_fr f5 hHeld.1.1, keep_fr f5 hHeld.1.2.1, keep_fr f5 hHeld.1.2.2.1, keep_fr f5 hHeld.1.2.2.2⟩, hHeld.2.trans' f5⟩ | exact ⟨⟨keep_alloc hHeld.1.1, keep_alloc hHeld.1.2.1, keep_alloc hHeld.1.2.2.1, keep_alloc hHeld.1.2.2.2⟩, hHeld.2.alloc _⟩ | exact ⟨⟨keep_row (by have := HG0.out; omega) hHeld.1.1, keep_row (by have := HG0.out; omega) hHeld.1.2.1, keep_row (by have := HG0.out; omega) hHeld.1.2.2.1, keep_row (by have := HG0.out; omega) hHeld.1.2.2.2⟩, hHeld.2.setRow (fun h => by have := HG0.out; omega) _⟩))
  clear hK K
  try (simp only [Act.put, List.setIfInBounds_toArray]; dsimp only [List.set_cons_zero, List.set_cons_succ])
  refine wpAnyH_ready (rs := [1]) (by kernel_rfl) (by simp) ?_
  refine AllReadyH.cons (o := ⟨_, _, _, _, _, _⟩) rfl (fun K hK => ?_) AllReadyH.nil
  go_simp
  (refine (HN.out _).mono ?_; rintro e w5 ⟨rfl, f5⟩; have z5 := f5.size; (try simp only [World.size_alloc, heap_drew'] at z5))
  refine hK.out _ _ ?_ (fun hHeld => ?_)
  · ((try dsimp only) <;> (first | exact ⟨⟨r1, r2, r3, r4⟩, F.drew⟩ | exact ⟨⟨keep_fr f5 hHeld.1.1, keep_fr f5 hHeld.1.2.1, keep_fr f5 hHeld.1.2.2.1, keep_fr f5 hHeld.1.2.2.2⟩, hHeld.2.trans' f5⟩ | exact ⟨⟨keep_alloc hHeld.1.1, keep_alloc hHeld.1.2.1, keep_alloc hHeld.1.2.2.1, keep_alloc hHeld.1.2.2.2⟩, hHeld.2.alloc _⟩ | exact ⟨⟨keep_row (by have := HG0.out; omega) hHeld.1.1, keep_row (by have := HG0.out; omega) hHeld.1.2.1, keep_row (by have := HG0.out; omega) hHeld.1.2.2.1, keep_row (by have := HG0.out; omega) hHeld.1.2.2.2⟩, hHeld.2.setRow (fun h => by have := HG0.out; omega) _⟩))
  clear hK K
  try (simp only [Act.put, List.setIfInBounds_toArray]; dsimp only [List.set_cons_zero, List.set_cons_succ])
  refine wpAnyH_ready (rs := [3]) (by kernel_rfl) (by simp) ?_
  refine AllReadyH.cons (o := ⟨_, _, _, _, _, _⟩) rfl (fun K hK => ?_) AllReadyH.nil
  go_simp
  (refine (HD.out _).mono ?_; rintro e w5 ⟨rfl, f5⟩; have z5 := f5.size; (try simp only [World.size_alloc, heap_drew'] at z5))
  refine hK.out _ _ ?_ (fun hHeld => ?_)
  · ((try dsimp only) <;> (first | exact ⟨⟨r1, r2, r3, r4⟩, F.drew⟩ | exact ⟨⟨keep_fr f5 hHeld.1.1, keep_fr f5 hHeld.1.2.1, keep_fr f5 hHeld.1.2.2.1, keep_fr f5 hHeld.1.2.2.2⟩, hHeld.2.trans' f5⟩ | exact ⟨⟨keep_alloc hHeld.1.1, keep_alloc hHeld.1.2.1, keep_alloc hHeld.1.2.2.1, keep_alloc hHeld.1.2.2.2⟩, hHeld.2.alloc _⟩ | exact ⟨⟨keep_row (by have := HG0.out; omega) hHeld.1.1, keep_row (by have := HG0.out; omega) hHeld.1.2.1, keep_row (by have := HG0.out; omega) hHeld.1.2.2.1, keep_row (by have := HG0.out; omega) hHeld.1.2.2.2⟩, hHeld.2.setRow (fun h => by have := HG0.out; omega) _⟩))
  clear hK K
  try (simp only [Act.put, List.setIfInBounds_toArray]; dsimp only [List.set_cons_zero, List.set_cons_succ])
  refine wpAnyH_take (i := 4) (oi := ⟨_, _, _, _, _, _⟩) (v := ?_) rfl (by kernel_rfl) (by kernel_rfl) (by kernel_rfl) (fun _ _ _ h => h) (Or.inl ⟨by rfl, ?_⟩) (by assumption) ?_
  rotate_left
  · intro w hSw; (try dsimp only at hSw); go_simp; (try (with_reducible rfl)); done
  simp only [Act.put, List.setIfInBounds_toArray]; dsimp only [List.set_cons_zero, List.set_cons_succ]
  refine wpAnyH_take (i := 5) (oi := ⟨_, _, _, _, _, _⟩) (v := ?_) rfl (by kernel_rfl) (by kernel_rfl) (by kernel_rfl) (fun _ _ _ h => h) (Or.inl ⟨by rfl, ?_⟩) (by assumption) ?_
  rotate_left
  · intro w hSw; (try dsimp only at hSw); go_simp; (try (with_reducible rfl)); done
  simp only [Act.put, List.setIfInBounds_toArray]; dsimp only [List.set_cons_zero, List.set_cons_succ]
  refine wpAnyH_take (i := 6) (oi := ⟨_, _, _, _, _, _⟩) (v := ?_) rfl (by kernel_rfl) (by kernel_rfl) (by kernel_rfl) (fun _ _ _ h => h) (Or.inl ⟨by rfl, ?_⟩) (by assumption) ?_
  rotate_left
  · intro w hSw; (try dsimp only at hSw); go_simp; (try (with_reducible rfl)); done
  simp only [Act.put, List.setIfInBounds_toArray]; dsimp only [List.set_cons_zero, List.set_cons_succ]
  refine wpAnyH_take (i := 7) (oi := ⟨_, _, _, _, _, _⟩) (v := ?_) rfl (by kernel_rfl) (by kernel_rfl) (by kernel_rfl) (fun _ _ _ h => h) (Or.inl ⟨by rfl, ?_⟩) (by assumption) ?_
  rotate_left
  · intro w hSw; (try dsimp only at hSw); go_simp; (try (with_reducible rfl)); done
  simp only [Act.put, List.setIfInBounds_toArray]; dsimp only [List.set_cons_zero, List.set_cons_succ]
  refine wpAnyH_ready (rs := [10]) (by kernel_rfl) (by simp) ?_
  refine AllReadyH.cons (o := ⟨_, _, _, _, _, _⟩) rfl (fun K hK => ?_) AllReadyH.nil
  go_simp
  (try (rw [rowIn_of (old := rowN .u64 64 4 0) (t' := 24) (by ((try rw [← Array.getElem?_eq_getElem]); repeat (first | exact heap_alloc_new _ _ | exact heap_alloc2_new _ _ _ | refine keep_alloc ?_ | refine keep_fr (by assumption) ?_))) (rowN_size _ _ _ _) (rowN_size _ _ _ _) (rowN_rowOne _ _ _ _)]; go_simp))
  refine hK.out _ _ ?_ (fun hHeld => ?_)
  · ((try dsimp only) <;> (first | exact ⟨⟨r1, r2, r3, r4⟩, F.drew⟩ | exact ⟨⟨keep_fr f5 hHeld.1.1, keep_fr f5 hHeld.1.2.1, keep_fr f5 hHeld.1.2.2.1, keep_fr f5 hHeld.1.2.2.2⟩, hHeld.2.trans' f5⟩ | exact ⟨⟨keep_alloc hHeld.1.1, keep_alloc hHeld.1.2.1, keep_alloc hHeld.1.2.2.1, keep_alloc hHeld.1.2.2.2⟩, hHeld.2.alloc _⟩ | exact ⟨⟨keep_row (by have := HG0.out; omega) hHeld.1.1, keep_row (by have := HG0.out; omega) hHeld.1.2.1, keep_row (by have := HG0.out; omega) hHeld.1.2.2.1, keep_row (by have := HG0.out; omega) hHeld.1.2.2.2⟩, hHeld.2.setRow (fun h => by have := HG0.out; omega) _⟩))
  clear hK K
  try (simp only [Act.put, List.setIfInBounds_toArray]; dsimp only [List.set_cons_zero, List.set_cons_succ])
  refine wpAnyH_ready (rs := [11]) (by kernel_rfl) (by simp) ?_
  refine AllReadyH.cons (o := ⟨_, _, _, _, _, _⟩) rfl (fun K hK => ?_) AllReadyH.nil
  go_simp
  (try (rw [rowIn_of (old := rowN .u64 64 4 0) (t' := 24) (by ((try rw [← Array.getElem?_eq_getElem]); repeat (first | exact heap_alloc_new _ _ | exact heap_alloc2_new _ _ _ | refine keep_row (by (try simp only [World.size_alloc]); omega) ?_ | refine keep_alloc ?_ | refine keep_fr (by assumption) ?_))) (rowN_size _ _ _ _) (rowN_size _ _ _ _) (rowN_rowOne _ _ _ _)]; go_simp))
  refine hK.out _ _ ?_ (fun hHeld => ?_)
  · ((try dsimp only) <;> (first | exact ⟨⟨r1, r2, r3, r4⟩, F.drew⟩ | exact ⟨⟨keep_fr f5 hHeld.1.1, keep_fr f5 hHeld.1.2.1, keep_fr f5 hHeld.1.2.2.1, keep_fr f5 hHeld.1.2.2.2⟩, hHeld.2.trans' f5⟩ | exact ⟨⟨keep_alloc hHeld.1.1, keep_alloc hHeld.1.2.1, keep_alloc hHeld.1.2.2.1, keep_alloc hHeld.1.2.2.2⟩, hHeld.2.alloc _⟩ | exact ⟨⟨keep_row (by have := HG0.out; omega) hHeld.1.1, keep_row (by have := HG0.out; omega) hHeld.1.2.1, keep_row (by have := HG0.out; omega) hHeld.1.2.2.1, keep_row (by have := HG0.out; omega) hHeld.1.2.2.2⟩, hHeld.2.setRow (fun h => by have := HG0.out; omega) _⟩))
  clear hK K
  try (simp only [Act.put, List.setIfInBounds_toArray]; dsimp only [List.set_cons_zero, List.set_cons_succ])
  refine wpAnyH_take (i := 12) (oi := ⟨_, _, _, _, _, _⟩) (v := ?_) rfl (by kernel_rfl) (by kernel_rfl) (by kernel_rfl) (fun _ _ _ h => h) (Or.inl ⟨by rfl, ?_⟩) (by assumption) ?_
  rotate_left
  · intro w hSw; (try dsimp only at hSw); go_simp; (try (with_reducible rfl)); done
  simp only [Act.put, List.setIfInBounds_toArray]; dsimp only [List.set_cons_zero, List.set_cons_succ]
  refine wpAnyH_done (by kernel_rfl) ?_ _
  refine NoPanic.normal ?_
  rotate_left
  go_simp
  refine hK.out _ _ ?_ (fun hHeld => ?_)
  · ((try dsimp only) <;> (first | exact ⟨⟨r1, r2, r3, r4⟩, F.drew⟩ | exact ⟨⟨keep_fr f5 hHeld.1.1, keep_fr f5 hHeld.1.2.1, keep_fr f5 hHeld.1.2.2.1, keep_fr f5 hHeld.1.2.2.2⟩, hHeld.2.trans' f5⟩ | exact ⟨⟨keep_alloc hHeld.1.1, keep_alloc hHeld.1.2.1, keep_alloc hHeld.1.2.2.1, keep_alloc hHeld.1.2.2.2⟩, hHeld.2.alloc _⟩ | exact ⟨⟨keep_row (by have := HG0.out; omega) hHeld.1.1, keep_row (by have := HG0.out; omega) hHeld.1.2.1, keep_row (by have := HG0.out; omega) hHeld.1.2.2.1, keep_row (by have := HG0.out; omega) hHeld.1.2.2.2⟩, hHeld.2.setRow (fun h => by have := HG0.out; omega) _⟩))
  clear hK K
  try (simp only [Act.put, List.setIfInBounds_toArray]; dsimp only [List.set_cons_zero, List.set_cons_succ])
  refine wpAnyH_ready (rs := [1, 8]) (by kernel_rfl) (by simp) ?_
  refine AllReadyH.cons (o := ⟨_, _, _, _, _, _⟩) rfl (fun K hK => ?_) (AllReadyH.cons (o := ⟨_, _, _, _, _, _⟩) rfl (fun K hK => ?_) AllReadyH.nil)
  go_simp
  (refine (HN.out _).mono ?_; rintro e w5 ⟨rfl, f5⟩; have z5 := f5.size; (try simp only [World.size_alloc, heap_drew'] at z5))
  refine hK.out _ _ ?_ (fun hHeld => ?_)
  · ((try dsimp only) <;> (first | exact ⟨⟨r1, r2, r3, r4⟩, F.drew⟩ | exact ⟨⟨keep_fr f5 hHeld.1.1, keep_fr f5 hHeld.1.2.1, keep_fr f5 hHeld.1.2.2.1, keep_fr f5 hHeld.1.2.2.2⟩, hHeld.2.trans' f5⟩ | exact ⟨⟨keep_alloc hHeld.1.1, keep_alloc hHeld.1.2.1, keep_alloc hHeld.1.2.2.1, keep_alloc hHeld.1.2.2.2⟩, hHeld.2.alloc _⟩ | exact ⟨⟨keep_row (by have := HG0.out; omega) hHeld.1.1, keep_row (by have := HG0.out; omega) hHeld.1.2.1, keep_row (by have := HG0.out; omega) hHeld.1.2.2.1, keep_row (by have := HG0.out; omega) hHeld.1.2.2.2⟩, hHeld.2.setRow (fun h => by have := HG0.out; omega) _⟩))
  clear hK K
  try (simp only [Act.put, List.setIfInBounds_toArray]; dsimp only [List.set_cons_zero, List.set_cons_succ])
  refine wpAnyH_ready (rs := [3, 8]) (by kernel_rfl) (by simp) ?_
  refine AllReadyH.cons (o := ⟨_, _, _, _, _, _⟩) rfl (fun K hK => ?_) (AllReadyH.cons (o := ⟨_, _, _, _, _, _⟩) rfl (fun K hK => ?_) AllReadyH.nil)
  go_simp
  (refine (HD.out _).mono ?_; rintro e w5 ⟨rfl, f5⟩; have z5 := f5.size; (try simp only [World.size_alloc, heap_drew'] at z5))
  refine hK.out _ _ ?_ (fun hHeld => ?_)
  · ((try dsimp only) <;> (first | exact ⟨⟨r1, r2, r3, r4⟩, F.drew⟩ | exact ⟨⟨keep_fr f5 hHeld.1.1, keep_fr f5 hHeld.1.2.1, keep_fr f5 hHeld.1.2.2.1, keep_fr f5 hHeld.1.2.2.2⟩, hHeld.2.trans' f5⟩ | exact ⟨⟨keep_alloc hHeld.1.1, keep_alloc hHeld.1.2.1, keep_alloc hHeld.1.2.2.1, keep_alloc hHeld.1.2.2.2⟩, hHeld.2.alloc _⟩ | exact ⟨⟨keep_row (by have := HG0.out; omega) hHeld.1.1, keep_row (by have := HG0.out; omega) hHeld.1.2.1, keep_row (by have := HG0.out; omega) hHeld.1.2.2.1, keep_row (by have := HG0.out; omega) hHeld.1.2.2.2⟩, hHeld.2.setRow (fun h => by have := HG0.out; omega) _⟩))
  clear hK K
  try (simp only [Act.put, List.setIfInBounds_toArray]; dsimp only [List.set_cons_zero, List.set_cons_succ])
  refine wpAnyH_take (i := 4) (oi := ⟨_, _, _, _, _, _⟩) (v := ?_) rfl (by kernel_rfl) (by kernel_rfl) (by kernel_rfl) (fun _ _ _ h => h) (Or.inl ⟨by rfl, ?_⟩) (by assumption) ?_
  rotate_left
  · intro w hSw; (try dsimp only at hSw); go_simp; (try (with_reducible rfl)); done
  simp only [Act.put, List.setIfInBounds_toArray]; dsimp only [List.set_cons_zero, List.set_cons_succ]
  refine wpAnyH_take (i := 5) (oi := ⟨_, _, _, _, _, _⟩) (v := ?_) rfl (by kernel_rfl) (by kernel_rfl) (by kernel_rfl) (fun _ _ _ h => h) (Or.inl ⟨by rfl, ?_⟩) (by assumption) ?_
  rotate_left
  · intro w hSw; (try dsimp only at hSw); go_simp; (try (with_reducible rfl)); done
  simp only [Act.put, List.setIfInBounds_toArray]; dsimp only [List.set_cons_zero, List.set_cons_succ]
  refine wpAnyH_take (i := 6) (oi := ⟨_, _, _, _, _, _⟩) (v := ?_) rfl (by kernel_rfl) (by kernel_rfl) (by kernel_rfl) (fun _ _ _ h => h) (Or.inl ⟨by rfl, ?_⟩) (by assumption) ?_
  rotate_left
  · intro w hSw; (try dsimp only at hSw); go_simp; (try (with_reducible rfl)); done
  simp only [Act.put, List.setIfInBounds_toArray]; dsimp only [List.set_cons_zero, List.set_cons_succ]
  refine wpAnyH_take (i := 7) (oi := ⟨_, _, _, _, _, _⟩) (v := ?_) rfl (by kernel_rfl) (by kernel_rfl) (by kernel_rfl) (fun _ _ _ h => h) (Or.inl ⟨by rfl, ?_⟩) (by assumption) ?_
  rotate_left
  · intro w hSw; (try dsimp only at hSw); go_simp; (try (with_reducible rfl)); done
  simp only [Act.put, List.setIfInBounds_toArray]; dsimp only [List.set_cons_zero, List.set_cons_succ]
  refine wpAnyH_ready (rs := [8]) (by kernel_rfl) (by simp) ?_
  refine AllReadyH.cons (o := ⟨_, _, _, _, _, _⟩) rfl (fun K hK => ?_) AllReadyH.nil
  go_simp
  refine hK.out _ _ ?_ (fun hHeld => ?_)
  · ((try dsimp only) <;> (first | exact ⟨⟨r1, r2, r3, r4⟩, F.drew⟩ | exact ⟨⟨keep_fr f5 hHeld.1.1, keep_fr f5 hHeld.1.2.1, keep_fr f5 hHeld.1.2.2.1, keep_fr f5 hHeld.1.2.2.2⟩, hHeld.2.trans' f5⟩ | exact ⟨⟨keep_alloc hHeld.1.1, keep_alloc hHeld.1.2.1, keep_alloc hHeld.1.2.2.1, keep_alloc hHeld.1.2.2.2⟩, hHeld.2.alloc _⟩ | exact ⟨⟨keep_row (by have := HG0.out; omega) hHeld.1.1, keep_row (by have := HG0.out; omega) hHeld.1.2.1, keep_row (by have := HG0.out; omega) hHeld.1.2.2.1, keep_row (by have := HG0.out; omega) hHeld.1.2.2.2⟩, hHeld.2.setRow (fun h => by have := HG0.out; omega) _⟩))
  clear hK K
  try (simp only [Act.put, List.setIfInBounds_toArray]; dsimp only [List.set_cons_zero, List.set_cons_succ])
  refine wpAnyH_ready (rs := [10]) (by kernel_rfl) (by simp) ?_
  refine AllReadyH.cons (o := ⟨_, _, _, _, _, _⟩) rfl (fun K hK => ?_) AllReadyH.nil
  go_simp
  (try (rw [rowIn_of (old := rowN .u64 64 4 0) (t' := 24) (by ((try rw [← Array.getElem?_eq_getElem]); repeat (first | exact heap_alloc_new _ _ | exact heap_alloc2_new _ _ _ | refine keep_alloc ?_ | refine keep_fr (by assumption) ?_))) (rowN_size _ _ _ _) (rowN_size _ _ _ _) (rowN_rowOne _ _ _ _)]; go_simp))
  refine hK.out _ _ ?_ (fun hHeld => ?_)
  · ((try dsimp only) <;> (first | exact ⟨⟨r1, r2, r3, r4⟩, F.drew⟩ | exact ⟨⟨keep_fr f5 hHeld.1.1, keep_fr f5 hHeld.1.2.1, keep_fr f5 hHeld.1.2.2.1, keep_fr f5 hHeld.1.2.2.2⟩, hHeld.2.trans' f5⟩ | exact ⟨⟨keep_alloc hHeld.1.1, keep_alloc hHeld.1.2.1, keep_alloc hHeld.1.2.2.1, keep_alloc hHeld.1.2.2.2⟩, hHeld.2.alloc _⟩ | exact ⟨⟨keep_row (by have := HG0.out; omega) hHeld.1.1, keep_row (by have := HG0.out; omega) hHeld.1.2.1, keep_row (by have := HG0.out; omega) hHeld.1.2.2.1, keep_row (by have := HG0.out; omega) hHeld.1.2.2.2⟩, hHeld.2.setRow (fun h => by have := HG0.out; omega) _⟩))
  clear hK K
  try (simp only [Act.put, List.setIfInBounds_toArray]; dsimp only [List.set_cons_zero, List.set_cons_succ])
  refine wpAnyH_ready (rs := [11]) (by kernel_rfl) (by simp) ?_
  refine AllReadyH.cons (o := ⟨_, _, _, _, _, _⟩) rfl (fun K hK => ?_) AllReadyH.nil
  go_simp
  (try (rw [rowIn_of (old := rowN .u64 64 4 0) (t' := 24) (by ((try rw [← Array.getElem?_eq_getElem]); repeat (first | exact heap_alloc_new _ _ | exact heap_alloc2_new _ _ _ | refine keep_row (by (try simp only [World.size_alloc]); omega) ?_ | refine keep_alloc ?_ | refine keep_fr (by assumption) ?_))) (rowN_size _ _ _ _) (rowN_size _ _ _ _) (rowN_rowOne _ _ _ _)]; go_simp))
  refine hK.out _ _ ?_ (fun hHeld => ?_)
  · ((try dsimp only) <;> (first | exact ⟨⟨r1, r2, r3, r4⟩, F.drew⟩ | exact ⟨⟨keep_fr f5 hHeld.1.1, keep_fr f5 hHeld.1.2.1, keep_fr f5 hHeld.1.2.2.1, keep_fr f5 hHeld.1.2.2.2⟩, hHeld.2.trans' f5⟩ | exact ⟨⟨keep_alloc hHeld.1.1, keep_alloc hHeld.1.2.1, keep_alloc hHeld.1.2.2.1, keep_alloc hHeld.1.2.2.2⟩, hHeld.2.alloc _⟩ | exact ⟨⟨keep_row (by have := HG0.out; omega) hHeld.1.1, keep_row (by have := HG0.out; omega) hHeld.1.2.1, keep_row (by have := HG0.out; omega) hHeld.1.2.2.1, keep_row (by have := HG0.out; omega) hHeld.1.2.2.2⟩, hHeld.2.setRow (fun h => by have := HG0.out; omega) _⟩))
  clear hK K
  try (simp only [Act.put, List.setIfInBounds_toArray]; dsimp only [List.set_cons_zero, List.set_cons_succ])
  refine wpAnyH_take (i := 12) (oi := ⟨_, _, _, _, _, _⟩) (v := ?_) rfl (by kernel_rfl) (by kernel_rfl) (by kernel_rfl) (fun _ _ _ h => h) (Or.inl ⟨by rfl, ?_⟩) (by assumption) ?_
  rotate_left
  · intro w hSw; (try dsimp only at hSw); go_simp; (try (with_reducible rfl)); done
  simp only [Act.put, List.setIfInBounds_toArray]; dsimp only [List.set_cons_zero, List.set_cons_succ]
  refine wpAnyH_done (by kernel_rfl) ?_ _
  refine NoPanic.normal ?_
  rotate_left
  go_simp
  refine hK.out _ _ ?_ (fun hHeld => ?_)
  · ((try dsimp only) <;> (first | exact ⟨⟨r1, r2, r3, r4⟩, F.drew⟩ | exact ⟨⟨keep_fr f5 hHeld.1.1, keep_fr f5 hHeld.1.2.1, keep_fr f5 hHeld.1.2.2.1, keep_fr f5 hHeld.1.2.2.2⟩, hHeld.2.trans' f5⟩ | exact ⟨⟨keep_alloc hHeld.1.1, keep_alloc hHeld.1.2.1, keep_alloc hHeld.1.2.2.1, keep_alloc hHeld.1.2.2.2⟩, hHeld.2.alloc _⟩ | exact ⟨⟨keep_row (by have := HG0.out; omega) hHeld.1.1, keep_row (by have := HG0.out; omega) hHeld.1.2.1, keep_row (by have := HG0.out; omega) hHeld.1.2.2.1, keep_row (by have := HG0.out; omega) hHeld.1.2.2.2⟩, hHeld.2.setRow (fun h => by have := HG0.out; omega) _⟩))
  clear hK K
  try (simp only [Act.put, List.setIfInBounds_toArray]; dsimp only [List.set_cons_zero, List.set_cons_succ])
  refine wpAnyH_ready (rs := [3]) (by kernel_rfl) (by simp) ?_
  refine AllReadyH.cons (o := ⟨_, _, _, _, _, _⟩) rfl (fun K hK => ?_) AllReadyH.nil
  go_simp
  (refine (HD.out _).mono ?_; rintro e w5 ⟨rfl, f5⟩; have z5 := f5.size; (try simp only [World.size_alloc, heap_drew'] at z5))
  refine hK.out _ _ ?_ (fun hHeld => ?_)
  · ((try dsimp only) <;> (first | exact ⟨⟨r1, r2, r3, r4⟩, F.drew⟩ | exact ⟨⟨keep_fr f5 hHeld.1.1, keep_fr f5 hHeld.1.2.1, keep_fr f5 hHeld.1.2.2.1, keep_fr f5 hHeld.1.2.2.2⟩, hHeld.2.trans' f5⟩ | exact ⟨⟨keep_alloc hHeld.1.1, keep_alloc hHeld.1.2.1, keep_alloc hHeld.1.2.2.1, keep_alloc hHeld.1.2.2.2⟩, hHeld.2.alloc _⟩ | exact ⟨⟨keep_row (by have := HG0.out; omega) hHeld.1.1, keep_row (by have := HG0.out; omega) hHeld.1.2.1, keep_row (by have := HG0.out; omega) hHeld.1.2.2.1, keep_row (by have := HG0.out; omega) hHeld.1.2.2.2⟩, hHeld.2.setRow (fun h => by have := HG0.out; omega) _⟩))
  clear hK K
  try (simp only [Act.put, List.setIfInBounds_toArray]; dsimp only [List.set_cons_zero, List.set_cons_succ])
  refine wpAnyH_take (i := 4) (oi := ⟨_, _, _, _, _, _⟩) (v := ?_) rfl (by kernel_rfl) (by kernel_rfl) (by kernel_rfl) (fun _ _ _ h => h) (Or.inl ⟨by rfl, ?_⟩) (by assumption) ?_
  rotate_left
  · intro w hSw; (try dsimp only at hSw); go_simp; (try (with_reducible rfl)); done
  simp only [Act.put, List.setIfInBounds_toArray]; dsimp only [List.set_cons_zero, List.set_cons_succ]
  refine wpAnyH_take (i := 5) (oi := ⟨_, _, _, _, _, _⟩) (v := ?_) rfl (by kernel_rfl) (by kernel_rfl) (by kernel_rfl) (fun _ _ _ h => h) (Or.inl ⟨by rfl, ?_⟩) (by assumption) ?_
  rotate_left
  · intro w hSw; (try dsimp only at hSw); go_simp; (try (with_reducible rfl)); done
  simp only [Act.put, List.setIfInBounds_toArray]; dsimp only [List.set_cons_zero, List.set_cons_succ]
  refine wpAnyH_take (i := 6) (oi := ⟨_, _, _, _, _, _⟩) (v := ?_) rfl (by kernel_rfl) (by kernel_rfl) (by kernel_rfl) (fun _ _ _ h => h) (Or.inl ⟨by rfl, ?_⟩) (by assumption) ?_
  rotate_left
  · intro w hSw; (try dsimp only at hSw); go_simp; (try (with_reducible rfl)); done
  simp only [Act.put, List.setIfInBounds_toArray]; dsimp only [List.set_cons_zero, List.set_cons_succ]
  refine wpAnyH_take (i := 7) (oi := ⟨_, _, _, _, _, _⟩) (v := ?_) rfl (by kernel_rfl) (by kernel_rfl) (by kernel_rfl) (fun _ _ _ h => h) (Or.inl ⟨by rfl, ?_⟩) (by assumption) ?_
  rotate_left
  · intro w hSw; (try dsimp only at hSw); go_simp; (try (with_reducible rfl)); done
  simp only [Act.put, List.setIfInBounds_toArray]; dsimp only [List.set_cons_zero, List.set_cons_succ]
  refine wpAnyH_ready (rs := [10]) (by kernel_rfl) (by simp) ?_
  refine AllReadyH.cons (o := ⟨_, _, _, _, _, _⟩) rfl (fun K hK => ?_) AllReadyH.nil
  go_simp
  (try (rw [rowIn_of (old := rowN .u64 64 4 0) (t' := 24) (by ((try rw [← Array.getElem?_eq_getElem]); repeat (first | exact heap_alloc_new _ _ | exact heap_alloc2_new _ _ _ | refine keep_alloc ?_ | refine keep_fr (by assumption) ?_))) (rowN_size _ _ _ _) (rowN_size _ _ _ _) (rowN_rowOne _ _ _ _)]; go_simp))
  refine hK.out _ _ ?_ (fun hHeld => ?_)
  · ((try dsimp only) <;> (first | exact ⟨⟨r1, r2, r3, r4⟩, F.drew⟩ | exact ⟨⟨keep_fr f5 hHeld.1.1, keep_fr f5 hHeld.1.2.1, keep_fr f5 hHeld.1.2.2.1, keep_fr f5 hHeld.1.2.2.2⟩, hHeld.2.trans' f5⟩ | exact ⟨⟨keep_alloc hHeld.1.1, keep_alloc hHeld.1.2.1, keep_alloc hHeld.1.2.2.1, keep_alloc hHeld.1.2.2.2⟩, hHeld.2.alloc _⟩ | exact ⟨⟨keep_row (by have := HG0.out; omega) hHeld.1.1, keep_row (by have := HG0.out; omega) hHeld.1.2.1, keep_row (by have := HG0.out; omega) hHeld.1.2.2.1, keep_row (by have := HG0.out; omega) hHeld.1.2.2.2⟩, hHeld.2.setRow (fun h => by have := HG0.out; omega) _⟩))
  clear hK K
  try (simp only [Act.put, List.setIfInBounds_toArray]; dsimp only [List.set_cons_zero, List.set_cons_succ])
  refine wpAnyH_ready (rs := [11]) (by kernel_rfl) (by simp) ?_
  refine AllReadyH.cons (o := ⟨_, _, _, _, _, _⟩) rfl (fun K hK => ?_) AllReadyH.nil
  go_simp
  (try (rw [rowIn_of (old := rowN .u64 64 4 0) (t' := 24) (by ((try rw [← Array.getElem?_eq_getElem]); repeat (first | exact heap_alloc_new _ _ | exact heap_alloc2_new _ _ _ | refine keep_row (by (try simp only [World.size_alloc]); omega) ?_ | refine keep_alloc ?_ | refine keep_fr (by assumption) ?_))) (rowN_size _ _ _ _) (rowN_size _ _ _ _) (rowN_rowOne _ _ _ _)]; go_simp))
  refine hK.out _ _ ?_ (fun hHeld => ?_)
  · ((try dsimp only) <;> (first | exact ⟨⟨r1, r2, r3, r4⟩, F.drew⟩ | exact ⟨⟨keep_fr f5 hHeld.1.1, keep_fr f5 hHeld.1.2.1, keep_fr f5 hHeld.1.2.2.1, keep_fr f5 hHeld.1.2.2.2⟩, hHeld.2.trans' f5⟩ | exact ⟨⟨keep_alloc hHeld.1.1, keep_alloc hHeld.1.2.1, keep_alloc hHeld.1.2.2.1, keep_alloc hHeld.1.2.2.2⟩, hHeld.2.alloc _⟩ | exact ⟨⟨keep_row (by have := HG0.out; omega) hHeld.1.1, keep_row (by have := HG0.out; omega) hHeld.1.2.1, keep_row (by have := HG0.out; omega) hHeld.1.2.2.1, keep_row (by have := HG0.out; omega) hHeld.1.2.2.2⟩, hHeld.2.setRow (fun h => by have := HG0.out; omega) _⟩))
  clear hK K
  try (simp only [Act.put, List.setIfInBounds_toArray]; dsimp only [List.set_cons_zero, List.set_cons_succ])
  refine wpAnyH_take (i := 12) (oi := ⟨_, _, _, _, _, _⟩) (v := ?_) rfl (by kernel_rfl) (by kernel_rfl) (by kernel_rfl) (fun _ _ _ h => h) (Or.inl ⟨by rfl, ?_⟩) (by assumption) ?_
  rotate_left
  · intro w hSw; (try dsimp only at hSw); go_simp; (try (with_reducible rfl)); done
  simp only [Act.put, List.setIfInBounds_toArray]; dsimp only [List.set_cons_zero, List.set_cons_succ]
  refine wpAnyH_done (by kernel_rfl) ?_ _
  refine NoPanic.normal ?_
  rotate_left
  go_simp
  refine hK.out _ _ ?_ (fun hHeld => ?_)
  · ((try dsimp only) <;> (first | exact ⟨⟨r1, r2, r3, r4⟩, F.drew⟩ | exact ⟨⟨keep_fr f5 hHeld.1.1, keep_fr f5 hHeld.1.2.1, keep_fr f5 hHeld.1.2.2.1, keep_fr f5 hHeld.1.2.2.2⟩, hHeld.2.trans' f5⟩ | exact ⟨⟨keep_alloc hHeld.1.1, keep_alloc hHeld.1.2.1, keep_alloc hHeld.1.2.2.1, keep_alloc hHeld.1.2.2.2⟩, hHeld.2.alloc _⟩ | exact ⟨⟨keep_row (by have := HG0.out; omega) hHeld.1.1, keep_row (by have := HG0.out; omega) hHeld.1.2.1, keep_row (by have := HG0.out; omega) hHeld.1.2.2.1, keep_row (by have := HG0.out; omega) hHeld.1.2.2.2⟩, hHeld.2.setRow (fun h => by have := HG0.out; omega) _⟩))
  clear hK K
  try (simp only [Act.put, List.setIfInBounds_toArray]; dsimp only [List.set_cons_zero, List.set_cons_succ])
  refine wpAnyH_ready (rs := [1]) (by kernel_rfl) (by simp) ?_
  refine AllReadyH.cons (o := ⟨_, _, _, _, _, _⟩) rfl (fun K hK => ?_) AllReadyH.nil
  go_simp
  (refine (HN.out _).mono ?_; rintro e w5 ⟨rfl, f5⟩; have z5 := f5.size; (try simp only [World.size_alloc, heap_drew'] at z5))
  refine hK.out _ _ ?_ (fun hHeld => ?_)
  · ((try dsimp only) <;> (first | exact ⟨⟨r1, r2, r3, r4⟩, F.drew⟩ | exact ⟨⟨keep_fr f5 hHeld.1.1, keep_fr f5 hHeld.1.2.1, keep_fr f5 hHeld.1.2.2.1, keep_fr f5 hHeld.1.2.2.2⟩, hHeld.2.trans' f5⟩ | exact ⟨⟨keep_alloc hHeld.1.1, keep_alloc hHeld.1.2.1, keep_alloc hHeld.1.2.2.1, keep_alloc hHeld.1.2.2.2⟩, hHeld.2.alloc _⟩ | exact ⟨⟨keep_row (by have := HG0.out; omega) hHeld.1.1, keep_row (by have := HG0.out; omega) hHeld.1.2.1, keep_row (by have := HG0.out; omega) hHeld.1.2.2.1, keep_row (by have := HG0.out; omega) hHeld.1.2.2.2⟩, hHeld.2.setRow (fun h => by have := HG0.out; omega) _⟩))
  clear hK K
  try (simp only [Act.put, List.setIfInBounds_toArray]; dsimp only [List.set_cons_zero, List.set_cons_succ])
  refine wpAnyH_ready (rs := [3]) (by kernel_rfl) (by simp) ?_
  refine AllReadyH.cons (o := ⟨_, _, _, _, _, _⟩) rfl (fun K hK => ?_) AllReadyH.nil
  go_simp
  (refine (HD.out _).mono ?_; rintro e w5 ⟨rfl, f5⟩; have z5 := f5.size; (try simp only [World.size_alloc, heap_drew'] at z5))
  refine hK.out _ _ ?_ (fun hHeld => ?_)
  · ((try dsimp only) <;> (first | exact ⟨⟨r1, r2, r3, r4⟩, F.drew⟩ | exact ⟨⟨keep_fr f5 hHeld.1.1, keep_fr f5 hHeld.1.2.1, keep_fr f5 hHeld.1.2.2.1, keep_fr f5 hHeld.1.2.2.2⟩, hHeld.2.trans' f5⟩ | exact ⟨⟨keep_alloc hHeld.1.1, keep_alloc hHeld.1.2.1, keep_alloc hHeld.1.2.2.1, keep_alloc hHeld.1.2.2.2⟩, hHeld.2.alloc _⟩ | exact ⟨⟨keep_row (by have := HG0.out; omega) hHeld.1.1, keep_row (by have := HG0.out; omega) hHeld.1.2.1, keep_row (by have := HG0.out; omega) hHeld.1.2.2.1, keep_row (by have := HG0.out; omega) hHeld.1.2.2.2⟩, hHeld.2.setRow (fun h => by have := HG0.out; omega) _⟩))
  clear hK K
  try (simp only [Act.put, List.setIfInBounds_toArray]; dsimp only [List.set_cons_zero, List.set_cons_succ])
  refine wpAnyH_take (i := 4) (oi := ⟨_, _, _, _, _, _⟩) (v := ?_) rfl (by kernel_rfl) (by kernel_rfl) (by kernel_rfl) (fun _ _ _ h => h) (Or.inl ⟨by rfl, ?_⟩) (by assumption) ?_
  rotate_left
  · intro w hSw; (try dsimp only at hSw); go_simp; (try (with_reducible rfl)); done
  simp only [Act.put, List.setIfInBounds_toArray]; dsimp only [List.set_cons_zero, List.set_cons_succ]
  refine wpAnyH_take (i := 5) (oi := ⟨_, _, _, _, _, _⟩) (v := ?_) rfl (by kernel_rfl) (by kernel_rfl) (by kernel_rfl) (fun _ _ _ h => h) (Or.inl ⟨by rfl, ?_⟩) (by assumption) ?_
  rotate_left
  · intro w hSw; (try dsimp only at hSw); go_simp; (try (with_reducible rfl)); done
  simp only [Act.put, List.setIfInBounds_toArray]; dsimp only [List.set_cons_zero, List.set_cons_succ]
  refine wpAnyH_take (i := 6) (oi := ⟨_, _, _, _, _, _⟩) (v := ?_) rfl (by kernel_rfl) (by kernel_rfl) (by kernel_rfl) (fun _ _ _ h => h) (Or.inl ⟨by rfl, ?_⟩) (by assumption) ?_
  rotate_left
  · intro w hSw; (try dsimp only at hSw); go_simp; (try (with_reducible rfl)); done
  simp only [Act.put, List.setIfInBounds_toArray]; dsimp only [List.set_cons_zero, List.set_cons_succ]
  refine wpAnyH_take (i := 7) (oi := ⟨_, _, _, _, _, _⟩) (v := ?_) rfl (by kernel_rfl) (by kernel_rfl) (by kernel_rfl) (fun _ _ _ h => h) (Or.inl ⟨by rfl, ?_⟩) (by assumption) ?_
  rotate_left
  · intro w hSw; (try dsimp only at hSw); go_simp; (try (with_reducible rfl)); done
  simp only [Act.put, List.setIfInBounds_toArray]; dsimp only [List.set_cons_zero, List.set_cons_succ]
  refine wpAnyH_ready (rs := [10]) (by kernel_rfl) (by simp) ?_
  refine AllReadyH.cons (o := ⟨_, _, _, _, _, _⟩) rfl (fun K hK => ?_) AllReadyH.nil
  go_simp
  (try (rw [rowIn_of (old := rowN .u64 64 4 0) (t' := 24) (by ((try rw [← Array.getElem?_eq_getElem]); repeat (first | exact heap_alloc_new _ _ | exact heap_alloc2_new _ _ _ | refine keep_alloc ?_ | refine keep_fr (by assumption) ?_))) (rowN_size _ _ _ _) (rowN_size _ _ _ _) (rowN_rowOne _ _ _ _)]; go_simp))
  refine hK.out _ _ ?_ (fun hHeld => ?_)
  · ((try dsimp only) <;> (first | exact ⟨⟨r1, r2, r3, r4⟩, F.drew⟩ | exact ⟨⟨keep_fr f5 hHeld.1.1, keep_fr f5 hHeld.1.2.1, keep_fr f5 hHeld.1.2.2.1, keep_fr f5 hHeld.1.2.2.2⟩, hHeld.2.trans' f5⟩ | exact ⟨⟨keep_alloc hHeld.1.1, keep_alloc hHeld.1.2.1, keep_alloc hHeld.1.2.2.1, keep_alloc hHeld.1.2.2.2⟩, hHeld.2.alloc _⟩ | exact ⟨⟨keep_row (by have := HG0.out; omega) hHeld.1.1, keep_row (by have := HG0.out; omega) hHeld.1.2.1, keep_row (by have := HG0.out; omega) hHeld.1.2.2.1, keep_row (by have := HG0.out; omega) hHeld.1.2.2.2⟩, hHeld.2.setRow (fun h => by have := HG0.out; omega) _⟩))
  clear hK K
  try (simp only [Act.put, List.setIfInBounds_toArray]; dsimp only [List.set_cons_zero, List.set_cons_succ])
  refine wpAnyH_ready (rs := [11]) (by kernel_rfl) (by simp) ?_
  refine AllReadyH.cons (o := ⟨_, _, _, _, _, _⟩) rfl (fun K hK => ?_) AllReadyH.nil
  go_simp
  (try (rw [rowIn_of (old := rowN .u64 64 4 0) (t' := 24) (by ((try rw [← Array.getElem?_eq_getElem]); repeat (first | exact heap_alloc_new _ _ | exact heap_alloc2_new _ _ _ | refine keep_row (by (try simp only [World.size_alloc]); omega) ?_ | refine keep_alloc ?_ | refine keep_fr (by assumption) ?_))) (rowN_size _ _ _ _) (rowN_size _ _ _ _) (rowN_rowOne _ _ _ _)]; go_simp))
  refine hK.out _ _ ?_ (fun hHeld => ?_)
  · ((try dsimp only) <;> (first | exact ⟨⟨r1, r2, r3, r4⟩, F.drew⟩ | exact ⟨⟨keep_fr f5 hHeld.1.1, keep_fr f5 hHeld.1.2.1, keep_fr f5 hHeld.1.2.2.1, keep_fr f5 hHeld.1.2.2.2⟩, hHeld.2.trans' f5⟩ | exact ⟨⟨keep_alloc hHeld.1.1, keep_alloc hHeld.1.2.1, keep_alloc hHeld.1.2.2.1, keep_alloc hHeld.1.2.2.2⟩, hHeld.2.alloc _⟩ | exact ⟨⟨keep_row (by have := HG0.out; omega) hHeld.1.1, keep_row (by have := HG0.out; omega) hHeld.1.2.1, keep_row (by have := HG0.out; omega) hHeld.1.2.2.1, keep_row (by have := HG0.out; omega) hHeld.1.2.2.2⟩, hHeld.2.setRow (fun h => by have := HG0.out; omega) _⟩))
  clear hK K
  try (simp only [Act.put, List.setIfInBounds_toArray]; dsimp only [List.set_cons_zero, List.set_cons_succ])
  refine wpAnyH_take (i := 12) (oi := ⟨_, _, _, _, _, _⟩) (v := ?_) rfl (by kernel_rfl) (by kernel_rfl) (by kernel_rfl) (fun _ _ _ h => h) (Or.inl ⟨by rfl, ?_⟩) (by assumption) ?_
  rotate_left
  · intro w hSw; (try dsimp only at hSw); go_simp; (try (with_reducible rfl)); done
  simp only [Act.put, List.setIfInBounds_toArray]; dsimp only [List.set_cons_zero, List.set_cons_succ]
  refine wpAnyH_done (by kernel_rfl) ?_ _
  refine NoPanic.normal ?_
  rotate_left
  all_goals
    refine hK.out ⟨⟨_, rfl, ?_⟩, hHeld.1, hHeld.2⟩
    refine keep_row (by (try simp only [World.size_alloc]); omega) (new_row (z := rowN .u64 64 4 0) (t := 24) (f := (0, 0)) ?_)
    repeat (first | exact heap_alloc_new _ _ | exact heap_alloc2_new _ _ _ | refine keep_alloc ?_ | refine keep_fr (by assumption) ?_)

set_option maxRecDepth 100000 in
set_option maxHeartbeats 4000000 in
theorem tWork_core (t m n q r v : Nat) (oz oo : Bool) (hz : rowEq 256 t 0 = oz) (w : World)
    (HO : Hid (∀ w, Calls Try.prog 25 #[.int .u64 1] w fun o w' => o = .returned (.agg (rowN .u64 64 4 1)) ∧ Fr F0 w w'))
    (HA : Hid (∀ w, Calls Try.prog 39 #[.agg (rowN .u64 64 4 t), .agg (rowN .u64 64 4 1)] w fun o w' => o = .returned (.tuple #[.agg (rowN .u64 64 4 m), .bool oo]) ∧ Fr F0 w w'))
    (HN : Hid (∀ w, Calls Try.prog 10 #[.agg (rowN .u64 64 4 t)] w fun o w' => o = .returned (.agg (rowN .u64 64 4 n)) ∧ Fr F0 w w'))
    (HD : Hid (oz = false → oo = false → ∀ w, Calls Try.prog 40 #[.agg (rowN .u64 64 4 n), .agg (rowN .u64 64 4 m)] w fun o w' => o = .returned (.tuple #[.agg (rowN .u64 64 4 q), .agg (rowN .u64 64 4 r), .int .i64 0]) ∧ Fr F0 w w'))
    (HB : Hid (oz = false → oo = false → ∀ w, Calls Try.prog 39 #[.agg (rowN .u64 64 4 q), .agg (rowN .u64 64 4 1)] w fun o w' => o = .returned (.tuple #[.agg (rowN .u64 64 4 v), .bool false]) ∧ Fr F0 w w')) :
    Calls Try.prog 18 #[.agg (rowN .u64 64 4 t)] w fun o w' => o = .returned (.agg (rowN .u64 64 4 (if oz = true then n else if oo = true then 1 else v))) ∧ Fr F0 w w' := by
  have HR : Hid (∃ R, R = (if oz = true then n else if oo = true then 1 else v)) := Lib.hid ⟨_, rfl⟩
  obtain ⟨R, hR⟩ := HR.out
  rw [← hR]
  have HR2 := Lib.hid hR
  clear HR hR
  go_enter Try.func18, Try.ntmps18
  go_wp2_with fail
  (with_reducible refine (HO.out _).mono ?_); rintro o w1 ⟨rfl, f⟩
  obtain ⟨r1, r2⟩ := heap2 w (.cells (rowN .u64 64 4 t) 24) (.cells (rowN .u64 64 4 0) 24)
  replace r1 := keep_fr f r1
  replace r2 := keep_fr f r2
  have F := (((Fr.refl F0 w).alloc (.cells (rowN .u64 64 4 t) 24)).alloc (.cells (rowN .u64 64 4 0) 24)).trans' f
  clear f
  generalize hg2 : w.heap.size + 1 = g2 at *
  generalize hg1 : w.heap.size = g1 at *
  have HG := Lib.hid (show w.heap.size ≤ g2 by omega)
  clear hg1 hg2
  go_upto_region 2 with fail
  obtain ⟨W2, hW2⟩ : ∃ W, W = (w1.alloc (.cells (rowN .u64 64 4 0) 24)).setRow w1.heap.size (rowN .u64 64 4 1) := ⟨_, rfl⟩
  have N := put_new w1 (rowN .u64 64 4 0) (rowN .u64 64 4 1) 24
  rw [← hW2] at N
  refine wp_of_world W2 hW2 ?_
  have r3 := N.new
  replace r1 := N.old r1
  replace r2 := N.old r2
  replace F := F.trans' N.fr
  clear N hW2
  generalize w1.heap.size = g3 at *
  go_wp2_with fail
  (with_reducible refine (HA.out _).mono ?_); rintro o w4 ⟨rfl, f⟩
  replace r1 := keep_fr f r1
  replace r2 := keep_fr f r2
  replace r3 := keep_fr f r3
  replace F := F.trans' f
  clear f
  go_upto_region 3 with fail
  obtain ⟨W5, hW5⟩ : ∃ W, W = (w4.alloc (.cells (rowN .u64 64 4 0) 24)).setRow w4.heap.size (rowN .u64 64 4 m) := ⟨_, rfl⟩
  have N := put_new w4 (rowN .u64 64 4 0) (rowN .u64 64 4 m) 24
  rw [← hW5] at N
  refine wp_of_world W5 hW5 ?_
  have r4 := N.new
  replace r1 := N.old r1
  replace r2 := N.old r2
  replace r3 := N.old r3
  replace F := F.trans' N.fr
  clear N hW5
  generalize w4.heap.size = g4 at *
  cases oz
  · cases oo
    · have HD2 := Lib.hid (HD.out rfl rfl)
      have HB2 := Lib.hid (HB.out rfl rfl)
      clear HD HB
      go_upto_region 7 with fail
      refine tk7 w W5 t n m q r g1 g2 g3 g4 HN HD2 r1 r2 r3 r4 F (Lib.hid ?_)
      clear r1 r2 r3 r4 F
      rename_i w7
      rintro ⟨⟨p1, rfl, r6⟩, ⟨r1, r2, r3, r4⟩, F⟩
      go_wp2_with fail
      (with_reducible refine (HB2.out _).mono ?_); rintro o w8 ⟨rfl, f⟩
      replace r2 := keep_fr f r2
      replace F := F.trans' f
      clear f r1 r3 r4 r6
      go_upto_region 9 with fail
      obtain ⟨W9, hW9⟩ : ∃ W, W = (w8.alloc (.cells (rowN .u64 64 4 0) 24)).setRow w8.heap.size (rowN .u64 64 4 v) := ⟨_, rfl⟩
      have N := put_new w8 (rowN .u64 64 4 0) (rowN .u64 64 4 v) 24
      rw [← hW9] at N
      refine wp_of_world W9 hW9 ?_
      have r9 := N.new
      replace r2 := N.old r2
      replace F := F.trans' N.fr
      clear N hW9
      generalize w8.heap.size = g9 at *
      go_wp2_with fail
      refine bodyPost_ret (results_cell_row rfl _ _ g2 _ _ _ _ rfl (new_row r2) Try.underlying24 rfl (by rw [Try.szWide]; rfl)) rfl ⟨by rw [HR2.out]; rfl, F.setRow (fun h => by have := HG.out; omega) _⟩
    · go_wp2_with fail
      refine bodyPost_ret (results_cell_row rfl _ _ g2 _ _ _ _ rfl (new_row r2) Try.underlying24 rfl (by rw [Try.szWide]; rfl)) rfl ⟨by rw [HR2.out]; rfl, F.setRow (fun h => by have := HG.out; omega) _⟩
  · go_wp2_with fail
    (with_reducible refine (HN.out _).mono ?_); rintro o w8 ⟨rfl, f⟩
    replace r2 := keep_fr f r2
    replace F := F.trans' f
    go_wp2_with fail
    refine bodyPost_ret (results_cell_row rfl _ _ g2 _ _ _ _ rfl (new_row r2) Try.underlying24 rfl (by rw [Try.szWide]; rfl)) rfl ⟨by rw [HR2.out]; rfl, F.setRow (fun h => by have := HG.out; omega) _⟩

theorem workC : WorkC := by
  intro t ht w
  have h1W : 1 < W256 := word_w (by omega)
  have hz := rowEq_0 t ht _ rfl
  have hA := fun w => wAdd_any t 1 ht h1W w
  have key : wkN t = if decide (t = 0) = true then W256 - 1 - t else if decide (W256 ≤ t + 1) = true then 1 else (W256 - 1 - t) / (t + 1) + 1 := by
    unfold wkN
    by_cases h0 : t = 0
    · rw [if_pos h0, decide_eq_true h0, if_pos rfl, h0]; rfl
    · rw [if_neg h0, decide_eq_false h0, if_neg (by decide)]
      by_cases h1 : W256 ≤ t + 1
      · rw [decide_eq_true h1, if_pos rfl]
        have : t + 1 = W256 := by omega
        rw [this, Nat.div_self W256_pos]
      · rw [decide_eq_false h1, if_neg (by decide), ← Nat.add_div_right _ (by omega)]
        congr 1
        omega
  rw [key]
  refine tWork_core t ((t + 1) % W256) (W256 - 1 - t) ((W256 - 1 - t) / (t + 1)) ((W256 - 1 - t) % (t + 1)) ((W256 - 1 - t) / (t + 1) + 1) (decide (t = 0)) (decide (W256 ≤ t + 1)) hz w
    (Lib.hid fun w => show Calls Try.prog 25 #[.int .u64 1] w _ from wOf_any 1 (by omega) w) (Lib.hid hA) (Lib.hid fun w => wNot_any t ht w) (Lib.hid fun h0 h1 w => ?_) (Lib.hid fun h0 h1 w => ?_)
  · have h2 : t + 1 < W256 := Nat.not_le.1 (of_decide_eq_false h1)
    rw [Nat.mod_eq_of_lt h2]
    exact wDiv_any _ _ (by omega) h2 (by omega) w
  · have h2 : t + 1 < W256 := Nat.not_le.1 (of_decide_eq_false h1)
    have h3 : t ≠ 0 := of_decide_eq_false h0
    have h4 : (W256 - 1 - t) / (t + 1) + 1 < W256 := by
      have : (W256 - 1 - t) / (t + 1) ≤ (W256 - 1 - t) := Nat.div_le_self _ _
      omega
    have := wAdd_any ((W256 - 1 - t) / (t + 1)) 1 (by omega) h1W w
    rwa [Nat.mod_eq_of_lt h4, decide_eq_false (by omega)] at this
end Go.Proofs.Ytgdnmmobnfjegaa
