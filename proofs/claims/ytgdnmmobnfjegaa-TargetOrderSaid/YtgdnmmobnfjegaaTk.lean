/- Layer 6 (target): what its functions are asked for, as hypotheses of the laws; hashes as numbers; the fixed fact. -/
import Derived.Test.YtgdnmmobnfjegaaPe
import Derived.Test.YtgdnmmobnfjegaaFb
import Derived.Test.YtgdnmmobnfjegaaLr
import Derived.Test.YtgdnmmobnfjegaaUi
namespace Go.Proofs.Ytgdnmmobnfjegaa
set_option linter.unusedVariables false
set_option linter.unusedSimpArgs false
open Go.RowKit

theorem Try.szHash : (Try.prog.info? 26).map (·.size) = some 32 := by kernel_rfl
@[go_sem ↓ high] theorem load_hash (p : Value) : Instr.loadAt 26 p = loadRowAt 26 p := rfl
@[go_sem] theorem run_load_hash (w : World) (g : Nat) : (loadRowAt 26 (.pointer (some ⟨g, 0, none⟩))).run Try.prog w = rowOut Try.prog 26 (.pointer (some ⟨g, 0, none⟩)) w 32 w.heap[g]? :=
  run_loadRowAt w _ g 32 _ Try.underlying26 rfl Try.szHash

def DecC : Prop := ∀ (b : Nat), b < 4294967296 →
  (btP b → ∀ w, Calls Try.prog 12 #[.int .u32 (b : Int)] w fun e w' => e = .returned (.tuple #[.agg (rowN .u64 64 4 (btT b)), .int .i64 0]) ∧ Fr F0 w w') ∧
  (¬ btP b → ∀ w, Calls Try.prog 12 #[.int .u32 (b : Int)] w fun e w' => e = .returned (.tuple #[.agg (rowN .u64 64 4 0), .int .i64 6]) ∧ Fr F0 w w')
def EncC : Prop := ∀ (t : Nat), t < W256 → ∀ w, Calls Try.prog 15 #[.agg (rowN .u64 64 4 t)] w fun e w' => e = .returned (.int .u32 (enB t : Nat)) ∧ Fr F0 w w'
def WorkC : Prop := ∀ (t : Nat), t < W256 → ∀ w, Calls Try.prog 18 #[.agg (rowN .u64 64 4 t)] w fun e w' => e = .returned (.agg (rowN .u64 64 4 (wkN t))) ∧ Fr F0 w w'
def MeetsC : Prop := ∀ (h t : Nat) (o : Bool), h < W256 → t < W256 → decide (h ≤ t) = o → ∀ w, Calls Try.prog 8 #[.agg (rowN .u8 8 32 h), .agg (rowN .u64 64 4 t)] w fun e w' => e = .returned (.bool o) ∧ Fr F0 w w'
def scE (by' most : Nat) : Int := if by' = 0 then 5 else if most = 0 then 1 else 0
def scV (t up by' most : Nat) : Nat := if by' = 0 then 0 else if most = 0 then 0 else scN t up by' most
def ScaleC : Prop := ∀ (t up by' most : Nat), t < W256 → up < 18446744073709551616 → by' < 18446744073709551616 → most < W256 → ∀ w,
  Calls Try.prog 23 #[.agg (rowN .u64 64 4 t), .int .u64 (up : Int), .int .u64 (by' : Int), .agg (rowN .u64 64 4 most)] w fun e w' => e = .returned (.tuple #[.agg (rowN .u64 64 4 (scV t up by' most)), .int .i64 (scE by' most)]) ∧ Fr F0 w w'

theorem live6a : decide (btP 486604799) = true := by decide +kernel
theorem live6b : upBy 65535 208 = btT 486604799 := by decide +kernel
theorem live6c : wkN (btT 486604799) = 4295032833 := by decide +kernel
theorem live6d : btT 486604799 < W256 := by decide +kernel

set_option maxRecDepth 100000 in
set_option maxHeartbeats 4000000 in
theorem lives06_any (HD : DecC) (HW : WorkC) (w : World) : Calls Try.prog 7 #[] w fun e w' => e = .returned (.bool true) ∧ Fr F0 w w' := by
  have H1 := Lib.hid (fun w => show Calls Try.prog 12 #[.int .u32 486604799] w _ from (HD 486604799 (by omega)).1 (of_decide_eq_true live6a) w)
  have H2 := Lib.hid (fun w => show Calls Try.prog 25 #[.int .u64 65535] w _ from wOf_any 65535 (by omega) w)
  have H3 := Lib.hid (wLeft_any 65535 208 (word_w (by omega)) (by omega) (by omega))
  have H4 := Lib.hid (HW (btT 486604799) live6d)
  have H5 := Lib.hid (fun w => show Calls Try.prog 25 #[.int .u64 4295032833] w _ from wOf_any 4295032833 (by omega) w)
  rw [live6b] at H3
  rw [live6c] at H4
  clear HD HW
  generalize btT 486604799 = A at *
  generalize hB : (65535 : Nat) = B at *
  generalize hC : (4295032833 : Nat) = C at *
  clear hB hC
  go_enter Try.func7, Try.ntmps7
  go_wp2_with fail
  (with_reducible refine (H1.out _).mono ?_); rintro e w1 ⟨rfl, F⟩
  go_wp2_with fail
  obtain ⟨W2, hW2⟩ : ∃ W, W = (w1.alloc (.cells (rowN .u64 64 4 0) 24)).setRow w1.heap.size (rowN .u64 64 4 A) := ⟨_, rfl⟩
  refine wp_of_world W2 hW2 ?_
  have N := put_new w1 (rowN .u64 64 4 0) (rowN .u64 64 4 A) 24
  rw [← hW2] at N
  have r0 := N.new
  replace F := F.trans' N.fr
  clear N hW2
  generalize w1.heap.size = g at *
  refine wp_region_noPanic ?_
  refine wp_region_held_drew (S := (fun w' => w'.heap[g]? = some (.cells (rowN .u64 64 4 A) 24 (0, 0)) ∧ Fr F0 w w')) (by kernel_rfl) ?_ (fun hHeld => ?_)
  · ((try dsimp only) <;> (first | exact ⟨r0, F.drew⟩ | exact hHeld | exact ⟨keep_fr f5 hHeld.1, hHeld.2.trans' f5⟩))
  refine wpAnyH_take (i := 0) (oi := ⟨_, _, _, _, _, _⟩) (v := ?_) rfl (by kernel_rfl) (by kernel_rfl) (by kernel_rfl) (fun _ _ _ h => h) (Or.inl ⟨by rfl, ?_⟩) (by assumption) ?_
  rotate_left
  · intro w hSw; (try dsimp only at hSw); go_simp; (try (with_reducible rfl)); done
  simp only [Act.put, List.setIfInBounds_toArray]; dsimp only [List.set_cons_zero, List.set_cons_succ]
  refine wpAnyH_take (i := 1) (oi := ⟨_, _, _, _, _, _⟩) (v := ?_) rfl (by kernel_rfl) (by kernel_rfl) (by kernel_rfl) (fun _ _ _ h => h) (Or.inl ⟨by rfl, ?_⟩) (by assumption) ?_
  rotate_left
  · intro w hSw; (try dsimp only at hSw); go_simp; (try (with_reducible rfl)); done
  simp only [Act.put, List.setIfInBounds_toArray]; dsimp only [List.set_cons_zero, List.set_cons_succ]
  refine wpAnyH_take (i := 2) (oi := ⟨_, _, _, _, _, _⟩) (v := ?_) rfl (by kernel_rfl) (by kernel_rfl) (by kernel_rfl) (fun _ _ _ h => h) (Or.inl ⟨by rfl, ?_⟩) (by assumption) ?_
  rotate_left
  · intro w hSw; (try dsimp only at hSw); go_simp; (try (with_reducible rfl)); done
  simp only [Act.put, List.setIfInBounds_toArray]; dsimp only [List.set_cons_zero, List.set_cons_succ]
  refine wpAnyH_take (i := 3) (oi := ⟨_, _, _, _, _, _⟩) (v := ?_) rfl (by kernel_rfl) (by kernel_rfl) (by kernel_rfl) (fun _ _ _ h => h) (Or.inl ⟨by rfl, ?_⟩) (by assumption) ?_
  rotate_left
  · intro w hSw; (try dsimp only at hSw); go_simp; (try (with_reducible rfl)); done
  simp only [Act.put, List.setIfInBounds_toArray]; dsimp only [List.set_cons_zero, List.set_cons_succ]
  refine wpAnyH_ready (rs := [4]) (by kernel_rfl) (by simp) ?_
  refine AllReadyH.cons (o := ⟨_, _, _, _, _, _⟩) rfl (fun K hK => ?_) AllReadyH.nil
  go_simp
  ((with_reducible refine (H2.out _).mono ?_); rintro e w5 ⟨rfl, f5⟩)
  refine hK.out _ _ ?_ (fun hHeld => ?_)
  · ((try dsimp only) <;> (first | exact ⟨r0, F.drew⟩ | exact hHeld | exact ⟨keep_fr f5 hHeld.1, hHeld.2.trans' f5⟩))
  clear hK K
  try (simp only [Act.put, List.setIfInBounds_toArray]; dsimp only [List.set_cons_zero, List.set_cons_succ])
  refine wpAnyH_ready (rs := [5]) (by kernel_rfl) (by simp) ?_
  refine AllReadyH.cons (o := ⟨_, _, _, _, _, _⟩) rfl (fun K hK => ?_) AllReadyH.nil
  go_simp
  ((with_reducible refine (H3.out _).mono ?_); rintro e w5 ⟨rfl, f5⟩)
  refine hK.out _ _ ?_ (fun hHeld => ?_)
  · ((try dsimp only) <;> (first | exact ⟨r0, F.drew⟩ | exact hHeld | exact ⟨keep_fr f5 hHeld.1, hHeld.2.trans' f5⟩))
  clear hK K
  try (simp only [Act.put, List.setIfInBounds_toArray]; dsimp only [List.set_cons_zero, List.set_cons_succ])
  refine wpAnyH_take (i := 6) (oi := ⟨_, _, _, _, _, _⟩) (v := ?_) rfl (by kernel_rfl) (by kernel_rfl) (by kernel_rfl) (fun _ _ _ h => h) (Or.inl ⟨by rfl, ?_⟩) (by assumption) ?_
  rotate_left
  · intro w hSw; (try dsimp only at hSw); go_simp; (try (with_reducible rfl)); done
  simp only [Act.put, List.setIfInBounds_toArray]; dsimp only [List.set_cons_zero, List.set_cons_succ]
  refine wpAnyH_take (i := 7) (oi := ⟨_, _, _, _, _, _⟩) (v := ?_) rfl (by kernel_rfl) (by kernel_rfl) (by kernel_rfl) (fun _ _ _ h => h) (Or.inl ⟨by rfl, ?_⟩) (by assumption) ?_
  rotate_left
  · intro w hSw; (try dsimp only at hSw); go_simp; (try (with_reducible rfl)); done
  simp only [Act.put, List.setIfInBounds_toArray]; dsimp only [List.set_cons_zero, List.set_cons_succ]
  refine wpAnyH_take (i := 8) (oi := ⟨_, _, _, _, _, _⟩) (v := ?_) rfl (by kernel_rfl) (by kernel_rfl) (by kernel_rfl) (fun _ _ _ h => h) (Or.inl ⟨by rfl, ?_⟩) (by assumption) ?_
  rotate_left
  · intro w hSw; (try dsimp only at hSw); go_simp; (try (with_reducible rfl)); done
  simp only [Act.put, List.setIfInBounds_toArray]; dsimp only [List.set_cons_zero, List.set_cons_succ]
  refine wpAnyH_take (i := 9) (oi := ⟨_, _, _, _, _, _⟩) (v := ?_) rfl (by kernel_rfl) (by kernel_rfl) (by kernel_rfl) (fun _ _ _ h => h) (Or.inl ⟨by rfl, ?_⟩) (by assumption) ?_
  rotate_left
  · intro w hSw; (try dsimp only at hSw); go_simp; (try (with_reducible rfl)); done
  simp only [Act.put, List.setIfInBounds_toArray]; dsimp only [List.set_cons_zero, List.set_cons_succ]
  refine wpAnyH_ready (rs := [10]) (by kernel_rfl) (by simp) ?_
  refine AllReadyH.cons (o := ⟨_, _, _, _, _, _⟩) rfl (fun K hK => ?_) AllReadyH.nil
  go_simp
  ((with_reducible refine (H4.out _).mono ?_); rintro e w5 ⟨rfl, f5⟩)
  refine hK.out _ _ ?_ (fun hHeld => ?_)
  · ((try dsimp only) <;> (first | exact ⟨r0, F.drew⟩ | exact hHeld | exact ⟨keep_fr f5 hHeld.1, hHeld.2.trans' f5⟩))
  clear hK K
  try (simp only [Act.put, List.setIfInBounds_toArray]; dsimp only [List.set_cons_zero, List.set_cons_succ])
  refine wpAnyH_ready (rs := [11]) (by kernel_rfl) (by simp) ?_
  refine AllReadyH.cons (o := ⟨_, _, _, _, _, _⟩) rfl (fun K hK => ?_) AllReadyH.nil
  go_simp
  ((with_reducible refine (H5.out _).mono ?_); rintro e w5 ⟨rfl, f5⟩)
  refine hK.out _ _ ?_ (fun hHeld => ?_)
  · ((try dsimp only) <;> (first | exact ⟨r0, F.drew⟩ | exact hHeld | exact ⟨keep_fr f5 hHeld.1, hHeld.2.trans' f5⟩))
  clear hK K
  try (simp only [Act.put, List.setIfInBounds_toArray]; dsimp only [List.set_cons_zero, List.set_cons_succ])
  refine wpAnyH_take (i := 12) (oi := ⟨_, _, _, _, _, _⟩) (v := ?_) rfl (by kernel_rfl) (by kernel_rfl) (by kernel_rfl) (fun _ _ _ h => h) (Or.inl ⟨by rfl, ?_⟩) (by assumption) ?_
  rotate_left
  · intro w hSw; (try dsimp only at hSw); go_simp; (try (with_reducible rfl)); done
  simp only [Act.put, List.setIfInBounds_toArray]; dsimp only [List.set_cons_zero, List.set_cons_succ]
  refine wpAnyH_take (i := 13) (oi := ⟨_, _, _, _, _, _⟩) (v := ?_) rfl (by kernel_rfl) (by kernel_rfl) (by kernel_rfl) (fun _ _ _ h => h) (Or.inl ⟨by rfl, ?_⟩) (by assumption) ?_
  rotate_left
  · intro w hSw; (try dsimp only at hSw); go_simp; (try (with_reducible rfl)); done
  simp only [Act.put, List.setIfInBounds_toArray]; dsimp only [List.set_cons_zero, List.set_cons_succ]
  refine wpAnyH_take (i := 14) (oi := ⟨_, _, _, _, _, _⟩) (v := ?_) rfl (by kernel_rfl) (by kernel_rfl) (by kernel_rfl) (fun _ _ _ h => h) (Or.inl ⟨by rfl, ?_⟩) (by assumption) ?_
  rotate_left
  · intro w hSw; (try dsimp only at hSw); go_simp; (try (with_reducible rfl)); done
  simp only [Act.put, List.setIfInBounds_toArray]; dsimp only [List.set_cons_zero, List.set_cons_succ]
  refine wpAnyH_done (by kernel_rfl) ?_ _
  refine NoPanic.normal ?_
  all_goals
    go_wp2
    go_ret
    exact ⟨by simp, hHeld.2⟩
end Go.Proofs.Ytgdnmmobnfjegaa
