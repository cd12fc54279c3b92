/- Layer 3 (wide): sums, differences, products; what is turned over. -/
import Derived.Test.YtgdnmmobnfjegaaWa
import Derived.Test.YtgdnmmobnfjegaaWm
import Derived.OrdersHeld
import Derived.Deep.RegionHeld3
import Derived.Laws.Externs
namespace Go.Proofs.Ytgdnmmobnfjegaa
set_option linter.unusedVariables false
set_option linter.unusedSimpArgs false
open Go.RowKit

/-! ### Add64, Sub64 -/
def sub64Entry : Array Value → Sem Value := fun args => do
  let (x, y, b) ← Extern.MathBitsCarry.three "Sub64" args
  pure (Extern.MathBitsCarry.pair ((x + Extern.MathBitsCarry.m64 - y - b) % Extern.MathBitsCarry.m64) (if x < y + b then 1 else 0))

theorem run_sub64 {P : Program} (x y b : Nat) (hb : b ≤ 1) (w : World) :
    (sub64Entry #[.int .u64 x, .int .u64 y, .int .u64 b]).run P w = .ok (.tuple #[.int .u64 (subLo x y b : Nat), .int .u64 (subHi x y b : Nat)]) w := by
  have : b = 0 ∨ b = 1 := by omega
  rcases this with rfl | rfl <;> rfl
theorem run_add64' {P : Program} (x y c : Nat) (hc : c ≤ 1) (w : World) :
    (add64Entry #[.int .u64 x, .int .u64 y, .int .u64 c]).run P w = .ok (.tuple #[.int .u64 (addLo x y c : Nat), .int .u64 (addHi x y c : Nat)]) w := by
  have : c = 0 ∨ c = 1 := by omega
  rcases this with rfl | rfl <;> rfl

@[go_sem] theorem run_Add64 (x y c : Nat) (hc : c ≤ 1) (w : World) :
    (callFunc 52 #[.int .u64 x, .int .u64 y, .int .u64 c]).run Try.prog w = .ok (.value (.tuple #[.int .u64 (addLo x y c : Nat), .int .u64 (addHi x y c : Nat)])) w := by
  rw [run_callFunc_extern Try.func52 (by kernel_rfl) (by kernel_rfl) (by kernel_rfl) (e := add64Entry) (by kernel_rfl), run_add64' x y c hc]
  rfl
@[go_sem] theorem run_Add64_0 (x y : Nat) (w : World) :
    (callFunc 52 #[.int .u64 x, .int .u64 y, .int .u64 0]).run Try.prog w = .ok (.value (.tuple #[.int .u64 (addLo x y 0 : Nat), .int .u64 (addHi x y 0 : Nat)])) w := run_Add64 x y 0 (by omega) w
@[go_sem] theorem run_Sub64 (x y c : Nat) (hc : c ≤ 1) (w : World) :
    (callFunc 60 #[.int .u64 x, .int .u64 y, .int .u64 c]).run Try.prog w = .ok (.value (.tuple #[.int .u64 (subLo x y c : Nat), .int .u64 (subHi x y c : Nat)])) w := by
  rw [run_callFunc_extern Try.func60 (by kernel_rfl) (by kernel_rfl) (by kernel_rfl) (e := sub64Entry) (by kernel_rfl), run_sub64 x y c hc]
  rfl

theorem bne0 (n : Nat) : ((n : Int) != 0) = (n != 0) := by
  by_cases h : n = 0
  · subst h; rfl
  · rw [bne_iff_ne.2 (show (n : Int) ≠ 0 by omega), bne_iff_ne.2 h]

/-- Two results, the first a whole row. -/
theorem res_row_tmp {P : Program} {fn : Func} {p u : Tmp} {ty : TypeId} (h : fn.results = #[.cell p ty, .tmp u]) (tmps : Array Value) (w : World) (g : Nat) (t : TypeId) (cs : Array Value) (fr : Nat × Nat) (d : TypeDesc)
    (hp : tmps.getD p undef = .pointer (some ⟨g, 0, none⟩)) (hg : w.heap[g]? = some (.cells cs t fr))
    (hu : P.underlying ty = some d) (hd : (match d with | .struct _ | .array _ _ => true | _ => false) = true) (hi : (P.info? ty).map (·.size) = some cs.size) :
    (results fn tmps).run P w = .ok (.tuple #[.agg cs, tmps.getD u undef]) w := by
  have hp' : tmps[p]?.getD undef = .pointer (some ⟨g, 0, none⟩) := by simpa using hp
  simp [results, h, hp', asAddr, run_loadVar_row w g t ty cs fr d hg hu hd hi]

theorem heap2 (w : World) (A B : Obj) : let W := (w.alloc A).alloc B
    W.heap[w.heap.size]? = some A ∧ W.heap[w.heap.size + 1]? = some B := ⟨heap_alloc2_old _ _ _, heap_alloc2_new _ _ _⟩
theorem heap3 (w : World) (A B C : Obj) : let W := ((w.alloc A).alloc B).alloc C
    W.heap[w.heap.size]? = some A ∧ W.heap[w.heap.size + 1]? = some B ∧ W.heap[w.heap.size + 1 + 1]? = some C := by
  refine ⟨?_, ?_, ?_⟩
  · rw [heap_alloc_old _ _ (by first | (simp; done) | (simp; omega))]
    exact (heap2 w A B).1
  · rw [heap_alloc_old _ _ (by simp)]
    exact (heap2 w A B).2
  · exact heap_new3 w A B C
theorem heap4 (w : World) (A B C D : Obj) : let W := (((w.alloc A).alloc B).alloc C).alloc D
    W.heap[w.heap.size]? = some A ∧ W.heap[w.heap.size + 1]? = some B ∧ W.heap[w.heap.size + 1 + 1]? = some C ∧ W.heap[w.heap.size + 1 + 1 + 1]? = some D := by
  obtain ⟨h0, h1, h2⟩ := heap3 w A B C
  refine ⟨?_, ?_, ?_, ?_⟩
  · rw [heap_alloc_old _ _ (by first | (simp; done) | (simp; omega))]; exact h0
  · rw [heap_alloc_old _ _ (by first | (simp; done) | (simp; omega))]; exact h1
  · rw [heap_alloc_old _ _ (by simp)]; exact h2
  · exact heap_new4 w A B C D

/-- The row behind a store into it of a new word. -/
theorem row_put {w : World} {g i z v : Nat} {t : TypeId} (h : w.heap[g]? = some (.cells (rowN .u64 64 4 z) t (0, 0))) (hz : z < 2 ^ (64 * i)) (hv : v < 2 ^ 64) :
    (w.setCell ⟨g, i, none⟩ (.int .u64 (v : Int))).heap[g]? = some (.cells (rowN .u64 64 4 (z + 2 ^ (64 * i) * v)) t (0, 0)) := by
  rw [heap_setCell_at, h, withCell_cells, set_word _ _ _ hv, putw_new _ _ _ _ hz]

set_option maxHeartbeats 2000000 in
theorem wAdd_any (a b : Nat) (ha : a < W256) (hb : b < W256) (w : World) :
    Calls Try.prog 39 #[.agg (rowN .u64 64 4 a), .agg (rowN .u64 64 4 b)] w fun e w' => e = .returned (.tuple #[.agg (rowN .u64 64 4 ((a + b) % W256)), .bool (decide (W256 ≤ a + b))]) ∧ Fr F0 w w' := by
  have HA := Lib.hid (adS_all a b ha hb)
  have HC := Lib.hid (adC_all a b ha hb)
  clear ha hb
  go_enter Try.func39, Try.ntmps39
  go_wp2
  obtain ⟨W1, hW1⟩ : ∃ W1, W1 = (((w.alloc (.cells (rowN .u64 64 4 a) 24)).alloc (.cells (rowN .u64 64 4 b) 24)).alloc (.cells (rowN .u64 64 4 0) 24)).alloc (.cells (rowN .u64 64 4 0) 24) := ⟨_, rfl⟩
  refine wp_of_world W1 hW1 ?_
  have f1 : Fr F0 w W1 := by rw [hW1]; exact ((((Fr.refl F0 w).alloc _).alloc _).alloc _).alloc _
  obtain ⟨r0, r1, r2, r3⟩ := heap4 w (.cells (rowN .u64 64 4 a) 24) (.cells (rowN .u64 64 4 b) 24) (.cells (rowN .u64 64 4 0) 24) (.cells (rowN .u64 64 4 0) 24)
  rw [← hW1] at r0 r1 r2 r3
  clear hW1
  generalize hg0 : w.heap.size = g0 at *
  generalize hg1 : g0 + 1 = g1 at *
  generalize hg2 : g1 + 1 = g2 at *
  generalize hg3 : g2 + 1 = g3 at *
  have n0 : g0 ≠ g3 := by omega
  have n1 : g1 ≠ g3 := by omega
  have n2 : g2 ≠ g3 := by omega
  have HG := Lib.hid (show w.heap.size ≤ g2 ∧ w.heap.size ≤ g3 by omega)
  clear hg0 hg1 hg2 hg3
  go_loopw [7, 9] (fun cv iv wr => ∃ i : Nat, i ≤ 4 ∧ iv = .int .i64 i ∧ cv = .int .u64 (adC a b i : Nat) ∧ wr.heap[g0]? = some (.cells (rowN .u64 64 4 a) 24 (0, 0)) ∧ wr.heap[g1]? = some (.cells (rowN .u64 64 4 b) 24 (0, 0)) ∧ wr.heap[g2]? = some (.cells (rowN .u64 64 4 0) 24 (0, 0)) ∧ wr.heap[g3]? = some (.cells (rowN .u64 64 4 (adS a b i)) 24 (0, 0)) ∧ Fr F0 w wr) (fun cv iv _ => 4 - (intOf iv).toNat)
  case atStart => exact ⟨0, by omega, rfl, by rw [adC_zero]; rfl, r0, r1, r2, by rw [adS_zero]; exact r3, f1⟩
  case round =>
    clear r0 r1 r2 r3 f1
    obtain ⟨i, hi, rfl, rfl, r0, r1, r2, r3, f1⟩ := hrel
    by_cases hi4 : i < 4
    · have li : (i : Int) < 4 := by omega
      have hcl := adC_le a b i
      have HS := Lib.hid (adS_succ a b i)
      have HN := Lib.hid (adC_succ a b i)
      have hl := adS_lt a b i
      go_wp2
      refine wp_region_noPanic ?_
      refine wp_region_held_drew (S := (fun w' => w'.heap[g0]? = some (.cells (rowN .u64 64 4 a) 24 (0, 0)) ∧ w'.heap[g1]? = some (.cells (rowN .u64 64 4 b) 24 (0, 0)))) (by kernel_rfl) ?_ (fun hHeld => ?_)
      · ((try dsimp only) <;> (first | exact ⟨r0, r1⟩ | (refine ⟨?_, ?_⟩ <;> (simp only [heap_drew']; rw [heap_setCell_ne' _ _ _ _ _ (by assumption)]; assumption))))
      refine wpAnyH_take (i := 0) (oi := ⟨_, _, _, _, _, _⟩) (v := ?_) rfl (by kernel_rfl) (by kernel_rfl) (by kernel_rfl) (fun _ _ _ h => h) (Or.inl ⟨by rfl, ?_⟩) (by assumption) ?_
      rotate_left
      · intro w hSw; (try dsimp only at hSw); go_simp; (try (with_reducible rfl)); done
      simp only [Act.put, List.setIfInBounds_toArray]; dsimp only [List.set_cons_zero, List.set_cons_succ]
      refine wpAnyH_take (i := 1) (oi := ⟨_, _, _, _, _, _⟩) (v := ?_) rfl (by kernel_rfl) (by kernel_rfl) (by kernel_rfl) (fun _ _ _ h => h) (Or.inl ⟨by rfl, ?_⟩) (by assumption) ?_
      rotate_left
      · intro w hSw; (try dsimp only at hSw); go_simp; (try (with_reducible rfl)); done
      simp only [Act.put, List.setIfInBounds_toArray]; dsimp only [List.set_cons_zero, List.set_cons_succ]
      refine wpAnyH_take (i := 2) (oi := ⟨_, _, _, _, _, _⟩) (v := ?_) rfl (by kernel_rfl) (by kernel_rfl) (by kernel_rfl) (fun _ _ _ h => h) (Or.inl ⟨by rfl, ?_⟩) (by assumption) ?_
      rotate_left
      · intro w hSw; (try dsimp only at hSw); go_simp; (try (with_reducible rfl)); done
      simp only [Act.put, List.setIfInBounds_toArray]; dsimp only [List.set_cons_zero, List.set_cons_succ]
      refine wpAnyH_take (i := 3) (oi := ⟨_, _, _, _, _, _⟩) (v := ?_) rfl (by kernel_rfl) (by kernel_rfl) (by kernel_rfl) (fun _ _ _ h => h) (Or.inl ⟨by rfl, ?_⟩) (by assumption) ?_
      rotate_left
      · intro w hSw; (try dsimp only at hSw); go_simp; (try (with_reducible rfl)); done
      simp only [Act.put, List.setIfInBounds_toArray]; dsimp only [List.set_cons_zero, List.set_cons_succ]
      refine wpAnyH_take (i := 4) (oi := ⟨_, _, _, _, _, _⟩) (v := ?_) rfl (by kernel_rfl) (by kernel_rfl) (by kernel_rfl) (fun _ _ _ h => h) (Or.inl ⟨by rfl, ?_⟩) (by assumption) ?_
      rotate_left
      · intro w hSw; (try dsimp only at hSw); go_simp; (try (with_reducible rfl)); done
      simp only [Act.put, List.setIfInBounds_toArray]; dsimp only [List.set_cons_zero, List.set_cons_succ]
      refine wpAnyH_take (i := 5) (oi := ⟨_, _, _, _, _, _⟩) (v := ?_) rfl (by kernel_rfl) (by kernel_rfl) (by kernel_rfl) (fun _ _ _ h => h) (Or.inl ⟨by rfl, ?_⟩) (by assumption) ?_
      rotate_left
      · intro w hSw; (try dsimp only at hSw); go_simp; (try (with_reducible rfl)); done
      simp only [Act.put, List.setIfInBounds_toArray]; dsimp only [List.set_cons_zero, List.set_cons_succ]
      refine wpAnyH_take (i := 6) (oi := ⟨_, _, _, _, _, _⟩) (v := ?_) rfl (by kernel_rfl) (by kernel_rfl) (by kernel_rfl) (fun _ _ _ h => h) (Or.inl ⟨by rfl, ?_⟩) (by assumption) ?_
      rotate_left
      · intro w hSw; (try dsimp only at hSw); go_simp; (try (with_reducible rfl)); done
      simp only [Act.put, List.setIfInBounds_toArray]; dsimp only [List.set_cons_zero, List.set_cons_succ]
      refine wpAnyH_take (i := 7) (oi := ⟨_, _, _, _, _, _⟩) (v := ?_) rfl (by kernel_rfl) (by kernel_rfl) (by kernel_rfl) (fun _ _ _ h => h) (Or.inl ⟨by rfl, ?_⟩) (by assumption) ?_
      rotate_left
      · intro w hSw; (try dsimp only at hSw); go_simp; (try (with_reducible rfl)); done
      simp only [Act.put, List.setIfInBounds_toArray]; dsimp only [List.set_cons_zero, List.set_cons_succ]
      refine wpAnyH_ready (rs := [8]) (by kernel_rfl) (by simp) ?_
      refine AllReadyH.cons (o := ⟨_, _, _, _, _, _⟩) rfl (fun K hK => ?_) AllReadyH.nil
      go_simp
      refine hK.out _ _ ?_ (fun hHeld => ?_)
      · ((try dsimp only) <;> (first | exact ⟨r0, r1⟩ | (refine ⟨?_, ?_⟩ <;> (simp only [heap_drew']; rw [heap_setCell_ne' _ _ _ _ _ (by assumption)]; assumption))))
      clear hK K
      try (simp only [Act.put, List.setIfInBounds_toArray]; dsimp only [List.set_cons_zero, List.set_cons_succ])
      refine wpAnyH_take (i := 9) (oi := ⟨_, _, _, _, _, _⟩) (v := ?_) rfl (by kernel_rfl) (by kernel_rfl) (by kernel_rfl) (fun _ _ _ h => h) (Or.inl ⟨by rfl, ?_⟩) (by assumption) ?_
      rotate_left
      · intro w hSw; (try dsimp only at hSw); go_simp; (try (with_reducible rfl)); done
      simp only [Act.put, List.setIfInBounds_toArray]; dsimp only [List.set_cons_zero, List.set_cons_succ]
      refine wpAnyH_take (i := 10) (oi := ⟨_, _, _, _, _, _⟩) (v := ?_) rfl (by kernel_rfl) (by kernel_rfl) (by kernel_rfl) (fun _ _ _ h => h) (Or.inl ⟨by rfl, ?_⟩) (by assumption) ?_
      rotate_left
      · intro w hSw; (try dsimp only at hSw); go_simp; (try (with_reducible rfl)); done
      simp only [Act.put, List.setIfInBounds_toArray]; dsimp only [List.set_cons_zero, List.set_cons_succ]
      refine wpAnyH_take (i := 11) (oi := ⟨_, _, _, _, _, _⟩) (v := ?_) rfl (by kernel_rfl) (by kernel_rfl) (by kernel_rfl) (fun _ _ _ h => h) (Or.inl ⟨by rfl, ?_⟩) (by assumption) ?_
      rotate_left
      · intro w hSw; (try dsimp only at hSw); go_simp; (try (with_reducible rfl)); done
      simp only [Act.put, List.setIfInBounds_toArray]; dsimp only [List.set_cons_zero, List.set_cons_succ]
      refine wpAnyH_take (i := 12) (oi := ⟨_, _, _, _, _, _⟩) (v := ?_) rfl (by kernel_rfl) (by kernel_rfl) (by kernel_rfl) (fun _ _ _ h => h) (Or.inl ⟨by rfl, ?_⟩) (by assumption) ?_
      rotate_left
      · intro w hSw; (try dsimp only at hSw); go_simp; (try (with_reducible rfl)); done
      simp only [Act.put, List.setIfInBounds_toArray]; dsimp only [List.set_cons_zero, List.set_cons_succ]
      refine wpAnyH_ready (rs := [13]) (by kernel_rfl) (by simp) ?_
      refine AllReadyH.cons (o := ⟨_, _, _, _, _, _⟩) rfl (fun K hK => ?_) AllReadyH.nil
      go_simp
      refine hK.out _ _ ?_ (fun hHeld => ?_)
      · ((try dsimp only) <;> (first | exact ⟨r0, r1⟩ | (refine ⟨?_, ?_⟩ <;> (simp only [heap_drew']; rw [heap_setCell_ne' _ _ _ _ _ (by assumption)]; assumption))))
      clear hK K
      try (simp only [Act.put, List.setIfInBounds_toArray]; dsimp only [List.set_cons_zero, List.set_cons_succ])
      refine wpAnyH_take (i := 14) (oi := ⟨_, _, _, _, _, _⟩) (v := ?_) rfl (by kernel_rfl) (by kernel_rfl) (by kernel_rfl) (fun _ _ _ h => h) (Or.inl ⟨by rfl, ?_⟩) (by assumption) ?_
      rotate_left
      · intro w hSw; (try dsimp only at hSw); go_simp; (try (with_reducible rfl)); done
      simp only [Act.put, List.setIfInBounds_toArray]; dsimp only [List.set_cons_zero, List.set_cons_succ]
      refine wpAnyH_done (by kernel_rfl) ?_ _
      refine NoPanic.normal ?_
      all_goals
        go_wp2
        go_roundw
        case rel =>
          refine ⟨i + 1, by omega, by go_num, by rw [HN.out], ?_, ?_, ?_, ?_, ?_⟩
          · rw [heap_drew', heap_setCell_ne' _ _ _ _ _ n0]; exact r0
          · rw [heap_drew', heap_setCell_ne' _ _ _ _ _ n1]; exact r1
          · rw [heap_drew', heap_setCell_ne' _ _ _ _ _ n2]; exact r2
          · rw [heap_drew', row_put r3 hl (addLo_lt _ _ _), HS.out]
          · exact (f1.setCell (p := ⟨g3, i, none⟩) (fun h => by have := HG.out; simp only at h; omega) _).drew
        case measure => simp [intOf]; omega
    · obtain rfl : i = 4 := by omega
      rw [HA.out] at r3
      have hb0 := HC.out
      go_wp2
      refine bodyPost_ret (res_row_tmp rfl _ _ g2 _ _ _ _ rfl (by rw [heap_setRow_at, r2]; rfl) Try.underlying24 rfl (by rw [Try.szWide]; rfl)) rfl ⟨?_, ?_⟩
      · rw [← hb0, ← bne0]; rfl
      · exact f1.setRow (fun h => by have := HG.out; omega) _
set_option maxHeartbeats 2000000 in
theorem wSub_any (a b : Nat) (ha : a < W256) (hb : b < W256) (w : World) :
    Calls Try.prog 57 #[.agg (rowN .u64 64 4 a), .agg (rowN .u64 64 4 b)] w fun e w' => e = .returned (.tuple #[.agg (rowN .u64 64 4 ((a + W256 - b) % W256)), .bool (decide (a < b))]) ∧ Fr F0 w w' := by
  have HA := Lib.hid (sbS_all a b ha hb)
  have HC := Lib.hid (sbC_all a b ha hb)
  clear ha hb
  go_enter Try.func57, Try.ntmps57
  go_wp2
  obtain ⟨W1, hW1⟩ : ∃ W1, W1 = (((w.alloc (.cells (rowN .u64 64 4 a) 24)).alloc (.cells (rowN .u64 64 4 b) 24)).alloc (.cells (rowN .u64 64 4 0) 24)).alloc (.cells (rowN .u64 64 4 0) 24) := ⟨_, rfl⟩
  refine wp_of_world W1 hW1 ?_
  have f1 : Fr F0 w W1 := by rw [hW1]; exact ((((Fr.refl F0 w).alloc _).alloc _).alloc _).alloc _
  obtain ⟨r0, r1, r2, r3⟩ := heap4 w (.cells (rowN .u64 64 4 a) 24) (.cells (rowN .u64 64 4 b) 24) (.cells (rowN .u64 64 4 0) 24) (.cells (rowN .u64 64 4 0) 24)
  rw [← hW1] at r0 r1 r2 r3
  clear hW1
  generalize hg0 : w.heap.size = g0 at *
  generalize hg1 : g0 + 1 = g1 at *
  generalize hg2 : g1 + 1 = g2 at *
  generalize hg3 : g2 + 1 = g3 at *
  have n0 : g0 ≠ g3 := by omega
  have n1 : g1 ≠ g3 := by omega
  have n2 : g2 ≠ g3 := by omega
  have HG := Lib.hid (show w.heap.size ≤ g2 ∧ w.heap.size ≤ g3 by omega)
  clear hg0 hg1 hg2 hg3
  go_loopw [7, 9] (fun cv iv wr => ∃ i : Nat, i ≤ 4 ∧ iv = .int .i64 i ∧ cv = .int .u64 (sbC a b i : Nat) ∧ wr.heap[g0]? = some (.cells (rowN .u64 64 4 a) 24 (0, 0)) ∧ wr.heap[g1]? = some (.cells (rowN .u64 64 4 b) 24 (0, 0)) ∧ wr.heap[g2]? = some (.cells (rowN .u64 64 4 0) 24 (0, 0)) ∧ wr.heap[g3]? = some (.cells (rowN .u64 64 4 (sbS a b i)) 24 (0, 0)) ∧ Fr F0 w wr) (fun cv iv _ => 4 - (intOf iv).toNat)
  case atStart => exact ⟨0, by omega, rfl, by rw [sbC_zero]; rfl, r0, r1, r2, by rw [sbS_zero]; exact r3, f1⟩
  case round =>
    clear r0 r1 r2 r3 f1
    obtain ⟨i, hi, rfl, rfl, r0, r1, r2, r3, f1⟩ := hrel
    by_cases hi4 : i < 4
    · have li : (i : Int) < 4 := by omega
      have hcl := sbC_le a b i
      have HS := Lib.hid (sb_succ a b i).1
      have HN := Lib.hid (sb_succ a b i).2
      have hl := sbS_lt a b i
      go_wp2
      refine wp_region_noPanic ?_
      refine wp_region_held_drew (S := (fun w' => w'.heap[g0]? = some (.cells (rowN .u64 64 4 a) 24 (0, 0)) ∧ w'.heap[g1]? = some (.cells (rowN .u64 64 4 b) 24 (0, 0)))) (by kernel_rfl) ?_ (fun hHeld => ?_)
      · ((try dsimp only) <;> (first | exact ⟨r0, r1⟩ | (refine ⟨?_, ?_⟩ <;> (simp only [heap_drew']; rw [heap_setCell_ne' _ _ _ _ _ (by assumption)]; assumption))))
      refine wpAnyH_take (i := 0) (oi := ⟨_, _, _, _, _, _⟩) (v := ?_) rfl (by kernel_rfl) (by kernel_rfl) (by kernel_rfl) (fun _ _ _ h => h) (Or.inl ⟨by rfl, ?_⟩) (by assumption) ?_
      rotate_left
      · intro w hSw; (try dsimp only at hSw); go_simp; (try (with_reducible rfl)); done
      simp only [Act.put, List.setIfInBounds_toArray]; dsimp only [List.set_cons_zero, List.set_cons_succ]
      refine wpAnyH_take (i := 1) (oi := ⟨_, _, _, _, _, _⟩) (v := ?_) rfl (by kernel_rfl) (by kernel_rfl) (by kernel_rfl) (fun _ _ _ h => h) (Or.inl ⟨by rfl, ?_⟩) (by assumption) ?_
      rotate_left
      · intro w hSw; (try dsimp only at hSw); go_simp; (try (with_reducible rfl)); done
      simp only [Act.put, List.setIfInBounds_toArray]; dsimp only [List.set_cons_zero, List.set_cons_succ]
      refine wpAnyH_take (i := 2) (oi := ⟨_, _, _, _, _, _⟩) (v := ?_) rfl (by kernel_rfl) (by kernel_rfl) (by kernel_rfl) (fun _ _ _ h => h) (Or.inl ⟨by rfl, ?_⟩) (by assumption) ?_
      rotate_left
      · intro w hSw; (try dsimp only at hSw); go_simp; (try (with_reducible rfl)); done
      simp only [Act.put, List.setIfInBounds_toArray]; dsimp only [List.set_cons_zero, List.set_cons_succ]
      refine wpAnyH_take (i := 3) (oi := ⟨_, _, _, _, _, _⟩) (v := ?_) rfl (by kernel_rfl) (by kernel_rfl) (by kernel_rfl) (fun _ _ _ h => h) (Or.inl ⟨by rfl, ?_⟩) (by assumption) ?_
      rotate_left
      · intro w hSw; (try dsimp only at hSw); go_simp; (try (with_reducible rfl)); done
      simp only [Act.put, List.setIfInBounds_toArray]; dsimp only [List.set_cons_zero, List.set_cons_succ]
      refine wpAnyH_take (i := 4) (oi := ⟨_, _, _, _, _, _⟩) (v := ?_) rfl (by kernel_rfl) (by kernel_rfl) (by kernel_rfl) (fun _ _ _ h => h) (Or.inl ⟨by rfl, ?_⟩) (by assumption) ?_
      rotate_left
      · intro w hSw; (try dsimp only at hSw); go_simp; (try (with_reducible rfl)); done
      simp only [Act.put, List.setIfInBounds_toArray]; dsimp only [List.set_cons_zero, List.set_cons_succ]
      refine wpAnyH_take (i := 5) (oi := ⟨_, _, _, _, _, _⟩) (v := ?_) rfl (by kernel_rfl) (by kernel_rfl) (by kernel_rfl) (fun _ _ _ h => h) (Or.inl ⟨by rfl, ?_⟩) (by assumption) ?_
      rotate_left
      · intro w hSw; (try dsimp only at hSw); go_simp; (try (with_reducible rfl)); done
      simp only [Act.put, List.setIfInBounds_toArray]; dsimp only [List.set_cons_zero, List.set_cons_succ]
      refine wpAnyH_take (i := 6) (oi := ⟨_, _, _, _, _, _⟩) (v := ?_) rfl (by kernel_rfl) (by kernel_rfl) (by kernel_rfl) (fun _ _ _ h => h) (Or.inl ⟨by rfl, ?_⟩) (by assumption) ?_
      rotate_left
      · intro w hSw; (try dsimp only at hSw); go_simp; (try (with_reducible rfl)); done
      simp only [Act.put, List.setIfInBounds_toArray]; dsimp only [List.set_cons_zero, List.set_cons_succ]
      refine wpAnyH_take (i := 7) (oi := ⟨_, _, _, _, _, _⟩) (v := ?_) rfl (by kernel_rfl) (by kernel_rfl) (by kernel_rfl) (fun _ _ _ h => h) (Or.inl ⟨by rfl, ?_⟩) (by assumption) ?_
      rotate_left
      · intro w hSw; (try dsimp only at hSw); go_simp; (try (with_reducible rfl)); done
      simp only [Act.put, List.setIfInBounds_toArray]; dsimp only [List.set_cons_zero, List.set_cons_succ]
      refine wpAnyH_ready (rs := [8]) (by kernel_rfl) (by simp) ?_
      refine AllReadyH.cons (o := ⟨_, _, _, _, _, _⟩) rfl (fun K hK => ?_) AllReadyH.nil
      go_simp
      refine hK.out _ _ ?_ (fun hHeld => ?_)
      · ((try dsimp only) <;> (first | exact ⟨r0, r1⟩ | (refine ⟨?_, ?_⟩ <;> (simp only [heap_drew']; rw [heap_setCell_ne' _ _ _ _ _ (by assumption)]; assumption))))
      clear hK K
      try (simp only [Act.put, List.setIfInBounds_toArray]; dsimp only [List.set_cons_zero, List.set_cons_succ])
      refine wpAnyH_take (i := 9) (oi := ⟨_, _, _, _, _, _⟩) (v := ?_) rfl (by kernel_rfl) (by kernel_rfl) (by kernel_rfl) (fun _ _ _ h => h) (Or.inl ⟨by rfl, ?_⟩) (by assumption) ?_
      rotate_left
      · intro w hSw; (try dsimp only at hSw); go_simp; (try (with_reducible rfl)); done
      simp only [Act.put, List.setIfInBounds_toArray]; dsimp only [List.set_cons_zero, List.set_cons_succ]
      refine wpAnyH_take (i := 10) (oi := ⟨_, _, _, _, _, _⟩) (v := ?_) rfl (by kernel_rfl) (by kernel_rfl) (by kernel_rfl) (fun _ _ _ h => h) (Or.inl ⟨by rfl, ?_⟩) (by assumption) ?_
      rotate_left
      · intro w hSw; (try dsimp only at hSw); go_simp; (try (with_reducible rfl)); done
      simp only [Act.put, List.setIfInBounds_toArray]; dsimp only [List.set_cons_zero, List.set_cons_succ]
      refine wpAnyH_take (i := 11) (oi := ⟨_, _, _, _, _, _⟩) (v := ?_) rfl (by kernel_rfl) (by kernel_rfl) (by kernel_rfl) (fun _ _ _ h => h) (Or.inl ⟨by rfl, ?_⟩) (by assumption) ?_
      rotate_left
      · intro w hSw; (try dsimp only at hSw); go_simp; (try (with_reducible rfl)); done
      simp only [Act.put, List.setIfInBounds_toArray]; dsimp only [List.set_cons_zero, List.set_cons_succ]
      refine wpAnyH_take (i := 12) (oi := ⟨_, _, _, _, _, _⟩) (v := ?_) rfl (by kernel_rfl) (by kernel_rfl) (by kernel_rfl) (fun _ _ _ h => h) (Or.inl ⟨by rfl, ?_⟩) (by assumption) ?_
      rotate_left
      · intro w hSw; (try dsimp only at hSw); go_simp; (try (with_reducible rfl)); done
      simp only [Act.put, List.setIfInBounds_toArray]; dsimp only [List.set_cons_zero, List.set_cons_succ]
      refine wpAnyH_ready (rs := [13]) (by kernel_rfl) (by simp) ?_
      refine AllReadyH.cons (o := ⟨_, _, _, _, _, _⟩) rfl (fun K hK => ?_) AllReadyH.nil
      go_simp
      refine hK.out _ _ ?_ (fun hHeld => ?_)
      · ((try dsimp only) <;> (first | exact ⟨r0, r1⟩ | (refine ⟨?_, ?_⟩ <;> (simp only [heap_drew']; rw [heap_setCell_ne' _ _ _ _ _ (by assumption)]; assumption))))
      clear hK K
      try (simp only [Act.put, List.setIfInBounds_toArray]; dsimp only [List.set_cons_zero, List.set_cons_succ])
      refine wpAnyH_take (i := 14) (oi := ⟨_, _, _, _, _, _⟩) (v := ?_) rfl (by kernel_rfl) (by kernel_rfl) (by kernel_rfl) (fun _ _ _ h => h) (Or.inl ⟨by rfl, ?_⟩) (by assumption) ?_
      rotate_left
      · intro w hSw; (try dsimp only at hSw); go_simp; (try (with_reducible rfl)); done
      simp only [Act.put, List.setIfInBounds_toArray]; dsimp only [List.set_cons_zero, List.set_cons_succ]
      refine wpAnyH_done (by kernel_rfl) ?_ _
      refine NoPanic.normal ?_
      all_goals
        go_wp2
        go_roundw
        case rel =>
          refine ⟨i + 1, by omega, by go_num, by rw [HN.out], ?_, ?_, ?_, ?_, ?_⟩
          · rw [heap_drew', heap_setCell_ne' _ _ _ _ _ n0]; exact r0
          · rw [heap_drew', heap_setCell_ne' _ _ _ _ _ n1]; exact r1
          · rw [heap_drew', heap_setCell_ne' _ _ _ _ _ n2]; exact r2
          · rw [heap_drew', row_put r3 hl (subLo_lt _ _ _), HS.out]
          · exact (f1.setCell (p := ⟨g3, i, none⟩) (fun h => by have := HG.out; simp only at h; omega) _).drew
        case measure => simp [intOf]; omega
    · obtain rfl : i = 4 := by omega
      rw [HA.out] at r3
      have hb0 := HC.out
      go_wp2
      refine bodyPost_ret (res_row_tmp rfl _ _ g2 _ _ _ _ rfl (by rw [heap_setRow_at, r2]; rfl) Try.underlying24 rfl (by rw [Try.szWide]; rfl)) rfl ⟨?_, ?_⟩
      · rw [← hb0, ← bne0]; rfl
      · exact f1.setRow (fun h => by have := HG.out; omega) _
end Go.Proofs.Ytgdnmmobnfjegaa
