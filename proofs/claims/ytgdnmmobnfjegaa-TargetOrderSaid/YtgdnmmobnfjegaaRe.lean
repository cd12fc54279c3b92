/- The document's answer 03 (wide): the walk of Mul. -/
import Derived.Test.YtgdnmmobnfjegaaRb
import Derived.Laws.OwnMore
namespace Go.Proofs.Ytgdnmmobnfjegaa
set_option linter.unusedVariables false
set_option linter.unusedSimpArgs false
open Go.RowKit

theorem made_row (n : Nat) : madeCells (Value.int .u64 0).cells (n * 1) = rowN .u64 16 n 0 := by
  apply Array.toList_inj.1
  rw [show (Value.int .u64 0).cells = #[.int .u64 0] from rfl, toList_madeCells_one, Nat.mul_one]
  unfold rowN
  rw [List.toList_toArray]
  apply List.ext_getElem
  · simp
  · intro i h1 h2
    simp [dgt]

theorem run_make_N (n : Nat) (z : Int) (hz : z = n) (hn : n ≤ 1000000) (w : World) :
    (Instr.makeSlice 38 (.int .i64 z) (.int .i64 z)).run Try.prog w = .ok (.slice (some ⟨w.heap.size, 0, none⟩) n n) (w.alloc (.cells (rowN .u64 16 n 0) 22)) := by
  subst hz
  obtain ⟨i0, hi, hz0, hz1, hz2⟩ := info_parts Try.infoU64
  have := run_make (P := Try.prog) w 38 22 i0 (.int .u64 0) Try.underlying38 hi hz0 .i64 .i64 (n : Int) (n : Int) (by omega) (Int.le_refl _) (by rw [hz2]; omega) (by omega)
  rw [hz1, Int.toNat_natCast, made_row] at this
  exact this

/-- A row that holds a number is its digits. -/
theorem Us.of_row {w : World} {g n V : Nat} {t : TypeId} {f : Nat × Nat} (h : w.heap[g]? = some (.cells (rowN .u64 16 n V) t f)) (hn : n ≤ 1000000) : Us w (some ⟨g, 0, none⟩) n (ds n V) :=
  ⟨by simp, by rw [ds_length]; omega, by unfold maxLen; omega, (fun e => by cases e), fun j u hj => ⟨g, 0, rfl, by
    have hjn : j < n := by have := (List.getElem?_eq_some_iff.1 hj).1; simpa [ds_length] using this
    rw [Nat.zero_add, cell_at, h, cellAt_cells, rowN_get _ _ _ _ _ hjn]
    simpa [ds, hjn, U64] using hj⟩⟩

set_option maxRecDepth 100000 in
set_option maxHeartbeats 8000000 in
theorem r3Mul_any (x y : Nat) (a1 : Option Addr) (c1 : Nat) (a2 : Option Addr) (c2 : Nat) (hlx : lg x ≤ 10000) (hly : lg y ≤ 10000) (w : World) (hx : Ns w a1 c1 x) (hy : Ns w a2 c2 y) :
    Calls Try.prog 21 #[.slice a1 (lg x) c1, .slice a2 (lg y) c2] w fun e w' => NN (x * y) w e w' := by
  have HX := Lib.hid hx
  have HY := Lib.hid hy
  have HLX := Lib.hid (show x < pw (lg x) from lg_lt x)
  have HLY := Lib.hid (show y < pw (lg y) from lg_lt y)
  clear hx hy
  generalize hnx : lg x = nx at *
  generalize hny : lg y = ny at *
  have HNX := Lib.hid hnx
  have HNY := Lib.hid hny
  clear hnx hny
  obtain ⟨n, hn⟩ : ∃ n, nx + ny + 1 = n := ⟨_, rfl⟩
  have m1 : IntKind.i64.wrap ((nx : Int) + ny) = ((nx + ny : Nat) : Int) := by rw [IntWalk.i64_in _ (by omega)]; omega
  have m2 : IntKind.i64.wrap (((nx + ny : Nat) : Int) + 1) = (n : Int) := by rw [IntWalk.i64_in _ (by omega)]; omega
  have HN := Lib.hid hn
  have hnl : n ≤ 20001 := by omega
  clear hn
  have hmk := fun w => run_make_N n ((nx : Int) + ny + 1) (by have := HN.out; omega) (by omega) w
  go_enter Try.func21, Try.ntmps21
  go_wp2_with fail
  clear hmk m1 m2
  obtain ⟨W1, hW1⟩ : ∃ W1, W1 = w.alloc (.cells (rowN .u64 16 n 0) 22) := ⟨_, rfl⟩
  refine wp_of_world W1 hW1 ?_
  have r1 : W1.heap[w.heap.size]? = some (.cells (rowN .u64 16 n 0) 22 (0, 0)) := by rw [hW1]; exact heap_alloc_new _ _
  have f1 : Fr F0 w W1 := by rw [hW1]; exact (Fr.refl F0 w).alloc _
  clear hW1
  generalize hg : w.heap.size = g at *
  have HG := Lib.hid hg
  clear hg
  go_loopw [19] (fun iv wr => ∃ i : Nat, i ≤ nx ∧ iv = .int .i64 i ∧ wr.heap[g]? = some (.cells (rowN .u64 16 n (x % pw i * y)) 22 (0, 0)) ∧ Fr F0 w wr) (fun iv _ => nx - (intOf iv).toNat)
  case atStart => exact ⟨0, Nat.zero_le _, rfl, by rw [pw_zero, Nat.mod_one, Nat.zero_mul]; exact r1, f1⟩
  case round =>
    clear r1 f1
    obtain ⟨i, hi, rfl, r1, hf⟩ := hrel
    by_cases h1 : i < nx
    · have l1 : (i : Int) < (nx : Int) := by omega
      obtain ⟨b, off, ea, hc⟩ := (HX.out.fr hf).get i (by rw [dg_length, HNX.out]; exact h1)
      rw [dg_getD] at hc
      have hd16 := d16_lt x i
      generalize hd : dgt 16 x i = d at *
      have HD := Lib.hid hd
      have HI := Lib.hid h1
      have hi' : i ≤ 10000 := by omega
      subst ea
      clear hd h1
      obtain ⟨w1, hw1⟩ : ∃ w1, w1 = wr := ⟨_, rfl⟩
      subst hw1
      go_wp2_with fail
      go_loopw [8, 9] (fun cv kv wr => ∃ k c V : Nat, k ≤ ny + 1 ∧ c < 65536 ∧ cv = .int .u64 c ∧ kv = .int .i64 k ∧ wr.heap[g]? = some (.cells (rowN .u64 16 n V) 22 (0, 0)) ∧ V + pw (i + k) * c = mlP x y i d k ∧ Fr F0 w wr) (fun _ kv _ => ny + 2 - (intOf kv).toNat)
      case atStart => exact ⟨0, 0, x % pw i * y, by omega, by omega, rfl, rfl, r1, by rw [mlP_zero, Nat.mul_zero, Nat.add_zero], hf⟩
      case round =>
        clear r1 hf hc
        obtain ⟨k, c, V, hk, hc16, rfl, rfl, r1, he, hf⟩ := hrel
        have hcase : (k < ny ∨ (¬ k < ny ∧ 0 < c)) ∨ (¬ k < ny ∧ c = 0) := by omega
        rcases hcase with hcase | ⟨h2, h3⟩
        · have hkl : k ≤ ny := by
            rcases hcase with h | ⟨h2, h3⟩
            · omega
            · exact ml_room (x := x) (i := i) (V := V) (c := c) (by rw [HD.out]; exact he) HLY.out (by omega) h3
          have hst := ml_step' x y i d k V c he
          have hm2 := ml_lt hc16 (d16_lt V (i + k)) hd16 (d16_lt y k)
          have he16 := d16_lt y k
          obtain ⟨p, hp⟩ : ∃ p, i + k = p := ⟨_, rfl⟩
          rw [hp] at hst hm2
          have ho16 := d16_lt V p
          obtain ⟨s1, hs1⟩ : ∃ s1, c + dgt 16 V p = s1 := ⟨_, rfl⟩
          obtain ⟨de, hde⟩ : ∃ de, d * dgt 16 y k = de := ⟨_, rfl⟩
          rw [hs1, hde] at hst hm2
          obtain ⟨sm, hsm⟩ : ∃ sm, s1 + de = sm := ⟨_, rfl⟩
          rw [hsm] at hst hm2
          obtain ⟨r, hr⟩ : ∃ r, sm % 65536 = r := ⟨_, rfl⟩
          obtain ⟨z, hz⟩ : ∃ z, sm / 65536 = z := ⟨_, rfl⟩
          rw [hr, hz] at hst
          have mp : IntKind.i64.wrap ((i : Int) + k) = (p : Int) := by rw [IntWalk.i64_in _ (by omega)]; omega
          have lp : (p : Int) < (n : Int) := by have := HN.out; have := HI.out; omega
          have lpn : p < n := by omega
          have hdi : (d : Int) * ((dgt 16 y k : Nat) : Int) = (de : Int) := by rw [← hde, Int.natCast_mul]
          have q1 : IntKind.u64.wrap ((c : Int) + ((dgt 16 V p : Nat) : Int)) = (s1 : Int) := by rw [IntWalk.u64_in _ (by omega)]; omega
          have q2 : IntKind.u64.wrap ((d : Int) * ((dgt 16 y k : Nat) : Int)) = (de : Int) := by rw [hdi]; exact IntWalk.u64_in _ (by omega)
          have q3 : IntKind.u64.wrap ((s1 : Int) + (de : Int)) = (sm : Int) := by rw [IntWalk.u64_in _ (by omega)]; omega
          have mr : (sm : Int) % 65536 = (r : Int) := by omega
          have mz : (sm : Int) / 65536 = (z : Int) := by omega
          have hr16 : r < 2 ^ 16 := by omega
          have hz16 : z < 65536 := by omega
          have wz : IntKind.u64.wrap (z : Int) = (z : Int) := IntWalk.u64_in _ (by omega)
          have HST := Lib.hid hst
          have HP := Lib.hid (And.intro hp (And.intro hkl (And.intro hr16 hz16)))
          clear hst hm2 hs1 hde hsm hr hz hdi hp ho16 he16 hr16 hz16 he hkl hd16
          have hgo : ∀ cond : Bool, True := fun _ => trivial
          rcases hcase with h2 | ⟨h2, h3⟩
          case' inl => have l2 : (k : Int) < (ny : Int) := by omega
          case' inr => have l2 : ¬ (k : Int) < (ny : Int) := by omega
          case' inr => have l3 : (0 : Int) < (c : Int) := by omega
          all_goals
            go_wp2_with fail
            refine wp_region_noPanic ?_
            refine wp_region_held_drew (S := (fun w' => w'.heap[g]? = some (.cells (rowN .u64 16 n V) 22 (0, 0)) ∧ Fr F0 w w')) (by kernel_rfl) ?_ (fun hHeld => ?_)
            · ((try dsimp only) <;> (first | exact ⟨r1, hf.drew⟩ | exact hHeld))
            refine wpAnyH_take (i := 0) (oi := ⟨_, _, _, _, _, _⟩) (v := ?_) rfl (by kernel_rfl) (by kernel_rfl) (by kernel_rfl) (fun _ _ _ h => h) (Or.inl ⟨by rfl, ?_⟩) (by assumption) ?_
            rotate_left
            · intro w hSw; (try dsimp only at hSw); go_simp; (try (with_reducible rfl)); done
            simp only [Act.put, List.setIfInBounds_toArray]; dsimp only [List.set_cons_zero, List.set_cons_succ]
            refine wpAnyH_take (i := 1) (oi := ⟨_, _, _, _, _, _⟩) (v := ?_) rfl (by kernel_rfl) (by kernel_rfl) (by kernel_rfl) (fun _ _ _ h => h) (Or.inl ⟨by rfl, ?_⟩) (by assumption) ?_
            rotate_left
            · intro w hSw; (try dsimp only at hSw); go_simp; (try (with_reducible rfl)); done
            simp only [Act.put, List.setIfInBounds_toArray]; dsimp only [List.set_cons_zero, List.set_cons_succ]
            refine wpAnyH_take (i := 2) (oi := ⟨_, _, _, _, _, _⟩) (v := ?_) rfl (by kernel_rfl) (by kernel_rfl) (by kernel_rfl) (fun _ _ _ h => h) (Or.inl ⟨by rfl, ?_⟩) (by assumption) ?_
            rotate_left
            · intro w hSw; (try dsimp only at hSw); go_simp; (try (with_reducible rfl)); done
            simp only [Act.put, List.setIfInBounds_toArray]; dsimp only [List.set_cons_zero, List.set_cons_succ]
            refine wpAnyH_take (i := 3) (oi := ⟨_, _, _, _, _, _⟩) (v := ?_) rfl (by kernel_rfl) (by kernel_rfl) (by kernel_rfl) (fun _ _ _ h => h) (Or.inl ⟨by rfl, ?_⟩) (by assumption) ?_
            rotate_left
            · intro w hSw; (try dsimp only at hSw); go_simp; (try (with_reducible rfl)); done
            simp only [Act.put, List.setIfInBounds_toArray]; dsimp only [List.set_cons_zero, List.set_cons_succ]
            refine wpAnyH_take (i := 4) (oi := ⟨_, _, _, _, _, _⟩) (v := ?_) rfl (by kernel_rfl) (by kernel_rfl) (by kernel_rfl) (fun _ _ _ h => h) (Or.inl ⟨by rfl, ?_⟩) (by assumption) ?_
            rotate_left
            · intro w hSw; (try dsimp only at hSw); go_simp; (try (with_reducible rfl)); done
            simp only [Act.put, List.setIfInBounds_toArray]; dsimp only [List.set_cons_zero, List.set_cons_succ]
            refine wpAnyH_take (i := 5) (oi := ⟨_, _, _, _, _, _⟩) (v := ?_) rfl (by kernel_rfl) (by kernel_rfl) (by kernel_rfl) (fun _ _ _ h => h) (Or.inl ⟨by rfl, ?_⟩) (by assumption) ?_
            rotate_left
            · intro w hSw; (try dsimp only at hSw); go_simp; (try (with_reducible rfl)); done
            simp only [Act.put, List.setIfInBounds_toArray]; dsimp only [List.set_cons_zero, List.set_cons_succ]
            refine wpAnyH_take (i := 6) (oi := ⟨_, _, _, _, _, _⟩) (v := ?_) rfl (by kernel_rfl) (by kernel_rfl) (by kernel_rfl) (fun _ _ _ h => h) (Or.inl ⟨by rfl, ?_⟩) (by assumption) ?_
            rotate_left
            · intro w hSw; (try dsimp only at hSw); go_simp; (try (with_reducible rfl)); done
            simp only [Act.put, List.setIfInBounds_toArray]; dsimp only [List.set_cons_zero, List.set_cons_succ]
            refine wpAnyH_take (i := 7) (oi := ⟨_, _, _, _, _, _⟩) (v := ?_) rfl (by kernel_rfl) (by kernel_rfl) (by kernel_rfl) (fun _ _ _ h => h) (Or.inl ⟨by rfl, ?_⟩) (by assumption) ?_
            rotate_left
            · intro w hSw; (try dsimp only at hSw); go_simp; (try (with_reducible rfl)); done
            simp only [Act.put, List.setIfInBounds_toArray]; dsimp only [List.set_cons_zero, List.set_cons_succ]
            refine wpAnyH_take (i := 8) (oi := ⟨_, _, _, _, _, _⟩) (v := ?_) rfl (by kernel_rfl) (by kernel_rfl) (by kernel_rfl) (fun _ _ _ h => h) (Or.inl ⟨by rfl, ?_⟩) (by assumption) ?_
            rotate_left
            · intro w hSw; (try dsimp only at hSw); go_simp; (try (with_reducible rfl)); done
            simp only [Act.put, List.setIfInBounds_toArray]; dsimp only [List.set_cons_zero, List.set_cons_succ]
            refine wpAnyH_take (i := 9) (oi := ⟨_, _, _, _, _, _⟩) (v := ?_) rfl (by kernel_rfl) (by kernel_rfl) (by kernel_rfl) (fun _ _ _ h => h) (Or.inl ⟨by rfl, ?_⟩) (by assumption) ?_
            rotate_left
            · intro w hSw; (try dsimp only at hSw); go_simp; (try (with_reducible rfl)); done
            simp only [Act.put, List.setIfInBounds_toArray]; dsimp only [List.set_cons_zero, List.set_cons_succ]
            refine wpAnyH_take (i := 10) (oi := ⟨_, _, _, _, _, _⟩) (v := ?_) rfl (by kernel_rfl) (by kernel_rfl) (by kernel_rfl) (fun _ _ _ h => h) (Or.inl ⟨by rfl, ?_⟩) (by assumption) ?_
            rotate_left
            · intro w hSw; (try dsimp only at hSw); go_simp; (try (with_reducible rfl)); done
            simp only [Act.put, List.setIfInBounds_toArray]; dsimp only [List.set_cons_zero, List.set_cons_succ]
            refine wpAnyH_ready (rs := [11]) (by kernel_rfl) (by simp) ?_
            refine AllReadyH.cons (o := ⟨_, _, _, _, _, _⟩) rfl (fun K hK => ?_) AllReadyH.nil
            go_simp
            (refine (digitN a2 ny c2 y k HNY.out.symm _ (HY.out.fr hHeld.2)).mono ?_; rintro e w5 ⟨rfl, hw⟩; have hw := hw.symm; subst hw)
            refine hK.out _ _ ?_ (fun hHeld => ?_)
            · ((try dsimp only) <;> (first | exact ⟨r1, hf.drew⟩ | exact hHeld))
            clear hK K
            try (simp only [Act.put, List.setIfInBounds_toArray]; dsimp only [List.set_cons_zero, List.set_cons_succ])
            refine wpAnyH_take (i := 12) (oi := ⟨_, _, _, _, _, _⟩) (v := ?_) rfl (by kernel_rfl) (by kernel_rfl) (by kernel_rfl) (fun _ _ _ h => h) (Or.inl ⟨by rfl, ?_⟩) (by assumption) ?_
            rotate_left
            · intro w hSw; (try dsimp only at hSw); go_simp; (try (with_reducible rfl)); done
            simp only [Act.put, List.setIfInBounds_toArray]; dsimp only [List.set_cons_zero, List.set_cons_succ]
            refine wpAnyH_take (i := 13) (oi := ⟨_, _, _, _, _, _⟩) (v := ?_) rfl (by kernel_rfl) (by kernel_rfl) (by kernel_rfl) (fun _ _ _ h => h) (Or.inl ⟨by rfl, ?_⟩) (by assumption) ?_
            rotate_left
            · intro w hSw; (try dsimp only at hSw); go_simp; (try (with_reducible rfl)); done
            simp only [Act.put, List.setIfInBounds_toArray]; dsimp only [List.set_cons_zero, List.set_cons_succ]
            refine wpAnyH_take (i := 14) (oi := ⟨_, _, _, _, _, _⟩) (v := ?_) rfl (by kernel_rfl) (by kernel_rfl) (by kernel_rfl) (fun _ _ _ h => h) (Or.inl ⟨by rfl, ?_⟩) (by assumption) ?_
            rotate_left
            · intro w hSw; (try dsimp only at hSw); go_simp; (try (with_reducible rfl)); done
            simp only [Act.put, List.setIfInBounds_toArray]; dsimp only [List.set_cons_zero, List.set_cons_succ]
            refine wpAnyH_done (by kernel_rfl) ?_ _
            refine NoPanic.normal ?_
            clear r1 hf hw
            obtain ⟨r1, hf⟩ := hHeld
            generalize wr.drew = w7 at *
            go_wp2_with fail
            go_roundw
            case rel =>
              obtain ⟨hp, hkl, hr16, hz16⟩ := HP.out
              have hg := HG.out
              refine ⟨k + 1, z, putw 16 V p r, by omega, hz16, rfl, by go_num, ?_, ?_, ?_⟩
              · rw [heap_setCell_at, r1, withCell_cells, rowN_set _ _ _ _ _ _ hr16]
              · rw [← Nat.add_assoc, hp]; exact HST.out
              · exact hf.setCell (p := ⟨g, p, none⟩) (fun h => by simp at h; omega) _
            case measure =>
              obtain ⟨hp, hkl, hr16, hz16⟩ := HP.out
              simp [intOf]; omega
        · have l2 : ¬ (k : Int) < (ny : Int) := by omega
          have l3 : ¬ (0 : Int) < (c : Int) := by omega
          have he2 : V = x % pw (i + 1) * y := by
            have e := mlP_all x y i k (Nat.lt_of_lt_of_le HLY.out (pw_le (by omega)))
            rw [HD.out] at e
            rw [h3, Nat.mul_zero, Nat.add_zero] at he
            rw [he, e]
          subst he2
          have HR := Lib.hid r1
          have HF := Lib.hid hf
          clear he r1 hf
          go_wp2_with fail
          go_roundw
          case rel => exact ⟨i + 1, HI.out, by go_num, HR.out, HF.out⟩
          case measure => have := HI.out; simp [intOf]; omega
    · have l1 : ¬ (i : Int) < (nx : Int) := by omega
      have HV := Lib.hid (show x % pw i * y = x * y ∧ x * y < pw n by
        obtain rfl : i = nx := by omega
        refine ⟨by rw [Nat.mod_eq_of_lt HLX.out], ?_⟩
        have h1 : x * y < pw i * pw ny := Nat.mul_lt_mul'' HLX.out HLY.out
        rw [← pw_add] at h1
        exact Nat.lt_of_lt_of_le h1 (pw_le (by have := HN.out; omega)))
      rw [HV.out.1] at r1
      have HQ3 := Lib.hid (trim_any n (x * y) (some ⟨g, 0, none⟩) n HV.out.2 (by omega) wr (Us.of_row r1 (by omega)))
      go_wp2_with ((with_reducible refine HQ3.out.mono ?_); rintro e w' ⟨⟨a5, c5, rfl, hn⟩, hw⟩; have hw := hw.symm; subst hw)
      go_ret
      exact ⟨a5, c5, rfl, hn, hf⟩
end Go.Proofs.Ytgdnmmobnfjegaa
