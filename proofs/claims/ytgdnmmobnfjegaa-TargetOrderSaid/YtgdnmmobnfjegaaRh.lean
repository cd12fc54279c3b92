/- The document's answer 03 (wide): the walk of Half. -/
import Derived.Test.YtgdnmmobnfjegaaRe
namespace Go.Proofs.Ytgdnmmobnfjegaa
set_option linter.unusedVariables false
set_option linter.unusedSimpArgs false
open Go.RowKit

set_option maxRecDepth 100000 in
set_option maxHeartbeats 8000000 in
theorem r3Half_any (x : Nat) (a : Option Addr) (c : Nat) (hlx : lg x ≤ 10000) (w : World) (hx : Ns w a c x) :
    Calls Try.prog 51 #[.slice a (lg x) c] w fun e w' => ∃ a' c', e = .returned (.tuple #[.slice a' (lg (x / 2)) c', .int .u64 ((x % 2 : Nat) : Int)]) ∧ Ns w' a' c' (x / 2) ∧ (∀ b, ablk a' = some b → w.heap.size ≤ b) ∧ Fr F0 w w' := by
  have HX := Lib.hid hx
  have HLX := Lib.hid (show x < pw (lg x) from lg_lt x)
  clear hx
  generalize hnx : lg x = nx at *
  have HNX := Lib.hid hnx
  clear hnx
  have hmk := fun w => run_make_N nx (nx : Int) rfl (by omega) w
  go_enter Try.func51, Try.ntmps51
  go_wp2_with fail
  clear hmk
  obtain ⟨W1, hW1⟩ : ∃ W1, W1 = w.alloc (.cells (rowN .u64 16 nx 0) 22) := ⟨_, rfl⟩
  refine wp_of_world W1 hW1 ?_
  have r1 : W1.heap[w.heap.size]? = some (.cells (rowN .u64 16 nx 0) 22 (0, 0)) := by rw [hW1]; exact heap_alloc_new _ _
  have f1 : Fr F0 w W1 := by rw [hW1]; exact (Fr.refl F0 w).alloc _
  clear hW1
  generalize hg : w.heap.size = g at *
  have HG := Lib.hid hg
  clear hg
  go_loopw [5, 6] (fun rv iv wr => ∃ k : Nat, k ≤ nx ∧ iv = .int .i64 ((k : Int) - 1) ∧ rv = .int .u64 ((x / pw k % 2 : Nat) : Int) ∧ wr.heap[g]? = some (.cells (rowN .u64 16 nx (pw k * (x / pw k / 2))) 22 (0, 0)) ∧ Fr F0 w wr) (fun _ iv _ => (intOf iv + 1).toNat)
  case atStart =>
    refine ⟨nx, Nat.le_refl _, rfl, ?_, ?_, f1⟩
    · rw [Nat.div_eq_of_lt HLX.out]; rfl
    · rw [Nat.div_eq_of_lt HLX.out]; exact r1
  case round =>
    clear r1 f1
    obtain ⟨k, hk, rfl, rfl, r1, hf⟩ := hrel
    cases k with
    | zero =>
      rw [pw_zero, Nat.one_mul, Nat.div_one] at r1
      rw [pw_zero, Nat.div_one]
      have HQ3 := Lib.hid (trim_same nx (x / 2) (some ⟨g, 0, none⟩) nx (Nat.lt_of_le_of_lt (Nat.div_le_self _ _) HLX.out) (by omega) wr (Us.of_row r1 (by omega)))
      generalize hrr : x % 2 = rr at *
      have HRR := Lib.hid hrr
      clear hrr
      go_wp2_with ((with_reducible refine HQ3.out.mono ?_); rintro e w' ⟨⟨c5, rfl, hn⟩, hw⟩; have hw := hw.symm; subst hw)
      go_ret2
      exact ⟨some ⟨g, 0, none⟩, c5, by rw [HRR.out]; rfl, hn, (fun b e => by have := HG.out; simp only [ablk, Option.some.injEq] at e; omega), hf⟩
    | succ j =>
      obtain ⟨b, off, ea, hc⟩ := (HX.out.fr hf).get j (by rw [dg_length, HNX.out]; omega)
      rw [dg_getD] at hc
      subst ea
      obtain ⟨hs1, hs2⟩ := half_step x j _ rfl
      have hd16 := d16_lt x j
      have hr2 : x / pw (j + 1) % 2 < 2 := Nat.mod_lt _ (by omega)
      generalize x / pw (j + 1) % 2 = rr at *
      generalize pw (j + 1) * (x / pw (j + 1) / 2) = V at *
      generalize dgt 16 x j = d at *
      obtain ⟨m, hm⟩ : ∃ m, rr * 65536 = m := ⟨_, rfl⟩
      obtain ⟨t, ht⟩ : ∃ t, m + d = t := ⟨_, rfl⟩
      obtain ⟨v, hv⟩ : ∃ v, t / 2 = v := ⟨_, rfl⟩
      obtain ⟨u, hu⟩ : ∃ u, t % 2 = u := ⟨_, rfl⟩
      rw [hm, ht, hv] at hs1
      rw [hm, ht, hu] at hs2
      have m1 : IntKind.u64.wrap ((rr : Int) * 65536) = (m : Int) := by rw [IntWalk.u64_in _ (by omega)]; omega
      have m2 : IntKind.u64.wrap ((m : Int) + d) = (t : Int) := by rw [IntWalk.u64_in _ (by omega)]; omega
      have m3 : (t : Int) / 2 = (v : Int) := by omega
      have m4 : (t : Int) % 2 = (u : Int) := by omega
      have wv : IntKind.u64.wrap (v : Int) = (v : Int) := IntWalk.u64_in _ (by omega)
      have wu : IntKind.u64.wrap (u : Int) = (u : Int) := IntWalk.u64_in _ (by omega)
      have lj : (j : Int) < (nx : Int) := by omega
      have ljn : j < nx := by omega
      have HV := Lib.hid (And.intro hs1 (And.intro hs2 (And.intro (show v < 2 ^ 16 by omega) hk)))
      have hj : j ≤ 10000 := by omega
      rw [show ((j + 1 : Nat) : Int) - 1 = (j : Int) by omega]
      clear hs1 hs2 hm ht hv hu hd16 hr2 hk
      go_wp2_with fail
      go_roundw
      case rel =>
        obtain ⟨hs1, hs2, hv16, hk⟩ := HV.out
        have hg := HG.out
        refine ⟨j, by omega, rfl, by rw [m4, hs2], ?_, ?_⟩
        · rw [heap_setCell_at, r1, withCell_cells, rowN_set _ _ _ _ _ _ hv16, hs1]
        · exact hf.setCell (p := ⟨g, j, none⟩) (fun h => by simp at h; omega) _
      case measure => simp [intOf]
end Go.Proofs.Ytgdnmmobnfjegaa
