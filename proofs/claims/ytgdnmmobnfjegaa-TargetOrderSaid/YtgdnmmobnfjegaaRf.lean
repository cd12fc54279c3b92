/- The document's answer 03 (wide): the walk of FromBits. -/
import Derived.Test.YtgdnmmobnfjegaaRk
namespace Go.Proofs.Ytgdnmmobnfjegaa
set_option linter.unusedVariables false
set_option linter.unusedSimpArgs false
open Go.RowKit

theorem lg_one : lg 1 = 1 := by
  have h1 := lg_min (x := 1) (n := 1) (by omega)
  have h2 := lg_pos (x := 1) (by omega)
  omega
theorem dg_one : dg 1 = [1] := by unfold dg; rw [lg_one]; simp [ds, dgt]
theorem bit_step (v j : Nat) : v / 2 ^ j = v / 2 ^ (j + 1) + v / 2 ^ (j + 1) + dgt 1 v j := by
  rw [← half_pow, dgt1]; omega
theorem bit_lt (v j : Nat) : dgt 1 v j < 2 := by rw [dgt1]; exact Nat.mod_lt _ (by omega)
theorem bs_getD (n x i : Nat) (h : i < n) : (bs n x).getD i 0 = dgt 1 x i := by simp [bs, List.getD, h]

/-- Add, of one. -/
theorem r3Add_one (x : Nat) (a1 : Option Addr) (c1 : Nat) (a2 : Option Addr) (c2 : Nat) (hlx : lg x ≤ 10000) (w : World) (hx : Ns w a1 c1 x) (hy : Us w a2 c2 [1]) :
    Calls Try.prog 20 #[.slice a1 (lg x) c1, .slice a2 1 c2] w fun e w' => NN (x + 1) w e w' := by
  have h := r3Add_any x 1 a1 c1 a2 c2 hlx (by rw [lg_one]; omega) w hx (by unfold Ns; rw [dg_one]; exact hy)
  rwa [lg_one] at h

set_option maxRecDepth 100000 in
set_option maxHeartbeats 8000000 in
theorem r3FromBits_any (v n : Nat) (a : Option Addr) (c : Nat) (hv : v < 2 ^ n) (hn : n ≤ 100000) (hl : lg v ≤ 10000) (w : World) (hx : Us w a c (bs n v)) :
    Calls Try.prog 50 #[.slice a n c] w fun e w' => NN v w e w' := by
  have HL := Lib.hid (fun z (h : z ≤ v) => Nat.le_trans (lg_min (Nat.lt_of_le_of_lt h (lg_lt v))) hl)
  have HX := Lib.hid hx
  have HV := Lib.hid hv
  clear hl hx hv
  go_enter Try.func50, Try.ntmps50
  go_wp2_with fail
  go_loopw [3, 4] (fun ov iv wr => ∃ k : Nat, k ≤ n ∧ iv = .int .i64 ((k : Int) - 1) ∧ (∃ a' c', ov = .slice a' (lg (v / 2 ^ k)) c' ∧ Ns wr a' c' (v / 2 ^ k)) ∧ Fr F0 w wr) (fun _ iv _ => (intOf iv + 1).toNat)
  case atStart =>
    refine ⟨n, Nat.le_refl _, rfl, ⟨_, _, by rw [Nat.div_eq_of_lt HV.out, lg_zero], ?_⟩, (Fr.refl F0 w).alloc _⟩
    rw [Nat.div_eq_of_lt HV.out]
    exact (Row.nil w 0).elim fun _ h => h.elim fun _ h => by obtain ⟨e, ho, _⟩ := h; cases e; exact ho.us.2
  case round =>
    obtain ⟨k, hk, rfl, ⟨a1, c1, rfl, hn1⟩, hf⟩ := hrel
    cases k with
    | zero =>
      rw [Nat.pow_zero, Nat.div_one] at *
      go_wp2_with fail
      go_ret
      exact ⟨a1, c1, rfl, hn1, hf⟩
    | succ j =>
      obtain ⟨b, off, ea, hc⟩ := (HX.out.fr hf).get j (by rw [bs_length]; omega)
      rw [bs_getD _ _ _ (by omega)] at hc
      subst ea
      have hst := bit_step v j
      have hb2 := bit_lt v j
      have hle : v / 2 ^ j ≤ v := Nat.div_le_self _ _
      generalize v / 2 ^ (j + 1) = u at *
      generalize dgt 1 v j = d at *
      have HA := Lib.hid (r3Add_any u u a1 c1 a1 c1 (HL.out u (by omega)) (HL.out u (by omega)) wr hn1 hn1)
      have hl2 := HL.out (u + u) (by omega)
      have HK := Lib.hid hk
      have lj : (j : Int) < (n : Int) := by omega
      have ljn : j < n := by omega
      have hj : j ≤ 100000 := by omega
      have HF := Lib.hid hf
      rw [show ((j + 1 : Nat) : Int) - 1 = (j : Int) by omega]
      clear hn1 hk hf hle
      have hd : d = 1 ∨ d = 0 := by omega
      rcases hd with rfl | rfl
      · have HS := Lib.hid hst
        clear hst hb2
        go_wp2_with fail
        (with_reducible refine HA.out.mono ?_)
        rintro e w5 ⟨a5, c5, rfl, n5, f5⟩
        have hc5 : Obj.cellAt (off + j) w5.heap[b]? = some (.int .u64 ((1 : Nat) : Int)) := by
          rw [← cell_at]; rw [← cell_at] at hc
          exact f5.cell (fun f => f) hc
        clear hc
        generalize hq : lg (u + u) = q at *
        have HQ := Lib.hid hq
        clear hq
        go_wp2_with fail
        have h6 := r3Add_one (u + u) a5 c5 _ 1 (by rw [HQ.out]; exact hl2) _ (n5.fr ((Fr.refl F0 w5).alloc (.cells #[.int .u64 ((1 : Nat) : Int)] 22))) (Us.of_new w5 1)
        rw [HQ.out] at h6
        rw [show ((1 : Nat) : Int) = 1 from rfl] at h6
        (with_reducible refine h6.mono ?_)
        rintro e w7 ⟨a7, c7, rfl, n7, f7⟩
        rw [← HS.out] at *
        have F7 := (HF.out.trans' f5).trans' (((Fr.refl F0 w5).alloc _).trans' f7)
        generalize hq7 : lg (v / 2 ^ j) = q7 at *
        have HQ7 := Lib.hid hq7
        clear hq7
        go_wp2_with fail
        go_roundw
        case rel => exact ⟨j, by omega, rfl, ⟨a7, c7, by rw [HQ7.out], n7⟩, F7⟩
        case measure => simp [intOf]
      · have HS := Lib.hid hst
        clear hst hb2
        go_wp2_with fail
        (with_reducible refine HA.out.mono ?_)
        rintro e w5 ⟨a5, c5, rfl, n5, f5⟩
        have hc5 : Obj.cellAt (off + j) w5.heap[b]? = some (.int .u64 ((0 : Nat) : Int)) := by
          rw [← cell_at]; rw [← cell_at] at hc
          exact f5.cell (fun f => f) hc
        clear hc
        rw [Nat.add_zero] at HS
        rw [← HS.out] at *
        have F7 := HF.out.trans' f5
        generalize hq7 : lg (v / 2 ^ j) = q7 at *
        have HQ7 := Lib.hid hq7
        clear hq7
        go_wp2_with fail
        go_roundw
        case rel => exact ⟨j, by omega, rfl, ⟨a5, c5, by rw [HQ7.out], n5⟩, F7⟩
        case measure => simp [intOf]
end Go.Proofs.Ytgdnmmobnfjegaa
