import Derived.Test.YtdihahegmfdccaaDoorZa6
import Derived.Test.YtdihahegmfdccaaDoorZa5
/- Layer 6 (target): what its functions are asked for, as hypotheses of the laws; hashes as numbers; the fixed fact. -/
namespace Go.Proofs.YtdihahegmfdccaaDoor
set_option linter.unusedVariables false
set_option linter.unusedSimpArgs false
open Go.RowKit

theorem Tryd.szHash : (Tryd.prog.info? 24).map (·.size) = some 32 := by kernel_rfl
@[go_sem ↓ high] theorem load_hash (p : Value) : Instr.loadAt 24 p = loadRowAt 24 p := rfl
@[go_sem] theorem run_load_hash (w : World) (g : Nat) : (loadRowAt 24 (.pointer (some ⟨g, 0, none⟩))).run Tryd.prog w = rowOut Tryd.prog 24 (.pointer (some ⟨g, 0, none⟩)) w 32 w.heap[g]? :=
  run_loadRowAt w _ g 32 _ Tryd.underlying24 rfl Tryd.szHash

def DecC : Prop := ∀ (b : Nat), b < 4294967296 →
  (btP b → ∀ w, Calls Tryd.prog 38 #[.int .u32 (b : Int)] w fun e w' => e = .returned (.tuple #[.agg (rowN .u64 64 4 (btT b)), .int .i64 0]) ∧ Fr F0 w w') ∧
  (¬ btP b → ∀ w, Calls Tryd.prog 38 #[.int .u32 (b : Int)] w fun e w' => e = .returned (.tuple #[.agg (rowN .u64 64 4 0), .int .i64 6]) ∧ Fr F0 w w')
def MeetsC : Prop := ∀ (h t : Nat) (o : Bool), h < W256 → t < W256 → decide (h ≤ t) = o → ∀ w, Calls Tryd.prog 40 #[.agg (rowN .u8 8 32 h), .agg (rowN .u64 64 4 t)] w fun e w' => e = .returned (.bool o) ∧ Fr F0 w w'
def scE (by' most : Nat) : Int := if by' = 0 then 5 else if most = 0 then 1 else 0
def scV (t up by' most : Nat) : Nat := if by' = 0 then 0 else if most = 0 then 0 else scN t up by' most

theorem live6a : decide (btP 486604799) = true := by decide +kernel
theorem live6b : upBy 65535 208 = btT 486604799 := by decide +kernel
theorem live6c : wkN (btT 486604799) = 4295032833 := by decide +kernel
theorem live6d : btT 486604799 < W256 := by decide +kernel


end Go.Proofs.YtdihahegmfdccaaDoor

/- Layer 6 (target): moved, Meets, Decode. -/
namespace Go.Proofs.YtdihahegmfdccaaDoor
set_option linter.unusedVariables false
set_option linter.unusedSimpArgs false
open Go.RowKit

theorem tmoved_any (e : Nat) (he : e ≤ 255) (w : World) :
    Calls Tryd.prog 57 #[.int .i64 (e : Int)] w fun o w' => o = .returned (.int .i64 (8 * ((e : Int) - 3))) ∧ w' = w := by
  have e1 : IntKind.i64.wrap ((e : Int) - 3) = (e : Int) - 3 := IntWalk.i64_in _ (by omega)
  have e2 : IntKind.i64.wrap (8 * ((e : Int) - 3)) = 8 * ((e : Int) - 3) := IntWalk.i64_in _ (by omega)
  clear he
  go_enter Tryd.func57, Tryd.ntmps57
  go_wp2_with fail
  go_ret
  exact ⟨rfl, rfl⟩

theorem sgn_le (x y : Nat) : (sgn x y ≤ 0) ↔ x ≤ y := by
  unfold sgn
  by_cases h1 : x < y
  · rw [if_pos h1]; omega
  · rw [if_neg h1]
    by_cases h2 : y < x
    · rw [if_pos h2]; omega
    · rw [if_neg h2]; omega

set_option maxRecDepth 100000 in
set_option maxHeartbeats 2000000 in
theorem meetsC : MeetsC := by
  intro h t o hh ht ho w
  have HF := Lib.hid (wFromBytes_any h hh)
  have HC := Lib.hid (wCmp_any h t hh ht)
  have hle : decide (sgn h t ≤ 0) = o := by rw [← ho]; exact decide_eq_decide.2 (sgn_le h t)
  generalize sgn h t = s at *
  clear hh ht ho
  go_enter Tryd.func40, Tryd.ntmps40
  go_wp2_with fail
  obtain ⟨W1, hW1⟩ : ∃ W, W = (w.alloc (.cells (rowN .u8 8 32 h) 24)).alloc (.cells (rowN .u64 64 4 t) 40) := ⟨_, rfl⟩
  obtain ⟨r1, r2⟩ := heap2 w (.cells (rowN .u8 8 32 h) 24) (.cells (rowN .u64 64 4 t) 40)
  have F : Fr F0 w W1 := by rw [hW1]; exact ((Fr.refl _ _).alloc _).alloc _
  rw [← hW1] at r1 r2
  refine wp_of_world W1 hW1 ?_
  clear hW1
  generalize w.heap.size + 1 = g2 at *
  generalize w.heap.size = g1 at *
  refine wp_region_noPanic ?_
  refine wp_region_held_drew (S := (fun w' => (w'.heap[g1]? = some (.cells (rowN .u8 8 32 h) 24 (0, 0)) ∧ w'.heap[g2]? = some (.cells (rowN .u64 64 4 t) 40 (0, 0))) ∧ Fr F0 w w')) (by kernel_rfl) ?_ (fun hHeld => ?_)
  · ((try dsimp only) <;> (first | exact ⟨⟨r1, r2⟩, F.drew⟩ | exact hHeld | exact ⟨⟨keep_fr f5 hHeld.1.1, keep_fr f5 hHeld.1.2⟩, hHeld.2.trans' f5⟩))
  refine wpAnyH_take (i := 0) (oi := ⟨_, _, _, _, _, _⟩) (v := ?_) rfl (by kernel_rfl) (by kernel_rfl) (by kernel_rfl) (fun _ _ _ h => h) (Or.inl ⟨by rfl, ?_⟩) (by assumption) ?_
  rotate_left
  · intro w hSw; (try dsimp only at hSw); go_simp; (try (with_reducible rfl)); done
  simp only [Act.put, List.setIfInBounds_toArray]; dsimp only [List.set_cons_zero, List.set_cons_succ]
  refine wpAnyH_take (i := 2) (oi := ⟨_, _, _, _, _, _⟩) (v := ?_) rfl (by kernel_rfl) (by kernel_rfl) (by kernel_rfl) (fun _ _ _ h => h) (Or.inl ⟨by rfl, ?_⟩) (by assumption) ?_
  rotate_left
  · intro w hSw; (try dsimp only at hSw); go_simp; (try (with_reducible rfl)); done
  simp only [Act.put, List.setIfInBounds_toArray]; dsimp only [List.set_cons_zero, List.set_cons_succ]
  refine wpAnyH_ready (rs := [1]) (by kernel_rfl) (by simp) ?_
  refine AllReadyH.cons (o := ⟨_, _, _, _, _, _⟩) rfl (fun K hK => ?_) AllReadyH.nil
  go_simp
  ((with_reducible refine (HF.out _).mono ?_); rintro e w5 ⟨rfl, f5⟩)
  refine hK.out _ _ ?_ (fun hHeld => ?_)
  · ((try dsimp only) <;> (first | exact ⟨⟨r1, r2⟩, F.drew⟩ | exact hHeld | exact ⟨⟨keep_fr f5 hHeld.1.1, keep_fr f5 hHeld.1.2⟩, hHeld.2.trans' f5⟩))
  clear hK K
  try (simp only [Act.put, List.setIfInBounds_toArray]; dsimp only [List.set_cons_zero, List.set_cons_succ])
  refine wpAnyH_ready (rs := [3]) (by kernel_rfl) (by simp) ?_
  refine AllReadyH.cons (o := ⟨_, _, _, _, _, _⟩) rfl (fun K hK => ?_) AllReadyH.nil
  go_simp
  ((with_reducible refine (HC.out _).mono ?_); rintro e w5 ⟨rfl, f5⟩)
  refine hK.out _ _ ?_ (fun hHeld => ?_)
  · ((try dsimp only) <;> (first | exact ⟨⟨r1, r2⟩, F.drew⟩ | exact hHeld | exact ⟨⟨keep_fr f5 hHeld.1.1, keep_fr f5 hHeld.1.2⟩, hHeld.2.trans' f5⟩))
  clear hK K
  try (simp only [Act.put, List.setIfInBounds_toArray]; dsimp only [List.set_cons_zero, List.set_cons_succ])
  refine wpAnyH_take (i := 4) (oi := ⟨_, _, _, _, _, _⟩) (v := ?_) rfl (by kernel_rfl) (by kernel_rfl) (by kernel_rfl) (fun _ _ _ h => h) (Or.inl ⟨by rfl, ?_⟩) (by assumption) ?_
  rotate_left
  · intro w hSw; (try dsimp only at hSw); go_simp; (try (with_reducible rfl)); done
  simp only [Act.put, List.setIfInBounds_toArray]; dsimp only [List.set_cons_zero, List.set_cons_succ]
  refine wpAnyH_take (i := 5) (oi := ⟨_, _, _, _, _, _⟩) (v := ?_) rfl (by kernel_rfl) (by kernel_rfl) (by kernel_rfl) (fun _ _ _ h => h) (Or.inl ⟨by rfl, ?_⟩) (by assumption) ?_
  rotate_left
  · intro w hSw; (try dsimp only at hSw); go_simp; (try (with_reducible rfl)); done
  simp only [Act.put, List.setIfInBounds_toArray]; dsimp only [List.set_cons_zero, List.set_cons_succ]
  refine wpAnyH_done (by kernel_rfl) ?_ _
  refine NoPanic.normal ?_
  all_goals
    go_wp2
    go_ret
    exact ⟨rfl, hHeld.2⟩
end Go.Proofs.YtdihahegmfdccaaDoor

/- Layer 6 (target): Decode. -/
namespace Go.Proofs.YtdihahegmfdccaaDoor
set_option linter.unusedVariables false
set_option linter.unusedSimpArgs false
open Go.RowKit

theorem nbits_up (m k : Nat) (hm : 0 < m) : nbits m + k ≤ 256 ↔ m * 2 ^ k < W256 := by
  rw [W256_two]
  by_cases hk : k ≤ 256
  · have e : nbits m + k ≤ 256 ↔ nbits m ≤ 256 - k := by omega
    rw [e, nbits_le]
    have e2 : 2 ^ 256 = 2 ^ (256 - k) * 2 ^ k := by rw [← Nat.pow_add]; congr 1; omega
    rw [e2]
    exact (Nat.mul_lt_mul_right (Nat.two_pow_pos k)).symm
  · constructor
    · intro h; omega
    · intro h
      have h1 : 2 ^ 256 ≤ 2 ^ k := Nat.pow_le_pow_right (by omega) (by omega)
      have h2 : 2 ^ k ≤ m * 2 ^ k := Nat.le_mul_of_pos_left _ hm
      omega

theorem upBy_0 (n : Int) : upBy 0 n = 0 := by
  unfold upBy
  by_cases h : n < 0
  · rw [if_pos h]
    by_cases h2 : -n < 256
    · rw [if_pos h2, Nat.zero_div]
    · rw [if_neg h2]
  · rw [if_neg h]
    by_cases h2 : n < 256
    · rw [if_pos h2, Nat.zero_mul, Nat.zero_mod]
    · rw [if_neg h2]
theorem up_down (a k : Nat) (hk : 0 < k) (h : k < 256) : upBy a (-(k : Int)) = a / 2 ^ k := by
  unfold upBy
  rw [if_pos (by omega), Int.neg_neg, if_pos (by omega), Int.toNat_natCast]
theorem up_up (a k : Nat) (h : k < 256) : upBy a (k : Int) = a * 2 ^ k % W256 := by
  unfold upBy
  rw [if_neg (by omega), if_pos (by omega), Int.toNat_natCast]

/-- What is moved up is what the bits tell, if they can be. -/
theorem dec_num (e m : Nat) (hm : m < 8388608) (he : e ≤ 255) :
    (0 < upBy m (8 * ((e : Int) - 3)) ∧ (nbits m : Int) + 8 * ((e : Int) - 3) ≤ 256 ↔ 0 < tgt e m ∧ tgt e m < W256) ∧ (0 < tgt e m ∧ tgt e m < W256 → upBy m (8 * ((e : Int) - 3)) = tgt e m) := by
  by_cases h0 : m = 0
  · subst h0
    have : tgt e 0 = 0 := by unfold tgt; simp
    rw [this, upBy_0]
    exact ⟨⟨fun h => absurd h.1 (by omega), fun h => absurd h.1 (by omega)⟩, fun h => absurd h.1 (by omega)⟩
  · by_cases h3 : 3 ≤ e
    · have hk : 8 * ((e : Int) - 3) = ((8 * (e - 3) : Nat) : Int) := by omega
      have ht : tgt e m = m * 2 ^ (8 * (e - 3)) := by unfold tgt; rw [if_pos h3, by2_two]
      rw [hk, ht]
      generalize 8 * (e - 3) = k at *
      have hb := nbits_up m k (by omega)
      have hp : 0 < m * 2 ^ k := Nat.mul_pos (by omega) (Nat.two_pow_pos k)
      have hb2 : ((nbits m : Int) + (k : Int) ≤ 256) ↔ nbits m + k ≤ 256 := by omega
      have hbm : 0 < nbits m := by
        refine Nat.pos_of_ne_zero fun h => ?_
        have := (nbits_le m 0).1 (by omega)
        omega
      rw [hb2, hb]
      have key : m * 2 ^ k < W256 → upBy m (k : Int) = m * 2 ^ k := fun h => by
        have hk2 : k < 256 := by have := hb.2 h; omega
        rw [up_up m k hk2, Nat.mod_eq_of_lt h]
      exact ⟨⟨fun h => ⟨hp, h.2⟩, fun h => ⟨by rw [key h.2]; exact hp, h.2⟩⟩, fun h => key h.2⟩
    · have hk : 8 * ((e : Int) - 3) = -((8 * (3 - e) : Nat) : Int) := by omega
      have ht : tgt e m = m / 2 ^ (8 * (3 - e)) := by unfold tgt; rw [if_neg h3, by2_two]
      have hmm : m / 2 ^ (8 * (3 - e)) < W256 := Nat.lt_of_le_of_lt (Nat.div_le_self _ _) (word_w (by omega))
      have hb : nbits m ≤ 23 := (nbits_le m 23).2 (by omega)
      rw [hk, ht, up_down m _ (by omega) (by omega)]
      refine ⟨⟨fun h => ⟨h.1, hmm⟩, fun h => ⟨h.1, ?_⟩⟩, fun _ => rfl⟩
      clear hmm ht hk
      omega

theorem and_low (b : Nat) (hb : b < 4294967296) : bits BinOp.and IntKind.u32 (b : Int) 8388607 = ((b % 8388608 : Nat) : Int) := by
  have h1 := u32_and_nat b 8388607 hb (by decide)
  rw [show ((8388607 : Nat) : Int) = 8388607 from rfl] at h1
  rw [h1, show (8388607 : Nat) = 2 ^ 23 - 1 from rfl, Nat.and_two_pow_sub_one_eq_mod]
theorem and_pow (b k : Nat) : b &&& 2 ^ k = b / 2 ^ k % 2 * 2 ^ k := by
  apply Nat.eq_of_testBit_eq
  intro i
  rw [Nat.testBit_and, Nat.testBit_two_pow, Nat.testBit_mul_two_pow]
  by_cases h : k = i
  · subst h
    rw [Nat.sub_self, Nat.testBit_zero, Nat.testBit_eq_decide_div_mod_eq]
    simp
  · by_cases h2 : k ≤ i
    · obtain ⟨j, hj⟩ : ∃ j, i - k = j + 1 := ⟨i - k - 1, by omega⟩
      rw [hj, Nat.testBit_succ, Nat.div_eq_of_lt (Nat.mod_lt _ (by omega)), Nat.zero_testBit]
      simp [h]
    · simp [h, h2]
theorem and_sign (b : Nat) (hb : b < 4294967296) : bits BinOp.and IntKind.u32 (b : Int) 8388608 = ((b / 8388608 % 2 * 8388608 : Nat) : Int) := by
  have h1 := u32_and_nat b 8388608 hb (by decide)
  rw [show ((8388608 : Nat) : Int) = 8388608 from rfl] at h1
  rw [h1, show (8388608 : Nat) = 2 ^ 23 from rfl, and_pow]

theorem rowEq_0 (x : Nat) (hx : x < W256) (o : Bool) (h : decide (x = 0) = o) : rowEq 256 x 0 = o := by rw [rowEq_of x 0 hx W256_pos]; exact h
theorem upBy_lt (a : Nat) (n : Int) (ha : a < W256) : upBy a n < W256 := by
  unfold upBy
  split
  · split
    · exact Nat.lt_of_le_of_lt (Nat.div_le_self _ _) ha
    · exact W256_pos
  · split
    · exact Nat.mod_lt _ W256_pos
    · exact W256_pos

set_option maxRecDepth 100000 in
set_option maxHeartbeats 4000000 in
theorem tDecode_core (b m t : Nat) (e : Nat) (n V : Nat) (u z E : Int) (os oz ob : Bool) (hb : b < 4294967296)
    (hm : bits BinOp.and IntKind.u32 (b : Int) 8388607 = (m : Int)) (hm2 : (m : Int) < 18446744073709551616) (hs : bits BinOp.and IntKind.u32 (b : Int) 8388608 = z) (hs0 : decide (z = 0) = !os) (he : (b : Int) / 16777216 = (e : Int)) (he2 : (e : Int) ≤ 255) (hn : (n : Int) ≤ 256)
    (hu : IntKind.i64.wrap ((n : Int) + u) = (n : Int) + u)
    (HO : Hid (∀ w, Calls Tryd.prog 56 #[.int .u64 (m : Int)] w fun o w' => o = .returned (.agg (rowN .u64 64 4 m)) ∧ Fr F0 w w'))
    (HM : Hid (∀ w, Calls Tryd.prog 57 #[.int .i64 (e : Int)] w fun o w' => o = .returned (.int .i64 u) ∧ w' = w))
    (HL : Hid (∀ w, Calls Tryd.prog 58 #[.agg (rowN .u64 64 4 m), .int .i64 u] w fun o w' => o = .returned (.agg (rowN .u64 64 4 t)) ∧ Fr F0 w w'))
    (HB : Hid (∀ w, Calls Tryd.prog 59 #[.agg (rowN .u64 64 4 m)] w fun o w' => o = .returned (.int .i64 (n : Int)) ∧ Fr F0 w w'))
    (ht : rowEq 256 t 0 = oz) (hob : decide (256 < (n : Int) + u) = ob) (hV : V = if (os || oz || ob) = true then 0 else t) (hE : E = if (os || oz || ob) = true then 6 else 0) (w : World) :
    Calls Tryd.prog 38 #[.int .u32 (b : Int)] w fun o w' => o = .returned (.tuple #[.agg (rowN .u64 64 4 V), .int .i64 E]) ∧ Fr F0 w w' := by
  have HV := Lib.hid (And.intro hV hE)
  clear hV hE
  have c1 : IntKind.u64.wrap (m : Int) = (m : Int) := IntWalk.u64_in _ (by omega)
  have c2 : IntKind.i64.wrap (e : Int) = (e : Int) := IntWalk.i64_in _ (by omega)
  go_enter Tryd.func38, Tryd.ntmps38
  go_wp2_with fail
  (with_reducible refine (HO.out _).mono ?_); rintro o w1 ⟨rfl, f1⟩
  go_wp2_with fail
  (with_reducible refine (HM.out _).mono ?_); rintro o w2 ⟨rfl, rfl⟩
  obtain ⟨W2, hW2⟩ : ∃ W, W = (w1.alloc (.cells (rowN .u64 64 4 0) 40)).setRow w1.heap.size (rowN .u64 64 4 m) := ⟨_, rfl⟩
  rw [← hW2]
  have N := put_new w1 (rowN .u64 64 4 0) (rowN .u64 64 4 m) 40
  rw [← hW2] at N
  have r1 := N.new
  have F := ((Fr.refl F0 w).alloc (.cells (rowN .u64 64 4 0) 40)).trans' f1
  replace r0 := keep_fr f1 (heap_alloc_new w _)
  replace r0 := N.old r0
  replace F := F.trans' N.fr
  clear N hW2 f1
  generalize w1.heap.size = g1 at *
  generalize hg : w.heap.size = g0 at *
  have HG := Lib.hid (show w.heap.size ≤ g0 by omega)
  clear hg
  go_wp2_with fail
  (with_reducible refine (HL.out _).mono ?_); rintro o w3 ⟨rfl, f⟩
  replace r0 := keep_fr f r0
  replace r1 := keep_fr f r1
  replace F := F.trans' f
  clear f
  go_upto_region 4 with fail
  obtain ⟨W4, hW4⟩ : ∃ W, W = (w3.alloc (.cells (rowN .u64 64 4 0) 40)).setRow w3.heap.size (rowN .u64 64 4 t) := ⟨_, rfl⟩
  have N := put_new w3 (rowN .u64 64 4 0) (rowN .u64 64 4 t) 40
  rw [← hW4] at N
  refine wp_of_world W4 hW4 ?_
  have r2 := N.new
  replace r0 := N.old r0
  replace r1 := N.old r1
  replace F := F.trans' N.fr
  clear N hW4
  generalize w3.heap.size = g2 at *
  clear hm hb hm2 he he2 hn c1 c2
  cases os
  · replace hs0 : z = 0 := of_decide_eq_true hs0
    cases oz
    · go_wp2_with fail
      (with_reducible refine (HB.out _).mono ?_); rintro o w5 ⟨rfl, f⟩
      replace r0 := keep_fr f r0
      replace r2 := keep_fr f r2
      replace F := F.trans' f
      clear f
      cases ob
      · go_wp2_with fail
        refine bodyPost_ret (res_row_tmp rfl _ _ g0 _ _ _ _ rfl (new_row r0) Tryd.underlying40 rfl (by rw [Tryd.szWide]; rfl)) rfl ⟨by rw [HV.out.1, HV.out.2]; rfl, F.setRow (fun h => by have := HG.out; omega) _⟩
      · go_wp2_with fail
        refine bodyPost_ret (res_row_tmp rfl _ _ g0 _ _ _ _ rfl (new_row r0) Tryd.underlying40 rfl (by rw [Tryd.szWide]; rfl)) rfl ⟨by rw [HV.out.1, HV.out.2]; rfl, F.setRow (fun h => by have := HG.out; omega) _⟩
    · go_wp2_with fail
      refine bodyPost_ret (res_row_tmp rfl _ _ g0 _ _ _ _ rfl (new_row r0) Tryd.underlying40 rfl (by rw [Tryd.szWide]; rfl)) rfl ⟨by rw [HV.out.1, HV.out.2]; rfl, F.setRow (fun h => by have := HG.out; omega) _⟩
  · replace hs0 : ¬ z = 0 := of_decide_eq_false hs0
    go_wp2_with fail
    refine bodyPost_ret (res_row_tmp rfl _ _ g0 _ _ _ _ rfl (new_row r0) Tryd.underlying40 rfl (by rw [Tryd.szWide]; rfl)) rfl ⟨by rw [HV.out.1, HV.out.2]; rfl, F.setRow (fun h => by have := HG.out; omega) _⟩

theorem sign_dec (b : Nat) : decide (((b / 8388608 % 2 * 8388608 : Nat) : Int) = 0) = !decide (btS b = 1) := by
  unfold btS
  by_cases h : b / 8388608 % 2 = 1
  · rw [decide_eq_true h, h]; rfl
  · have h0 : b / 8388608 % 2 = 0 := by omega
    rw [h0]; rfl

theorem decC : DecC := by
  intro b hb
  have hm2 : btM b < 8388608 := by unfold btM; omega
  have he2 : btE b ≤ 255 := by unfold btE; omega
  have hmW : btM b < W256 := word_w (by omega)
  have hn : nbits (btM b) ≤ 23 := (nbits_le _ 23).2 (by omega)
  obtain ⟨d1, d2⟩ := dec_num (btE b) (btM b) hm2 he2
  have hl := upBy_lt (btM b) (8 * ((btE b : Int) - 3)) hmW
  have core := tDecode_core b (btM b) (upBy (btM b) (8 * ((btE b : Int) - 3))) (btE b) (nbits (btM b))
  have hor : ∀ os oz ob : Bool, os = decide (btS b = 1) → oz = decide (upBy (btM b) (8 * ((btE b : Int) - 3)) = 0) → ob = decide (256 < (nbits (btM b) : Int) + 8 * ((btE b : Int) - 3)) → ((os || oz || ob) = true ↔ ¬ btP b) := by
    intro os oz ob h1 h2 h3
    subst h1 h2 h3
    rw [Bool.or_eq_true, Bool.or_eq_true, decide_eq_true_iff, decide_eq_true_iff, decide_eq_true_iff]
    unfold btP btT
    constructor
    · intro h hp
      have h4 := d1.2 hp.2
      rcases h with (h | h) | h
      · refine hp.1 ⟨h, Nat.pos_of_ne_zero fun h5 => ?_⟩
        rw [h5, upBy_0] at h4
        omega
      · omega
      · omega
    · intro hp
      by_cases h1 : btS b = 1
      · exact .inl (.inl h1)
      · by_cases h2 : upBy (btM b) (8 * ((btE b : Int) - 3)) = 0
        · exact .inl (.inr h2)
        · refine .inr (Int.not_le.1 fun h3 => hp ⟨fun h => h1 h.1, d1.1 ⟨Nat.pos_of_ne_zero h2, h3⟩⟩)
  have run := fun V E h1 h2 w => core V (8 * ((btE b : Int) - 3)) ((b / 8388608 % 2 * 8388608 : Nat) : Int) E (decide (btS b = 1)) (decide (upBy (btM b) (8 * ((btE b : Int) - 3)) = 0)) (decide (256 < (nbits (btM b) : Int) + 8 * ((btE b : Int) - 3))) hb
    (and_low b hb) (by omega) (and_sign b hb) (sign_dec b) (by unfold btE; omega) (by omega) (by omega) (IntWalk.i64_in _ (by omega))
    (Lib.hid fun w => wOf_any (btM b) (by omega) w) (Lib.hid fun w => tmoved_any (btE b) he2 w) (Lib.hid fun w => wLeft_any (btM b) _ hmW (by omega) (by omega) w) (Lib.hid fun w => wBits_any (btM b) hmW w) (rowEq_0 _ hl _ rfl) rfl h1 h2 w
  refine ⟨fun hp w => ?_, fun hp w => ?_⟩
  · have hno := mt (hor _ _ _ rfl rfl rfl).1 (fun h => h hp)
    refine run (btT b) 0 ?_ ?_ w
    · rw [if_neg hno]; exact (d2 hp.2).symm
    · rw [if_neg hno]
  · have hyes := (hor _ _ _ rfl rfl rfl).2 hp
    refine run 0 6 ?_ ?_ w
    · rw [if_pos hyes]
    · rw [if_pos hyes]
end Go.Proofs.YtdihahegmfdccaaDoor
