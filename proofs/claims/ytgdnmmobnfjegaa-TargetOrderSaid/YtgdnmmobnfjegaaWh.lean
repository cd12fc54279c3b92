/- Layer 3 (wide): a number moved to the right. -/
import Derived.Test.YtgdnmmobnfjegaaWg
import Derived.Test.YtgdnmmobnfjegaaWe
namespace Go.Proofs.Ytgdnmmobnfjegaa
set_option linter.unusedVariables false
set_option linter.unusedSimpArgs false
open Go.RowKit Go.Shelf

theorem dgt_over (x i : Nat) (h : x < 2 ^ (64 * i)) : dgt 64 x i = 0 := by rw [dgt, Nat.div_eq_of_lt h]
theorem dgt_over4 (x i : Nat) (h : x < W256) (hi : 4 ≤ i) : dgt 64 x i = 0 :=
  dgt_over x i (Nat.lt_of_lt_of_le h (Nat.pow_le_pow_right (by omega) (by omega)))

/-- copy, moved down by q words, into a row of noughts. -/
theorem run_copy_down (w : World) (ty : TypeId) (g h q a : Nat) (t t' : TypeId) (fr : Nat × Nat) (ha : a < W256) (hq : q < 4) (hg : w.heap[g]? = some (.cells (rowN .u64 64 4 0) t (0, 0))) (hh : w.heap[h]? = some (.cells (rowN .u64 64 4 a) t' fr)) :
    (Builtin.copy_ #[37, 37] ty #[.slice (some ⟨g, 0, none⟩) 4 4, .slice (some ⟨h, q, none⟩) (4 - q) (4 - q)]).run Try.prog w = .ok (.int .i64 ((4 - q : Nat) : Int)) (w.setRow g (rowN .u64 64 4 (a / 2 ^ (64 * q)))) := by
  have key := run_copy_row (P := Try.prog) w 37 37 ty 22 g 0 4 4 ⟨h, q, none⟩ (4 - q) (4 - q) (rowN .u64 64 4 0) t ((List.range (4 - q)).map fun i => Value.int .u64 (dgt 64 a (i + q) : Nat)) Try.underlying37 Try.szUs hg (by simp [Nat.min_def])
    (fun j v hj => by
      have hjl : j < 4 - q := by
        have := (List.getElem?_eq_some_iff.1 hj).1
        simpa using this
      rw [Addr.add_lit, cell_at, hh, cellAt_cells, rowN_get _ _ _ _ _ (by omega), Nat.add_comm q j]
      simpa [List.getElem?_map, List.getElem?_range hjl] using hj)
    (by rw [rowN_size]; simp)
    (by
      intro v hv
      simp only [List.mem_map] at hv
      obtain ⟨i, _, rfl⟩ := hv
      rfl)
  have e : ((rowN .u64 64 4 0).toList.take 0 ++ ((List.range (4 - q)).map fun i => Value.int .u64 (dgt 64 a (i + q) : Nat)) ++ (rowN .u64 64 4 0).toList.drop (0 + ((List.range (4 - q)).map fun i => Value.int .u64 (dgt 64 a (i + q) : Nat)).length)).toArray = rowN .u64 64 4 (a / 2 ^ (64 * q)) := by
    apply Array.ext'
    rw [List.toList_toArray, rowN_toList, rowN_toList, List.take_zero, List.nil_append]
    apply List.ext_getElem?
    intro j
    by_cases hj : j < 4
    · rw [List.getElem?_map (l := List.range 4), List.getElem?_range hj, Option.map_some, dgt_div]
      by_cases hjq : j < 4 - q
      · rw [List.getElem?_append_left (by simp; omega), List.getElem?_map, List.getElem?_range hjq, Option.map_some]
      · rw [List.getElem?_append_right (by simp; omega), List.getElem?_drop]
        simp only [List.length_map, List.length_range]
        rw [show 0 + (4 - q) + (j - (4 - q)) = j by omega, List.getElem?_map, List.getElem?_range hj, Option.map_some, dgt_over4 a (j + q) ha (by omega)]
        simp [dgt]
    · rw [List.getElem?_eq_none (by simp; omega), List.getElem?_eq_none (by simp; omega)]
  rw [e] at key
  rw [key]
  simp [goInt]

set_option maxRecDepth 100000 in
set_option maxHeartbeats 4000000 in
theorem right4 {s0 s3 s4 s6 s7 s8 s9 s10 s11 s12 s13 s14 s15 s16 s17 s18 s19 s20 s21 s22 s23 s24 s25 s26 s27 s28 s29 s30 s31 s32 s33 s34 s35 : Value} {K : Act → World → Prop} {Q : Exit → Act → World → Prop} (w : World) (g h q n a : Nat) (ha : a < W256) (hq : q < 4) (hd : IntKind.u64.wrap ((n : Int) / 64) = (q : Int)) (hgh : g ≠ h) (hg : w.heap[g]? = some (.cells (rowN .u64 64 4 0) 24 (0, 0))) (hh : w.heap[h]? = some (.cells (rowN .u64 64 4 a) 24 (0, 0)))
    (hK : RowKit.Hid (∀ {u13 u14 u15 u16 u17 : Value} {w' : World}, (w'.heap = (w.setRow g (rowN .u64 64 4 (a / 2 ^ (64 * q)))).heap ∧ Fr F0 (w.setRow g (rowN .u64 64 4 (a / 2 ^ (64 * q)))) w') → K ⟨#[s0, .int .u64 n, .pointer (some ⟨h, 0, none⟩), s3, s4, .pointer (some ⟨g, 0, none⟩), s6, s7, s8, s9, s10, s11, s12, u13, u14, u15, u16, u17, s18, s19, s20, s21, s22, s23, s24, s25, s26, s27, s28, s29, s30, s31, s32, s33, s34, s35], []⟩ w')) :
    Code.wp Try.prog ((Try.f45.body.bind (findRegion 4)).getD .skip) (Exit.then K Q) ⟨#[s0, .int .u64 n, .pointer (some ⟨h, 0, none⟩), s3, s4, .pointer (some ⟨g, 0, none⟩), s6, s7, s8, s9, s10, s11, s12, s13, s14, s15, s16, s17, s18, s19, s20, s21, s22, s23, s24, s25, s26, s27, s28, s29, s30, s31, s32, s33, s34, s35], []⟩ w := by
  conv => arg 2; whnf
  have hc := run_copy_down w.drew 3 g h q a _ _ _ ha hq hg hh
  refine wp_region_noPanic ?_
  refine wp_region_held_drew (S := (fun w' => True)) (by kernel_rfl) ?_ (fun hHeld => ?_)
  · ((try dsimp only) <;> (trivial))
  refine wpAnyH_take (i := 0) (oi := ⟨_, _, _, _, _, _⟩) (v := ?_) rfl (by kernel_rfl) (by kernel_rfl) (by kernel_rfl) (fun _ _ _ h => h) (Or.inl ⟨by rfl, ?_⟩) (by assumption) ?_
  rotate_left
  · intro w hSw; (try dsimp only at hSw); go_simp; (try (with_reducible rfl)); done
  simp only [Act.put, List.setIfInBounds_toArray]; dsimp only [List.set_cons_zero, List.set_cons_succ]
  refine wpAnyH_take (i := 1) (oi := ⟨_, _, _, _, _, _⟩) (v := ?_) rfl (by kernel_rfl) (by kernel_rfl) (by kernel_rfl) (fun _ _ _ h => h) (Or.inl ⟨by rfl, ?_⟩) (by assumption) ?_
  rotate_left
  · intro w hSw; (try dsimp only at hSw); go_simp; (try (with_reducible rfl)); done
  simp only [Act.put, List.setIfInBounds_toArray]; dsimp only [List.set_cons_zero, List.set_cons_succ]
  refine wpAnyH_take (i := 2) (oi := ⟨_, _, _, _, _, _⟩) (v := ?_) rfl (by kernel_rfl) (by kernel_rfl) (by kernel_rfl) (fun _ _ _ h => h) (Or.inl ⟨by rfl, ?_⟩) (by assumption) ?_
  rotate_left
  · intro w hSw; (try dsimp only at hSw); go_simp; (try (with_reducible rfl)); done
  simp only [Act.put, List.setIfInBounds_toArray]; dsimp only [List.set_cons_zero, List.set_cons_succ]
  refine wpAnyH_take (i := 3) (oi := ⟨_, _, _, _, _, _⟩) (v := ?_) rfl (by kernel_rfl) (by kernel_rfl) (by kernel_rfl) (fun _ _ _ h => h) (Or.inl ⟨by rfl, ?_⟩) (by assumption) ?_
  rotate_left
  · intro w hSw; (try dsimp only at hSw); go_simp; (try (with_reducible rfl)); done
  simp only [Act.put, List.setIfInBounds_toArray]; dsimp only [List.set_cons_zero, List.set_cons_succ]
  refine wpAnyH_ready (rs := [4]) (by kernel_rfl) (by simp) ?_
  refine AllReadyH.cons (o := ⟨_, _, _, _, _, _⟩) rfl (fun K hK => ?_) AllReadyH.nil
  go_simp
  refine hK.out _ _ ?_ (fun hHeld => ?_)
  · ((try dsimp only) <;> (trivial))
  clear hK K
  try (simp only [Act.put, List.setIfInBounds_toArray]; dsimp only [List.set_cons_zero, List.set_cons_succ])
  refine wpAnyH_done (by kernel_rfl) ?_ _
  refine NoPanic.normal ?_
  all_goals exact hK.out ⟨rfl, (Fr.refl F0 (w.setRow g (rowN .u64 64 4 (a / 2 ^ (64 * q))))).drew⟩

/-! ### a row moved down by less than a word, in place, from behind -/
def shR (T r : Nat) : Nat → Nat
  | 0 => T
  | k + 1 => putw 64 (shR T r k) (3 - k) (dgt 64 (T / 2 ^ r) (3 - k))

theorem shR_dgt (T r : Nat) : ∀ k j, k ≤ 4 → j < 4 → dgt 64 (shR T r k) j = if 4 - k ≤ j then dgt 64 (T / 2 ^ r) j else dgt 64 T j
  | 0, j, _, hj => by rw [if_neg (by omega)]; rfl
  | k + 1, j, hk, hj => by
    rw [shR, putw_dgt _ _ _ _ _ (dgt_lt _ _ _), shR_dgt T r k j (by omega) hj]
    by_cases h : j = 3 - k
    · rw [if_pos h, if_pos (by omega), h]
    · rw [if_neg h]
      by_cases h2 : 4 - k ≤ j
      · rw [if_pos h2, if_pos (by omega)]
      · rw [if_neg h2, if_neg (by omega)]

theorem shR_all (T r : Nat) (k : IntKind) : rowN k 64 4 (shR T r 4) = rowN k 64 4 (T / 2 ^ r) :=
  rowN_congr _ _ _ _ _ (mod_of_dgt _ _ _ _ fun i hi => by rw [shR_dgt _ _ _ _ (by omega) hi, if_pos (by omega)])

theorem dgt_shr (T r i : Nat) (hr : r < 64) : dgt 64 (T / 2 ^ r) i = dgt 64 T i / 2 ^ r ||| dgt 64 T (i + 1) * 2 ^ (64 - r) % 2 ^ 64 := by
  have e1 : T / 2 ^ r / 2 ^ (64 * i) = T / 2 ^ (64 * i) / 2 ^ r := by rw [Nat.div_div_eq_div_mul, Nat.mul_comm, ← Nat.div_div_eq_div_mul]
  have e2 : T / 2 ^ (64 * (i + 1)) = T / 2 ^ (64 * i) / 2 ^ 64 := by rw [Nat.div_div_eq_div_mul, ← Nat.pow_add]; congr 1
  unfold dgt
  rw [e1, e2]
  generalize T / 2 ^ (64 * i) = X
  have hx := Nat.mod_add_div X (2 ^ 64)
  have hm := Nat.mod_lt X (Nat.two_pow_pos 64)
  generalize X % 2 ^ 64 = m at *
  generalize X / 2 ^ 64 = Y at *
  have ps := pow_split r hr
  have l1 : m / 2 ^ r < 2 ^ (64 - r) := by rw [Nat.div_lt_iff_lt_mul (Nat.two_pow_pos _), Nat.mul_comm, ← ps]; exact hm
  have e3 : X / 2 ^ r = m / 2 ^ r + 2 ^ (64 - r) * Y := by
    rw [← hx]
    conv => lhs; rw [ps]
    rw [Nat.mul_assoc, Nat.add_mul_div_left _ _ (Nat.two_pow_pos _)]
  have e4 : Y % 2 ^ 64 * 2 ^ (64 - r) % 2 ^ 64 = 2 ^ (64 - r) * (Y % 2 ^ r) := by
    rw [Nat.mod_mul_mod]
    conv => lhs; rw [ps]
    rw [Nat.mul_comm Y, Nat.mul_comm (2 ^ r), Nat.mul_mod_mul_left]
  rw [e3, e4]
  conv => lhs; rw [ps, Nat.mul_comm (2 ^ r), Nat.mod_mul, Nat.add_mul_mod_self_left, Nat.mod_eq_of_lt l1, Nat.add_mul_div_left _ _ (Nat.two_pow_pos _), Nat.div_eq_of_lt l1, Nat.zero_add]
  rw [Nat.or_comm, Nat.add_comm]
  exact Nat.two_pow_add_eq_or_of_lt l1 _
end Go.Proofs.Ytgdnmmobnfjegaa
