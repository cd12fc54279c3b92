/- Layer 3 (wide): a number moved to the left. -/
import Derived.Test.YtgdnmmobnfjegaaWd
import Derived.Test.YtgdnmmobnfjegaaPiece
import Derived.Laws.CopyRow
namespace Go.Proofs.Ytgdnmmobnfjegaa
set_option linter.unusedVariables false
set_option linter.unusedSimpArgs false
open Go.RowKit

theorem rowN_toList (k : IntKind) (b n x : Nat) : (rowN k b n x).toList = (List.range n).map fun i => Value.int k (dgt b x i : Nat) := by simp [rowN]

theorem dgt_mul (b x q i : Nat) : dgt b (x * 2 ^ (b * q)) i = if i < q then 0 else dgt b x (i - q) := by
  by_cases h : i < q
  · rw [if_pos h, dgt_below b _ 0 q i h (by simp)]
    simp [dgt]
  · rw [if_neg h]
    obtain ⟨d, rfl⟩ : ∃ d, i = q + d := ⟨i - q, by omega⟩
    rw [dgt, Nat.mul_add, Nat.pow_add, ← Nat.div_div_eq_div_mul, Nat.mul_div_cancel _ (Nat.two_pow_pos _), dgt, Nat.add_sub_cancel_left]

theorem dgt_div (b x q i : Nat) : dgt b (x / 2 ^ (b * q)) i = dgt b x (i + q) := by
  rw [dgt, dgt, Nat.div_div_eq_div_mul, ← Nat.pow_add]
  congr 3
  rw [Nat.mul_add, Nat.add_comm]

theorem Try.szUs : (Try.prog.info? 22).map (·.size) = some 1 := Try.szU64

/-- copy, moved up by q words, into a row of noughts. -/
theorem run_copy_up (w : World) (ty : TypeId) (g h q a : Nat) (t t' : TypeId) (fr : Nat × Nat) (hq : q < 4) (hg : w.heap[g]? = some (.cells (rowN .u64 64 4 0) t (0, 0))) (hh : w.heap[h]? = some (.cells (rowN .u64 64 4 a) t' fr)) :
    (Builtin.copy_ #[37, 37] ty #[.slice (some ⟨g, q, none⟩) (4 - q) (4 - q), .slice (some ⟨h, 0, none⟩) 4 4]).run Try.prog w = .ok (.int .i64 ((4 - q : Nat) : Int)) (w.setRow g (rowN .u64 64 4 (a * 2 ^ (64 * q)))) := by
  have key := run_copy_row (P := Try.prog) w 37 37 ty 22 g q (4 - q) (4 - q) ⟨h, 0, none⟩ 4 4 (rowN .u64 64 4 0) t ((List.range (4 - q)).map fun i => Value.int .u64 (dgt 64 a i : Nat)) Try.underlying37 Try.szUs hg (by simp [Nat.min_def])
    (fun j v hj => by
      have hjl : j < 4 - q := by
        have := (List.getElem?_eq_some_iff.1 hj).1
        simpa using this
      rw [Addr.add_lit, Nat.zero_add, cell_at, hh, cellAt_cells, rowN_get _ _ _ _ _ (by omega)]
      simpa [List.getElem?_map, List.getElem?_range hjl] using hj)
    (by rw [rowN_size]; simp; omega)
    (by
      intro v hv
      simp only [List.mem_map] at hv
      obtain ⟨i, _, rfl⟩ := hv
      rfl)
  have e : ((rowN .u64 64 4 0).toList.take q ++ ((List.range (4 - q)).map fun i => Value.int .u64 (dgt 64 a i : Nat)) ++ (rowN .u64 64 4 0).toList.drop (q + ((List.range (4 - q)).map fun i => Value.int .u64 (dgt 64 a i : Nat)).length)).toArray = rowN .u64 64 4 (a * 2 ^ (64 * q)) := by
    apply Array.ext'
    rw [List.toList_toArray, rowN_toList, rowN_toList, List.drop_eq_nil_of_le (by simp; omega), List.append_nil]
    apply List.ext_getElem?
    intro j
    by_cases hj : j < 4
    · rw [List.getElem?_map, List.getElem?_range hj, Option.map_some, dgt_mul]
      by_cases hjq : j < q
      · rw [List.getElem?_append_left (by simp; omega), if_pos hjq, List.getElem?_take, if_pos hjq, List.getElem?_map, List.getElem?_range hj]
        simp [dgt]
      · rw [List.getElem?_append_right (by simp; omega), if_neg hjq]
        simp only [List.length_take, List.length_map, List.length_range]
        rw [Nat.min_eq_left (by omega), List.getElem?_map, List.getElem?_range (by omega), Option.map_some]
    · rw [List.getElem?_eq_none (by simp; omega), List.getElem?_eq_none (by simp; omega)]
  rw [e] at key
  rw [key]
  simp [goInt]

@[simp high] theorem run_slice_up (w : World) (g q : Nat) (k : IntKind) (hq : q < 4) :
    (Instr.sliceAt 24 (.pointer (some ⟨g, 0, none⟩)) (some (.int k (q : Int))) none none).run Try.prog w = .ok (.slice (some ⟨g, q, none⟩) (4 - q) (4 - q)) w := by
  have h0 : (0 : Int) ≤ q := by omega
  have h1 : (q : Int) ≤ (4 : Nat) := by omega
  have hs : ∀ w, (sizeOf 22).run Try.prog w = .ok 1 w := fun w => by
    obtain ⟨i, hi⟩ : ∃ i, Try.prog.info? 22 = some i := Try.infoU
    have := Try.szU64
    rw [hi] at this
    simp [sizeOf, typeInfo, hi] at this ⊢
    exact this
  have hb := run_sliceBound (P := Try.prog) (w := w) k (q : Int) 4
  simp [Instr.sliceAt, Sem.run_bind, run_underlying Try.underlying24, Instr.sureAddr, Instr.sliceBounds, hs]
  rw [hb _ h0 h1]
  simp [show ¬ 4 = q by omega, Addr.add]
  try omega

set_option maxRecDepth 100000 in
set_option maxHeartbeats 4000000 in
theorem left4 {s0 s3 s4 s6 s7 s8 s9 s10 s11 s12 s13 s14 s15 s16 s17 s18 s19 s20 s21 s22 s23 s24 s25 s26 s27 s28 s29 s30 s31 s32 s33 s34 s35 s36 s37 : Value} {K : Act → World → Prop} {Q : Exit → Act → World → Prop} (w : World) (g h q n a : Nat) (hq : q < 4) (hd : IntKind.u64.wrap ((n : Int) / 64) = (q : Int)) (hgh : g ≠ h) (hg : w.heap[g]? = some (.cells (rowN .u64 64 4 0) 24 (0, 0))) (hh : w.heap[h]? = some (.cells (rowN .u64 64 4 a) 24 (0, 0)))
    (hK : RowKit.Hid (∀ {u13 u14 u15 u16 u17 : Value} {w' : World}, (w'.heap = (w.setRow g (rowN .u64 64 4 (a * 2 ^ (64 * q)))).heap ∧ Fr F0 (w.setRow g (rowN .u64 64 4 (a * 2 ^ (64 * q)))) w') → K ⟨#[s0, .int .u64 n, .pointer (some ⟨h, 0, none⟩), s3, s4, .pointer (some ⟨g, 0, none⟩), s6, s7, s8, s9, s10, s11, s12, u13, u14, u15, u16, u17, s18, s19, s20, s21, s22, s23, s24, s25, s26, s27, s28, s29, s30, s31, s32, s33, s34, s35, s36, s37], []⟩ w')) :
    Code.wp Try.prog ((Try.f46.body.bind (findRegion 4)).getD .skip) (Exit.then K Q) ⟨#[s0, .int .u64 n, .pointer (some ⟨h, 0, none⟩), s3, s4, .pointer (some ⟨g, 0, none⟩), s6, s7, s8, s9, s10, s11, s12, s13, s14, s15, s16, s17, s18, s19, s20, s21, s22, s23, s24, s25, s26, s27, s28, s29, s30, s31, s32, s33, s34, s35, s36, s37], []⟩ w := by
  conv => arg 2; whnf
  have hc := run_copy_up w.drew 3 g h q a _ _ _ hq hg hh
  refine wp_region_noPanic ?_
  refine wp_region_held_drew (S := (fun w' => True)) (by kernel_rfl) ?_ (fun hHeld => ?_)
  · ((try dsimp only) <;> (trivial))
  refine wpAnyH_take (i := 0) (oi := ⟨_, _, _, _, _, _⟩) (v := ?_) rfl (by kernel_rfl) (by kernel_rfl) (by kernel_rfl) (fun _ _ _ h => h) (Or.inl ⟨by rfl, ?_⟩) (by assumption) ?_
  rotate_left
  · intro w hSw; (try dsimp only at hSw); go_simp; (try (with_reducible rfl)); done
  simp only [Act.put, List.setIfInBounds_toArray]; dsimp only [List.set_cons_zero, List.set_cons_succ]
  refine wpAnyH_take (i := 1) (oi := ⟨_, _, _, _, _, _⟩) (v := ?_) rfl (by kernel_rfl) (by kernel_rfl) (by kernel_rfl) (fun _ _ _ h => h) (Or.inl ⟨by rfl, ?_⟩) (by assumption) ?_
  rotate_left
  · intro w hSw; (try dsimp only at hSw); go_simp; (try (with_reducible rfl)); done
  simp only [Act.put, List.setIfInBounds_toArray]; dsimp only [List.set_cons_zero, List.set_cons_succ]
  refine wpAnyH_take (i := 2) (oi := ⟨_, _, _, _, _, _⟩) (v := ?_) rfl (by kernel_rfl) (by kernel_rfl) (by kernel_rfl) (fun _ _ _ h => h) (Or.inl ⟨by rfl, ?_⟩) (by assumption) ?_
  rotate_left
  · intro w hSw; (try dsimp only at hSw); go_simp; (try (with_reducible rfl)); done
  simp only [Act.put, List.setIfInBounds_toArray]; dsimp only [List.set_cons_zero, List.set_cons_succ]
  refine wpAnyH_take (i := 3) (oi := ⟨_, _, _, _, _, _⟩) (v := ?_) rfl (by kernel_rfl) (by kernel_rfl) (by kernel_rfl) (fun _ _ _ h => h) (Or.inl ⟨by rfl, ?_⟩) (by assumption) ?_
  rotate_left
  · intro w hSw; (try dsimp only at hSw); go_simp; (try (with_reducible rfl)); done
  simp only [Act.put, List.setIfInBounds_toArray]; dsimp only [List.set_cons_zero, List.set_cons_succ]
  refine wpAnyH_ready (rs := [4]) (by kernel_rfl) (by simp) ?_
  refine AllReadyH.cons (o := ⟨_, _, _, _, _, _⟩) rfl (fun K hK => ?_) AllReadyH.nil
  go_simp
  refine hK.out _ _ ?_ (fun hHeld => ?_)
  · ((try dsimp only) <;> (trivial))
  clear hK K
  try (simp only [Act.put, List.setIfInBounds_toArray]; dsimp only [List.set_cons_zero, List.set_cons_succ])
  refine wpAnyH_done (by kernel_rfl) ?_ _
  refine NoPanic.normal ?_
  all_goals exact hK.out ⟨rfl, (Fr.refl F0 (w.setRow g (rowN .u64 64 4 (a * 2 ^ (64 * q))))).drew⟩

/-! ### a row moved by less than a word, in place -/
def shU (T x : Nat) : Nat → Nat
  | 0 => T
  | i + 1 => putw 64 (shU T x i) i (addLo (mulLo (dgt 64 T i) x) (mlH T x i) 0)

theorem shU_dgt (T x : Nat) : ∀ i j, dgt 64 (shU T x i) j = if j < i then addLo (mulLo (dgt 64 T j) x) (mlH T x j) 0 else dgt 64 T j
  | 0, j => by simp [shU]
  | i + 1, j => by
    rw [shU, putw_dgt _ _ _ _ _ (addLo_lt _ _ _), shU_dgt T x i j]
    by_cases h : j = i
    · subst h; simp
    · simp only [h, if_false]
      by_cases h2 : j < i
      · rw [if_pos h2, if_pos (by omega)]
      · rw [if_neg h2, if_neg (by omega)]

theorem mlS_dgt (T x i j : Nat) (h : j < i) : dgt 64 (mlS T x i) j = addLo (mulLo (dgt 64 T j) x) (mlH T x j) 0 := by
  induction i with
  | zero => omega
  | succ i ih =>
    rw [mlS_succ]
    by_cases e : j = i
    · subst e
      rw [dgt, Nat.add_mul_div_left _ _ (Nat.two_pow_pos _), Nat.div_eq_of_lt (mlS_lt _ _ _), Nat.zero_add, Nat.mod_eq_of_lt (addLo_lt _ _ _)]
    · rw [← ih (by omega)]
      exact dgt_below 64 _ _ i j (by omega) (by rw [Nat.add_mul_mod_self_left])

theorem shU_all (T x : Nat) (k : IntKind) : rowN k 64 4 (shU T x 4) = rowN k 64 4 (mlS T x 4) :=
  rowN_congr _ _ _ _ _ (mod_of_dgt _ _ _ _ fun i hi => by rw [shU_dgt, if_pos hi, mlS_dgt _ _ _ _ hi])

theorem mlH_small (T x i : Nat) (hx : 0 < x) : mlH T x i < x := by
  unfold mlH mlT
  rw [Nat.div_lt_iff_lt_mul (Nat.two_pow_pos _), Nat.mul_comm]
  exact Nat.mul_lt_mul_of_pos_left (Nat.mod_lt _ (Nat.two_pow_pos _)) hx

theorem pow_split (r : Nat) (hr : r < 64) : 2 ^ 64 = 2 ^ r * 2 ^ (64 - r) := by rw [← Nat.pow_add]; congr 1; omega

theorem mlH_pow (T r i : Nat) (hr : r < 64) : mlH T (2 ^ r) (i + 1) = dgt 64 T i / 2 ^ (64 - r) := by
  have hm := mlH_small T (2 ^ r) i (Nat.two_pow_pos r)
  rw [mlH_succ, (ml_step _ _ _).2, pow_split r hr, ← Nat.div_div_eq_div_mul, Nat.mul_comm, Nat.mul_add_div (Nat.two_pow_pos r), Nat.div_eq_of_lt hm, Nat.add_zero]

theorem shl_join (d m r : Nat) (hr : r < 64) (hm : m < 2 ^ r) : (d * 2 ^ r % 2 ^ 64) ||| m = addLo (mulLo d (2 ^ r)) m 0 := by
  have e : d * 2 ^ r % 2 ^ 64 = 2 ^ r * (d % 2 ^ (64 - r)) := by rw [pow_split r hr, Nat.mul_comm d, Nat.mul_mod_mul_left]
  have h1 : 2 ^ r * (d % 2 ^ (64 - r)) ||| m = 2 ^ r * (d % 2 ^ (64 - r)) + m := (Nat.two_pow_add_eq_or_of_lt hm _).symm
  have h2 : 2 ^ r * (d % 2 ^ (64 - r)) + m < 2 ^ 64 := by
    have h3 : d % 2 ^ (64 - r) + 1 ≤ 2 ^ (64 - r) := Nat.mod_lt _ (Nat.two_pow_pos _)
    have h4 : 2 ^ r * (d % 2 ^ (64 - r) + 1) ≤ 2 ^ r * 2 ^ (64 - r) := Nat.mul_le_mul_left _ h3
    rw [← pow_split r hr, Nat.mul_add] at h4
    omega
  unfold addLo mulLo
  rw [Nat.add_zero, e, h1, Nat.mod_eq_of_lt h2]

end Go.Proofs.Ytgdnmmobnfjegaa
