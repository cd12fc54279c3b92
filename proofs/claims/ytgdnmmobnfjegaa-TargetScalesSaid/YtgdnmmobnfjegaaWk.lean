/- Layer 3 (wide): how many bits a number needs. -/
import Derived.Test.YtgdnmmobnfjegaaWj
namespace Go.Proofs.Ytgdnmmobnfjegaa
set_option linter.unusedVariables false
set_option linter.unusedSimpArgs false
open Go.RowKit Go.Shelf

attribute [local go_sem] Oper.semAt_some

/-- How many bits a number needs. -/
def nbits (n : Nat) : Nat := if n = 0 then 0 else n.log2 + 1

theorem nbits_le (n k : Nat) : nbits n ≤ k ↔ n < 2 ^ k := by
  unfold nbits
  by_cases h : n = 0
  · subst h; simp [Nat.two_pow_pos]
  · rw [if_neg h]
    exact Nat.log2_lt h

theorem nbits_eq {m n : Nat} (h : ∀ k, m ≤ k ↔ n ≤ k) : m = n := Nat.le_antisymm ((h n).2 (Nat.le_refl _)) ((h m).1 (Nat.le_refl _))

theorem nbits_shift (a k : Nat) (h : 2 ^ k ≤ a) : nbits a = k + nbits (a / 2 ^ k) := by
  refine nbits_eq fun j => ?_
  rw [nbits_le]
  by_cases hj : k ≤ j
  · obtain ⟨d, rfl⟩ : ∃ d, j = k + d := ⟨j - k, by omega⟩
    rw [Nat.add_le_add_iff_left, nbits_le, Nat.div_lt_iff_lt_mul (Nat.two_pow_pos _), Nat.pow_add, Nat.mul_comm]
  · have : 2 ^ j ≤ 2 ^ k := Nat.pow_le_pow_right (by omega) (by omega)
    constructor
    · intro h2; omega
    · intro h2; omega

theorem nbits_half (x : Nat) (h : x ≠ 0) : nbits x = 1 + nbits (x / 2) := by
  by_cases h1 : x = 1
  · subst h1; decide
  · have := nbits_shift x 1 (by omega)
    simpa using this

theorem bitLen_nbits : ∀ (n x : Nat), x < 2 ^ 64 → x ≤ n → Lib.bitLen x = nbits x
  | 0, x, _, h => by
    obtain rfl : x = 0 := by omega
    decide
  | n + 1, x, hx, h => by
    by_cases h0 : x = 0
    · subst h0; decide
    · rw [Lib.bitLen_half x h0 hx, nbits_half x h0, bitLen_nbits n (x / 2) (by omega) (by omega)]

theorem LeadingZeros64_any (x : Nat) (hx : x < 18446744073709551616) (w : World) :
    Calls Try.prog 61 #[.int .u64 x] w fun e w' => e = .returned (.int .i64 ((64 - nbits x : Nat) : Int)) ∧ w' = w := by
  have hb := bitLen_nbits x x hx (Nat.le_refl _)
  have hl := (nbits_le x 64).2 hx
  have HC := Lib.hid (fun w => Len64_any x hx w)
  rw [hb] at HC
  obtain ⟨B, hB⟩ : ∃ B, B = nbits x := ⟨_, rfl⟩
  rw [← hB] at HC hl ⊢
  clear hb hx hB
  have hw : IntKind.i64.wrap (64 - (B : Int)) = ((64 - B : Nat) : Int) := by rw [IntWalk.i64_in _ (by omega)]; omega
  go_enter Try.func61, Try.ntmps61
  go_wp2_with ((with_reducible refine (HC.out _).mono ?_); rintro e w' ⟨rfl, rfl⟩)
  go_ret
  refine ⟨congrArg Ending.returned (congrArg (Value.int IntKind.i64) ?_), rfl⟩
  omega

theorem top_word (a i : Nat) (h : a < 2 ^ (64 * (i + 1))) : a / 2 ^ (64 * i) = dgt 64 a i := by
  rw [dgt, Nat.mod_eq_of_lt]
  rw [Nat.div_lt_iff_lt_mul (Nat.two_pow_pos _), Nat.mul_comm, ← pow_next]
  exact h

theorem bits_top (a i : Nat) (h : a < 2 ^ (64 * (i + 1))) (h0 : dgt 64 a i ≠ 0) : nbits a = 64 * i + nbits (dgt 64 a i) := by
  rw [← top_word a i h]
  refine nbits_shift a (64 * i) ?_
  rw [← top_word a i h] at h0
  exact Nat.le_of_not_lt fun hl => h0 (Nat.div_eq_of_lt hl)

theorem less_word (a i : Nat) (h : a < 2 ^ (64 * (i + 1))) (h0 : dgt 64 a i = 0) : a < 2 ^ (64 * i) := by
  rw [← top_word a i h] at h0
  rcases Nat.div_eq_zero_iff.1 h0 with h1 | h1
  · exact absurd h1 (Nat.ne_of_gt (Nat.two_pow_pos _))
  · exact h1

set_option maxRecDepth 100000 in
set_option maxHeartbeats 4000000 in
theorem wBits_any (a : Nat) (ha : a < W256) (w : World) :
    Calls Try.prog 31 #[.agg (rowN .u64 64 4 a)] w fun e w' => e = .returned (.int .i64 (nbits a : Nat)) ∧ Fr F0 w w' := by
  have H4 := Lib.hid (show a < 2 ^ (64 * 4) from ha)
  clear ha
  refine callsIn_wide (n := 6) |>.1 ?_
  refine callsIn_of_wp_marks Try.func31 rfl trivial ?_ rfl
  simp only [Try.ntmps31, List.size_toArray, List.length_cons, List.length_nil, Nat.reduceAdd, Nat.reduceSub, Array.replicate_succ, Array.replicate_zero, List.push_toArray, List.append_toArray, List.nil_append, List.cons_append]
  gi_wp2_with (refine ⟨trivial, ?_⟩; gi_at_call 28; refine (BackU_in _ _ trivial rfl _ _ _ _).mono ?_; rintro e w2 ⟨rfl, rfl⟩)
  obtain ⟨W1, hW1⟩ : ∃ W1, W1 = ((w.alloc (.cells (rowN .u64 64 4 a) 24)).alloc (.cells #[.int .i64 0] 3)).alloc (.cells #[.slice (some ⟨w.heap.size, 0, none⟩) 4 4] 37) := ⟨_, rfl⟩
  rw [← hW1]
  have f1 : Fr F0 w W1 := by rw [hW1]; exact (((Fr.refl F0 w).alloc _).alloc _).alloc _
  have hs1 : W1.heap.size = w.heap.size + 1 + 1 + 1 := by rw [hW1]; simp
  obtain ⟨r0, r2, r3⟩ := heap3 w (.cells (rowN .u64 64 4 a) 24) (.cells #[.int .i64 0] 3) (.cells #[.slice (some ⟨w.heap.size, 0, none⟩) 4 4] 37)
  rw [← hW1] at r0 r2 r3
  clear hW1
  generalize hg0 : w.heap.size = g0 at *
  generalize hg2 : g0 + 1 = g2 at *
  generalize hg3 : g2 + 1 = g3 at *
  have n0 : g0 ≠ g2 := by omega
  have n3 : g3 ≠ g2 := by omega
  have HG := Lib.hid (show g0 ≤ W1.heap.size ∧ g0 ≤ g2 ∧ w.heap.size = g0 by omega)
  clear hg0 hg2 hg3 hs1
  refine range_law rfl (by omega) (gf := 47) (lb := #[.pointer (some ⟨g3, 0, none⟩)]) rfl trivial (enters_of Try.func47 (by kernel_rfl) rfl)
    (BackU1_seq Fence.wide 5 trivial rfl (by omega) (fun pre => dgt 64 a (3 - pre.length)) 4 g3 g0 0 4 (by omega)) (fun _ => rfl)
    (fun pre W => (W.heap[g0]? = some (.cells (rowN .u64 64 4 a) 24 (0, 0)) ∧ W.heap[g2]? = some (.cells #[.int .i64 0] 3 (0, 0)) ∧ W.heap[g3]? = some (.cells #[.slice (some ⟨g0, 0, none⟩) 4 4] 37 (0, 0))) ∧ (a < 2 ^ (64 * (4 - pre.length))) ∧ Below g0 W1 W)
    (fun c _ W => c = .ret ∧ W.heap[g2]? = some (.cells #[.int .i64 (nbits a : Nat)] 3 (0, 0)) ∧ Below g0 W1 W)
    (OwnFrom.and (OwnFrom.and (own_heap _ _ _ _ _) (OwnFrom.and (own_heap _ _ _ _ _) (own_heap _ _ _ _ _))) (OwnFrom.and (own_pure _ _) (own_below _ _ _ (Nat.le_refl _) HG.out.1)))
    (fun c => OwnFrom.and (own_pure _ _) (OwnFrom.and (own_heap _ _ _ _ _) (own_below _ _ _ (Nat.le_refl _) HG.out.1)))
    ?sees ⟨⟨r0, r2, r3⟩, H4.out, Below.refl _ _⟩
    (fun x => { tmps := #[.agg (rowN .u64 64 4 a), .pointer (some ⟨g0, 0, none⟩), .pointer (some ⟨g2, 0, none⟩), .int .i64 (x.1 : Int), .int .u64 (x.2 : Int), .slice (some ⟨g0, 0, none⟩) 4 4, .func (.func 47) #[] #[.pointer (some ⟨g3, 0, none⟩)], .int .i64 (x.1 : Int), .int .u64 (x.2 : Int), undef, undef, undef, undef, undef, undef, undef], defers := [] }) ?assign ?body ?done ?stop
  case sees =>
    rintro pre W ⟨⟨q0, q2, q3⟩, _, _⟩
    refine ⟨by rw [cell_at, q3]; rfl, fun hl => ?_⟩
    rw [cell_at, q0, cellAt_cells, Nat.zero_add]
    exact rowN_get _ _ _ _ _ (by omega)
  case assign =>
    intro l x W K hK
    gi_wp2
    exact hK
  case body =>
    rintro l pre x W ⟨⟨q0, q2, q3⟩, he, hB⟩ ⟨hlen, rfl, _⟩
    obtain ⟨i, hi⟩ : ∃ i, i = 3 - pre.length := ⟨_, rfl⟩
    have hi4 : i < 4 := by omega
    have li : (i : Int) < 4 := by omega
    dsimp only
    rw [show 4 - 1 - pre.length = i by omega]
    rw [show 4 - pre.length = i + 1 by omega] at he
    have hl2 : 4 - (pre ++ [(i, dgt 64 a i)]).length = i := by simp; omega
    have HE := Lib.hid he
    have HL := Lib.hid hl2
    clear he hl2 hi hlen
    by_cases hd : dgt 64 a i = 0
    · have hd' : ((dgt 64 a i : Int) != 0) = false := by rw [hd]; rfl
      have HD := Lib.hid hd
      clear hd
      gi_wp2
      refine ⟨KeepsFrom.refl _ _, trivial, ⟨q0, q2, q3⟩, ?_, hB⟩
      rw [HL.out]
      exact less_word _ _ HE.out HD.out
    · have hd' : ((dgt 64 a i : Int) != 0) = true := bne_iff_ne.2 (by omega)
      have hdl := dgt_lt 64 a i
      have hS := bits_top a i HE.out hd
      have hbl := bitLen_nbits _ _ hdl (Nat.le_refl _)
      have hn64 := (nbits_le _ _).2 hdl
      have hlen := Len64_any _ hdl
      rw [hbl] at hlen
      have HLn := Lib.hid hlen
      generalize nbits (dgt 64 a i) = B at *
      have hw1 : IntKind.i64.wrap ((i : Int) * 64 + (B : Int)) = ((nbits a : Nat) : Int) := by rw [IntWalk.i64_in _ (by omega)]; omega
      have hw2 : (i : Int) * 64 + (B : Int) = ((nbits a : Nat) : Int) := by omega
      have HW := Lib.hid hw2
      clear hlen hbl hS hd hdl hw2
      gi_wp2_with (refine ⟨trivial, ?_⟩; gi_at_call 49; refine (CallsIn.inRound l (callsIn_wide.2 (HLn.out _))).mono ?_; rintro e w' ⟨rfl, rfl⟩)
      refine ⟨(KeepsOthers.setCell _ _ _).from _, rfl, ?_, hB.setCell (p := ⟨g2, 0, none⟩) (by have := HG.out; simp only; omega) _⟩
      rw [heap_setCell_at, q2]
      first | (rw [HW.out]; rfl) | rfl
  case done =>
    rintro D ys W hD rfl ⟨⟨q0, q2, q3⟩, he, hB⟩ hK
    rw [bt_length] at he
    have hab : a = 0 := by simpa using he
    have HE := Lib.hid hab
    clear he hab
    gi_wp2
    have hD2 : D ≠ g2 := fun e => by subst e; rw [q2] at hK; cases hK
    have hK' : (W.setCell ⟨g2, 0, none⟩ (.int .i64 0)).heap[D]? = some (.deferred (some [])) := by rw [heap_setCell_ne' _ _ _ _ _ hD2]; exact hK
    have hB' := (hB.setCell (p := ⟨g2, 0, none⟩) (by have := HG.out; simp only; omega) (.int .i64 0)).trans (belowK_b (w := W1) HG.out.1 (W.setCell ⟨g2, 0, none⟩ (.int .i64 0)) D _ (.deferred none) hD hK' rfl rfl)
    have hR : ((W.setCell ⟨g2, 0, none⟩ (.int .i64 0)).putObj D (.deferred none)).cell? ⟨g2, 0, none⟩ = some (.int .i64 0) := by
      rw [cell_at, World.putObj_heap_other (fun e => hD2 e.symm), heap_setCell_at, q2]; rfl
    refine ⟨by simp, .inl ⟨_, _, rfl, run_takeDeferred hK', ?_⟩⟩
    exact ⟨_, res_cell1 rfl _ _ g2 _ rfl hR Try.underlying3, by rw [HE.out]; rfl, f1.trans (Fr.of_below' hB') fun i hi hk => by have := HG.out; omega⟩
  case stop =>
    rintro D c pre W hD ⟨rfl, q2, hB⟩ hK
    gi_wp2
    have hD2 : D ≠ g2 := fun e => by subst e; rw [q2] at hK; cases hK
    have hB' := hB.trans (belowK_b (w := W1) HG.out.1 W D _ (.deferred none) hD hK rfl rfl)
    have hR : (W.putObj D (.deferred none)).cell? ⟨g2, 0, none⟩ = some (.int .i64 (nbits a : Nat)) := by
      rw [cell_at, World.putObj_heap_other (fun e => hD2 e.symm), q2]; rfl
    refine ⟨by simp, .inl ⟨_, _, rfl, run_takeDeferred hK, ?_⟩⟩
    exact ⟨_, res_cell1 rfl _ _ g2 _ rfl hR Try.underlying3, rfl, f1.trans (Fr.of_below' hB') fun i hi hk => by have := HG.out; omega⟩
end Go.Proofs.Ytgdnmmobnfjegaa
