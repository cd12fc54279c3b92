/- Layer 3 (wide): quotient and rest. -/
import Derived.Test.YtgdnmmobnfjegaaDw
namespace Go.Proofs.Ytgdnmmobnfjegaa
set_option linter.unusedVariables false
set_option linter.unusedSimpArgs false
open Go.RowKit Go.Shelf

attribute [local go_sem] Oper.semAt_some

theorem word_split (a i : Nat) : a / 2 ^ (64 * i) = a / 2 ^ (64 * (i + 1)) * 2 ^ 64 + dgt 64 a i := by
  have h2 := Nat.mod_add_div (a / 2 ^ (64 * i)) (2 ^ 64)
  rw [Nat.div_div_eq_div_mul, show 2 ^ (64 * i) * 2 ^ 64 = 2 ^ (64 * (i + 1)) by rw [← Nat.pow_add]; congr 1] at h2
  rw [dgt]
  omega

theorem div_round (A d b : Nat) (hb : 0 < b) : (A * 2 ^ 64 + d) / b = A / b * 2 ^ 64 + (A % b * 2 ^ 64 + d) / b ∧ (A * 2 ^ 64 + d) % b = (A % b * 2 ^ 64 + d) % b := by
  have h := Nat.mod_add_div A b
  have e : A * 2 ^ 64 + d = (A % b * 2 ^ 64 + d) + b * (A / b * 2 ^ 64) := by
    rw [← Nat.mul_assoc]
    generalize b * (A / b) = z at *
    omega
  rw [e, Nat.add_mul_div_left _ _ hb, Nat.add_mul_mod_self_left]
  exact ⟨Nat.add_comm _ _, rfl⟩

theorem putw_low (q v i : Nat) : putw 64 (q * 2 ^ (64 * (i + 1))) i v = (q * 2 ^ 64 + v) * 2 ^ (64 * i) := by
  have e : 2 ^ (64 * (i + 1)) = 2 ^ 64 * 2 ^ (64 * i) := by rw [← Nat.pow_add]; congr 1; omega
  rw [putw, Nat.mul_div_cancel _ (Nat.two_pow_pos _)]
  conv => lhs; rw [e]
  rw [← Nat.mul_assoc, Nat.mul_mod_left, Nat.zero_add, Nat.mul_comm, Nat.add_comm v, Nat.mul_comm (2 ^ 64) q]

theorem putw_first (z v : Nat) : putw 64 (z * 2 ^ 64) 0 v = z * 2 ^ 64 + v := by
  have := putw_low z v 0
  simpa using this

/-- Three results, the first two whole rows. -/
theorem res_row_row_tmp {P : Program} {fn : Func} {p q u : Tmp} {ty : TypeId} (h : fn.results = #[.cell p ty, .cell q ty, .tmp u]) (tmps : Array Value) (w : World) (g g' : Nat) (t t' : TypeId) (cs cs' : Array Value) (fr fr' : Nat × Nat) (d : TypeDesc)
    (hp : tmps.getD p undef = .pointer (some ⟨g, 0, none⟩)) (hq : tmps.getD q undef = .pointer (some ⟨g', 0, none⟩)) (hg : w.heap[g]? = some (.cells cs t fr)) (hg' : w.heap[g']? = some (.cells cs' t' fr'))
    (hu : P.underlying ty = some d) (hd : (match d with | .struct _ | .array _ _ => true | _ => false) = true) (hi : (P.info? ty).map (·.size) = some cs.size) (hi' : (P.info? ty).map (·.size) = some cs'.size) :
    (results fn tmps).run P w = .ok (.tuple #[.agg cs, .agg cs', tmps.getD u undef]) w := by
  have hp' : tmps[p]?.getD undef = .pointer (some ⟨g, 0, none⟩) := by simpa using hp
  have hq' : tmps[q]?.getD undef = .pointer (some ⟨g', 0, none⟩) := by simpa using hq
  simp [results, h, hp', hq', asAddr, run_loadVar_row w g t ty cs fr d hg hu hd hi, run_loadVar_row w g' t' ty cs' fr' d hg' hu hd hi']

theorem Fr.keepsFrom {W W' : World} (h : Fr F0 W W') (B : Nat) : KeepsFrom B W W' :=
  ⟨h.size, fun k o _ hk _ => h.keeps (fun f => f) hk⟩
theorem below_setRow {n g : Nat} (W : World) (c : Array Value) (h : n ≤ g) : Below n W (W.setRow g c) := ⟨rfl, rfl, rfl, by simp, fun k hk => setRow_other W g k c (by omega)⟩
theorem KeepsFrom.setRowF (B : Nat) (W : World) (g : Nat) (c cs : Array Value) (t : TypeId) (f : Nat × Nat) (hg : W.heap[g]? = some (.cells c t f)) : KeepsFrom B W (W.setRow g cs) :=
  ⟨by simp, fun k o _ hk ho => by
    by_cases e : k = g
    · subst e
      rw [hg] at hk
      cases hk
      cases ho
    · rw [setRow_other W g k cs e]; exact hk⟩

set_option maxHeartbeats 1000000 in
theorem wDiv_zero (a b : Nat) (hb : b = 0) (w : World) :
    Calls Try.prog 40 #[.agg (rowN .u64 64 4 a), .agg (rowN .u64 64 4 b)] w fun e w' => e = .returned (.tuple #[.agg (rowN .u64 64 4 0), .agg (rowN .u64 64 4 0), .int .i64 5]) ∧ Fr F0 w w' := by
  have hE : rowEq 256 b 0 = true := by subst hb; rfl
  clear hb
  obtain ⟨r0, r1, r2, r3⟩ := heap4 w (.cells (rowN .u64 64 4 a) 24) (.cells (rowN .u64 64 4 b) 24) (.cells (rowN .u64 64 4 0) 24) (.cells (rowN .u64 64 4 0) 24)
  have HR := Lib.hid (And.intro r2 r3)
  clear r0 r1 r2 r3
  go_enter Try.func40, Try.ntmps40
  go_wp2_with fail
  refine bodyPost_ret (res_row_row_tmp rfl _ _ (w.heap.size + 1 + 1) (w.heap.size + 1 + 1 + 1) _ _ _ _ (0, 0) (0, 0) _ rfl rfl (by rw [heap_setRow_ne _ _ _ _ (by omega), heap_setRow_at, HR.out.1]; rfl) (by rw [heap_setRow_at, heap_setRow_ne _ _ _ _ (by omega), HR.out.2]; rfl) Try.underlying24 rfl (by rw [Try.szWide]; rfl) (by rw [Try.szWide]; rfl)) rfl ⟨rfl, ?_⟩
  exact ((((((Fr.refl F0 w).alloc _).alloc _).alloc _).alloc _).setRow (fun h => by omega) _).setRow (fun h => by omega) _

set_option maxRecDepth 100000 in
set_option maxHeartbeats 8000000 in
theorem wDiv_any (a b : Nat) (ha : a < W256) (hb : b < W256) (hb0 : 0 < b) (w : World) :
    Calls Try.prog 40 #[.agg (rowN .u64 64 4 a), .agg (rowN .u64 64 4 b)] w fun e w' => e = .returned (.tuple #[.agg (rowN .u64 64 4 (a / b)), .agg (rowN .u64 64 4 (a % b)), .int .i64 0]) ∧ Fr F0 w w' := by
  have hE : rowEq 256 b 0 = false := by
    rw [rowEq_of b 0 hb W256_pos]
    exact decide_eq_false (by omega)
  have HA := Lib.hid (And.intro ha (And.intro hb hb0))
  have HL := Lib.hid (fun r (hr : r < W256) w => show Calls Try.prog 46 #[.agg (rowN .u64 64 4 r), .int .u64 64] w _ from wleft_any r 64 hr (by omega) w)
  have HD := Lib.hid (fun x (hx : x < W256) (h : x < 2 ^ 64 * b) w => wdivWord_any x b hx hb hb0 h w)
  have ha4 : a / 2 ^ (64 * 4) = 0 := Nat.div_eq_of_lt ha
  have HA4 := Lib.hid ha4
  clear ha hb hb0 ha4
  refine callsIn_wide (n := 6) |>.1 ?_
  refine callsIn_of_wp_marks Try.func40 rfl trivial ?_ rfl
  simp only [Try.ntmps40, List.size_toArray, List.length_cons, List.length_nil, Nat.reduceAdd, Nat.reduceSub, Array.replicate_succ, Array.replicate_zero, List.push_toArray, List.append_toArray, List.nil_append, List.cons_append]
  gi_wp2_with (refine ⟨trivial, ?_⟩; gi_at_call 28; refine (BackU_in _ _ trivial rfl _ _ _ _).mono ?_; rintro e w4 ⟨rfl, rfl⟩)
  obtain ⟨W1, hW1⟩ : ∃ W1, W1 = [Obj.cells (rowN .u64 64 4 a) 24, .cells (rowN .u64 64 4 b) 24, .cells (rowN .u64 64 4 0) 24, .cells (rowN .u64 64 4 0) 24, .cells (rowN .u64 64 4 0) 24, .cells (rowN .u64 64 4 0) 24, .cells #[.slice (some ⟨w.heap.size, 0, none⟩) 4 4] 37].foldl World.alloc w := ⟨_, rfl⟩
  refine wpIn_of_world W1 hW1 ?_
  have f1 : Fr F0 w W1 := by rw [hW1]; exact (Fr.refl F0 w).allocs _
  have hs1 := size_allocs [Obj.cells (rowN .u64 64 4 a) 24, .cells (rowN .u64 64 4 b) 24, .cells (rowN .u64 64 4 0) 24, .cells (rowN .u64 64 4 0) 24, .cells (rowN .u64 64 4 0) 24, .cells (rowN .u64 64 4 0) 24, .cells #[.slice (some ⟨w.heap.size, 0, none⟩) 4 4] 37] w
  have hr := heap_allocs [Obj.cells (rowN .u64 64 4 a) 24, .cells (rowN .u64 64 4 b) 24, .cells (rowN .u64 64 4 0) 24, .cells (rowN .u64 64 4 0) 24, .cells (rowN .u64 64 4 0) 24, .cells (rowN .u64 64 4 0) 24, .cells #[.slice (some ⟨w.heap.size, 0, none⟩) 4 4] 37] w
  rw [← hW1] at hs1 hr
  clear hW1
  have r0 := hr 0 (by simp)
  have r1 := hr 1 (by simp)
  have r2 := hr 2 (by simp)
  have r3 := hr 3 (by simp)
  have r4 := hr 4 (by simp)
  have r5 := hr 5 (by simp)
  have r6 := hr 6 (by simp)
  replace r0 : W1.heap[w.heap.size]? = some (.cells (rowN .u64 64 4 a) 24 (0, 0)) := r0
  replace r1 : W1.heap[w.heap.size + 1]? = some (.cells (rowN .u64 64 4 b) 24 (0, 0)) := r1
  replace r2 : W1.heap[w.heap.size + 1 + 1]? = some (.cells (rowN .u64 64 4 0) 24 (0, 0)) := r2
  replace r3 : W1.heap[w.heap.size + 1 + 1 + 1]? = some (.cells (rowN .u64 64 4 0) 24 (0, 0)) := r3
  replace r4 : W1.heap[w.heap.size + 1 + 1 + 1 + 1]? = some (.cells (rowN .u64 64 4 0) 24 (0, 0)) := r4
  replace r5 : W1.heap[w.heap.size + 1 + 1 + 1 + 1 + 1]? = some (.cells (rowN .u64 64 4 0) 24 (0, 0)) := r5
  replace r6 : W1.heap[w.heap.size + 1 + 1 + 1 + 1 + 1 + 1]? = some (.cells #[.slice (some ⟨w.heap.size, 0, none⟩) 4 4] 37 (0, 0)) := r6
  clear hr
  generalize hn0 : w.heap.size = g0 at *
  generalize hn1 : g0 + 1 = g1 at *
  generalize hn2 : g1 + 1 = g2 at *
  generalize hn3 : g2 + 1 = g3 at *
  generalize hn4 : g3 + 1 = g4 at *
  generalize hn5 : g4 + 1 = g5 at *
  generalize hn6 : g5 + 1 = g6 at *
  have HN := Lib.hid (show w.heap.size = g0 ∧ g0 ≤ g4 ∧ g0 ≤ g5 ∧ g0 ≤ W1.heap.size ∧ g0 ≤ g2 ∧ g0 ≤ g3 by simp at hs1; omega)
  have m4 : g0 ≠ g4 ∧ g1 ≠ g4 ∧ g2 ≠ g4 ∧ g3 ≠ g4 ∧ g5 ≠ g4 ∧ g6 ≠ g4 ∧ g4 ≠ g5 := by omega
  have m5 : g0 ≠ g5 ∧ g1 ≠ g5 ∧ g2 ≠ g5 ∧ g3 ≠ g5 ∧ g6 ≠ g5 ∧ g2 ≠ g3 ∧ g3 ≠ g2 ∧ g4 ≠ g2 ∧ g5 ≠ g2 ∧ g4 ≠ g3 ∧ g5 ≠ g3 := by omega
  obtain ⟨a04, a14, a24, a34, a54, a64, a45⟩ := m4
  obtain ⟨a05, a15, a25, a35, a65, a23, a32, a42, a52, a43, a53⟩ := m5
  clear hn0 hn1 hn2 hn3 hn4 hn5 hn6 hs1
  refine range_law rfl (by omega) (gf := 47) (lb := #[.pointer (some ⟨g6, 0, none⟩)]) rfl trivial (enters_of Try.func47 (by kernel_rfl) rfl)
    (BackU1_seq Fence.wide 5 trivial rfl (by omega) (fun pre => dgt 64 a (3 - pre.length)) 4 g6 g0 0 4 (by omega)) (fun _ => rfl)
    (fun pre W => ((W.heap[g0]? = some (.cells (rowN .u64 64 4 a) 24 (0, 0)) ∧ W.heap[g1]? = some (.cells (rowN .u64 64 4 b) 24 (0, 0))) ∧ (W.heap[g2]? = some (.cells (rowN .u64 64 4 0) 24 (0, 0)) ∧ W.heap[g3]? = some (.cells (rowN .u64 64 4 0) 24 (0, 0))) ∧ (W.heap[g4]? = some (.cells (rowN .u64 64 4 (a / 2 ^ (64 * (4 - pre.length)) / b * 2 ^ (64 * (4 - pre.length)))) 24 (0, 0)) ∧ W.heap[g5]? = some (.cells (rowN .u64 64 4 (a / 2 ^ (64 * (4 - pre.length)) % b)) 24 (0, 0)) ∧ W.heap[g6]? = some (.cells #[.slice (some ⟨g0, 0, none⟩) 4 4] 37 (0, 0)))) ∧ (pre.length ≤ 4) ∧ Below g0 W1 W)
    (fun c _ W => False)
    (OwnFrom.and (OwnFrom.and (OwnFrom.and (own_heap _ _ _ _ _) (own_heap _ _ _ _ _)) (OwnFrom.and (OwnFrom.and (own_heap _ _ _ _ _) (own_heap _ _ _ _ _)) (OwnFrom.and (own_heap _ _ (fun pre : List (Nat × Nat) => rowN .u64 64 4 (a / 2 ^ (64 * (4 - pre.length)) / b * 2 ^ (64 * (4 - pre.length)))) _ _) (OwnFrom.and (own_heap _ _ (fun pre : List (Nat × Nat) => rowN .u64 64 4 (a / 2 ^ (64 * (4 - pre.length)) % b)) _ _) (own_heap _ _ _ _ _))))) (OwnFrom.and (own_pure _ _) (own_below _ _ _ (Nat.le_refl _) HN.out.2.2.2.1)))
    (fun c => own_pure _ _)
    ?sees ⟨⟨⟨r0, r1⟩, ⟨r2, r3⟩, by rw [show 4 - ([] : List (Nat × Nat)).length = 4 from rfl, HA4.out, Nat.zero_div, Nat.zero_mul]; exact r4, by rw [show 4 - ([] : List (Nat × Nat)).length = 4 from rfl, HA4.out, Nat.zero_mod]; exact r5, r6⟩, by simp, Below.refl _ _⟩
    (fun x => { tmps := #[.agg (rowN .u64 64 4 a), .agg (rowN .u64 64 4 b), .pointer (some ⟨g0, 0, none⟩), .pointer (some ⟨g1, 0, none⟩), .pointer (some ⟨g2, 0, none⟩), .pointer (some ⟨g3, 0, none⟩), .int .i64 0, .pointer (some ⟨g4, 0, none⟩), .pointer (some ⟨g5, 0, none⟩), .int .i64 (x.1 : Int), .int .u64 (x.2 : Int), .agg (rowN .u64 64 4 b), .agg (rowN .u64 64 4 0), .bool false, undef, undef, .slice (some ⟨g0, 0, none⟩) 4 4, .func (.func 47) #[] #[.pointer (some ⟨g6, 0, none⟩)], .int .i64 (x.1 : Int), .int .u64 (x.2 : Int), undef, undef, undef, undef, undef, undef, undef, undef, undef, undef, undef, undef, undef, undef], defers := [] }) ?assign ?body ?done ?stop
  case sees =>
    rintro pre W ⟨⟨⟨q0, q1⟩, _, q4, q5, q6⟩, hl4, _⟩
    refine ⟨by rw [cell_at, q6]; rfl, fun hl => ?_⟩
    rw [cell_at, q0, cellAt_cells, Nat.zero_add]
    exact rowN_get _ _ _ _ _ (by omega)
  case assign =>
    intro l x W K hK
    gi_wp2
    exact hK
  case body =>
    rintro l pre x W ⟨⟨⟨q0, q1⟩, ⟨q2, q3⟩, q4, q5, q6⟩, hl4, hB⟩ ⟨hlen, rfl, _⟩
    obtain ⟨k, hk⟩ : ∃ k, k = pre.length := ⟨_, rfl⟩
    obtain ⟨i, hi⟩ : ∃ i, i = 3 - k := ⟨_, rfl⟩
    have hi4 : i < 4 := by omega
    have li : (i : Int) < 4 := by omega
    dsimp only
    rw [show 4 - 1 - pre.length = i by omega]
    rw [show 4 - pre.length = i + 1 by omega] at q4 q5
    have HI := Lib.hid (show (pre ++ [(i, dgt 64 a i)]).length = k + 1 ∧ 4 - (k + 1) = i ∧ k + 1 ≤ 4 by simp; omega)
    have hws := word_split a i
    have hd := dgt_lt 64 a i
    have hAb : a / 2 ^ (64 * (i + 1)) < 2 ^ 192 := by
      rw [Nat.div_lt_iff_lt_mul (Nat.two_pow_pos _)]
      refine Nat.lt_of_lt_of_le HA.out.1 ?_
      rw [W256_eq, ← Nat.pow_add]
      exact Nat.pow_le_pow_right (by omega) (by omega)
    obtain ⟨A, hA⟩ : ∃ A, A = a / 2 ^ (64 * (i + 1)) := ⟨_, rfl⟩
    rw [← hA] at q4 q5 hws hAb
    obtain ⟨rr, hrr⟩ : ∃ r, r = A % b := ⟨_, rfl⟩
    rw [← hrr] at q5
    have hrb : rr < b := by rw [hrr]; exact Nat.mod_lt _ HA.out.2.2
    have hrA : rr < 2 ^ 192 := by rw [hrr]; exact Nat.lt_of_le_of_lt (Nat.mod_le _ _) hAb
    have e256 : (2 : Nat) ^ 192 * 2 ^ 64 = W256 := by rw [← Nat.pow_add]; rfl
    have hr2 : rr * 2 ^ 64 + 2 ^ 64 ≤ W256 := by
      have : (rr + 1) * 2 ^ 64 ≤ 2 ^ 192 * 2 ^ 64 := Nat.mul_le_mul_right _ hrA
      rw [e256, Nat.add_mul] at this
      omega
    have hr3 : rr * 2 ^ 64 + 2 ^ 64 ≤ 2 ^ 64 * b := by
      have : (rr + 1) * 2 ^ 64 ≤ b * 2 ^ 64 := Nat.mul_le_mul_right _ hrb
      rw [Nat.add_mul, Nat.mul_comm b] at this
      omega
    have dv := div_round A (dgt 64 a i) b HA.out.2.2
    rw [← hrr, ← hws] at dv
    obtain ⟨d, hdd⟩ : ∃ d, d = dgt 64 a i := ⟨_, rfl⟩
    rw [← hdd] at hd dv HI ⊢
    obtain ⟨x, hx⟩ : ∃ x, x = rr * 2 ^ 64 + d := ⟨_, rfl⟩
    rw [← hx] at dv
    have hxq : x / b < 2 ^ 64 := by rw [Nat.div_lt_iff_lt_mul HA.out.2.2]; omega
    have HX := Lib.hid (show rr < W256 ∧ x < W256 ∧ x < 2 ^ 64 * b ∧ rr * 2 ^ 64 % W256 = rr * 2 ^ 64 from ⟨by omega, by omega, by omega, Nat.mod_eq_of_lt (by omega)⟩)
    have HDV := Lib.hid dv
    have HPX := Lib.hid hx
    clear hws hAb hrb hrA e256 hr2 hr3 dv hx hl4 hlen hi hk hA hrr hdd
    gi_wp2_with (refine ⟨trivial, ?_⟩; gi_at_call 46; refine (CallsIn.inRound l (callsIn_wide.2 (HL.out rr HX.out.1 _))).mono ?_; rintro e w4 ⟨rfl, f4⟩; rw [HX.out.2.2.2]; replace q0 := f4.keeps (fun f => f) q0; replace q1 := f4.keeps (fun f => f) q1; replace q2 := f4.keeps (fun f => f) q2; replace q3 := f4.keeps (fun f => f) q3; replace q4 := f4.keeps (fun f => f) q4; replace q5 := f4.keeps (fun f => f) q5; replace q6 := f4.keeps (fun f => f) q6; have H4 := Lib.hid f4; clear f4)
    refine ⟨trivial, ?_⟩
    have hpx : putw 64 (rr * 18446744073709551616) 0 d = x := by rw [HPX.out]; exact putw_first rr d
    rw [hpx]
    obtain ⟨W5, hW5⟩ : ∃ W5, W5 = ((w4.setRow g5 (rowN .u64 64 4 (rr * 18446744073709551616))).setCell ⟨g5, 0, none⟩ (.int .u64 (d : Int))) := ⟨_, rfl⟩
    rw [← hW5]
    have k5 : W5.heap[g5]? = some (.cells (rowN .u64 64 4 x) 24 (0, 0)) := by
      rw [hW5, heap_setCell_at, heap_setRow_at, q5, withRow_cells, withCell_cells, set_word _ _ _ hd, hpx]
    have ko : ∀ g, g ≠ g5 → W5.heap[g]? = w4.heap[g]? := fun g hg => by rw [hW5, heap_setCell_ne' _ _ _ _ _ hg, heap_setRow_ne _ _ _ _ hg]
    have b4 : Below g0 W1 w4 := hB.trans (H4.out.below (Nat.le_trans HN.out.2.2.2.1 hB.size) fun _ _ f => f)
    have b5 : Below g0 W1 W5 := by
      rw [hW5]
      exact (b4.trans (below_setRow _ _ HN.out.2.2.1)).setCell (p := ⟨g5, 0, none⟩) HN.out.2.2.1 _
    have kf5 : KeepsFrom W1.heap.size W W5 := by
      rw [hW5]
      exact ((H4.out.keepsFrom _).trans (KeepsFrom.setRowF _ _ _ _ _ _ _ q5)).trans ((KeepsOthers.setCell _ _ _).from _)
    replace q0 := (ko g0 a05).trans q0
    replace q1 := (ko g1 a15).trans q1
    replace q2 := (ko g2 a25).trans q2
    replace q3 := (ko g3 a35).trans q3
    replace q4 := (ko g4 a45).trans q4
    replace q6 := (ko g6 a65).trans q6
    have HBB := Lib.hid (And.intro b5 kf5)
    clear hW5 ko q5 b4 b5 kf5 hpx hB
    refine (CallsIn.inRound l (callsIn_wide.2 (HD.out x HX.out.2.1 HX.out.2.2.1 W5))).mono ?_
    rintro e w6 ⟨rfl, f6⟩
    replace q0 := f6.keeps (fun f => f) q0
    replace q1 := f6.keeps (fun f => f) q1
    replace q2 := f6.keeps (fun f => f) q2
    replace q3 := f6.keeps (fun f => f) q3
    replace q4 := f6.keeps (fun f => f) q4
    replace k5 := f6.keeps (fun f => f) k5
    replace q6 := f6.keeps (fun f => f) q6
    have H6 := Lib.hid f6
    clear f6
    gi_wp2
    have b6 : Below g0 W1 w6 := HBB.out.1.trans (H6.out.below (Nat.le_trans HN.out.2.2.2.1 HBB.out.1.size) fun _ _ f => f)
    have b7 := b6.setCell (p := ⟨g4, i, none⟩) HN.out.2.1 (.int .u64 ((x / b : Nat) : Int))
    have kf6 := (HBB.out.2.trans (H6.out.keepsFrom _)).trans ((KeepsOthers.setCell w6 ⟨g4, i, none⟩ (.int .u64 ((x / b : Nat) : Int))).from W1.heap.size)
    have k5' : (w6.setCell ⟨g4, i, none⟩ (.int .u64 ((x / b : Nat) : Int))).heap[g5]? = some (.cells (rowN .u64 64 4 x) 24 (0, 0)) := by
      rw [heap_setCell_ne' _ _ _ _ _ a54]; exact k5
    refine ⟨kf6.trans (KeepsFrom.setRowF _ _ _ _ _ _ _ k5'), trivial, ⟨⟨?_, ?_⟩, ⟨?_, ?_⟩, ?_, ?_, ?_⟩, ?_, ?_⟩
    · rw [heap_setRow_ne _ _ _ _ a05, heap_setCell_ne' _ _ _ _ _ a04]; exact q0
    · rw [heap_setRow_ne _ _ _ _ a15, heap_setCell_ne' _ _ _ _ _ a14]; exact q1
    · rw [heap_setRow_ne _ _ _ _ a25, heap_setCell_ne' _ _ _ _ _ a24]; exact q2
    · rw [heap_setRow_ne _ _ _ _ a35, heap_setCell_ne' _ _ _ _ _ a34]; exact q3
    · rw [heap_setRow_ne _ _ _ _ a45, heap_setCell_at, q4, withCell_cells, HI.out.1, HI.out.2.1, HDV.out.1]
      first | rw [set_word _ _ _ hxq, putw_low] | (rw [← putw_low, ← set_word _ _ _ hxq]; rfl)
    · rw [HI.out.1, HI.out.2.1, HDV.out.2, heap_setRow_at, heap_setCell_ne' _ _ _ _ _ a54, k5]; rfl
    · rw [heap_setRow_ne _ _ _ _ a65, heap_setCell_ne' _ _ _ _ _ a64]; exact q6
    · rw [HI.out.1]; exact HI.out.2.2
    · exact b7.trans (below_setRow _ _ HN.out.2.2.1)
  case done =>
    rintro D ys W hD rfl ⟨⟨⟨q0, q1⟩, ⟨q2, q3⟩, q4, q5, q6⟩, hl4, hB⟩ hK
    rw [bt_length, Nat.sub_self, Nat.mul_zero, Nat.pow_zero, Nat.div_one, Nat.mul_one] at q4
    rw [bt_length, Nat.sub_self, Nat.mul_zero, Nat.pow_zero, Nat.div_one] at q5
    clear q0 q1 q6 hl4
    gi_wp2
    refine wpIn_wide.2 ?_
    refine wp_region_noPanic ?_
    refine wp_region_held_drew (S := (fun w' => w'.heap[g4]? = some (.cells (rowN .u64 64 4 (a / b)) 24 (0, 0)) ∧ w'.heap[g5]? = some (.cells (rowN .u64 64 4 (a % b)) 24 (0, 0)))) (by kernel_rfl) ?_ (fun hHeld => ?_)
    · ((try dsimp only) <;> (first | exact ⟨q4, q5⟩ | (refine ⟨?_, ?_⟩ <;> (repeat rw [heap_setRow_ne _ _ _ _ (by assumption)]) <;> assumption)))
    refine wpAnyH_take (i := 0) (oi := ⟨_, _, _, _, _, _⟩) (v := ?_) rfl (by kernel_rfl) (by kernel_rfl) (by kernel_rfl) (fun _ _ _ h => h) (Or.inl ⟨by rfl, ?_⟩) (by assumption) ?_
    rotate_left
    · intro w hSw; (try dsimp only at hSw); go_simp; (try (with_reducible rfl)); done
    simp only [Act.put, List.setIfInBounds_toArray]; dsimp only [List.set_cons_zero, List.set_cons_succ]
    refine wpAnyH_take (i := 1) (oi := ⟨_, _, _, _, _, _⟩) (v := ?_) rfl (by kernel_rfl) (by kernel_rfl) (by kernel_rfl) (fun _ _ _ h => h) (Or.inl ⟨by rfl, ?_⟩) (by assumption) ?_
    rotate_left
    · intro w hSw; (try dsimp only at hSw); go_simp; (try (with_reducible rfl)); done
    simp only [Act.put, List.setIfInBounds_toArray]; dsimp only [List.set_cons_zero, List.set_cons_succ]
    refine wpAnyH_ready (rs := [2]) (by kernel_rfl) (by simp) ?_
    refine AllReadyH.cons (o := ⟨_, _, _, _, _, _⟩) rfl (fun K hK => ?_) AllReadyH.nil
    go_simp
    refine hK.out _ _ ?_ (fun hHeld => ?_)
    · ((try dsimp only) <;> (first | exact ⟨q4, q5⟩ | (refine ⟨?_, ?_⟩ <;> (repeat rw [heap_setRow_ne _ _ _ _ (by assumption)]) <;> assumption)))
    clear hK K
    try (simp only [Act.put, List.setIfInBounds_toArray]; dsimp only [List.set_cons_zero, List.set_cons_succ])
    refine wpAnyH_ready (rs := [3]) (by kernel_rfl) (by simp) ?_
    refine AllReadyH.cons (o := ⟨_, _, _, _, _, _⟩) rfl (fun K hK => ?_) AllReadyH.nil
    go_simp
    refine hK.out _ _ ?_ (fun hHeld => ?_)
    · ((try dsimp only) <;> (first | exact ⟨q4, q5⟩ | (refine ⟨?_, ?_⟩ <;> (repeat rw [heap_setRow_ne _ _ _ _ (by assumption)]) <;> assumption)))
    clear hK K
    try (simp only [Act.put, List.setIfInBounds_toArray]; dsimp only [List.set_cons_zero, List.set_cons_succ])
    refine wpAnyH_take (i := 4) (oi := ⟨_, _, _, _, _, _⟩) (v := ?_) rfl (by kernel_rfl) (by kernel_rfl) (by kernel_rfl) (fun _ _ _ h => h) (Or.inl ⟨by rfl, ?_⟩) (by assumption) ?_
    rotate_left
    · intro w hSw; (try dsimp only at hSw); go_simp; (try (with_reducible rfl)); done
    simp only [Act.put, List.setIfInBounds_toArray]; dsimp only [List.set_cons_zero, List.set_cons_succ]
    refine wpAnyH_done (by kernel_rfl) ?_ _
    refine NoPanic.normal ?_
    all_goals
      generalize hW9 : World.setRow (World.setRow _ _ _) _ _ = W9
      have c2 : W9.heap[g2]? = some (.cells (rowN .u64 64 4 (a / b)) 24 (0, 0)) := by
        rw [← hW9]
        first
          | (rw [heap_setRow_ne _ _ _ _ a23, heap_setRow_at, show W.drew.heap = W.heap from rfl, q2]; rfl)
          | (rw [heap_setRow_at, heap_setRow_ne _ _ _ _ a23, show W.drew.heap = W.heap from rfl, q2]; rfl)
      have c3 : W9.heap[g3]? = some (.cells (rowN .u64 64 4 (a % b)) 24 (0, 0)) := by
        rw [← hW9]
        first
          | (rw [heap_setRow_ne _ _ _ _ a32, heap_setRow_at, show W.drew.heap = W.heap from rfl, q3]; rfl)
          | (rw [heap_setRow_at, heap_setRow_ne _ _ _ _ a32, show W.drew.heap = W.heap from rfl, q3]; rfl)
      have hD2 : D ≠ g2 := fun e => by subst e; rw [q2] at hK; cases hK
      have hD3 : D ≠ g3 := fun e => by subst e; rw [q3] at hK; cases hK
      have hK' : W9.heap[D]? = some (.deferred (some [])) := by
        rw [← hW9]
        first
          | (rw [heap_setRow_ne _ _ _ _ hD2, heap_setRow_ne _ _ _ _ hD3]; exact hK)
          | (rw [heap_setRow_ne _ _ _ _ hD3, heap_setRow_ne _ _ _ _ hD2]; exact hK)
      have b9 : Below g0 W1 W9 := by
        rw [← hW9]
        exact ((hB.drew).trans (below_setRow _ _ (by have := HN.out; omega))).trans (below_setRow _ _ (by have := HN.out; omega))
      clear hW9
      have b10 := b9.trans (belowK_b (w := W1) HN.out.2.2.2.1 W9 D _ (.deferred none) hD hK' rfl rfl)
      have e2 : (W9.putObj D (.deferred none)).heap[g2]? = some (.cells (rowN .u64 64 4 (a / b)) 24 (0, 0)) := (World.putObj_heap_other (fun e => hD2 e.symm)).trans c2
      have e3 : (W9.putObj D (.deferred none)).heap[g3]? = some (.cells (rowN .u64 64 4 (a % b)) 24 (0, 0)) := (World.putObj_heap_other (fun e => hD3 e.symm)).trans c3
      gi_wp2
      refine ⟨by simp, .inl ⟨_, _, rfl, run_takeDeferred hK', ?_⟩⟩
      exact ⟨_, res_row_row_tmp rfl _ _ g2 g3 _ _ _ _ (0, 0) (0, 0) _ rfl rfl e2 e3 Try.underlying24 rfl (by rw [Try.szWide]; rfl) (by rw [Try.szWide]; rfl), rfl, f1.trans (Fr.of_below' b10) fun i hi hk => by have := HN.out; omega⟩
  case stop =>
    rintro D c pre W hD h hK
    exact h.elim
end Go.Proofs.Ytgdnmmobnfjegaa
