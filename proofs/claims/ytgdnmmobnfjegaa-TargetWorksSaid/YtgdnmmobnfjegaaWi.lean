/- Layer 3 (wide): the walk of right. -/
import Derived.Test.YtgdnmmobnfjegaaWh
namespace Go.Proofs.Ytgdnmmobnfjegaa
set_option linter.unusedVariables false
set_option linter.unusedSimpArgs false
open Go.RowKit Go.Shelf

attribute [local go_sem] Oper.semAt_some

theorem wpIn_of_world {F : Fence} {n : Nat} {P : Program} {c : Code} {Q : Exit → Act → World → Prop} {a : Act} {w : World} (W : World) (h : W = w) (k : Code.wpIn F n P c Q a W) : Code.wpIn F n P c Q a w := h ▸ k

theorem or_val2 (d m r : Nat) (hd : d < 2 ^ 64) (hm : m < 2 ^ 64) : bits BinOp.or IntKind.u64 ((d : Int) / 2 ^ r) (m : Int) = ((d / 2 ^ r ||| m : Nat) : Int) := by
  have e : (d : Int) / 2 ^ r = ((d / 2 ^ r : Nat) : Int) := by rw [Int.natCast_ediv, Int.natCast_pow]; rfl
  rw [e]
  exact u64_or_nat _ _ (Nat.lt_of_le_of_lt (Nat.div_le_self _ _) hd) hm
theorem shl_val (d r : Nat) : IntKind.u64.wrap ((d : Int) * 2 ^ r) = ((d * 2 ^ r % 2 ^ 64 : Nat) : Int) := by
  rw [IntKind.wrap_u64, Int.natCast_emod, Int.natCast_mul, Int.natCast_pow]
  rfl

set_option maxRecDepth 100000 in
set_option maxHeartbeats 4000000 in
theorem wright_any (a n : Nat) (ha : a < W256) (hn : n < 256) (w : World) :
    Calls Try.prog 45 #[.agg (rowN .u64 64 4 a), .int .u64 n] w fun e w' => e = .returned (.agg (rowN .u64 64 4 (a / 2 ^ n))) ∧ Fr F0 w w' := by
  obtain ⟨q, hq⟩ : ∃ q, q = n / 64 := ⟨_, rfl⟩
  obtain ⟨r, hr⟩ : ∃ r, r = n % 64 := ⟨_, rfl⟩
  have hd : IntKind.u64.wrap ((n : Int) / 64) = (q : Int) := by rw [IntWalk.u64_in _ (by omega)]; omega
  have hge : decide ((256 : Int) ≤ (n : Int)) = false := decide_eq_false (by omega)
  have HN := Lib.hid (show n = 64 * q + r ∧ q < 4 ∧ r < 64 by omega)
  refine callsIn_wide (n := 6) |>.1 ?_
  refine callsIn_of_wp_marks Try.func45 rfl trivial ?_ rfl
  simp only [Try.ntmps45, List.size_toArray, List.length_cons, List.length_nil, Nat.reduceAdd, Nat.reduceSub, Array.replicate_succ, Array.replicate_zero, List.push_toArray, List.append_toArray, List.nil_append, List.cons_append]
  gi_wp2_with fail
  obtain ⟨W1, hW1⟩ : ∃ W1, W1 = ((w.alloc (.cells (rowN .u64 64 4 a) 24)).alloc (.cells (rowN .u64 64 4 0) 24)).alloc (.cells (rowN .u64 64 4 0) 24) := ⟨_, rfl⟩
  refine wpIn_of_world W1 hW1 ?_
  have f1 : Fr F0 w W1 := by rw [hW1]; exact (((Fr.refl F0 w).alloc _).alloc _).alloc _
  obtain ⟨r0, r1, r2⟩ := heap3 w (.cells (rowN .u64 64 4 a) 24) (.cells (rowN .u64 64 4 0) 24) (.cells (rowN .u64 64 4 0) 24)
  rw [← hW1] at r0 r1 r2
  have HR := Lib.hid hr
  clear hW1 hq hr
  generalize hg0 : w.heap.size = g0 at *
  generalize hg1 : g0 + 1 = g1 at *
  generalize hg2 : g1 + 1 = g2 at *
  have n1 : g1 ≠ g2 := by omega
  have HG := Lib.hid (show w.heap.size = g0 ∧ g0 ≤ g1 ∧ g0 ≤ g2 by omega)
  refine wpIn_wide.2 ?_
  refine right4 W1 g2 g0 q n a ha HN.out.2.1 hd (by omega) r2 r0 (Lib.hid ?_)
  clear hg0 hg1 hg2 r0
  rename_i u13 u14 u15 u16 u17 w2
  rintro ⟨hh, hf⟩
  replace r1 : w2.heap[g1]? = some (.cells (rowN .u64 64 4 0) 24 (0, 0)) := by rw [hh, heap_setRow_ne _ _ _ _ n1]; exact r1
  replace r2 : w2.heap[g2]? = some (.cells (rowN .u64 64 4 (a / 2 ^ (64 * q))) 24 (0, 0)) := by rw [hh, heap_setRow_at, r2]; rfl
  have f2 : Fr F0 w w2 := (f1.setRow (fun h => by have := HG.out; omega) _).trans' hf
  have hfin : a / 2 ^ (64 * q) / 2 ^ r = a / 2 ^ n := by rw [Nat.div_div_eq_div_mul, ← Nat.pow_add, ← HN.out.1]
  have hT : a / 2 ^ (64 * q) < W256 := Nat.lt_of_le_of_lt (Nat.div_le_self _ _) ha
  have HF := Lib.hid hfin
  clear hh hf f1 hfin hd
  generalize a / 2 ^ (64 * q) = T at *
  have hsz2 : g2 < w2.heap.size := (Array.getElem?_eq_some_iff.1 r2).1
  have hsz1 : g1 < w2.heap.size := (Array.getElem?_eq_some_iff.1 r1).1
  have HZ := Lib.hid (And.intro hsz1 hsz2)
  clear hsz1 hsz2
  gi_wp2_with (refine ⟨trivial, ?_⟩; gi_at_call 28; refine (BackU_in _ _ trivial rfl _ _ _ _).mono ?_; rintro e w4 ⟨rfl, rfl⟩)
  obtain ⟨W3, hW3⟩ : ∃ W3, W3 = ((w2.alloc (.cells #[.int .u64 ((n : Int) % 64)] 61)).alloc (.cells #[.int .u64 0] 22)).alloc (.cells #[.slice (some ⟨g2, 0, none⟩) 4 4] 37) := ⟨_, rfl⟩
  rw [← hW3]
  have f3 : Fr F0 w W3 := by rw [hW3]; exact ((f2.alloc _).alloc _).alloc _
  obtain ⟨r4, r5, r6⟩ := heap3 w2 (.cells #[.int .u64 ((n : Int) % 64)] 61) (.cells #[.int .u64 0] 22) (.cells #[.slice (some ⟨g2, 0, none⟩) 4 4] 37)
  rw [← hW3] at r4 r5 r6
  replace r1 : W3.heap[g1]? = some (.cells (rowN .u64 64 4 0) 24 (0, 0)) := by
    rw [hW3, heap_alloc_old _ _ (by have := HZ.out; simp; omega), heap_alloc_old _ _ (by have := HZ.out; simp; omega), heap_alloc_old _ _ HZ.out.1]; exact r1
  replace r2 : W3.heap[g2]? = some (.cells (rowN .u64 64 4 (shR T r 0)) 24 (0, 0)) := by
    rw [hW3, heap_alloc_old _ _ (by have := HZ.out; simp; omega), heap_alloc_old _ _ (by have := HZ.out; simp; omega), heap_alloc_old _ _ HZ.out.2]; exact r2
  have hs3 : W3.heap.size = w2.heap.size + 1 + 1 + 1 := by rw [hW3]; simp
  have hzz := HZ.out
  clear hW3 f2 HZ
  generalize hg4 : w2.heap.size = g4 at *
  generalize hg5 : g4 + 1 = g5 at *
  generalize hg6 : g5 + 1 = g6 at *
  have n2 : g1 ≠ g5 := by omega
  have n3 : g2 ≠ g5 := by omega
  have n4 : g4 ≠ g2 := by omega
  have n8 : g5 ≠ g2 := by omega
  have n5 : g4 ≠ g5 := by omega
  have n6 : g6 ≠ g2 := by omega
  have n7 : g6 ≠ g5 := by omega
  have hgg := HG.out
  have HG2 := Lib.hid (show g0 ≤ W3.heap.size ∧ g0 ≤ g2 ∧ g0 ≤ g5 ∧ g0 ≤ g1 by omega)
  clear hgg hzz hs3 hg4 hg5 hg6
  refine range_law rfl (by omega) (gf := 47) (lb := #[.pointer (some ⟨g6, 0, none⟩)]) rfl trivial (enters_of Try.func47 (by kernel_rfl) rfl)
    (BackU1_seq Fence.wide 5 trivial rfl (by omega) (fun pre => dgt 64 T (3 - pre.length)) 4 g6 g2 0 4 (by omega)) (fun _ => rfl)
    (fun pre W => ((W.heap[g1]? = some (.cells (rowN .u64 64 4 0) 24 (0, 0)) ∧ W.heap[g2]? = some (.cells (rowN .u64 64 4 (shR T r pre.length)) 24 (0, 0))) ∧ (W.heap[g4]? = some (.cells #[.int .u64 ((n : Int) % 64)] 61 (0, 0)) ∧ W.heap[g5]? = some (.cells #[.int .u64 ((dgt 64 T (4 - pre.length) * 2 ^ (64 - r) % 2 ^ 64 : Nat) : Int)] 22 (0, 0)) ∧ W.heap[g6]? = some (.cells #[.slice (some ⟨g2, 0, none⟩) 4 4] 37 (0, 0)))) ∧ (pre.length ≤ 4) ∧ Below g0 W3 W)
    (fun c _ W => False)
    (OwnFrom.and (OwnFrom.and (OwnFrom.and (own_heap _ _ _ _ _) (own_heap _ _ (fun pre : List (Nat × Nat) => rowN .u64 64 4 (shR T r pre.length)) _ _)) (OwnFrom.and (own_heap _ _ _ _ _) (OwnFrom.and (own_heap _ _ (fun pre : List (Nat × Nat) => #[.int .u64 ((dgt 64 T (4 - pre.length) * 2 ^ (64 - r) % 2 ^ 64 : Nat) : Int)]) _ _) (own_heap _ _ _ _ _)))) (OwnFrom.and (own_pure _ _) (own_below _ _ _ (Nat.le_refl _) HG2.out.1)))
    (fun c => own_pure _ _)
    ?sees ⟨⟨⟨r1, r2⟩, r4, by rw [show ([] : List (Nat × Nat)).length = 0 from rfl, dgt_over4 T 4 hT (by omega), Nat.zero_mul, Nat.zero_mod]; exact r5, r6⟩, by simp, Below.refl _ _⟩
    (fun x => { tmps := #[.agg (rowN .u64 64 4 a), .int .u64 n, .pointer (some ⟨g0, 0, none⟩), undef, .pointer (some ⟨g1, 0, none⟩), .pointer (some ⟨g2, 0, none⟩), .pointer (some ⟨g4, 0, none⟩), .pointer (some ⟨g5, 0, none⟩), .int .i64 (x.1 : Int), .int .u64 (x.2 : Int), .int .u64 n, .bool false, undef, u13, u14, u15, u16, u17, .int .u64 n, .int .u64 ((n : Int) % 64), .slice (some ⟨g2, 0, none⟩) 4 4, .func (.func 47) #[] #[.pointer (some ⟨g6, 0, none⟩)], .int .i64 (x.1 : Int), .int .u64 (x.2 : Int), undef, undef, undef, undef, undef, undef, undef, undef, undef, undef, undef, undef], defers := [] }) ?assign ?body ?done ?stop
  case sees =>
    rintro pre W ⟨⟨⟨q1, q2⟩, q4, q5, q6⟩, hl4, _⟩
    refine ⟨by rw [cell_at, q6]; rfl, fun hl => ?_⟩
    rw [cell_at, q2, cellAt_cells, Nat.zero_add, rowN_get _ _ _ _ _ (by omega), shR_dgt _ _ _ _ hl4 (by omega), if_neg (by omega)]
  case assign =>
    intro l x W K hK
    gi_wp2
    exact hK
  case body =>
    rintro l pre x W ⟨⟨⟨q1, q2⟩, q4, q5, q6⟩, hl4, hB⟩ ⟨hlen, rfl, _⟩
    obtain ⟨k, hk⟩ : ∃ k, k = pre.length := ⟨_, rfl⟩
    obtain ⟨i, hi⟩ : ∃ i, i = 3 - k := ⟨_, rfl⟩
    have hi4 : i < 4 := by omega
    have li : (i : Int) < 4 := by omega
    dsimp only
    rw [show 4 - 1 - pre.length = i by omega]
    have HSR := Lib.hid (show shR T r (k + 1) = putw 64 (shR T r k) i (dgt 64 (T / 2 ^ r) i) by rw [shR, ← hi])
    have HJ := Lib.hid (dgt_shr T r i HN.out.2.2)
    have HL := Lib.hid (show (pre ++ [(i, dgt 64 T i)]).length = k + 1 ∧ 4 - (k + 1) = i ∧ i + 1 = 4 - k by simp; omega)
    rw [← hk] at q2 q5
    rw [← HL.out.2.2] at q5
    have hU := dgt_lt 64 T i
    have hbl : dgt 64 T (i + 1) * 2 ^ (64 - r) % 2 ^ 64 < 2 ^ 64 := Nat.mod_lt _ (Nat.two_pow_pos _)
    obtain ⟨B, hBe⟩ : ∃ B, B = dgt 64 T (i + 1) * 2 ^ (64 - r) % 2 ^ 64 := ⟨_, rfl⟩
    rw [← hBe] at q5 hbl
    have HB := Lib.hid hBe
    clear hi hk hlen hl4 hBe
    gi_wp2
    rw [← HR.out, or_val2 _ _ _ hU hbl]
    have hE : dgt 64 T i / 2 ^ r ||| B = dgt 64 (T / 2 ^ r) i := by rw [HB.out, HJ.out]
    rw [hE]
    refine ⟨((KeepsOthers.setCell _ _ _).trans (KeepsOthers.setCell _ _ _)).from _, trivial, ⟨⟨?_, ?_⟩, ?_, ?_, ?_⟩, ?_, ?_⟩
    · rw [heap_setCell_ne' _ _ _ _ _ n2, heap_setCell_ne' _ _ _ _ _ n1]; exact q1
    · rw [HL.out.1, heap_setCell_ne' _ _ _ _ _ n3, heap_setCell_at, q2, withCell_cells, set_word _ _ _ (dgt_lt _ _ _), HSR.out]
    · rw [heap_setCell_ne' _ _ _ _ _ n5, heap_setCell_ne' _ _ _ _ _ n4]; exact q4
    · rw [HL.out.1, HL.out.2.1, heap_setCell_at, heap_setCell_ne' _ _ _ _ _ n8, q5, withCell_cells, shl_val]
      rfl
    · rw [heap_setCell_ne' _ _ _ _ _ n7, heap_setCell_ne' _ _ _ _ _ n6]; exact q6
    · have := HL.out; omega
    · exact (hB.setCell (p := ⟨g2, i, none⟩) HG2.out.2.1 _).setCell (p := ⟨g5, 0, none⟩) HG2.out.2.2.1 _
  case done =>
    rintro D ys W hD rfl ⟨⟨⟨q1, q2⟩, q4, q5, q6⟩, hl4, hB⟩ hK
    rw [bt_length, shR_all, HF.out] at q2
    clear q4 q5 q6
    gi_wp2
    have hD2 : D ≠ g1 := fun e => by subst e; rw [q1] at hK; cases hK
    have hK' : (W.setRow g1 (rowN .u64 64 4 (a / 2 ^ n))).heap[D]? = some (.deferred (some [])) := by rw [heap_setRow_ne _ _ _ _ hD2]; exact hK
    have hB' : Below g0 W3 ((W.setRow g1 (rowN .u64 64 4 (a / 2 ^ n))).putObj D (.deferred none)) := by
      refine Below.trans (hB.trans ?_) (belowK_b (w := W3) HG2.out.1 _ D _ (.deferred none) hD hK' rfl rfl)
      exact ⟨rfl, rfl, rfl, by simp, fun k hk => setRow_other W g1 k _ (by have := HG2.out; omega)⟩
    have hR : ((W.setRow g1 (rowN .u64 64 4 (a / 2 ^ n))).putObj D (.deferred none)).heap[g1]? = some (.cells (rowN .u64 64 4 (a / 2 ^ n)) 24 (0, 0)) := by
      rw [World.putObj_heap_other (fun e => hD2 e.symm), heap_setRow_at, q1]; rfl
    refine ⟨by simp, .inl ⟨_, _, rfl, run_takeDeferred hK', ?_⟩⟩
    exact ⟨_, results_cell_row rfl _ _ g1 _ _ _ _ rfl hR Try.underlying24 rfl (by rw [Try.szWide]; rfl), rfl, f3.trans (Fr.of_below' hB') fun i hi hk => by have := HG.out; omega⟩
  case stop =>
    rintro D c pre W hD h hK
    exact h.elim

set_option maxRecDepth 100000 in
set_option maxHeartbeats 1000000 in
theorem wright_out (a n : Nat) (hn : 256 ≤ n) (w : World) :
    Calls Try.prog 45 #[.agg (rowN .u64 64 4 a), .int .u64 n] w fun e w' => e = .returned (.agg (rowN .u64 64 4 0)) ∧ Fr F0 w w' := by
  have hge : decide ((256 : Int) ≤ (n : Int)) = true := decide_eq_true (by omega)
  go_enter Try.func45, Try.ntmps45
  go_wp2
  refine bodyPost_ret (results_cell_row rfl _ _ (w.heap.size + 1) _ _ _ _ rfl (by rw [heap_setRow_at, heap_alloc2_new]; rfl) Try.underlying24 rfl (by rw [Try.szWide]; rfl)) rfl ⟨rfl, ?_⟩
  exact (((Fr.refl F0 w).alloc _).alloc _).setRow (fun h => by omega) _
end Go.Proofs.Ytgdnmmobnfjegaa
