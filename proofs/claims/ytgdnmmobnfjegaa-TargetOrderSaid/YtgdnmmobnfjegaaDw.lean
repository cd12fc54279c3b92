/- Layer 3 (wide): one word of a quotient. -/
import Derived.Test.YtgdnmmobnfjegaaGu
namespace Go.Proofs.Ytgdnmmobnfjegaa
set_option linter.unusedVariables false
set_option linter.unusedSimpArgs false
open Go.RowKit

/-- Two results, the second a whole row. -/
theorem res_tmp_row {P : Program} {fn : Func} {p u : Tmp} {ty : TypeId} (h : fn.results = #[.tmp u, .cell p ty]) (tmps : Array Value) (w : World) (g : Nat) (t : TypeId) (cs : Array Value) (fr : Nat × Nat) (d : TypeDesc)
    (hp : tmps.getD p undef = .pointer (some ⟨g, 0, none⟩)) (hg : w.heap[g]? = some (.cells cs t fr))
    (hu : P.underlying ty = some d) (hd : (match d with | .struct _ | .array _ _ => true | _ => false) = true) (hi : (P.info? ty).map (·.size) = some cs.size) :
    (results fn tmps).run P w = .ok (.tuple #[tmps.getD u undef, .agg cs]) w := by
  have hp' : tmps[p]?.getD undef = .pointer (some ⟨g, 0, none⟩) := by simpa using hp
  simp [results, h, hp', asAddr, run_loadVar_row w g t ty cs fr d hg hu hd hi]

theorem sgn_pos {x y : Nat} (h : y < x) : sgn x y = 1 := by unfold sgn; rw [if_neg (by omega), if_pos h]
theorem sgn_not {x y : Nat} (h : x ≤ y) : sgn x y ≤ 0 := by unfold sgn; split <;> (try split) <;> omega

set_option maxRecDepth 200000 in
set_option maxHeartbeats 4000000 in
theorem wdivWord_any (a b : Nat) (ha : a < W256) (hb : b < W256) (hb0 : 0 < b) (hab : a < 2 ^ 64 * b) (w : World) :
    Calls Try.prog 53 #[.agg (rowN .u64 64 4 a), .agg (rowN .u64 64 4 b)] w fun e w' => e = .returned (.tuple #[.int .u64 ((a / b : Nat) : Int), .agg (rowN .u64 64 4 (a % b))]) ∧ Fr F0 w w' := by
  have HG := Lib.hid (wguess_any a b ha hb hb0 hab)
  have HM := Lib.hid (fun x (hx : x < 2 ^ 64) w => wMul_any b x hb hx w)
  have HC := Lib.hid (fun x (hx : x < W256) w => wCmp_any x a hx ha w)
  have HS := Lib.hid (fun x (hx : x < W256) w => wSub_any a x ha hx w)
  have HF := Lib.hid (And.intro ha (And.intro hb (And.intro hb0 hab)))
  clear ha hb hb0 hab
  go_enter Try.func53, Try.ntmps53
  go_wp2_with fail
  obtain ⟨r0, r1, r2⟩ := heap3 w (.cells (rowN .u64 64 4 a) 24) (.cells (rowN .u64 64 4 b) 24) (.cells (rowN .u64 64 4 0) 24)
  refine (HG.out _).mono ?_
  rintro e w1 ⟨g, rfl, hg1, hg2, f1⟩
  replace r0 := f1.keeps (fun f => f) r0
  replace r1 := f1.keeps (fun f => f) r1
  replace r2 := f1.keeps (fun f => f) r2
  have F1 : Fr F0 w w1 := ((((Fr.refl F0 w).alloc _).alloc _).alloc _).trans' f1
  clear f1
  generalize hn0 : w.heap.size = g0 at *
  generalize hn1 : g0 + 1 = g1 at *
  generalize hn2 : g1 + 1 = g2 at *
  have HG1 := Lib.hid hg1
  have HG2 := Lib.hid hg2
  have HN := Lib.hid (show w.heap.size = g0 ∧ g0 < g1 ∧ g1 < g2 by omega)
  clear hg1 hg2 hn0 hn1 hn2
  go_wp2_with fail
  refine (HM.out g HG2.out _).mono ?_
  rintro e w2 ⟨rfl, f2⟩
  replace r0 := f2.keeps (fun f => f) r0
  replace r1 := f2.keeps (fun f => f) r1
  replace r2 := f2.keeps (fun f => f) r2
  have F2 : Fr F0 w w2 := F1.trans' f2
  clear f2 F1
  have hs2 : g2 < w2.heap.size := (Array.getElem?_eq_some_iff.1 r2).1
  have HS2 := Lib.hid hs2
  clear hs2
  go_wp2_with fail
  obtain ⟨W3, hW3⟩ : ∃ W3, W3 = (w2.alloc (.cells (rowN .u64 64 4 0) 24)).setRow w2.heap.size (rowN .u64 64 4 (b * g % W256)) := ⟨_, rfl⟩
  refine wp_of_world W3 hW3 ?_
  have s0 : W3.heap[g0]? = some (.cells (rowN .u64 64 4 a) 24 (0, 0)) := by
    have := HS2.out; have := HN.out
    rw [hW3, heap_setRow_ne _ _ _ _ (by omega), heap_alloc_old _ _ (by omega)]; exact r0
  have s1 : W3.heap[g1]? = some (.cells (rowN .u64 64 4 b) 24 (0, 0)) := by
    have := HS2.out; have := HN.out
    rw [hW3, heap_setRow_ne _ _ _ _ (by omega), heap_alloc_old _ _ (by omega)]; exact r1
  have s2 : W3.heap[g2]? = some (.cells (rowN .u64 64 4 0) 24 (0, 0)) := by
    have := HS2.out; have := HN.out
    rw [hW3, heap_setRow_ne _ _ _ _ (by omega), heap_alloc_old _ _ (by omega)]; exact r2
  have s3 : W3.heap[w2.heap.size]? = some (.cells (rowN .u64 64 4 (b * g % W256)) 24 (0, 0)) := by
    rw [hW3, heap_setRow_at, heap_alloc_new]; rfl
  have F3 : Fr F0 w W3 := by rw [hW3]; exact (F2.alloc _).setRow (fun h => by have := F2.size; omega) _
  have hx3 := F2.size
  generalize hn3 : w2.heap.size = g3 at *
  have n0 : g0 ≠ g3 := by have := HS2.out; have := HN.out; omega
  have n1 : g1 ≠ g3 := by have := HS2.out; have := HN.out; omega
  have n2 : g2 ≠ g3 := by have := HS2.out; have := HN.out; omega
  have HX := Lib.hid (show w.heap.size ≤ g3 ∧ w.heap.size ≤ g2 by have := HN.out; omega)
  clear hW3 F2 r0 r1 r2 hx3 hn3
  go_loopw [6, 8] (fun gv ov wr => ∃ g : Nat, gv = .int .u64 (g : Int) ∧ ov = .bool (decide (W256 ≤ b * g)) ∧ a / b ≤ g ∧ g < 2 ^ 64 ∧ wr.heap[g0]? = some (.cells (rowN .u64 64 4 a) 24 (0, 0)) ∧ wr.heap[g1]? = some (.cells (rowN .u64 64 4 b) 24 (0, 0)) ∧ wr.heap[g2]? = some (.cells (rowN .u64 64 4 0) 24 (0, 0)) ∧ wr.heap[g3]? = some (.cells (rowN .u64 64 4 (b * g % W256)) 24 (0, 0)) ∧ Fr F0 w wr) (fun gv _ _ => (intOf gv).toNat)
  case atStart => exact ⟨g, rfl, rfl, HG1.out, HG2.out, s0, s1, s2, s3, F3⟩
  case round =>
    clear s0 s1 s2 s3 F3
    obtain ⟨g, rfl, rfl, hq, hl, s0, s1, s2, s3, F3⟩ := hrel
    have HQ := Lib.hid (And.intro hq hl)
    clear hq hl
    have go : ∀ (wx : World), a < b * g → 0 < g ∧ a / b ≤ g - 1 ∧ g - 1 < 2 ^ 64 ∧ IntKind.u64.wrap ((g : Int) - 1) = ((g - 1 : Nat) : Int) := fun wx h => by
      have hb0 := HF.out.2.2.1
      have hlt : a / b < g := by rw [Nat.div_lt_iff_lt_mul hb0, Nat.mul_comm]; exact h
      have := HQ.out
      generalize a / b = z at *
      refine ⟨by omega, by omega, by omega, ?_⟩
      rw [IntWalk.u64_in _ (by omega)]
      omega
    have GO := Lib.hid (go W3)
    clear go
    by_cases ho : W256 ≤ b * g
    · have hov : decide (W256 ≤ b * g) = true := decide_eq_true ho
      obtain ⟨k1, k2, k3, k4⟩ := GO.out (Nat.lt_of_lt_of_le HF.out.1 ho)
      obtain ⟨g', hg'⟩ : ∃ q, q = g - 1 := ⟨_, rfl⟩
      rw [← hg'] at k2 k3 k4
      have HK := Lib.hid (And.intro k1 (And.intro k2 (And.intro k3 hg')))
      rw [hov]
      clear ho hov k1 k2 k3 hg'
      go_wp2_with fail
      refine (HM.out g' HK.out.2.2.1 _).mono ?_
      rintro e w4 ⟨rfl, f4⟩
      replace s0 := f4.keeps (fun f => f) s0
      replace s1 := f4.keeps (fun f => f) s1
      replace s2 := f4.keeps (fun f => f) s2
      replace s3 := f4.keeps (fun f => f) s3
      have F4 : Fr F0 w w4 := F3.trans' f4
      clear f4 F3
      go_wp2_with fail
      go_roundw
      case rel =>
        refine ⟨g', rfl, rfl, HK.out.2.1, HK.out.2.2.1, ?_, ?_, ?_, ?_, F4.setRow (fun h => by have := HX.out; omega) _⟩
        · rw [heap_setRow_ne _ _ _ _ n0]; exact s0
        · rw [heap_setRow_ne _ _ _ _ n1]; exact s1
        · rw [heap_setRow_ne _ _ _ _ n2]; exact s2
        · rw [heap_setRow_at, s3]; rfl
      case measure =>
        have := HK.out
        simp [intOf]
        omega
    · have hov : decide (W256 ≤ b * g) = false := decide_eq_false ho
      have hbg : b * g < W256 := by omega
      rw [Nat.mod_eq_of_lt hbg] at s3
      have HBG := Lib.hid hbg
      rw [hov]
      clear ho hov hbg
      go_wp2_with fail
      refine (HC.out (b * g) HBG.out _).mono ?_
      rintro e w4 ⟨rfl, f4⟩
      replace s0 := f4.keeps (fun f => f) s0
      replace s1 := f4.keeps (fun f => f) s1
      replace s2 := f4.keeps (fun f => f) s2
      replace s3 := f4.keeps (fun f => f) s3
      have F4 : Fr F0 w w4 := F3.trans' f4
      clear f4 F3
      by_cases hc : a < b * g
      · obtain ⟨k1, k2, k3, k4⟩ := GO.out hc
        obtain ⟨g', hg'⟩ : ∃ q, q = g - 1 := ⟨_, rfl⟩
        rw [← hg'] at k2 k3 k4
        have HK := Lib.hid (And.intro k1 (And.intro k2 (And.intro k3 hg')))
        have hsg := sgn_pos hc
        clear k1 k2 k3 hg' hc
        go_wp2_with fail
        refine (HM.out g' HK.out.2.2.1 _).mono ?_
        rintro e w5 ⟨rfl, f5⟩
        replace s0 := f5.keeps (fun f => f) s0
        replace s1 := f5.keeps (fun f => f) s1
        replace s2 := f5.keeps (fun f => f) s2
        replace s3 := f5.keeps (fun f => f) s3
        have F5 : Fr F0 w w5 := F4.trans' f5
        clear f5 F4
        go_wp2_with fail
        go_roundw
        case rel =>
          refine ⟨g', rfl, rfl, HK.out.2.1, HK.out.2.2.1, ?_, ?_, ?_, ?_, F5.setRow (fun h => by have := HX.out; omega) _⟩
          · rw [heap_setRow_ne _ _ _ _ n0]; exact s0
          · rw [heap_setRow_ne _ _ _ _ n1]; exact s1
          · rw [heap_setRow_ne _ _ _ _ n2]; exact s2
          · rw [heap_setRow_at, s3]; rfl
        case measure =>
          have := HK.out
          simp [intOf]
          omega
      · have hgq : g = a / b := by
          have h1 : g ≤ a / b := by rw [Nat.le_div_iff_mul_le HF.out.2.2.1, Nat.mul_comm]; omega
          exact Nat.le_antisymm h1 HQ.out.1
        have hres : (a + W256 - b * g) % W256 = a % b := by
          have h1 := Nat.mod_add_div a b
          rw [← hgq] at h1
          have h2 := HF.out.1
          rw [show a + W256 - b * g = a % b + W256 by omega, Nat.add_mod_right, Nat.mod_eq_of_lt (by omega)]
        have hsg := sgn_not (show b * g ≤ a by omega)
        have hsg2 : decide (0 < sgn (b * g) a) = false := decide_eq_false (by omega)
        have HR := Lib.hid hres
        have HGQ := Lib.hid hgq
        clear hc hgq hres
        go_wp2_with fail
        refine (HS.out (b * g) HBG.out _).mono ?_
        rintro e w5 ⟨rfl, f5⟩
        rw [HR.out]
        replace s2 := f5.keeps (fun f => f) s2
        have F5 : Fr F0 w w5 := F4.trans' f5
        have hs5 : g2 < w5.heap.size := (Array.getElem?_eq_some_iff.1 s2).1
        have HS5 := Lib.hid hs5
        clear f5 F4 hs5 s0 s1 s3
        go_wp2_with fail
        obtain ⟨W7, hW7⟩ : ∃ W7, W7 = (w5.alloc (.cells (rowN .u64 64 4 0) 24)).setRow w5.heap.size (rowN .u64 64 4 (a % b)) := ⟨_, rfl⟩
        refine wp_of_world W7 hW7 ?_
        have q2 : W7.heap[g2]? = some (.cells (rowN .u64 64 4 0) 24 (0, 0)) := by
          rw [hW7, heap_setRow_ne _ _ _ _ (by have := HS5.out; omega), heap_alloc_old _ _ HS5.out]; exact s2
        have q5 : W7.heap[w5.heap.size]? = some (.cells (rowN .u64 64 4 (a % b)) 24 (0, 0)) := by
          rw [hW7, heap_setRow_at, heap_alloc_new]; rfl
        have F7 : Fr F0 w W7 := by rw [hW7]; exact (F5.alloc _).setRow (fun h => by have := F5.size; omega) _
        have n5 : w5.heap.size ≠ g2 := by have := HS5.out; omega
        generalize w5.heap.size = g5 at *
        clear hW7 F5 s2
        refine wp_region_noPanic ?_
        refine wp_region_held_drew (S := (fun w' => w'.heap[g5]? = some (.cells (rowN .u64 64 4 (a % b)) 24 (0, 0)))) (by kernel_rfl) ?_ (fun hHeld => ?_)
        · ((try dsimp only) <;> (first | exact q5 | (rw [heap_setRow_ne _ _ _ _ (by assumption)]; exact q5)))
        refine wpAnyH_take (i := 0) (oi := ⟨_, _, _, _, _, _⟩) (v := ?_) rfl (by kernel_rfl) (by kernel_rfl) (by kernel_rfl) (fun _ _ _ h => h) (Or.inl ⟨by rfl, ?_⟩) (by assumption) ?_
        rotate_left
        · intro w hSw; (try dsimp only at hSw); go_simp; (try (with_reducible rfl)); done
        simp only [Act.put, List.setIfInBounds_toArray]; dsimp only [List.set_cons_zero, List.set_cons_succ]
        refine wpAnyH_take (i := 1) (oi := ⟨_, _, _, _, _, _⟩) (v := ?_) rfl (by kernel_rfl) (by kernel_rfl) (by kernel_rfl) (fun _ _ _ h => h) (Or.inl ⟨by rfl, ?_⟩) (by assumption) ?_
        rotate_left
        · intro w hSw; (try dsimp only at hSw); go_simp; (try (with_reducible rfl)); done
        simp only [Act.put, List.setIfInBounds_toArray]; dsimp only [List.set_cons_zero, List.set_cons_succ]
        refine wpAnyH_take (i := 2) (oi := ⟨_, _, _, _, _, _⟩) (v := ?_) rfl (by kernel_rfl) (by kernel_rfl) (by kernel_rfl) (fun _ _ _ h => h) (Or.inl ⟨by rfl, ?_⟩) (by assumption) ?_
        rotate_left
        · intro w hSw; (try dsimp only at hSw); go_simp; (try (with_reducible rfl)); done
        simp only [Act.put, List.setIfInBounds_toArray]; dsimp only [List.set_cons_zero, List.set_cons_succ]
        refine wpAnyH_ready (rs := [3]) (by kernel_rfl) (by simp) ?_
        refine AllReadyH.cons (o := ⟨_, _, _, _, _, _⟩) rfl (fun K hK => ?_) AllReadyH.nil
        go_simp
        refine hK.out _ _ ?_ (fun hHeld => ?_)
        · ((try dsimp only) <;> (first | exact q5 | (rw [heap_setRow_ne _ _ _ _ (by assumption)]; exact q5)))
        clear hK K
        try (simp only [Act.put, List.setIfInBounds_toArray]; dsimp only [List.set_cons_zero, List.set_cons_succ])
        refine wpAnyH_done (by kernel_rfl) ?_ _
        refine NoPanic.normal ?_
        all_goals
          go_wp2_with fail
          refine bodyPost_ret (res_tmp_row rfl _ _ g2 _ _ (0, 0) _ rfl (by rw [heap_setRow_at, show (World.drew W7).heap = W7.heap from rfl, q2]; rfl) Try.underlying24 rfl (by rw [Try.szWide]; rfl)) rfl ⟨?_, ?_⟩
          · rw [← HGQ.out]; rfl
          · exact (Fr.drew F7).setRow (fun h => by have := HX.out; omega) _
end Go.Proofs.Ytgdnmmobnfjegaa
