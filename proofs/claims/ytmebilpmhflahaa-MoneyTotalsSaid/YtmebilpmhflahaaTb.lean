/- Layer 4 (money): the total of what an iterator tells. -/
import Derived.Test.YtmebilpmhflahaaTa
namespace Go.Proofs.Ytmebilpmhflahaa
set_option linter.unusedVariables false
set_option linter.unusedSimpArgs false
open Go.RowKit Go.Shelf

attribute [local go_sem] Oper.semAt_some

/-- The total, and what is told beside it, from a sum so far. -/
def toV : Nat → List Nat → Nat
  | s, [] => s
  | s, x :: l => if adE s x = 0 then toV (s + x) l else 0
def toE : Nat → List Nat → Int
  | s, [] => 0
  | s, x :: l => if adE s x = 0 then toE (s + x) l else adE s x

theorem toV_cons (s x : Nat) (l : List Nat) : toV s (x :: l) = if adE s x = 0 then toV (s + x) l else 0 := rfl
theorem toE_cons (s x : Nat) (l : List Nat) : toE s (x :: l) = if adE s x = 0 then toE (s + x) l else adE s x := rfl
theorem toV_nil (s : Nat) : toV s [] = s := rfl
theorem toE_nil (s : Nat) : toE s [] = 0 := rfl
theorem sameC {w : World} {g : Nat} {v : Value} {t : TypeId} {f : Nat × Nat} (h : w.heap[g]? = some (.cells #[v] t f)) : (w.setCell ⟨g, 0, none⟩ v).heap[g]? = some (.cells #[v] t f) := by rw [heap_setCell_at, h]; rfl
theorem otherC {w : World} {g g' i : Nat} {v : Value} {o : Obj} (hn : g ≠ g') (h : w.heap[g]? = some o) : (w.setCell ⟨g', i, none⟩ v).heap[g]? = some o := by rw [heap_setCell_ne' _ _ _ _ _ hn]; exact h

/-- Two results, each one cell, an integer. -/
theorem res_cell2 {P : Program} {fn : Func} {p q : Tmp} {ty ty2 : TypeId} {k k2 : IntKind} (h : fn.results = #[.cell p ty, .cell q ty2]) (tmps : Array Value) (w : World) (g g' : Nat) (v v' : Value)
    (hp : tmps.getD p undef = .pointer (some ⟨g, 0, none⟩)) (hq : tmps.getD q undef = .pointer (some ⟨g', 0, none⟩)) (hc : w.cell? ⟨g, 0, none⟩ = some v) (hc' : w.cell? ⟨g', 0, none⟩ = some v')
    (hu : P.underlying ty = some (.int k)) (hu' : P.underlying ty2 = some (.int k2)) : (results fn tmps).run P w = .ok (.tuple #[v, v']) w := by
  have hp' : tmps[p]?.getD undef = .pointer (some ⟨g, 0, none⟩) := by simpa using hp
  have hq' : tmps[q]?.getD undef = .pointer (some ⟨g', 0, none⟩) := by simpa using hq
  have hagg : (isAgg ty).run P w = .ok false w := by
    unfold isAgg
    rw [Sem.run_bind, run_underlying hu w]
    rfl
  have hagg2 : (isAgg ty2).run P w = .ok false w := by
    unfold isAgg
    rw [Sem.run_bind, run_underlying hu' w]
    rfl
  simp [results, h, hp', hq', asAddr, loadVar, Sem.run_bind, hagg, hagg2, hc, hc']

theorem adE_ok {a b : Nat} (h : adE a b = 0) : a ≤ 4611686018427387904 ∧ b ≤ 4611686018427387904 ∧ a + b ≤ 4611686018427387904 := by
  unfold adE at h
  split at h
  · rename_i h1
    split at h
    · exact ⟨h1.1, h1.2, by assumption⟩
    · cases h
  · cases h
theorem adV_ok {a b : Nat} (h : adE a b = 0) : adV a b = a + b := if_pos (adE_ok h)
theorem adV_no {a b : Nat} (h : ¬ adE a b = 0) : adV a b = 0 := by
  refine if_neg fun h1 => h ?_
  unfold adE
  rw [if_pos ⟨h1.1, h1.2.1⟩, if_pos h1.2.2]

set_option maxRecDepth 100000 in
set_option maxHeartbeats 8000000 in
theorem mTotal_any (l : List Nat) (hl : ∀ x ∈ l, x < 18446744073709551616) (hlen : l.length ≤ 140737488355328) (Bx : Nat) (a : Option Addr) (c : Nat) (w : World)
    (hb : w.heap[Bx]? = some (.cells #[.slice a l.length c] 57 (0, 0))) (hu : Us w a c l) :
    Calls Try.prog 32 #[.func (.func 47) #[] #[.pointer (some ⟨Bx, 0, none⟩)]] w fun e w' => e = .returned (.tuple #[.int .u64 (toV 0 l : Nat), .int .i64 (toE 0 l)]) ∧ Fr F0 w w' := by
  have hmf : ∀ (fn : Fn) (first cap : Array Value) (w : World), (Instr.makeFunc fn first cap).run Try.prog w = .ok (.func fn first cap) w := fun _ _ _ _ => rfl
  refine callsIn_wide (n := 6) |>.1 ?_
  refine callsIn_of_wp_marks Try.func32 rfl trivial ?_ rfl
  simp only [Try.ntmps32, List.size_toArray, List.length_cons, List.length_nil, Nat.reduceAdd, Nat.reduceSub, Array.replicate_succ, Array.replicate_zero, List.push_toArray, List.append_toArray, List.nil_append, List.cons_append]
  gi_wp2
  obtain ⟨W1, hW1⟩ : ∃ W1, W1 = (w.alloc (.cells #[.int .u64 0] 44)).alloc (.cells #[.int .i64 0] 45) := ⟨_, rfl⟩
  refine wpIn_of_world W1 hW1 ?_
  have f1 : Fr F0 w W1 := by rw [hW1]; exact ((Fr.refl F0 w).alloc _).alloc _
  obtain ⟨r2, r3⟩ := heap2 w (.cells #[.int .u64 0] 44) (.cells #[.int .i64 0] 45)
  rw [← hW1] at r2 r3
  have hs1 : W1.heap.size = w.heap.size + 1 + 1 := by rw [hW1]; simp
  clear hW1
  generalize hg2 : w.heap.size = g2 at *
  generalize hg3 : g2 + 1 = g3 at *
  have n32 : g3 ≠ g2 := by omega
  have n23 : g2 ≠ g3 := by omega
  have HG := Lib.hid (show w.heap.size = g2 ∧ g2 ≤ W1.heap.size ∧ g2 ≤ g3 by omega)
  have HU := Lib.hid (And.intro hb hu)
  have HX := Lib.hid hl
  have HLN := Lib.hid hlen
  clear hg2 hg3 hs1 hb hu hl hlen
  refine range_law rfl (by omega) (gf := 47) (lb := #[.pointer (some ⟨Bx, 0, none⟩)]) rfl trivial (enters_of Try.func47 (by kernel_rfl) rfl)
    (each041_seq Fence.wide 5 trivial rfl (by omega) l Bx a c HLN.out) (fun _ => rfl)
    (fun pre W => (W.heap[g2]? = some (.cells #[.int .u64 (pre.sum : Nat)] 44 (0, 0)) ∧ W.heap[g3]? = some (.cells #[.int .i64 0] 45 (0, 0))) ∧ (pre.sum < 18446744073709551616 ∧ toV 0 l = toV pre.sum (l.drop pre.length) ∧ toE 0 l = toE pre.sum (l.drop pre.length)) ∧ Below g2 W1 W)
    (fun cc _ W => cc = .exit 0 ∧ (W.heap[g2]? = some (.cells #[.int .u64 (toV 0 l : Nat)] 44 (0, 0)) ∧ W.heap[g3]? = some (.cells #[.int .i64 (toE 0 l)] 45 (0, 0))) ∧ Below g2 W1 W)
    (OwnFrom.and (OwnFrom.and (own_heap _ _ (fun pre : List Nat => #[.int .u64 (pre.sum : Nat)]) _ _) (own_heap _ _ _ _ _)) (OwnFrom.and (own_pure _ _) (own_below _ _ _ (Nat.le_refl _) HG.out.2.1)))
    (fun cc => OwnFrom.and (own_pure _ _) (OwnFrom.and (OwnFrom.and (own_heap _ _ _ _ _) (own_heap _ _ _ _ _)) (own_below _ _ _ (Nat.le_refl _) HG.out.2.1)))
    ?sees ⟨⟨r2, r3⟩, ⟨by simp, rfl, rfl⟩, Below.refl _ _⟩
    (fun x => { tmps := #[.func (.func 47) #[] #[.pointer (some ⟨Bx, 0, none⟩)], undef, .pointer (some ⟨g2, 0, none⟩), .pointer (some ⟨g3, 0, none⟩), .int .u64 (x : Int), .func (.func 47) #[] #[.pointer (some ⟨Bx, 0, none⟩)], .int .u64 (x : Int), undef, undef, undef, undef, undef, undef, undef, undef, undef, undef], defers := [] }) ?assign ?body ?done ?stop
  case sees =>
    rintro pre W ⟨_, _, hB⟩
    have hF : Fr F0 w W := f1.trans (Fr.of_below' hB) fun i hi hk => by have := HG.out; omega
    refine ⟨?_, HU.out.2.fr hF⟩
    rw [cell_at, keep_fr hF HU.out.1]
    rfl
  case assign =>
    intro lp x W K hK
    gi_wp2
    exact hK
  case body =>
    rintro lp pre x W ⟨⟨q2, q3⟩, ⟨hs, hV, hE⟩, hB⟩ ⟨hlt, rfl, hpre⟩
    obtain ⟨k, hk⟩ : ∃ k, k = pre.length := ⟨_, rfl⟩
    rw [← hk] at hlt hV hE ⊢
    have hx : l.getD k 0 < 18446744073709551616 := HX.out _ (by rw [show l.getD k 0 = l[k] by simp [List.getD, List.getElem?_eq_getElem hlt]]; exact List.getElem_mem _)
    have hd : l.drop k = l.getD k 0 :: l.drop (k + 1) := by rw [List.drop_eq_getElem_cons hlt]; simp [List.getD, List.getElem?_eq_getElem hlt]
    rw [hd] at hV hE
    have HK := Lib.hid (show (pre ++ [l.getD k 0]).length = k + 1 ∧ (pre ++ [l.getD k 0]).sum = pre.sum + l.getD k 0 by simp [hk])
    generalize l.getD k 0 = x at *
    generalize pre.sum = s at *
    have HA := Lib.hid (aAdd_any s x hs hx)
    rw [toV_cons] at hV
    rw [toE_cons] at hE
    clear hs hx hd hk hpre hlt
    by_cases he : adE s x = 0
    · have hk := adE_ok he
      rw [adV_ok he, he] at HA
      rw [if_pos he] at hV hE
      have HV := Lib.hid (And.intro hV (And.intro hE (show s + x < 18446744073709551616 by omega)))
      clear hV hE he hk
      gi_wp2_with (refine ⟨trivial, ?_⟩; gi_at_call 25; refine (CallsIn.inRound lp (callsIn_wide.2 (HA.out _))).mono ?_; rintro e w4 ⟨rfl, f4⟩; replace q2 := f4.keeps (fun f => f) q2; replace q3 := f4.keeps (fun f => f) q3; have H4 := Lib.hid f4; clear f4)
      have b4 : Below g2 W1 w4 := hB.trans (H4.out.below (Nat.le_trans HG.out.2.1 hB.size) fun _ _ f => f)
      have b5 := (b4.setCell (p := ⟨g2, 0, none⟩) (Nat.le_refl _) (.int .u64 ((s : Int) + (x : Int)))).setCell (p := ⟨g3, 0, none⟩) HG.out.2.2 (.int .i64 0)
      have k5 := ((H4.out.keepsFrom W1.heap.size).trans ((KeepsOthers.setCell w4 ⟨g2, 0, none⟩ (.int .u64 ((s : Int) + (x : Int)))).from _)).trans ((KeepsOthers.setCell _ ⟨g3, 0, none⟩ (.int .i64 0)).from _)
      refine ⟨k5, trivial, ⟨?_, ?_⟩, ⟨?_, ?_, ?_⟩, b5⟩
      · rw [HK.out.2, heap_setCell_ne' _ _ _ _ _ n23, heap_setCell_at, q2]; rfl
      · rw [heap_setCell_at, heap_setCell_ne' _ _ _ _ _ n32, q3]; rfl
      · rw [HK.out.2]; exact HV.out.2.2
      · rw [HK.out.1, HK.out.2]; exact HV.out.1
      · rw [HK.out.1, HK.out.2]; exact HV.out.2.1
    · rw [adV_no he] at HA
      rw [if_neg he] at hV hE
      have HV := Lib.hid (And.intro hV hE)
      clear hV hE
      generalize adE s x = ee at *
      gi_wp2_with (refine ⟨trivial, ?_⟩; gi_at_call 25; refine (CallsIn.inRound lp (callsIn_wide.2 (HA.out _))).mono ?_; rintro e w4 ⟨rfl, f4⟩; replace q2 := f4.keeps (fun f => f) q2; replace q3 := f4.keeps (fun f => f) q3; have H4 := Lib.hid f4; clear f4)
      have b4 : Below g2 W1 w4 := hB.trans (H4.out.below (Nat.le_trans HG.out.2.1 hB.size) fun _ _ f => f)
      have b5 := (b4.setCell (p := ⟨g2, 0, none⟩) (Nat.le_refl _) (.int .u64 (0))).setCell (p := ⟨g3, 0, none⟩) HG.out.2.2 (.int .i64 ee)
      have k5 := ((H4.out.keepsFrom W1.heap.size).trans ((KeepsOthers.setCell w4 ⟨g2, 0, none⟩ (.int .u64 (0))).from _)).trans ((KeepsOthers.setCell _ ⟨g3, 0, none⟩ (.int .i64 ee)).from _)
      refine ⟨k5, rfl, ⟨?_, ?_⟩, b5⟩
      · rw [heap_setCell_ne' _ _ _ _ _ n23, heap_setCell_at, q2, HV.out.1]; rfl
      · rw [heap_setCell_at, heap_setCell_ne' _ _ _ _ _ n32, q3, HV.out.2]; rfl
  case done =>
    rintro D ys W hD hy ⟨⟨q2, q3⟩, ⟨_, hV, hE⟩, hB⟩ hK
    replace hy := hy.symm
    subst hy
    rw [List.drop_length] at hV hE
    rw [toV_nil] at hV
    rw [toE_nil] at hE
    rw [← hV] at q2
    rw [← hE] at q3
    clear hV hE
    generalize hVV : toV 0 l = V at *
    generalize hEE : toE 0 l = E at *
    have HVE := Lib.hid (And.intro hVV hEE)
    clear hVV hEE
    gi_wp2
    refine wpIn_wide.2 ?_
    refine wp_region_noPanic ?_
    refine wp_region_held_drew (S := (fun w' => w'.heap[g2]? = some (.cells #[.int .u64 (V : Int)] 44 (0, 0)) ∧ w'.heap[g3]? = some (.cells #[.int .i64 E] 45 (0, 0)))) (by kernel_rfl) ?_ (fun hHeld => ?_)
    · ((try dsimp only) <;> ((refine ⟨?_, ?_⟩ <;> (try simp only [heap_drew']) <;> (repeat (first | exact q2 | exact q3 | exact hHeld.1 | exact hHeld.2 | refine sameC ?_ | refine otherC n23 ?_ | refine otherC n32 ?_)))))
    refine wpAnyH_take (i := 0) (oi := ⟨_, _, _, _, _, _⟩) (v := ?_) rfl (by kernel_rfl) (by kernel_rfl) (by kernel_rfl) (fun _ _ _ h => h) (Or.inl ⟨by rfl, ?_⟩) (by assumption) ?_
    rotate_left
    · intro w hSw; (try dsimp only at hSw); go_simp; (try (with_reducible rfl)); done
    simp only [Act.put, List.setIfInBounds_toArray]; dsimp only [List.set_cons_zero, List.set_cons_succ]
    refine wpAnyH_take (i := 1) (oi := ⟨_, _, _, _, _, _⟩) (v := ?_) rfl (by kernel_rfl) (by kernel_rfl) (by kernel_rfl) (fun _ _ _ h => h) (Or.inl ⟨by rfl, ?_⟩) (by assumption) ?_
    rotate_left
    · intro w hSw; (try dsimp only at hSw); go_simp; (try (with_reducible rfl)); done
    simp only [Act.put, List.setIfInBounds_toArray]; dsimp only [List.set_cons_zero, List.set_cons_succ]
    refine wpAnyH_ready (rs := [2]) (by kernel_rfl) (by simp) ?_
    refine AllReadyH.cons (o := ⟨_, _, _, _, _, _⟩) rfl (fun K hK => ?_) AllReadyH.nil
    go_simp
    refine hK.out _ _ ?_ (fun hHeld => ?_)
    · ((try dsimp only) <;> ((refine ⟨?_, ?_⟩ <;> (try simp only [heap_drew']) <;> (repeat (first | exact q2 | exact q3 | exact hHeld.1 | exact hHeld.2 | refine sameC ?_ | refine otherC n23 ?_ | refine otherC n32 ?_)))))
    clear hK K
    try (simp only [Act.put, List.setIfInBounds_toArray]; dsimp only [List.set_cons_zero, List.set_cons_succ])
    refine wpAnyH_ready (rs := [3]) (by kernel_rfl) (by simp) ?_
    refine AllReadyH.cons (o := ⟨_, _, _, _, _, _⟩) rfl (fun K hK => ?_) AllReadyH.nil
    go_simp
    refine hK.out _ _ ?_ (fun hHeld => ?_)
    · ((try dsimp only) <;> ((refine ⟨?_, ?_⟩ <;> (try simp only [heap_drew']) <;> (repeat (first | exact q2 | exact q3 | exact hHeld.1 | exact hHeld.2 | refine sameC ?_ | refine otherC n23 ?_ | refine otherC n32 ?_)))))
    clear hK K
    try (simp only [Act.put, List.setIfInBounds_toArray]; dsimp only [List.set_cons_zero, List.set_cons_succ])
    refine wpAnyH_done (by kernel_rfl) ?_ _
    refine NoPanic.normal ?_
    all_goals
      have hD2 : D ≠ g2 := fun e => by subst e; rw [q2] at hK; cases hK
      have hD3 : D ≠ g3 := fun e => by subst e; rw [q3] at hK; cases hK
      obtain ⟨e2, e3⟩ := hHeld
      generalize hW9 : World.drew (World.setCell (World.setCell _ _ _) _ _) = W9 at *
      have hK' : W9.heap[D]? = some (.deferred (some [])) := by
        rw [← hW9]
        simp only [heap_drew']
        first
          | exact otherC hD3 (otherC hD2 hK)
          | exact otherC hD2 (otherC hD3 hK)
      have b9 : Below g2 W1 W9 := by
        rw [← hW9]
        first
          | exact ((hB.setCell (p := ⟨g2, 0, none⟩) (Nat.le_refl _) _).setCell (p := ⟨g3, 0, none⟩) HG.out.2.2 _).drew
          | exact ((hB.setCell (p := ⟨g3, 0, none⟩) HG.out.2.2 _).setCell (p := ⟨g2, 0, none⟩) (Nat.le_refl _) _).drew
      clear hW9
      have b10 := b9.trans (belowK_b (w := W1) HG.out.2.1 W9 D _ (.deferred none) hD hK' rfl rfl)
      replace e2 : (W9.putObj D (.deferred none)).heap[g2]? = some (.cells #[.int .u64 (V : Int)] 44 (0, 0)) := (World.putObj_heap_other (fun e => hD2 e.symm)).trans e2
      replace e3 : (W9.putObj D (.deferred none)).heap[g3]? = some (.cells #[.int .i64 E] 45 (0, 0)) := (World.putObj_heap_other (fun e => hD3 e.symm)).trans e3
      gi_wp2
      refine ⟨by simp, .inl ⟨_, _, rfl, run_takeDeferred hK', ?_⟩⟩
      refine ⟨by simp, .inr ⟨by simp [Fence.wide], .func 46, #[], 46, #[], rfl, by simp [go_sem], fun _ _ => trivial, ?_⟩⟩
      refine (recover_idle _ _).mono ?_
      rintro e u' w' ⟨⟨v, rfl⟩, rfl, hw⟩
      replace hw := hw.symm
      subst hw
      exact ⟨_, res_cell2 rfl _ _ g2 g3 _ _ rfl rfl (by rw [cell_at, e2, HVE.out.1]; rfl) (by rw [cell_at, e3, HVE.out.2]; rfl) Try.underlying44 Try.underlying45, rfl, f1.trans (Fr.of_below' b10) fun i hi hk => by have := HG.out; omega⟩
  case stop =>
    rintro D cc pre W hD ⟨rfl, ⟨q2, q3⟩, hB⟩ hK
    generalize hVV : toV 0 l = V at *
    generalize hEE : toE 0 l = E at *
    have HVE := Lib.hid (And.intro hVV hEE)
    clear hVV hEE
    gi_wp2
    refine wpIn_wide.2 ?_
    refine wp_region_noPanic ?_
    refine wp_region_held_drew (S := (fun w' => w'.heap[g2]? = some (.cells #[.int .u64 (V : Int)] 44 (0, 0)) ∧ w'.heap[g3]? = some (.cells #[.int .i64 E] 45 (0, 0)))) (by kernel_rfl) ?_ (fun hHeld => ?_)
    · ((try dsimp only) <;> ((refine ⟨?_, ?_⟩ <;> (try simp only [heap_drew']) <;> (repeat (first | exact q2 | exact q3 | exact hHeld.1 | exact hHeld.2 | refine sameC ?_ | refine otherC n23 ?_ | refine otherC n32 ?_)))))
    refine wpAnyH_take (i := 0) (oi := ⟨_, _, _, _, _, _⟩) (v := ?_) rfl (by kernel_rfl) (by kernel_rfl) (by kernel_rfl) (fun _ _ _ h => h) (Or.inl ⟨by rfl, ?_⟩) (by assumption) ?_
    rotate_left
    · intro w hSw; (try dsimp only at hSw); go_simp; (try (with_reducible rfl)); done
    simp only [Act.put, List.setIfInBounds_toArray]; dsimp only [List.set_cons_zero, List.set_cons_succ]
    refine wpAnyH_take (i := 1) (oi := ⟨_, _, _, _, _, _⟩) (v := ?_) rfl (by kernel_rfl) (by kernel_rfl) (by kernel_rfl) (fun _ _ _ h => h) (Or.inl ⟨by rfl, ?_⟩) (by assumption) ?_
    rotate_left
    · intro w hSw; (try dsimp only at hSw); go_simp; (try (with_reducible rfl)); done
    simp only [Act.put, List.setIfInBounds_toArray]; dsimp only [List.set_cons_zero, List.set_cons_succ]
    refine wpAnyH_ready (rs := [2]) (by kernel_rfl) (by simp) ?_
    refine AllReadyH.cons (o := ⟨_, _, _, _, _, _⟩) rfl (fun K hK => ?_) AllReadyH.nil
    go_simp
    refine hK.out _ _ ?_ (fun hHeld => ?_)
    · ((try dsimp only) <;> ((refine ⟨?_, ?_⟩ <;> (try simp only [heap_drew']) <;> (repeat (first | exact q2 | exact q3 | exact hHeld.1 | exact hHeld.2 | refine sameC ?_ | refine otherC n23 ?_ | refine otherC n32 ?_)))))
    clear hK K
    try (simp only [Act.put, List.setIfInBounds_toArray]; dsimp only [List.set_cons_zero, List.set_cons_succ])
    refine wpAnyH_ready (rs := [3]) (by kernel_rfl) (by simp) ?_
    refine AllReadyH.cons (o := ⟨_, _, _, _, _, _⟩) rfl (fun K hK => ?_) AllReadyH.nil
    go_simp
    refine hK.out _ _ ?_ (fun hHeld => ?_)
    · ((try dsimp only) <;> ((refine ⟨?_, ?_⟩ <;> (try simp only [heap_drew']) <;> (repeat (first | exact q2 | exact q3 | exact hHeld.1 | exact hHeld.2 | refine sameC ?_ | refine otherC n23 ?_ | refine otherC n32 ?_)))))
    clear hK K
    try (simp only [Act.put, List.setIfInBounds_toArray]; dsimp only [List.set_cons_zero, List.set_cons_succ])
    refine wpAnyH_done (by kernel_rfl) ?_ _
    refine NoPanic.normal ?_
    all_goals
      have hD2 : D ≠ g2 := fun e => by subst e; rw [q2] at hK; cases hK
      have hD3 : D ≠ g3 := fun e => by subst e; rw [q3] at hK; cases hK
      obtain ⟨e2, e3⟩ := hHeld
      generalize hW9 : World.drew (World.setCell (World.setCell _ _ _) _ _) = W9 at *
      have hK' : W9.heap[D]? = some (.deferred (some [])) := by
        rw [← hW9]
        simp only [heap_drew']
        first
          | exact otherC hD3 (otherC hD2 hK)
          | exact otherC hD2 (otherC hD3 hK)
      have b9 : Below g2 W1 W9 := by
        rw [← hW9]
        first
          | exact ((hB.setCell (p := ⟨g2, 0, none⟩) (Nat.le_refl _) _).setCell (p := ⟨g3, 0, none⟩) HG.out.2.2 _).drew
          | exact ((hB.setCell (p := ⟨g3, 0, none⟩) HG.out.2.2 _).setCell (p := ⟨g2, 0, none⟩) (Nat.le_refl _) _).drew
      clear hW9
      have b10 := b9.trans (belowK_b (w := W1) HG.out.2.1 W9 D _ (.deferred none) hD hK' rfl rfl)
      replace e2 : (W9.putObj D (.deferred none)).heap[g2]? = some (.cells #[.int .u64 (V : Int)] 44 (0, 0)) := (World.putObj_heap_other (fun e => hD2 e.symm)).trans e2
      replace e3 : (W9.putObj D (.deferred none)).heap[g3]? = some (.cells #[.int .i64 E] 45 (0, 0)) := (World.putObj_heap_other (fun e => hD3 e.symm)).trans e3
      gi_wp2
      refine ⟨by simp, .inl ⟨_, _, rfl, run_takeDeferred hK', ?_⟩⟩
      refine ⟨by simp, .inr ⟨by simp [Fence.wide], .func 46, #[], 46, #[], rfl, by simp [go_sem], fun _ _ => trivial, ?_⟩⟩
      refine (recover_idle _ _).mono ?_
      rintro e u' w' ⟨⟨v, rfl⟩, rfl, hw⟩
      replace hw := hw.symm
      subst hw
      exact ⟨_, res_cell2 rfl _ _ g2 g3 _ _ rfl rfl (by rw [cell_at, e2, HVE.out.1]; rfl) (by rw [cell_at, e3, HVE.out.2]; rfl) Try.underlying44 Try.underlying45, rfl, f1.trans (Fr.of_below' b10) fun i hi hk => by have := HG.out; omega⟩
end Go.Proofs.Ytmebilpmhflahaa
